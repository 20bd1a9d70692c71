import PyProof.Rows.All
import Wide.All
import OpenK.AllK
import Wide.FinOn
import Lean
import PyProof.EqAt
import PyProof.EqKinds
import PyProof.TupleCall
import PySem.Challenge.RW_twinless_k21_whole_forks
set_option Elab.async false
set_option linter.all false
set_option maxRecDepth 100000
/-! THE HAND LAYER, for ints, bools, texts, own classes, LISTS and tuples (index, slices, in, append, pop ..), calls, loops. Paste it whole ahead of your own text; what your proof does not reach may be deleted. -/
namespace L2
open PySem PySem.Spec PyProof.Rows

/-- a key: an int or a str -/
abbrev Key := Sum Int Str
def keyIs : Key → Value → Bool
  | .inl k, v => Value.isInt k v
  | .inr x, v => Value.isStrOf x v
def keyH (w : World) : Key → Int
  | .inl k => hashInt k
  | .inr x => hashStr w x
theorem keyIs_shape : ∀ {k : Key} {v : Value}, keyIs k v = true → (∃ i t, k = Sum.inl i ∧ v = Value.int i t) ∨ (∃ x t, k = Sum.inr x ∧ v = Value.str x t)
  | .inl i, v, h => by
    obtain ⟨t, e⟩ := Value.isInt_shape (k := i) (v := v) h
    exact .inl ⟨i, t, rfl, e⟩
  | .inr x, v, h => by
    obtain ⟨t, e⟩ := Value.isStrOf_shape (x := x) (v := v) h
    exact .inr ⟨x, t, rfl, e⟩
theorem keyIs_int (i : Int) (t : Tok) : keyIs (.inl i) (.int i t) = true := by simp [keyIs, Value.isInt]
theorem keyIs_str (x : Str) (t : Tok) : keyIs (.inr x) (.str x t) = true := by simp [keyIs, Value.isStrOf]
theorem key_ll (a b : Int) : decide ((Sum.inl a : Key) = Sum.inl b) = (a == b) := by
  by_cases e : a = b
  · subst e; simp
  · have h : ¬ (Sum.inl a : Key) = Sum.inl b := fun q => e (Sum.inl.inj q)
    rw [decide_eq_false h]
    exact (beq_eq_false_iff_ne.mpr e).symm
theorem key_rr (a b : Str) : decide ((Sum.inr a : Key) = Sum.inr b) = decide (a = b) := by
  by_cases e : a = b
  · subst e; simp
  · have h : ¬ (Sum.inr a : Key) = Sum.inr b := fun q => e (Sum.inr.inj q)
    rw [decide_eq_false h, decide_eq_false e]
theorem key_lr (a : Int) (b : Str) : decide ((Sum.inl a : Key) = Sum.inr b) = false := decide_eq_false (fun q => nomatch q)
theorem key_rl (a : Str) (b : Int) : decide ((Sum.inr a : Key) = Sum.inl b) = false := decide_eq_false (fun q => nomatch q)

def mixKind (prog : Program) (w : World) : PySem.KeyKind prog w Key where
  is := keyIs
  hash := keyH w
  inj := fun v a b ha hb => by
    rcases keyIs_shape ha with ⟨i, t, rfl, rfl⟩ | ⟨x, t, rfl, rfl⟩
    · rcases keyIs_shape hb with ⟨j, u, rfl, e⟩ | ⟨y, u, rfl, e⟩
      · injection e with e1 _; rw [e1]
      · exact nomatch e
    · rcases keyIs_shape hb with ⟨j, u, rfl, e⟩ | ⟨y, u, rfl, e⟩
      · exact nomatch e
      · injection e with e1 _; rw [e1]
  byValue := fun k v h => by
    rcases keyIs_shape h with ⟨i, t, rfl, rfl⟩ | ⟨x, t, rfl, rfl⟩ <;> rfl
  pyHash := fun hv h => by
    rcases keyIs_shape hv with ⟨i, t, rfl, rfl⟩ | ⟨x, t, rfl, rfl⟩
    · exact wpAny_pyHash_int h
    · exact wpAny_pyHash_str h
  eqBool := fun hu hv h => by
    rcases keyIs_shape hu with ⟨i, t, rfl, rfl⟩ | ⟨x, t, rfl, rfl⟩
    · rcases keyIs_shape hv with ⟨j, u, rfl, rfl⟩ | ⟨y, u, rfl, rfl⟩
      · rw [key_ll] at h; exact wpAny_eqBool_int h
      · rw [key_lr] at h; exact SeqAt.EqAt.int_str i t y u _ _ _ _ h
    · rcases keyIs_shape hv with ⟨j, u, rfl, rfl⟩ | ⟨y, u, rfl, rfl⟩
      · rw [key_rl] at h; exact SeqAt.EqAt.str_int x t j u _ _ _ _ h
      · rw [key_rr] at h; exact wpAny_eqBool_str h
  «strs» := fun k x t v h => by
    rcases keyIs_shape h with ⟨i, u, rfl, e⟩ | ⟨y, u, rfl, e⟩
    · exact nomatch e
    · injection e with e1 _
      subst e1
      cases v <;> rfl

theorem mixKind_is (prog : Program) (w : World) (k : Key) (v : Value) : (mixKind prog w).is k v = keyIs k v := rfl
theorem mixKind_int (prog : Program) (w : World) (i : Int) (t : Tok) : (mixKind prog w).is (.inl i) (.int i t) = true := keyIs_int i t
theorem mixKind_str (prog : Program) (w : World) (x : Str) (t : Tok) : (mixKind prog w).is (.inr x) (.str x t) = true := keyIs_str x t
end L2

namespace L2
open PySem PySem.Spec PyProof.Rows

/-- a value, without the heap -/
inductive V where
  | non | bl (b : Bool) | int (i : Int) | str (x : Str) | byt (b : Array UInt8) | flt (b : UInt64) | ref (a : Addr) | ty (n : String)
  deriving DecidableEq

def RelV : V → Value → Prop
  | .non, u => u = Value.none
  | .bl b, u => u = Value.bool b
  | .int i, u => ∃ t, u = Value.int i t
  | .str x, u => ∃ t, u = Value.str x t
  | .byt b, u => ∃ t, u = Value.bytes b t
  | .flt b, u => ∃ t, u = Value.float b t
  | .ref a, u => u = Value.ref a
  | .ty n, u => u = Value.type n

abbrev Vals : List V → List Value → Prop := Paired RelV
theorem Vals.length {xs : List V} {us : List Value} (r : Vals xs us) : xs.length = us.length := Paired.length r
theorem Vals.get : ∀ {xs : List V} {us : List Value} {i : Nat} {x : V}, Vals xs us → xs[i]? = some x → ∃ u, us[i]? = some u ∧ RelV x u
  | _, _, _, _, .nil, e => by simp at e
  | _, _, 0, _, .cons r _, e => by simp at e; subst e; exact ⟨_, rfl, r⟩
  | _, _, i + 1, x, .cons _ t, e => by
    obtain ⟨u, h1, h2⟩ := Vals.get (i := i) (x := x) t (by simpa using e)
    exact ⟨u, by simpa using h1, h2⟩
theorem Vals.set {x : V} {u : Value} (r : RelV x u) : ∀ {xs : List V} {us : List Value} (i : Nat), Vals xs us → Vals (xs.set i x) (us.set i u)
  | _, _, _, .nil => .nil
  | _, _, 0, .cons _ t => .cons r t
  | _, _, i + 1, .cons q t => .cons q (Vals.set r i t)
theorem Vals.append : ∀ {xs ys : List V} {us ws : List Value}, Vals xs us → Vals ys ws → Vals (xs ++ ys) (us ++ ws)
  | _, _, _, _, .nil, s => s
  | _, _, _, _, .cons r t, s => .cons r (Vals.append t s)
theorem Vals.take : ∀ {xs : List V} {us : List Value} (n : Nat), Vals xs us → Vals (xs.take n) (us.take n)
  | _, _, 0, _ => .nil
  | _, _, _ + 1, .nil => .nil
  | _, _, n + 1, .cons r t => .cons r (Vals.take n t)
theorem Vals.drop : ∀ {xs : List V} {us : List Value} (n : Nat), Vals xs us → Vals (xs.drop n) (us.drop n)
  | _, _, 0, r => r
  | _, _, _ + 1, .nil => .nil
  | _, _, n + 1, .cons _ t => Vals.drop n t
theorem Vals.none_of : ∀ {xs : List V} {us : List Value} {i : Nat}, Vals xs us → xs[i]? = none → us[i]? = none := fun {xs us i} r e => by
  have h1 := r.length
  have h2 : xs.length ≤ i := List.getElem?_eq_none_iff.mp e
  exact List.getElem?_eq_none_iff.mpr (by omega)

def RelO : Option V → Option Value → Prop
  | some v, some u => RelV v u
  | none, none => True
  | _, _ => False
def KV {κ : Type} : List (κ × V) → List (κ × Value) → Prop := Paired fun (p : κ × V) (q : κ × Value) => p.1 = q.1 ∧ RelV p.2 q.2

/-- a key of a dict (00_mix): an int or a text -/
def kV : Key → V
  | .inl i => .int i
  | .inr x => .str x

/-- what stands at a tracked address -/
inductive HO where
  /-- a list -/
  | lst (xs : List V)
  /-- a tuple (never changes) -/
  | tup (xs : List V)
  /-- a dict whose keys are ints and texts; one whose keys are tuples of ints and texts (the empty one is both) -/
  | dK (kvs : List (Key × V)) | dT (kvs : List (List Key × V))
  /-- a set of ints: its members, its size -/
  | set (S : Int → Bool) (n : Nat)
  /-- an instance of the class at C, its dict at dx, its attributes -/
  | ins (C dx : Addr) (fs : List (Str × V))
  /-- the dict of the instance at x -/
  | own (x : Addr)
  /-- the dict of an exception -/
  | xd (fs : List (Str × V))
  /-- a bound method, f of x -/
  | met (f x : Addr)
  /-- a range object lo, lo + 1, .. below hi -/
  | rng (lo hi : Int)
  /-- a thing that is known to the object (the script; a dict while a loop walks it): read, never written while it is so -/
  | frz (o : Obj) (u : HO)
  /-- a code object's table -/
  | tbl (ps : Array Value)
  /-- any other thing, by what is true of its one object (a def of one's own: SetO a S n := HO.ext fun h => ..) -/
  | ext (φ : Heap → Prop)

abbrev Hp := Addr → Option HO
def upd (H : Hp) (a : Addr) (o : HO) : Hp := fun b => if b = a then some o else H b
theorem upd_same {H : Hp} {a : Addr} {o : HO} : upd H a o a = some o := by unfold upd; rw [if_pos rfl]
theorem upd_ne {H : Hp} {a b : Addr} {o : HO} (h : b ≠ a) : upd H a o b = H b := by unfold upd; rw [if_neg h]
theorem upd_upd {H : Hp} {a : Addr} {o u : HO} : upd (upd H a o) a u = upd H a u := by
  funext b; unfold upd; split <;> rfl
/-- two objects of different content stand apart -/
theorem ne_of {H : Hp} {a b : Addr} {o u : HO} (h : H a = some o) (h' : H b = some u) (d : o ≠ u) : a ≠ b := by
  intro e; subst e; rw [h] at h'; exact d (Option.some.inj h')
theorem ne_of_none {H : Hp} {a b : Addr} {o : HO} (h : H a = some o) (h' : H b = none) : a ≠ b := by
  intro e; subst e; rw [h] at h'; cases h'

section
variable (P : Program) (w : World)
def ObjOk (H : Hp) (h : Heap) (a : Addr) : HO → Prop
  | .lst xs => xs.length ≤ sizeLine ∧ ∃ (its : List Value) (n : Nat), Vals xs its ∧ h.get? a = some { cls := .type "list", data := .seq its.toArray n }
  | .tup xs => xs.length ≤ sizeLine ∧ ∃ its : List Value, Vals xs its ∧ IsTup h a its.toArray
  | .dK kvs => kvs.length ≤ sizeLine ∧ (a == sysModules) = false ∧ ∃ vs, KV kvs vs ∧ h.DictOf (mixKind P w) a vs
  | .dT kvs => kvs.length ≤ sizeLine ∧ (a == sysModules) = false ∧ ∃ xs : List (List Key × Addr × Value),
      Paired (fun (p : List Key × V) (q : List Key × Addr × Value) => p.1 = q.1 ∧ H q.2.1 = some (.tup (p.1.map kV)) ∧ RelV p.2 q.2.2) kvs xs ∧
      ∃ o es ep, h.get? a = some o ∧ o.ExactDict ∧ o.data = .dict es ep ∧ es.toList = xs.map (entryOfKey (tupleKind (mixKind P w))) ∧ (xs.map (·.1)).Nodup
  | .set S n => h.SetOf (intKind P w) a S n
  | .ins C dx fs => H dx = some (.own a) ∧ fs.length ≤ 1000 ∧ dx ≠ a ∧ h.get? a = some (PySem.W.instObj C dx) ∧
      ∃ mA, h.Ns1 dx mA ∧ (∀ f, RelO (fs.lookup f) (mA f)) ∧ PySem.Within mA (fs.map (·.1))
  | .own _ => ∃ o, h.get? a = some o
  | .xd fs => ∃ mA, h.Ns1 a mA ∧ ∀ f, RelO (fs.lookup f) (mA f)
  | .rng lo hi => ∃ t u v, h.get? a = some { cls := .type "range", data := .fields #[.int lo t, .int hi u, .int 1 v] }
  | .frz o u => h.get? a = some o ∧ ObjOk H h a u
  | .tbl ps => h.get? a = some { cls := .none, data := .fields ps }
  | .met f x => h.get? a = some (PySem.W.methodObj (.ref f) (.ref x))
  | .ext φ => φ h ∧ (∃ o, h.get? a = some o) ∧ ∀ h1 h2 : Heap, φ h1 → (∀ o, h1.get? a = some o → h2.get? a = some o) → φ h2
/-- the abstract heap is held -/
def HOk (H : Hp) (h : Heap) : Prop := ∀ a o, H a = some o → ObjOk P w H h a o
end

section
variable {P : Program} {w : World} {H H' : Hp} {h h' : Heap} {a : Addr} {o : HO}
theorem ObjOk.lt (x : ObjOk P w H h a o) : a < h.objs.size := by
  cases o with
  | lst xs => obtain ⟨_, _, _, _, e⟩ := x; exact Heap.lt_size e
  | tup xs => obtain ⟨_, _, _, p⟩ := x; exact p.lt
  | dK kvs => obtain ⟨_, _, _, _, o, _, _, e, _⟩ := x; exact Heap.lt_size e
  | dT kvs => obtain ⟨_, _, _, _, o, _, _, e, _⟩ := x; exact Heap.lt_size e
  | set S n => obtain ⟨o, _, _, _, e, _⟩ := x; exact Heap.lt_size e
  | ins C dx fs => obtain ⟨_, _, _, e, _⟩ := x; exact Heap.lt_size e
  | own y => obtain ⟨_, e⟩ := x; exact Heap.lt_size e
  | xd fs => obtain ⟨_, ⟨_, _, _, e, _⟩, _⟩ := x; exact Heap.lt_size e
  | rng lo hi => obtain ⟨_, _, _, e⟩ := x; exact Heap.lt_size e
  | frz ob u => obtain ⟨e, _⟩ := x; exact Heap.lt_size e
  | tbl ps => exact Heap.lt_size (show h.get? a = some _ from x)
  | met f y => exact Heap.lt_size (show h.get? a = some _ from x)
  | ext φ => obtain ⟨_, ⟨_, e⟩, _⟩ := x; exact Heap.lt_size e
theorem Paired.mapP {α β : Type} {F G : α → β → Prop} : ∀ {l₁ : List α} {l₂ : List β}, Paired F l₁ l₂ → (∀ a b, F a b → G a b) → Paired G l₁ l₂
  | _, _, .nil, _ => .nil
  | _, _, .cons r t, f => .cons (f _ _ r) (Paired.mapP t f)
theorem Paired.imp' {α β : Type} {F G : α → β → Prop} (f : ∀ a b, F a b → G a b) {l₁ : List α} {l₂ : List β} (r : Paired F l₁ l₂) : Paired G l₁ l₂ := Paired.mapP r f
/-- what an object's description leans on: its own object, its own dict, the tuples -/
theorem ObjOk.stay (x : ObjOk P w H h a o) (k : ∀ b u, (b = a ∨ H b = some (.own a)) → h.get? b = some u → h'.get? b = some u)
    (ho : ∀ b, H b = some (.own a) → H' b = some (.own a)) (ht : ∀ b xs, H b = some (.tup xs) → H' b = some (.tup xs)) : ObjOk P w H' h' a o := by
  induction o with
  | lst xs => obtain ⟨z, its, n, r, e⟩ := x; exact ⟨z, its, n, r, k _ _ (.inl rfl) e⟩
  | tup xs => obtain ⟨z, its, r, ob, e, c⟩ := x; exact ⟨z, its, r, ob, k _ _ (.inl rfl) e, c⟩
  | dK kvs => obtain ⟨z, y, vs, r, ob, es, ep, e, c⟩ := x; exact ⟨z, y, vs, r, ob, es, ep, k _ _ (.inl rfl) e, c⟩
  | dT kvs =>
    obtain ⟨z, y, xs, r, ob, es, ep, e, c⟩ := x
    exact ⟨z, y, xs, Paired.mapP r fun p q z => ⟨z.1, ht _ _ z.2.1, z.2.2⟩, ob, es, ep, k _ _ (.inl rfl) e, c⟩
  | set S n => obtain ⟨ob, es, ep, t, e, c⟩ := x; exact ⟨ob, es, ep, t, k _ _ (.inl rfl) e, c⟩
  | ins C dx fs =>
    obtain ⟨d, z, ne, e, mA, ⟨od, es, ep, e2, c⟩, r⟩ := x
    exact ⟨ho _ d, z, ne, k _ _ (.inl rfl) e, mA, ⟨od, es, ep, k _ _ (.inr d) e2, c⟩, r⟩
  | own y => obtain ⟨ob, e⟩ := x; exact ⟨ob, k _ _ (.inl rfl) e⟩
  | xd fs => obtain ⟨mA, ⟨od, es, ep, e, c⟩, r⟩ := x; exact ⟨mA, ⟨od, es, ep, k _ _ (.inl rfl) e, c⟩, r⟩
  | rng lo hi => obtain ⟨t, u, v, e⟩ := x; exact ⟨t, u, v, k _ _ (.inl rfl) e⟩
  | frz ob u ih => obtain ⟨e, q⟩ := x; exact ⟨k _ _ (.inl rfl) e, ih q⟩
  | tbl ps =>
    have e : h.get? a = some { cls := .none, data := .fields ps } := x
    show h'.get? a = some { cls := .none, data := .fields ps }
    exact k a _ (.inl rfl) e
  | met f y =>
    have e : h.get? a = some (PySem.W.methodObj (.ref f) (.ref y)) := x
    show h'.get? a = some (PySem.W.methodObj (.ref f) (.ref y))
    exact k a _ (.inl rfl) e
  | ext φ => obtain ⟨p, ⟨o, e⟩, st⟩ := x; exact ⟨st _ _ p fun o q => k _ _ (.inl rfl) q, ⟨o, k _ _ (.inl rfl) e⟩, st⟩
theorem HOk.lt (x : HOk P w H h) (e : H a = some o) : a < h.objs.size := (x a o e).lt
theorem HOk.fresh (x : HOk P w H h) (e : h.objs.size ≤ a) : H a = none := by
  cases q : H a with
  | none => rfl
  | some u => exact absurd (Nat.lt_of_lt_of_le (x.lt q) e) (Nat.lt_irrefl _)
/-- every object of the heap is kept -/
theorem HOk.kept (x : HOk P w H h) (k : ∀ b u, h.get? b = some u → h'.get? b = some u) : HOk P w H h' := fun a o e =>
  (x a o e).stay (fun b u _ q => k b u q) (fun _ q => q) fun _ _ q => q
/-- a new object is laid and tracked -/
theorem HOk.laid (x : HOk P w H h) (k : ∀ b u, h.get? b = some u → h'.get? b = some u) (hp : h.objs.size ≤ a) (new : ObjOk P w (upd H a o) h' a o) : HOk P w (upd H a o) h' := fun b u e => by
  have hn := x.fresh hp
  by_cases hb : b = a
  · subst hb; rw [upd_same] at e; cases e; exact new
  · rw [upd_ne hb] at e
    exact (x b u e).stay (fun c v _ q => k c v q) (fun c q => by rw [upd_ne (ne_of_none q hn)]; exact q) fun c xs q => by rw [upd_ne (ne_of_none q hn)]; exact q
end

/-- what may be read as u: it is u, or a known u -/
def Rd (H : Hp) (a : Addr) (u : HO) : Prop := H a = some u ∨ ∃ o, H a = some (.frz o u)
theorem Rd.of {H : Hp} {a : Addr} {u : HO} (h : H a = some u) : Rd H a u := .inl h
theorem Rd.ok {P : Program} {w : World} {H : Hp} {h : Heap} {a : Addr} {u : HO} (r : Rd H a u) (x : HOk P w H h) : ObjOk P w H h a u := by
  rcases r with r | ⟨o, r⟩
  · exact x a u r
  · obtain ⟨_, q⟩ := x a _ r
    exact q
/-- what may be written -/
def Mut : Option HO → Prop
  | some (.lst _) => True
  | some (.dK _) => True
  | some (.dT _) => True
  | some (.set _ _) => True
  | some (.ins _ _ _) => True
  | some (.ext _) => True
  | _ => False
section
variable {P : Program} {w : World} {H : Hp} {h h' : Heap} {x e : Addr} {o' : HO}
/-- the object at e is changed: x itself, or the dict of the instance x -/
theorem HOk.write (ok : HOk P w H h) (mu : Mut (H x)) (he : e = x ∨ H e = some (.own x)) (k : ∀ b u, b ≠ e → h.get? b = some u → h'.get? b = some u) (heo : ∃ u, h'.get? e = some u)
    (new : ObjOk P w (upd H x o') h' x o') : HOk P w (upd H x o') h' := fun b u q => by
  have nown : ∀ c y, H c = some (.own y) → c ≠ x := fun c y r z => by subst z; rw [r] at mu; exact mu
  have ntup : ∀ c xs, H c = some (.tup xs) → c ≠ x := fun c xs r z => by subst z; rw [r] at mu; exact mu
  by_cases hb : b = x
  · subst hb; rw [upd_same] at q; cases q; exact new
  · rw [upd_ne hb] at q
    by_cases hbe : b = e
    · have q' : H b = some (.own x) := by
        rcases he with z | z
        · exact absurd (hbe.trans z) hb
        · rw [hbe]; exact z
      rw [q] at q'; cases q'
      obtain ⟨v, hv⟩ := heo
      exact ⟨v, by rw [hbe]; exact hv⟩
    · refine (ok b u q).stay (fun c v hc r => k c v ?_ r) (fun c r => by rw [upd_ne (nown c b r)]; exact r) fun c xs r => by rw [upd_ne (ntup c xs r)]; exact r
      rcases hc with rfl | hc
      · exact hbe
      · rintro rfl
        rcases he with z | z
        · exact nown c b hc z
        · rw [hc] at z; cases z; exact hb rfl
end

/-! ### kept unless tracked; of the frames at fs (the callers') the slots may change (an exception that passes writes there); of the records at ex (iterators) nothing is said -/
structure Un (fs ex : List Addr) (H H' : Hp) (h h' : Heap) : Prop where
  keep : ∀ b o, h.get? b = some o → H b = none → b ∉ fs → b ∉ ex → h'.get? b = some o
  slot : ∀ b o, h.get? b = some o → H b = none → b ∈ fs → b ∉ ex → ∃ sl, h'.get? b = some { o with slots := sl }
  free : ∀ b o, h.get? b = some o → H b = none → b ∉ ex → H' b = none
  there : ∀ b o, h.get? b = some o → b ∉ ex → ∃ o', h'.get? b = some o'
  tups : ∀ b xs, H b = some (.tup xs) → H' b = some (.tup xs)
  frzs : ∀ b o u, H b = some (.frz o u) → H' b = some (.frz o u)
  tbls : ∀ b ps, H b = some (.tbl ps) → ∃ more, H' b = some (.tbl (ps ++ more))
section
variable {fs fs' ex ex' : List Addr} {H H1 H2 : Hp} {h h1 h2 h' : Heap} {a x e : Addr} {o : HO}
theorem Un.any (u : Un fs ex H H1 h h1) {b : Addr} {ob : Obj} (q : h.get? b = some ob) (n : H b = none) (hx : b ∉ ex) : ∃ sl, h1.get? b = some { ob with slots := sl } := by
  by_cases hb : b ∈ fs
  · exact u.slot b ob q n hb hx
  · exact ⟨ob.slots, u.keep b ob q n hb hx⟩
theorem Un.trans (a : Un fs ex H H1 h h1) (b : Un fs ex H1 H2 h1 h2) : Un fs ex H H2 h h2 where
  keep := fun c ob q n hc hx => b.keep c ob (a.keep c ob q n hc hx) (a.free c ob q n hx) hc hx
  slot := fun c ob q n hc hx => by
    obtain ⟨sl, e1⟩ := a.slot c ob q n hc hx
    obtain ⟨sl', e2⟩ := b.slot c _ e1 (a.free c ob q n hx) hc hx
    exact ⟨sl', e2⟩
  free := fun c ob q n hx => by
    obtain ⟨o', e1⟩ := a.there c ob q hx
    exact b.free c o' e1 (a.free c ob q n hx) hx
  there := fun c ob q hx => by
    obtain ⟨o', e1⟩ := a.there c ob q hx
    exact b.there c o' e1 hx
  tups := fun c xs q => b.tups c xs (a.tups c xs q)
  frzs := fun c ob xs q => b.frzs c ob xs (a.frzs c ob xs q)
  tbls := fun c ps q => by
    obtain ⟨m1, e1⟩ := a.tbls c ps q
    obtain ⟨m2, e2⟩ := b.tbls c _ e1
    exact ⟨m1 ++ m2, by rw [e2, Array.append_assoc]⟩
theorem Un.kept (k : ∀ b u, h.get? b = some u → h'.get? b = some u) : Un fs ex H H h h' :=
  ⟨fun b ob q _ _ _ => k b ob q, fun b ob q _ _ _ => ⟨ob.slots, k b ob q⟩, fun _ _ _ n _ => n, fun b ob q _ => ⟨ob, k b ob q⟩, fun _ _ q => q, fun _ _ _ q => q, fun _ ps q => ⟨#[], by rw [q]; simp⟩⟩
theorem Un.refl : Un fs ex H H h h := Un.kept fun _ _ q => q
theorem Un.laid (k : ∀ b u, h.get? b = some u → h'.get? b = some u) (hp : h.objs.size ≤ a) (hn : H a = none) : Un fs ex H (upd H a o) h h' where
  keep := fun b u q _ _ _ => k b u q
  slot := fun b u q _ _ _ => ⟨u.slots, k b u q⟩
  free := fun b u q n _ => by rw [upd_ne (Nat.ne_of_lt (Nat.lt_of_lt_of_le (Heap.lt_size q) hp))]; exact n
  there := fun b u q _ => ⟨u, k b u q⟩
  tups := fun b xs q => by rw [upd_ne (ne_of_none q hn)]; exact q
  frzs := fun b u xs q => by rw [upd_ne (ne_of_none q hn)]; exact q
  tbls := fun b ps q => ⟨#[], by rw [upd_ne (ne_of_none q hn), q]; simp⟩
theorem Un.write (mu : Mut (H x)) (he : e = x ∨ H e = some (.own x)) (k : ∀ b u, b ≠ e → h.get? b = some u → h'.get? b = some u) (heo : ∃ u, h'.get? e = some u) : Un fs ex H (upd H x o) h h' := by
  have hx : ∀ b, H b = none → b ≠ x := fun b n z => by subst z; rw [n] at mu; exact mu
  have hb : ∀ b, H b = none → b ≠ e := fun b n z => by
    subst z
    rcases he with r | r
    · exact hx b n r
    · rw [n] at r; cases r
  have hm : ∀ b u, H b = some u → ¬ Mut (some u) → b ≠ x := fun b u q nm z => by subst z; rw [q] at mu; exact nm mu
  refine ⟨fun b u q n _ _ => k b u (hb b n) q, fun b u q n _ _ => ⟨u.slots, k b u (hb b n) q⟩, fun b u q n _ => by rw [upd_ne (hx b n)]; exact n, fun b u q _ => ?_,
    fun b xs q => by rw [upd_ne (hm b _ q fun z => z)]; exact q, fun b u xs q => by rw [upd_ne (hm b _ q fun z => z)]; exact q, fun b ps q => ⟨#[], by rw [upd_ne (hm b _ q fun z => z), q]; simp⟩⟩
  by_cases hbe : b = e
  · subst hbe; exact heo
  · exact ⟨u, k b u hbe q⟩
theorem Un.mono (u : Un fs ex H H1 h h1) (hs : ∀ b ∈ fs, b ∈ fs') (hx : ∀ b ∈ ex, b ∈ ex') : Un fs' ex' H H1 h h1 :=
  ⟨fun b ob q n hb he => u.keep b ob q n (fun z => hb (hs b z)) fun z => he (hx b z), fun _ _ q n _ he => u.any q n fun z => he (hx _ z), fun b ob q n he => u.free b ob q n fun z => he (hx b z), fun b ob q he => u.there b ob q fun z => he (hx b z), u.tups, u.frzs, u.tbls⟩
end

/-! ### the heap without what is tracked -/
def trk (h : Heap) (H : Hp) : List Addr := (List.range h.objs.size).filter fun a => (H a).isSome
def hidT (h : Heap) (H : Hp) : Heap := PySem.W.hideAll h (trk h H)
theorem hidT_size (h : Heap) (H : Hp) : (hidT h H).objs.size = h.objs.size := PySem.W.hideAll_size _ _
theorem hidT_get {h : Heap} {H : Hp} {b : Addr} {o : Obj} (e : h.get? b = some o) (n : H b = none) : (hidT h H).get? b = some o :=
  PySem.W.hideAll_get _ e fun hm => by
    have q : (H b).isSome = true := (List.mem_filter.mp hm).2
    rw [n] at q; simp at q
theorem of_hidT {h : Heap} {H : Hp} {b : Addr} {o : Obj} (e : (hidT h H).get? b = some o) : h.get? b = some o ∧ H b = none := by
  have e' : h.get? b = some o := PySem.W.of_hideAll (trk h H) e
  refine ⟨e', ?_⟩
  cases q : H b with
  | none => rfl
  | some x =>
    have hm : b ∈ trk h H := List.mem_filter.mpr ⟨List.mem_range.mpr (Heap.lt_size e'), by simp [q]⟩
    have z : (hidT h H).get? b = none := PySem.W.hideAll_none (trk h H) hm
    rw [z] at e; cases e

/-! ### OpenK's ledger, filled with every new object but one -/
def allNews (g h : Heap) (L : Addr) : List (Addr × Obj) := (List.range h.objs.size).filterMap fun a => if a = L ∨ (g.get? a).isSome = true then none else (h.get? a).map fun o => (a, o)
theorem mem_allNews {g h : Heap} {L a : Addr} {o : Obj} (h1 : a ≠ L) (h2 : g.get? a = none) (h3 : h.get? a = some o) : (a, o) ∈ allNews g h L :=
  List.mem_filterMap.mpr ⟨a, List.mem_range.mpr (Heap.lt_size h3), by simp [h1, h2, h3]⟩
theorem of_mem_allNews {g h : Heap} {L : Addr} {p : Addr × Obj} (hp : p ∈ allNews g h L) : p.1 ≠ L ∧ g.get? p.1 = none ∧ h.get? p.1 = some p.2 := by
  obtain ⟨b, _, e⟩ := List.mem_filterMap.mp hp
  split at e
  · cases e
  · rename_i hn
    cases q : h.get? b with
    | none => rw [q] at e; simp at e
    | some u =>
      rw [q] at e
      simp only [Option.map_some, Option.some.injEq] at e
      subst e
      refine ⟨fun z => hn (.inl z), ?_, q⟩
      show g.get? b = none
      cases r : g.get? b with
      | none => rfl
      | some v => exact (hn (.inr (by simp [r]))).elim
def rest (g h : Heap) (L d : Addr) : List (Addr × Obj) := (allNews g h L).filter fun p => decide (p.1 ≠ d)
theorem rest_ne {g h : Heap} {L d : Addr} : ∀ p ∈ rest g h L d, p.1 ≠ d := fun p hp => of_decide_eq_true (List.mem_filter.mp hp).2
theorem mem_rest {g h : Heap} {L d a : Addr} {o : Obj} (h1 : a ≠ L) (h2 : g.get? a = none) (h3 : h.get? a = some o) (h4 : a ≠ d) : (a, o) ∈ rest g h L d :=
  List.mem_filter.mpr ⟨mem_allNews h1 h2 h3, decide_eq_true h4⟩
theorem news_all {g h : Heap} {L : Addr} : News g L h (allNews g h L) := fun p hp => let ⟨a, b, c⟩ := of_mem_allNews hp; ⟨c, a, b⟩
theorem news_at {g h : Heap} {L d : Addr} {o : Obj} (h1 : d ≠ L) (h2 : g.get? d = none) (h3 : h.get? d = some o) : News g L h ((d, o) :: rest g h L d) := fun p hp => by
  rcases List.mem_cons.mp hp with rfl | hp
  · exact ⟨h3, h1, h2⟩
  · exact news_all p (List.mem_filter.mp hp).1
/-- behind a rule that changed d alone: all else but the frame is kept -/
theorem kept_of_news {g h h' : Heap} {L d : Addr} {m : Str → Option Value} (k : ∀ b o, g.get? b = some o → h.get? b = some o) (F : Fr g L h' m) (N : News g L h' (rest g h L d)) :
    ∀ b o, b ≠ L → b ≠ d → h.get? b = some o → h'.get? b = some o := fun b o h1 h2 e => by
  cases q : g.get? b with
  | some u =>
    have := k b u q
    rw [e] at this; cases this
    exact F.keep b _ q
  | none => exact (N (b, o) (mem_rest h1 q e h2)).1
end L2

namespace L2
open PySem PySem.Spec PyProof.Rows

/-- the module's facts, over the base: the heap at the law's entry without what is tracked there -/
structure Mod (K : PySem.W.Frag) (mg : Str → Option Value) (base : Heap) : Prop where
  kin : K.In base
  glob : base.Ns mainGlobals mg
  blt : ∃ mb, base.Ns builtinsNs mb ∧ ∀ x : Str, x ≠ "__name__" → mb x = bootBuiltins x
  nolimit : base.NoLimit

/-- the context: a def's body (or a comprehension's block) running. base: fixed through the whole law; s₀, H₀: the entry; outer: the frames whose slots others may change (a def's callers); stack: all frames that run;
   ex: iterators that were made ahead of the entry and are walked here (a comprehension's); fn: the names whose cells were made at the entry (a def: all; a comprehension's block: its own); calm: not within an except suite; pn: pins that every state bears; xe: what is wanted of an exception that leaves the code -/
structure Cx where
  prog : Program
  w : World
  K : PySem.W.Frag
  mg : Str → Option Value
  base : Heap
  A : Around
  N : List Str
  s₀ : Shared
  H₀ : Hp
  env : Env
  outer : List Env
  stack : List Env
  ex : List Addr
  fn : Str → Bool
  calm : Bool
  pn : List (Addr × Obj)
  xe : Value → Shared → Prop
/-- the callers' frames -/
def frs (l : List Env) : List Addr := l.filterMap (·.frame)
abbrev Cx.fs (X : Cx) : List Addr := frs X.outer

def Vis (sc : Scope) (x : Str) : Prop := sc.names.lookup x = some .local ∨ sc.names.lookup x = some .cell ∨ sc.names.lookup x = some .free
def Loc (sc : Scope) (x : Str) : Prop := sc.names.lookup x = some .local ∨ sc.names.lookup x = some .cell
def Look (env : Env) (h : Heap) (m : Str → Option Value) (x : Str) (u : Value) : Prop :=
  (env.kindOf x = some .local ∧ m x = some u) ∨ ((env.kindOf x = some .cell ∨ env.kindOf x = some .free) ∧ ∃ c, env.cells.lookup x = some c ∧ h.IsCell c (some u))

structure Cx.Ok (X : Cx) : Prop where
  mod : Mod X.K X.mg X.base
  kind : X.env.scope.kind = .function
  glob : X.env.globals = mainGlobals
  blt : X.env.builtins = builtinsNs
  above : X.s₀.heap.objs.size ≤ X.env.locals
  inj : ∀ x y c, X.env.cells.lookup x = some c → X.env.cells.lookup y = some c → x = y
  has : ∀ x, (X.env.kindOf x = some .cell ∨ X.env.kindOf x = some .free) → ∃ c, X.env.cells.lookup x = some c
  cab : ∀ x c, X.fn x = true → X.env.cells.lookup x = some c → X.s₀.heap.objs.size ≤ c
  hd : X.calm = true → X.A.handled = none
  frames : X.A.frames = some X.stack
  stk : X.stack = X.outer ∨ (X.stack = X.env :: X.outer ∧ X.env.frame = some X.env.locals)
  exf : ∀ b ∈ X.ex, b ≠ X.env.locals ∧ ∀ x c, X.env.cells.lookup x = some c → c ≠ b
  bs : ∀ b o, X.base.get? b = some o → X.s₀.heap.get? b = some o ∧ X.H₀ b = none
  bsz : X.base.objs.size ≤ X.s₀.heap.objs.size
  noex : ∀ b o, X.base.get? b = some o → b ∉ X.ex
  exfs : ∀ b ∈ X.ex, b ∉ X.fs
  funs : X.s₀.heap.FunFrames X.base X.outer
  frf : ∀ b ∈ X.fs, X.H₀ b = none

structure Inv (X : Cx) (pins : List (Addr × Obj)) (σ : List (Option V)) (H : Hp) (s : Shared) : Prop where
  ok : X.Ok
  os : s.os = X.s₀.os
  bare : AllBare s.gens
  base : Un X.fs X.ex X.H₀ H X.s₀.heap s.heap
  loc : ∃ m, s.heap.Ns X.env.locals m ∧ ∀ (i : Nat) (x : Str) (v : V), X.N[i]? = some x → σ[i]? = some (some v) → Vis X.env.scope x → ∃ u, RelV v u ∧ Look X.env s.heap m x u
  cell : ∀ x c, X.env.cells.lookup x = some c → ∃ v, s.heap.IsCell c v
  free : H X.env.locals = none
  freeC : ∀ x c, X.env.cells.lookup x = some c → H c = none
  pin : ∀ p ∈ X.pn ++ pins, s.heap.get? p.1 = some p.2 ∧ H p.1 = none ∧ p.1 ≠ X.env.locals ∧ p.1 ∉ X.fs ∧ ∀ v, p.2.data ≠ .cell v
  hok : HOk X.prog X.w H s.heap
  len : σ.length = X.N.length

section
variable {X : Cx} {pins : List (Addr × Obj)} {σ : List (Option V)} {H H' : Hp} {s : Shared} {h' : Heap}

theorem Cx.Ok.nofr (ok : X.Ok) {b : Addr} {o : Obj} (e : X.base.get? b = some o) : b ∉ X.fs := fun hb => by
  have := (ok.funs.mem hb).1
  rw [e] at this; cases this
theorem Inv.bs (I : Inv X pins σ H s) : ∀ b o, X.base.get? b = some o → s.heap.get? b = some o ∧ H b = none := fun b o e =>
  ⟨I.base.keep b o (I.ok.bs b o e).1 (I.ok.bs b o e).2 (I.ok.nofr e) (I.ok.noex b o e), I.base.free b o (I.ok.bs b o e).1 (I.ok.bs b o e).2 (I.ok.noex b o e)⟩
theorem Inv.bk (I : Inv X pins σ H s) : ∀ b o, X.base.get? b = some o → s.heap.get? b = some o := fun b o e => (I.bs b o e).1
theorem Inv.mod (I : Inv X pins σ H s) : Mod X.K X.mg X.base := I.ok.mod
theorem Inv.kIn (I : Inv X pins σ H s) : X.K.In s.heap := I.ok.mod.kin.keeps I.bk
theorem Inv.nolimit (I : Inv X pins σ H s) : s.heap.NoLimit := I.ok.mod.nolimit.keeps I.bk
/-- the frame over the base: for OpenK's rules (K.In X.base is I.mod.kin) -/
theorem Inv.fr (I : Inv X pins σ H s) : ∃ m, Fr X.base X.env.locals s.heap m :=
  let ⟨m, hn, _⟩ := I.loc
  ⟨m, hn, I.bk, Nat.le_trans I.ok.bsz I.ok.above⟩
theorem Inv.lt (I : Inv X pins σ H s) : X.env.locals < s.heap.objs.size := let ⟨_, hn, _⟩ := I.loc; hn.lt
theorem Inv.sz (I : Inv X pins σ H s) : X.s₀.heap.objs.size ≤ s.heap.objs.size := Nat.le_trans I.ok.above (Nat.le_of_lt I.lt)
theorem Inv.nofs (I : Inv X pins σ H s) {a : Addr} (h : s.heap.objs.size ≤ a) : a ∉ X.fs := fun hb => by
  obtain ⟨_, o, ho, _⟩ := I.ok.funs.mem hb
  exact absurd (Nat.lt_of_lt_of_le (Heap.lt_size ho) (Nat.le_trans I.sz h)) (Nat.lt_irrefl _)
theorem Inv.cne (I : Inv X pins σ H s) : ∀ x c, X.env.cells.lookup x = some c → c ≠ X.env.locals := fun x c e z => by
  obtain ⟨v, o, ho, hd⟩ := I.cell x c e
  obtain ⟨m, ⟨o', es, ep, ho', hd', _⟩, _⟩ := I.loc
  rw [z, ho'] at ho; cases ho; rw [hd'] at hd; cases hd
theorem Inv.funs (I : Inv X pins σ H s) : s.heap.FunFrames X.base X.outer := by
  have all : ∀ (l : List Env), (∀ b ∈ frs l, b ∈ X.fs) → X.s₀.heap.FunFrames X.base l → s.heap.FunFrames X.base l := by
    intro l
    induction l with
    | nil => intro _ _; trivial
    | cons env r ih =>
      intro hs hl
      obtain ⟨hk, ⟨L, o, hf, hn, ho, hd⟩, hr⟩ := hl
      have hL : L ∈ X.fs := hs L (by unfold frs; rw [List.filterMap_cons, hf]; exact List.mem_cons_self)
      obtain ⟨sl, e⟩ := I.base.slot L o ho (I.ok.frf L hL) hL fun z => I.ok.exfs L z hL
      exact ⟨hk, ⟨L, _, hf, hn, e, hd⟩, ih (fun b hb => hs b (by unfold frs; rw [List.filterMap_cons, hf]; exact List.mem_cons_of_mem _ hb)) hr⟩
  exact all X.outer (fun _ hb => hb) I.ok.funs

/-- the frames that run, for a call -/
theorem Inv.stack (I : Inv X pins σ H s) : s.heap.FunFrames X.base X.stack := by
  rcases I.ok.stk with e | ⟨e, hf⟩
  · rw [e]; exact I.funs
  · rw [e]
    obtain ⟨m, hn, _⟩ := I.loc
    refine .cons (by rw [I.ok.kind]; decide) hf hn ?_ I.funs
    exact Heap.get?_none_of_le (Nat.le_trans I.ok.bsz I.ok.above)
theorem Inv.stkSub (I : Inv X pins σ H s) : ∀ b ∈ frs X.stack, b ∈ X.env.locals :: X.fs := fun b hb => by
  rcases I.ok.stk with e | ⟨e, hf⟩
  · rw [e] at hb; exact List.mem_cons_of_mem _ hb
  · rw [e] at hb
    unfold frs at hb
    rw [List.filterMap_cons, hf] at hb
    exact hb
theorem Inv.stkFree (I : Inv X pins σ H s) : ∀ b ∈ frs X.stack, H b = none := fun b hb => by
  rcases List.mem_cons.mp (I.stkSub b hb) with e | hb
  · rw [e]; exact I.free
  · obtain ⟨_, o, ho, _⟩ := I.ok.funs.mem hb
    exact I.base.free b o ho (I.ok.frf b hb) fun z => I.ok.exfs b z hb

/-- THE STEP: the untracked objects but the frame and the records at ch are kept (the callers' frames up to slots), the frame's map is kept, the new abstract heap is held -/
theorem Inv.step {g' : Array GenState} {t' : Nat} {d' : Drawn} {ch : List Addr} (I : Inv X pins σ H s)
    (hch : ∀ b ∈ ch, (b ∈ X.ex ∨ X.s₀.heap.objs.size ≤ b) ∧ b ≠ X.env.locals ∧ (∀ x c, X.env.cells.lookup x = some c → c ≠ b) ∧ ∀ p ∈ X.pn ++ pins, p.1 ≠ b)
    (keep : ∀ b o, b ≠ X.env.locals → b ∉ X.fs → b ∉ ch → s.heap.get? b = some o → H b = none → h'.get? b = some o)
    (slot : ∀ b o, b ≠ X.env.locals → b ∈ X.fs → b ∉ ch → s.heap.get? b = some o → H b = none → ∃ sl, h'.get? b = some { o with slots := sl }) (free : ∀ b o, b ∉ ch → s.heap.get? b = some o → H b = none → H' b = none)
    (there : ∀ b o, b ∉ ch → s.heap.get? b = some o → ∃ o', h'.get? b = some o')
    (tups : ∀ b xs, H b = some (.tup xs) → H' b = some (.tup xs)) (frzs : ∀ b o u, H b = some (.frz o u) → H' b = some (.frz o u)) (tbls : ∀ b ps, H b = some (.tbl ps) → ∃ more, H' b = some (.tbl (ps ++ more)))
    (ns : ∀ m, s.heap.Ns X.env.locals m → h'.Ns X.env.locals m) (hok : HOk X.prog X.w H' h') (hg : AllBare g') :
    Inv X pins σ H' { s with heap := h', gens := g', drawn := d', toks := t' } := by
  have neL : ∀ b o, X.s₀.heap.get? b = some o → b ≠ X.env.locals := fun b o e => Nat.ne_of_lt (Nat.lt_of_lt_of_le (Heap.lt_size e) I.ok.above)
  have neC : ∀ b o, X.s₀.heap.get? b = some o → b ∉ X.ex → b ∉ ch := fun b o e hx hb => by
    rcases (hch b hb).1 with z | z
    · exact hx z
    · exact absurd (Nat.lt_of_lt_of_le (Heap.lt_size e) z) (Nat.lt_irrefl _)
  have cellK : ∀ x c, X.env.cells.lookup x = some c → ∀ v, s.heap.IsCell c v → h'.IsCell c v := fun x c e v ⟨o, ho, hd⟩ => by
    have nch : c ∉ ch := fun z => (hch c z).2.2.1 x c e rfl
    by_cases hc : c ∈ X.fs
    · obtain ⟨sl, q⟩ := slot c o (I.cne x c e) hc nch ho (I.freeC x c e)
      exact ⟨_, q, hd⟩
    · exact ⟨o, keep c o (I.cne x c e) hc nch ho (I.freeC x c e), hd⟩
  refine ⟨I.ok, I.os, hg, ⟨fun b o e n hb hx => ?_, fun b o e n hb hx => ?_, fun b o e n hx => ?_, fun b o e hx => ?_, fun b xs e => tups b xs (I.base.tups b xs e), fun b o xs e => frzs b o xs (I.base.frzs b o xs e), fun b ps e => ?_⟩, ?_, fun x c e => ?_, ?_, fun x c e => ?_, fun p hp => ?_, hok, I.len⟩
  · exact keep b o (neL b o e) hb (neC b o e hx) (I.base.keep b o e n hb hx) (I.base.free b o e n hx)
  · obtain ⟨sl, e1⟩ := I.base.slot b o e n hb hx
    obtain ⟨sl', e2⟩ := slot b _ (neL b o e) hb (neC b o e hx) e1 (I.base.free b o e n hx)
    exact ⟨sl', e2⟩
  · obtain ⟨o', e1⟩ := I.base.there b o e hx
    exact free b o' (neC b o e hx) e1 (I.base.free b o e n hx)
  · obtain ⟨o', e1⟩ := I.base.there b o e hx
    exact there b o' (neC b o e hx) e1
  · obtain ⟨m1, e1⟩ := I.base.tbls b ps e
    obtain ⟨m2, e2⟩ := tbls b _ e1
    exact ⟨m1 ++ m2, by rw [e2, Array.append_assoc]⟩
  · obtain ⟨m, hn, hl⟩ := I.loc
    refine ⟨m, ns m hn, fun i x v e1 e2 e3 => ?_⟩
    obtain ⟨u, r, l⟩ := hl i x v e1 e2 e3
    refine ⟨u, r, ?_⟩
    rcases l with l | ⟨k, c, e, z⟩
    · exact .inl l
    · exact .inr ⟨k, c, e, cellK x c e _ z⟩
  · obtain ⟨v, z⟩ := I.cell x c e
    exact ⟨v, cellK x c e v z⟩
  · obtain ⟨m, ⟨o, _, _, ho, _⟩, _⟩ := I.loc
    exact free _ o (fun z => (hch _ z).2.1 rfl) ho I.free
  · obtain ⟨v, o, ho, hd⟩ := I.cell x c e
    exact free c o (fun z => (hch c z).2.2.1 x c e rfl) ho (I.freeC x c e)
  · obtain ⟨e, n, ne, nf, d⟩ := I.pin p hp
    have nch : p.1 ∉ ch := fun z => (hch p.1 z).2.2.2 p hp rfl
    exact ⟨keep p.1 p.2 ne nf nch e n, free p.1 p.2 nch e n, ne, nf, d⟩
/-- .. where the frame's own object is kept too -/
theorem Inv.un {t' : Nat} (I : Inv X pins σ H s) (u : Un X.fs [] H H' s.heap h') (hok : HOk X.prog X.w H' h') : Inv X pins σ H' { s with heap := h', toks := t' } := by
  obtain ⟨m, ⟨o, es, ep, ho, r⟩, _⟩ := id I.loc
  obtain ⟨sl, hL⟩ := u.any ho I.free (by simp)
  exact I.step (g' := s.gens) (d' := s.drawn) (ch := []) (fun _ z => nomatch z) (fun b o _ hb _ e n => u.keep b o e n hb (by simp)) (fun b o _ hb _ e n => u.slot b o e n hb (by simp)) (fun b o _ e n => u.free b o e n (by simp)) (fun b o _ e => u.there b o e (by simp)) u.tups u.frzs u.tbls (fun m' hm => by
    obtain ⟨o', es', ep', ho', r'⟩ := hm
    rw [ho] at ho'; cases ho'
    exact ⟨_, es', ep', hL, r'⟩) hok I.bare
/-- behind a call (or a comprehension's block): the slots of this frame may have changed too, the records at ch may have turned -/
theorem Inv.call {g' : Array GenState} {t' : Nat} {d' : Drawn} {ch : List Addr} (I : Inv X pins σ H s) (u : Un (frs X.stack) ch H H' s.heap h') (hok : HOk X.prog X.w H' h') (hg : AllBare g')
    (hch : ∀ b ∈ ch, (b ∈ X.ex ∨ X.s₀.heap.objs.size ≤ b) ∧ b ≠ X.env.locals ∧ (∀ x c, X.env.cells.lookup x = some c → c ≠ b) ∧ ∀ p ∈ X.pn ++ pins, p.1 ≠ b) :
    Inv X pins σ H' { s with heap := h', gens := g', drawn := d', toks := t' } := by
  obtain ⟨m, ⟨o, es, ep, ho, r⟩, _⟩ := id I.loc
  obtain ⟨sl, hL⟩ := u.any ho I.free fun z => (hch _ z).2.1 rfl
  exact I.step (ch := ch) hch (fun b o hL hb hc e n => u.keep b o e n (fun z => (List.mem_cons.mp (I.stkSub b z)).elim hL hb) hc) (fun b o _ _ hc e n => u.any e n hc) (fun b o hc e n => u.free b o e n hc) (fun b o hc e => u.there b o e hc) u.tups u.frzs u.tbls (fun m' hm => by
    obtain ⟨o', es', ep', ho', r'⟩ := hm
    rw [ho] at ho'; cases ho'
    exact ⟨_, es', ep', hL, r'⟩) hok hg
/-- an untracked record of ours (an iterator) has turned -/
theorem Inv.turned {t' : Nat} {it : Addr} (I : Inv X pins σ H s) (k : ∀ b o, b ≠ it → s.heap.get? b = some o → h'.get? b = some o) (hn : H it = none) (hL : it ≠ X.env.locals)
    (h1 : it ∈ X.ex ∨ X.s₀.heap.objs.size ≤ it) (h2 : ∀ x c, X.env.cells.lookup x = some c → c ≠ it) (h3 : ∀ p ∈ X.pn ++ pins, p.1 ≠ it) : Inv X pins σ H { s with heap := h', toks := t' } := by
  have nit : ∀ b u, H b = some u → b ≠ it := fun b u e z => by rw [z, hn] at e; cases e
  refine I.step (g' := s.gens) (d' := s.drawn) (ch := [it]) (fun b hb => ?_) (fun b o _ _ hc e _ => k b o (fun z => hc (by simp [z])) e) (fun b o _ _ hc e _ => ⟨o.slots, k b o (fun z => hc (by simp [z])) e⟩) (fun _ _ _ _ n => n)
    (fun b o hc e => ⟨o, k b o (fun z => hc (by simp [z])) e⟩) (fun _ _ e => e) (fun _ _ _ e => e) (fun b ps e => ⟨#[], by rw [e]; simp⟩) (fun m hm => ?_) (fun b u e => ?_) I.bare
  · have e : b = it := by simpa using hb
    subst e
    exact ⟨h1, hL, h2, h3⟩
  · obtain ⟨o, es, ep, ho, r⟩ := hm
    exact ⟨o, es, ep, k _ o (Ne.symm hL) ho, r⟩
  · refine (I.hok b u e).stay (fun c v hc q => k c v ?_ q) (fun _ q => q) fun _ _ q => q
    rcases hc with z | z
    · rw [z]; exact nit b u e
    · exact nit c _ z
theorem Inv.tok (I : Inv X pins σ H s) (t : Nat) : Inv X pins σ H { s with toks := t } := I.un (h' := s.heap) (t' := t) Un.refl I.hok
/-- all objects kept -/
theorem Inv.kept {t' : Nat} (I : Inv X pins σ H s) (k : ∀ b u, s.heap.get? b = some u → h'.get? b = some u) : Inv X pins σ H { s with heap := h', toks := t' } := I.un (Un.kept k) (I.hok.kept k)
/-- a new object laid and tracked -/
theorem Inv.laid {a : Addr} {o : HO} {t' : Nat} (I : Inv X pins σ H s) (k : ∀ b u, s.heap.get? b = some u → h'.get? b = some u) (hp : s.heap.objs.size ≤ a) (new : ObjOk X.prog X.w (upd H a o) h' a o) :
    Inv X pins σ (upd H a o) { s with heap := h', toks := t' } := I.un (Un.laid k hp (I.hok.fresh hp)) (I.hok.laid k hp new)
/-- an object written -/
theorem Inv.write {x e : Addr} {o : HO} {t' : Nat} (I : Inv X pins σ H s) (mu : Mut (H x)) (he : e = x ∨ H e = some (.own x)) (k : ∀ b u, b ≠ e → s.heap.get? b = some u → h'.get? b = some u) (heo : ∃ u, h'.get? e = some u)
    (new : ObjOk X.prog X.w (upd H x o) h' x o) : Inv X pins σ (upd H x o) { s with heap := h', toks := t' } := I.un (Un.write mu he k heo) (I.hok.write mu he k heo new)
/-- forgetting slots, pins -/
theorem Inv.weak {σ' : List (Option V)} (I : Inv X pins σ H s) (hl : σ'.length = σ.length) (w : ∀ (i : Nat) v, σ'[i]? = some (some v) → σ[i]? = some (some v)) : Inv X pins σ' H s :=
  ⟨I.ok, I.os, I.bare, I.base, let ⟨m, hn, hl'⟩ := I.loc; ⟨m, hn, fun i x v e1 e2 e3 => hl' i x v e1 (w i v e2) e3⟩, I.cell, I.free, I.freeC, I.pin, I.hok, hl.trans I.len⟩
theorem Inv.pins_of {pins' : List (Addr × Obj)} (I : Inv X pins σ H s) (h : ∀ p ∈ pins', s.heap.get? p.1 = some p.2 ∧ H p.1 = none ∧ p.1 ≠ X.env.locals ∧ p.1 ∉ X.fs ∧ ∀ v, p.2.data ≠ .cell v) : Inv X pins' σ H s :=
  ⟨I.ok, I.os, I.bare, I.base, I.loc, I.cell, I.free, I.freeC, fun p hp => (List.mem_append.mp hp).elim (fun z => I.pin p (List.mem_append_left _ z)) (h p), I.hok, I.len⟩

theorem nodup_ix {N : List Str} (hN : N.Nodup) {i j : Nat} {x : Str} (a : N[i]? = some x) (b : N[j]? = some x) : i = j := by
  obtain ⟨h1, e1⟩ := List.getElem?_eq_some_iff.mp a
  obtain ⟨h2, e2⟩ := List.getElem?_eq_some_iff.mp b
  exact (List.getElem_inj hN).mp (e1.trans e2.symm)

/-- a name is stored; what changed -/
theorem store_ok2 {M : Model} {A : Around} {E : Value → Shared → Prop} {i : Nat} {x : Str} {v : V} {u : Value} {Q : Unit → Shared → Prop} (I : Inv X pins σ H s) (hN : X.N.Nodup) (hi : X.N[i]? = some x) (hx : Loc X.env.scope x) (r : RelV v u)
    (h : ∀ s', Inv X pins (σ.set i (some v)) H s' → (∃ a, Heap.SameBut a s.heap s'.heap ∧ (a = X.env.locals ∨ X.env.cells.lookup x = some a)) → Q () s') (hf : X.fn x = true ∨ X.env.scope.names.lookup x = some .local := by first | exact .inl rfl | exact .inr rfl | assumption) : wpAny M A (storeName X.env x u) Q E s := by
  obtain ⟨m, hn, hl⟩ := id I.loc
  have hcls : (X.env.scope.kind == .class || (X.env.scope.kind == .module && X.env.locals != X.env.globals)) = false := by rw [I.ok.kind]; rfl
  have hiσ : i < σ.length := by rw [I.len]; exact (List.getElem?_eq_some_iff.mp hi).1
  have cne := I.cne
  have tracked : ∀ {a : Addr} {h' : Heap}, (∃ o, s.heap.get? a = some o ∧ H a = none) → Heap.SameBut a s.heap h' → HOk X.prog X.w H h' := fun {a h'} ha hs b ob e => by
    obtain ⟨_, _, hfree⟩ := ha
    refine (I.hok b ob e).stay (fun c w' hc q => (hs.2 c ?_).trans q) (fun _ q => q) fun _ _ q => q
    rintro rfl
    rcases hc with rfl | hc
    · rw [hfree] at e; cases e
    · rw [hfree] at hc; cases hc
  rcases hx with hk | hk
  · refine wpAny_storeName_local hk hn (fun h' hn' hs => ?_) hcls
    obtain ⟨oL, _, _, hoL, _⟩ := id hn
    refine h _ ⟨I.ok, I.os, I.bare, ⟨fun b o e n hb hx => ?_, fun b o e n hb hx => ?_, I.base.free, fun b o e hx => ?_, I.base.tups, I.base.frzs, I.base.tbls⟩, ⟨_, hn', fun j y v' e1 e2 e3 => ?_⟩, fun y c e => ?_, I.free, I.freeC, fun p hp => ?_, tracked ⟨oL, hoL, I.free⟩ hs, by simpa using I.len⟩ ⟨_, hs, .inl rfl⟩
    · exact (hs.2 b (Nat.ne_of_lt (Nat.lt_of_lt_of_le (Heap.lt_size e) I.ok.above))).trans (I.base.keep b o e n hb hx)
    · obtain ⟨sl, e1⟩ := I.base.slot b o e n hb hx
      exact ⟨sl, (hs.2 b (Nat.ne_of_lt (Nat.lt_of_lt_of_le (Heap.lt_size e) I.ok.above))).trans e1⟩
    · obtain ⟨o', e1⟩ := I.base.there b o e hx
      exact ⟨o', (hs.2 b (Nat.ne_of_lt (Nat.lt_of_lt_of_le (Heap.lt_size e) I.ok.above))).trans e1⟩
    · by_cases hj : j = i
      · subst hj
        rw [hi] at e1; cases e1
        rw [List.getElem?_set_self hiσ] at e2
        cases e2
        exact ⟨u, r, .inl ⟨hk, by simp⟩⟩
      · rw [List.getElem?_set_ne (Ne.symm hj)] at e2
        obtain ⟨u', r', q⟩ := hl j y v' e1 e2 e3
        refine ⟨u', r', ?_⟩
        rcases q with ⟨k, e⟩ | ⟨k, c, e, z⟩
        · refine .inl ⟨k, ?_⟩
          have : y ≠ x := fun e => hj (nodup_ix hN e1 (e ▸ hi))
          simp [this, e]
        · exact .inr ⟨k, c, e, z.sameBut hs (cne y c e)⟩
    · obtain ⟨w', z⟩ := I.cell y c e
      exact ⟨w', z.sameBut hs (cne y c e)⟩
    · obtain ⟨e, n, ne, nf, d⟩ := I.pin p hp
      exact ⟨(hs.2 p.1 ne).trans e, n, ne, nf, d⟩
  · have hfn : X.fn x = true := by
      rcases hf with z | z
      · exact z
      · rw [z] at hk; cases hk
    obtain ⟨c, hc⟩ := I.ok.has x (.inl hk)
    obtain ⟨w', z⟩ := I.cell x c hc
    refine wpAny_storeName_cell I.ok.kind hk hc z (fun h' hc' hs => ?_)
    obtain ⟨oc, hoc, hocd⟩ := id z
    refine h { s with heap := h' } ⟨I.ok, I.os, I.bare, ⟨fun b o e n hb hx => ?_, fun b o e n hb hx => ?_, I.base.free, fun b o e hx => ?_, I.base.tups, I.base.frzs, I.base.tbls⟩, ⟨m, hn.sameBut hs (Ne.symm (cne x c hc)), fun j y v' e1 e2 e3 => ?_⟩, fun y c' e => ?_, I.free, I.freeC, fun p hp => ?_, tracked ⟨oc, hoc, I.freeC x c hc⟩ hs, by simpa using I.len⟩ ⟨c, hs, .inr hc⟩
    · exact (hs.2 b (Nat.ne_of_lt (Nat.lt_of_lt_of_le (Heap.lt_size e) (I.ok.cab x c hfn hc)))).trans (I.base.keep b o e n hb hx)
    · obtain ⟨sl, e1⟩ := I.base.slot b o e n hb hx
      exact ⟨sl, (hs.2 b (Nat.ne_of_lt (Nat.lt_of_lt_of_le (Heap.lt_size e) (I.ok.cab x c hfn hc)))).trans e1⟩
    · obtain ⟨o', e1⟩ := I.base.there b o e hx
      exact ⟨o', (hs.2 b (Nat.ne_of_lt (Nat.lt_of_lt_of_le (Heap.lt_size e) (I.ok.cab x c hfn hc)))).trans e1⟩
    · by_cases hj : j = i
      · subst hj
        rw [hi] at e1; cases e1
        rw [List.getElem?_set_self hiσ] at e2
        cases e2
        exact ⟨u, r, .inr ⟨.inl hk, c, hc, hc'⟩⟩
      · rw [List.getElem?_set_ne (Ne.symm hj)] at e2
        obtain ⟨u', r', q⟩ := hl j y v' e1 e2 e3
        refine ⟨u', r', ?_⟩
        rcases q with q | ⟨k, c', e, z'⟩
        · exact .inl q
        · refine .inr ⟨k, c', e, z'.sameBut hs ?_⟩
          rintro rfl
          exact hj (nodup_ix hN e1 (I.ok.inj _ _ _ e hc ▸ hi))
    · by_cases hcc : c' = c
      · subst hcc; exact ⟨_, hc'⟩
      · obtain ⟨w2, z2⟩ := I.cell y c' e
        exact ⟨w2, z2.sameBut hs hcc⟩
    · obtain ⟨e, n, ne, nf, d⟩ := I.pin p hp
      refine ⟨(hs.2 p.1 ?_).trans e, n, ne, nf, d⟩
      intro q
      rw [q, hoc] at e
      have q' : oc = p.2 := Option.some.inj e
      exact d w' (by rw [← q']; exact hocd)
theorem store_ok {M : Model} {A : Around} {E : Value → Shared → Prop} {i : Nat} {x : Str} {v : V} {u : Value} {Q : Unit → Shared → Prop} (I : Inv X pins σ H s) (hN : X.N.Nodup) (hi : X.N[i]? = some x) (hx : Loc X.env.scope x) (r : RelV v u)
    (h : ∀ s', Inv X pins (σ.set i (some v)) H s' → Q () s') (hf : X.fn x = true ∨ X.env.scope.names.lookup x = some .local := by first | exact .inl rfl | exact .inr rfl | assumption) : wpAny M A (storeName X.env x u) Q E s :=
  store_ok2 I hN hi hx r (fun s' I' _ => h s' I') hf
/-- behind a call or a block, the state as it is -/
theorem Inv.call' {s' : Shared} {ch : List Addr} (I : Inv X pins σ H s) (ho : s'.os = s.os) (u : Un (frs X.stack) ch H H' s.heap s'.heap) (hok : HOk X.prog X.w H' s'.heap) (hg : AllBare s'.gens)
    (hch : ∀ b ∈ ch, (b ∈ X.ex ∨ X.s₀.heap.objs.size ≤ b) ∧ b ≠ X.env.locals ∧ (∀ x c, X.env.cells.lookup x = some c → c ≠ b) ∧ ∀ p ∈ X.pn ++ pins, p.1 ≠ b) : Inv X pins σ H' s' := by
  obtain ⟨h', g', d', t', o'⟩ := s'
  have e : o' = s.os := ho
  subst e
  exact I.call (g' := g') (t' := t') (d' := d') u hok hg hch
end

/-! ### the judgements -/
/-- an exception: its class, its own dict's address (where it has one), the abstract heap behind it -/
abbrev XK := Value → Option Addr → Hp → Prop
abbrev St := List (Option V)
abbrev VK := V → Hp → Prop
/-- an expression's reading; a test's; an argument list's -/
abbrev TE := St → Hp → VK → Prop
abbrev TT := St → Hp → (Bool → Hp → Prop) → Prop
abbrev TA := St → Hp → (List V → Hp → Prop) → Prop
/-- what is wanted behind a statement -/
structure Ends where
  nx : St → Hp → Prop
  rt : VK
  bk : St → Hp → Prop := fun _ _ => False
  ct : St → Hp → Prop := fun _ _ => False
abbrev TS := Ends → St → Hp → Prop

def EP (X : Cx) (pins : List (Addr × Obj)) (σ : St) (Q : VK) (u : Value) (s' : Shared) : Prop := ∃ v H', Inv X pins σ H' s' ∧ RelV v u ∧ Q v H'
def TP (X : Cx) (pins : List (Addr × Obj)) (σ : St) (Q : Bool → Hp → Prop) (b : Bool) (s' : Shared) : Prop := ∃ H', Inv X pins σ H' s' ∧ Q b H'
def AP (X : Cx) (pins : List (Addr × Obj)) (σ : St) (Q : List V → Hp → Prop) (us : List Value) (s' : Shared) : Prop := ∃ vs H', Inv X pins σ H' s' ∧ Vals vs us ∧ Q vs H'
def SP (X : Cx) (pins : List (Addr × Obj)) (D : Ends) (f : Flow) (s' : Shared) : Prop :=
  match f with
  | .next => ∃ σ' H', Inv X pins σ' H' s' ∧ D.nx σ' H'
  | .brk => ∃ σ' H', Inv X pins σ' H' s' ∧ D.bk σ' H'
  | .cont => ∃ σ' H', Inv X pins σ' H' s' ∧ D.ct σ' H'
  | .ret u => ∃ v σ' H', Inv X pins σ' H' s' ∧ RelV v u ∧ D.rt v H'

def PE (X : Cx) (e : Expr) (t : TE) : Prop :=
  ∀ (pins : List (Addr × Obj)) (s : Shared) (σ : St) (H : Hp) (Q : VK), Inv X pins σ H s → t σ H Q → wpAny (model X.prog X.w) X.A (eval e X.env) (EP X pins σ Q) X.xe s
def PT (X : Cx) (e : Expr) (t : TT) : Prop :=
  ∀ (pins : List (Addr × Obj)) (s : Shared) (σ : St) (H : Hp) (Q : Bool → Hp → Prop), Inv X pins σ H s → t σ H Q → wpAny (model X.prog X.w) X.A (isTrue e X.env (eval e X.env)) (TP X pins σ Q) X.xe s
/-- a test whatever its 'whole' is (and, or) -/
def PW (X : Cx) (e : Expr) (t : TT) : Prop :=
  ∀ (whole : Sem Value) (pins : List (Addr × Obj)) (s : Shared) (σ : St) (H : Hp) (Q : Bool → Hp → Prop), Inv X pins σ H s → t σ H Q → wpAny (model X.prog X.w) X.A (isTrue e X.env whole) (TP X pins σ Q) X.xe s
theorem PW.pt {X : Cx} {e : Expr} {t : TT} (h : PW X e t) : PT X e t := h _
/-- an argument list (no star), from the left -/
def PA (X : Cx) (es : List Expr) (t : TA) : Prop :=
  ∀ (pos : Pos) (pins : List (Addr × Obj)) (s : Shared) (σ : St) (H : Hp) (Q : List V → Hp → Prop), Inv X pins σ H s → t σ H Q → wpAny (model X.prog X.w) X.A (spliced (backTo pos (starEach es X.env))) (AP X pins σ Q) X.xe s
def PS (X : Cx) (st : Stmt) (t : TS) : Prop :=
  ∀ (pins : List (Addr × Obj)) (s : Shared) (σ : St) (H : Hp) (D : Ends), Inv X pins σ H s → t D σ H → wpAny (model X.prog X.w) X.A (exec st X.env) (SP X pins D) X.xe s
def PSs (X : Cx) (st : List Stmt) (t : TS) : Prop :=
  ∀ (pins : List (Addr × Obj)) (s : Shared) (σ : St) (H : Hp) (D : Ends), Inv X pins σ H s → t D σ H → wpAny (model X.prog X.w) X.A (execs st X.env) (SP X pins D) X.xe s
/-- weaken the end -/
theorem thn {α : Type} {t : Sem α} {Q Q' : α → Shared → Prop} {M : Model} {A : Around} {E : Value → Shared → Prop} {s : Shared} (h : wpAny M A t Q E s) (hQ : ∀ a s, Q a s → Q' a s) : wpAny M A t Q' E s := wpAny_mono h hQ fun _ _ x => x
end L2

namespace L2
open PySem PySem.Spec PyProof.Rows
section
variable {X : Cx}

/-- two expressions in a row -/
theorem bin {a b : Expr} {ta tb : TE} (ha : PE X a ta) (hb : PE X b tb) {pins : List (Addr × Obj)} {s : Shared} {σ : St} {H : Hp} {R : V → V → Hp → Prop} (I : Inv X pins σ H s) (h : ta σ H fun x H1 => tb σ H1 fun y H2 => R x y H2)
    {α : Type} {Q : α → Shared → Prop} {f : Value → Value → Sem α}
    (hf : ∀ v u s2 x y H2, Inv X pins σ H2 s2 → RelV x v → RelV y u → R x y H2 → wpAny (model X.prog X.w) X.A (f v u) Q X.xe s2) :
    wpAny (model X.prog X.w) X.A (eval a X.env) (fun v s₁ => wpAny (model X.prog X.w) X.A (eval b X.env) (fun u s₂ => wpAny (model X.prog X.w) X.A (f v u) Q X.xe s₂) X.xe s₁) X.xe s := by
  refine thn (ha pins s σ H _ I h) fun v s1 ⟨x, H1, I1, r1, q1⟩ => ?_
  refine thn (hb pins s1 σ H1 _ I1 q1) fun u s2 ⟨y, H2, I2, r2, q2⟩ => ?_
  exact hf v u s2 x y H2 I2 r1 r2 q2

/-! ### names and constants -/
def tVar (i : Nat) : TE := fun σ H Q => ∃ v, σ[i]? = some (some v) ∧ Q v H
def tC (v : V) : TE := fun _ H Q => Q v H
theorem pe_var {i : Nat} {x : Str} {pos : Pos} (hN : X.N[i]? = some x) (hv : Vis X.env.scope x) (hd : (x == ("__debug__" : Str)) = false := by decide) (hcd : (x == ("__classdict__" : Str)) = false := by decide) : PE X (.Name x pos) (tVar i) := by
  intro pins s σ H Q I h
  obtain ⟨v, e, h⟩ := h
  obtain ⟨m, hn, hl⟩ := I.loc
  obtain ⟨u, r, l⟩ := hl i x v hN e hv
  have fin : EP X pins σ Q u s := ⟨v, H, I, r, h⟩
  rcases l with ⟨hk, hm⟩ | ⟨hk, c, hc, hcell⟩
  · exact wpAny_Name (wpAny_loadName_local I.ok.kind hk hn hm fin) hd
  · rcases hk with hk | hk
    · exact wpAny_Name (wpAny_loadName_cell I.ok.kind hk hc hcell fin) hd
    · exact wpAny_Name (wpAny_loadName_free I.ok.kind hk hc hcell fin hcd) hd
theorem pe_int {i j pos} : PE X (.Constant (.int i) j pos) (tC (.int i)) := fun _ _ _ H _ I h => wpAny_Constant_int ⟨.int i, H, I.tok _, ⟨_, rfl⟩, h⟩
theorem pe_bl {b j pos} : PE X (.Constant (.bool b) j pos) (tC (.bl b)) := fun _ _ _ H _ I h => Constant_bool ⟨.bl b, H, I, rfl, h⟩
theorem pe_non {j pos} : PE X (.Constant .none j pos) (tC .non) := fun _ _ _ H _ I h => Constant_none ⟨.non, H, I, rfl, h⟩
theorem pe_str {x j pos} : PE X (.Constant (.str x) j pos) (tC (.str x)) := fun _ _ _ H _ I h => Calls.Constant_str ⟨.str x, H, I.tok _, ⟨_, rfl⟩, h⟩

/-- a global name of the def -/
def Gl (X : Cx) (x : Str) : Prop := X.env.kindOf x = some .globalImplicit
theorem ld_glob {E : Value → Shared → Prop} {pins : List (Addr × Obj)} {s : Shared} {σ : St} {H : Hp} {x : Str} {u : Value} {pos : Pos} {Q : Value → Shared → Prop} (I : Inv X pins σ H s) (hg : Gl X x) (hm : X.mg x = some u) (h : Q u s)
    (hd : (x == ("__debug__" : Str)) = false := by decide) : wpAny (model X.prog X.w) X.A (eval (.Name x pos) X.env) Q E s :=
  Calls.Name_function_global I.ok.kind hg (Calls.loadGlobal_global (by rw [I.ok.glob]; exact I.mod.glob.keeps I.bk) hm h) hd
theorem ld_blt {E : Value → Shared → Prop} {pins : List (Addr × Obj)} {s : Shared} {σ : St} {H : Hp} {x : Str} {u : Value} {pos : Pos} {Q : Value → Shared → Prop} (I : Inv X pins σ H s) (hg : Gl X x) (hm : X.mg x = none) (hv : bootBuiltins x = some u) (h : Q u s)
    (hn : x ≠ "__name__" := by decide) (hd : (x == ("__debug__" : Str)) = false := by decide) : wpAny (model X.prog X.w) X.A (eval (.Name x pos) X.env) Q E s := by
  obtain ⟨mb, h1, h2⟩ := I.mod.blt
  exact Calls.Name_function_global I.ok.kind hg (Calls.loadGlobal_builtin (by rw [I.ok.glob]; exact I.mod.glob.keeps I.bk) hm (by rw [I.ok.blt]; exact h1.keeps I.bk) ((h2 x hn).trans hv) h) hd
/-- a module's constant, a class, a function, as a value -/
theorem pe_glob {x : Str} {v : V} {u : Value} {pos : Pos} (hg : Gl X x) (hm : X.mg x = some u) (r : RelV v u) (hd : (x == ("__debug__" : Str)) = false := by decide) : PE X (.Name x pos) (tC v) :=
  fun _ _ _ H _ I h => ld_glob I hg hm ⟨v, H, I, r, h⟩ hd
theorem pe_bltn {x : Str} {v : V} {u : Value} {pos : Pos} (hg : Gl X x) (hm : X.mg x = none) (hv : bootBuiltins x = some u) (r : RelV v u) (hn : x ≠ "__name__" := by decide) (hd : (x == ("__debug__" : Str)) = false := by decide) : PE X (.Name x pos) (tC v) :=
  fun _ _ _ H _ I h => ld_blt I hg hm hv ⟨v, H, I, r, h⟩ hn hd

/-! ### arithmetic -/
/-- two ints -/
def t2I (ta tb : TE) (k : Int → Int → Hp → Prop) : St → Hp → Prop := fun σ H => ta σ H fun x H1 => tb σ H1 fun y H2 => ∃ i j, x = .int i ∧ y = .int j ∧ k i j H2
def tAdd (ta tb : TE) : TE := fun σ H Q => t2I ta tb (fun i j H2 => Q (.int (i + j)) H2) σ H
def tSub (ta tb : TE) : TE := fun σ H Q => t2I ta tb (fun i j H2 => Q (.int (i - j)) H2) σ H
/-- the left factor below 2^64 -/
def tMul (ta tb : TE) : TE := fun σ H Q => t2I ta tb (fun i j H2 => (-(2 ^ 64) < i ∧ i < 2 ^ 64) ∧ Q (.int (i * j)) H2) σ H
variable {a b : Expr} {ta tb : TE} {pos : Pos}
theorem pe_add (ha : PE X a ta) (hb : PE X b tb) : PE X (.BinOp a .Add b pos) (tAdd ta tb) := by
  intro pins s σ H Q I h
  refine wpAny_BinOp (bin ha hb I h fun v u s2 x y H2 I2 rx ry q => ?_)
  obtain ⟨i, j, rfl, rfl, q⟩ := q
  obtain ⟨t, rfl⟩ := rx
  obtain ⟨t', rfl⟩ := ry
  exact add_int ⟨.int _, H2, I2.tok _, ⟨_, rfl⟩, q⟩
theorem pe_sub (ha : PE X a ta) (hb : PE X b tb) : PE X (.BinOp a .Sub b pos) (tSub ta tb) := by
  intro pins s σ H Q I h
  refine wpAny_BinOp (bin ha hb I h fun v u s2 x y H2 I2 rx ry q => ?_)
  obtain ⟨i, j, rfl, rfl, q⟩ := q
  obtain ⟨t, rfl⟩ := rx
  obtain ⟨t', rfl⟩ := ry
  exact sub_int ⟨.int _, H2, I2.tok _, ⟨_, rfl⟩, q⟩
theorem pe_mul (ha : PE X a ta) (hb : PE X b tb) : PE X (.BinOp a .Mult b pos) (tMul ta tb) := by
  intro pins s σ H Q I h
  refine wpAny_BinOp (bin ha hb I h fun v u s2 x y H2 I2 rx ry q => ?_)
  obtain ⟨i, j, rfl, rfl, ⟨q1, q2⟩, q⟩ := q
  obtain ⟨t, rfl⟩ := rx
  obtain ⟨t', rfl⟩ := ry
  exact mul_int ⟨.int _, H2, I2.tok _, ⟨_, rfl⟩, q⟩ (.of_left (intBits_le_64 q1 q2))

/-! ### comparisons -/
def PC (X : Cx) (op : CmpOp) (a b : Expr) (t : TE) : Prop :=
  ∀ (pins : List (Addr × Obj)) (s : Shared) (σ : St) (H : Hp) (Q : VK), Inv X pins σ H s → t σ H Q →
    wpAny (model X.prog X.w) X.A (eval a X.env) (fun v s₁ => wpAny (model X.prog X.w) X.A (eval b X.env) (fun u s₂ => wpAny (model X.prog X.w) X.A (compareOp op v u) (EP X pins σ Q) X.xe s₂) X.xe s₁) X.xe s
theorem nobehind (b : Expr) {op : CmpOp} (h : op ≠ .In) (h2 : op ≠ .NotIn) : behindInMarks op b = false := by
  have e1 : (op == CmpOp.In) = false := by cases op <;> first | rfl | exact absurd rfl h
  have e2 : (op == CmpOp.NotIn) = false := by cases op <;> first | rfl | exact absurd rfl h2
  cases b <;> simp [behindInMarks, e1, e2]
def tCmp (p : Int → Int → Bool) (ta tb : TE) : TE := fun σ H Q => t2I ta tb (fun i j H2 => Q (.bl (p i j)) H2) σ H
abbrev tLt : TE → TE → TE := tCmp fun i j => decide (i < j)
abbrev tLe : TE → TE → TE := tCmp fun i j => decide (i ≤ j)
abbrev tGt : TE → TE → TE := tCmp fun i j => decide (j < i)
abbrev tGe : TE → TE → TE := tCmp fun i j => decide (j ≤ i)
abbrev tEqI : TE → TE → TE := tCmp fun i j => decide (i = j)
abbrev tNeI : TE → TE → TE := tCmp fun i j => !decide (i = j)
/-- a comparison of two ints, by its rule -/
theorem pc_int {op : CmpOp} {p : Int → Int → Bool} (ha : PE X a ta) (hb : PE X b tb)
    (rule : ∀ (i j : Int) (t u : Tok) (Q : Value → Shared → Prop) (s : Shared), Q (.bool (p i j)) s → wpAny (model X.prog X.w) X.A (compareOp op (.int i t) (.int j u)) Q X.xe s) : PC X op a b (tCmp p ta tb) := by
  intro pins s σ H Q I h
  refine bin ha hb I h fun v u s2 x y H2 I2 rx ry q => ?_
  obtain ⟨i, j, rfl, rfl, q⟩ := q
  obtain ⟨t, rfl⟩ := rx
  obtain ⟨t', rfl⟩ := ry
  exact rule i j t t' _ s2 ⟨.bl _, H2, I2, rfl, q⟩
theorem pc_lt (ha : PE X a ta) (hb : PE X b tb) : PC X .Lt a b (tLt ta tb) := pc_int ha hb fun _ _ _ _ _ _ h => lt_int h
theorem pc_le (ha : PE X a ta) (hb : PE X b tb) : PC X .LtE a b (tLe ta tb) := pc_int ha hb fun _ _ _ _ _ _ h => le_int h
theorem pc_gt (ha : PE X a ta) (hb : PE X b tb) : PC X .Gt a b (tGt ta tb) := pc_int ha hb fun _ _ _ _ _ _ h => gt_int h
theorem pc_ge (ha : PE X a ta) (hb : PE X b tb) : PC X .GtE a b (tGe ta tb) := pc_int ha hb fun _ _ _ _ _ _ h => ge_int h
theorem pc_eqI (ha : PE X a ta) (hb : PE X b tb) : PC X .Eq a b (tEqI ta tb) := pc_int ha hb fun _ _ _ _ _ _ h => eq_int (by rw [Bool.beq_eq_decide_eq]; exact h)
theorem pc_neI (ha : PE X a ta) (hb : PE X b tb) : PC X .NotEq a b (tNeI ta tb) := pc_int ha hb fun _ _ _ _ _ _ h => ne_int (by rw [bne, Bool.beq_eq_decide_eq]; exact h)
/-- is None -/
def tIsN (ta : TE) : TE := fun σ H Q => ta σ H fun x H1 => Q (.bl (decide (x = .non))) H1
def tNotN (ta : TE) : TE := fun σ H Q => ta σ H fun x H1 => Q (.bl (!decide (x = .non))) H1
theorem RelV.none_iff {x : V} {v : Value} (r : RelV x v) : (v == Value.none) = decide (x = .non) := by
  cases x with
  | non => cases r; rfl
  | bl _ => cases r; rfl
  | int _ => obtain ⟨t, rfl⟩ := r; rfl
  | str _ => obtain ⟨t, rfl⟩ := r; rfl
  | byt _ => obtain ⟨t, rfl⟩ := r; rfl
  | flt _ => obtain ⟨t, rfl⟩ := r; rfl
  | ref _ => cases r; rfl
  | ty _ => cases r; rfl
theorem pc_isN {j pos'} (ha : PE X a ta) : PC X .Is a (.Constant .none j pos') (tIsN ta) := by
  intro pins s σ H Q I h
  refine thn (ha pins s σ H _ I h) fun v s1 ⟨x, H1, I1, r1, q1⟩ => ?_
  exact Constant_none (is_none_gen ⟨.bl _, H1, I1, by rw [r1.none_iff]; rfl, q1⟩)
theorem pc_notN {j pos'} (ha : PE X a ta) : PC X .IsNot a (.Constant .none j pos') (tNotN ta) := by
  intro pins s σ H Q I h
  refine thn (ha pins s σ H _ I h) fun v s1 ⟨x, H1, I1, r1, q1⟩ => ?_
  exact Constant_none (isnot_none_gen ⟨.bl _, H1, I1, by rw [r1.none_iff]; rfl, q1⟩)
/-- a comparison as a value, as a test -/
def tB (t : TE) : TT := fun σ H Q => t σ H fun x H1 => ∃ c, x = .bl c ∧ Q c H1
theorem pe_cmp {op : CmpOp} {t : TE} (h : PC X op a b t) (h1 : behindInMarks op b = false := by first | exact nobehind _ (by decide) (by decide) | rfl) : PE X (.Compare a [op] [b] pos) t := fun pins s σ H Q I hw => wpAny_Compare1 (h pins s σ H Q I hw) h1
theorem pt_cmp {op : CmpOp} {t : TE} (h : PC X op a b t) (h1 : behindInMarks op b = false := by first | exact nobehind _ (by decide) (by decide) | rfl) : PT X (.Compare a [op] [b] pos) (tB t) := by
  intro pins s σ H Q I hw
  refine wpAny_isTrue_Compare1 (thn (h pins s σ H _ I hw) fun v s1 h1 => thn h1 fun u s2 h2 => thn h2 fun c s3 ⟨x, H1, I1, r1, q1⟩ => ?_) h1
  obtain ⟨d, rfl, q⟩ := q1
  cases r1
  exact wpAny_truthy_bool ⟨H1, I1, q⟩
/-- an expression whose value is a bool, as a test -/
theorem pt_val {e : Expr} {t : TE} (h : PE X e t) (he : ∀ whole, isTrue e X.env whole = (do let v ← whole; standAt e.pos; holding [v] (truthy v)) := by intro _; rfl) : PT X e (tB t) := by
  intro pins s σ H Q I hw
  refine isTrue_plain (thn (h pins s σ H _ I hw) fun v s1 ⟨x, H1, I1, r1, q1⟩ => ?_) (he _)
  obtain ⟨d, rfl, q⟩ := q1
  cases r1
  exact wpAny_truthy_bool ⟨H1, I1, q⟩

/-! ### and, or, not -/
variable {tA tB' : TT} {rest : List Expr}
def tAnd (t u : TT) : TT := fun σ H Q => t σ H fun c H1 => if c = true then u σ H1 Q else Q false H1
def tOr (t u : TT) : TT := fun σ H Q => t σ H fun c H1 => if c = true then Q true H1 else u σ H1 Q
def tNot (t : TT) : TT := fun σ H Q => t σ H fun c H1 => Q (!c) H1
theorem pw_and1 (ha : PT X a tA) : PW X (.BoolOp .And [a] pos) tA := by
  intro wh pins s σ H Q I h
  refine isTrue_and (thn (ha pins s σ H Q I h) fun c s1 e => ?_)
  cases c with
  | true => exact isTrue_and_nil e
  | false => exact e
theorem pw_or1 (ha : PT X a tA) : PW X (.BoolOp .Or [a] pos) tA := by
  intro wh pins s σ H Q I h
  refine isTrue_or (thn (ha pins s σ H Q I h) fun c s1 e => ?_)
  cases c with
  | false => exact isTrue_or_nil e
  | true => exact e
theorem pw_and (ha : PT X a tA) (hb : PW X (.BoolOp .And (b :: rest) pos) tB') : PW X (.BoolOp .And (a :: b :: rest) pos) (tAnd tA tB') := by
  intro wh pins s σ H Q I h
  refine isTrue_and (thn (ha pins s σ H _ I h) fun c s1 ⟨H1, I1, q1⟩ => ?_)
  cases c with
  | true => exact hb wh pins s1 σ H1 Q I1 q1
  | false => exact ⟨H1, I1, q1⟩
theorem pw_or (ha : PT X a tA) (hb : PW X (.BoolOp .Or (b :: rest) pos) tB') : PW X (.BoolOp .Or (a :: b :: rest) pos) (tOr tA tB') := by
  intro wh pins s σ H Q I h
  refine isTrue_or (thn (ha pins s σ H _ I h) fun c s1 ⟨H1, I1, q1⟩ => ?_)
  cases c with
  | true => exact ⟨H1, I1, q1⟩
  | false => exact hb wh pins s1 σ H1 Q I1 q1
theorem pt_not (ha : PT X a tA) : PT X (.UnaryOp .Not a pos) (tNot tA) := by
  intro pins s σ H Q I h
  exact isTrue_not (ha pins s σ H (fun c H1 => Q (!c) H1) I h)
/-- .. as values (bools) -/
def tAndV (ta tb : TE) : TE := fun σ H Q => ta σ H fun x H1 => ∃ c, x = .bl c ∧ if c = true then tb σ H1 Q else Q (.bl false) H1
def tOrV (ta tb : TE) : TE := fun σ H Q => ta σ H fun x H1 => ∃ c, x = .bl c ∧ if c = true then Q (.bl true) H1 else tb σ H1 Q
def tNotV (ta : TE) : TE := fun σ H Q => ta σ H fun x H1 => ∃ c, x = .bl c ∧ Q (.bl (!c)) H1
theorem pe_one {op} {t : TE} (h : PE X a t) : PE X (.BoolOp op [a] pos) t := fun pins s σ H Q I hw => BoolOp_one (h pins s σ H Q I hw)
theorem pe_and (ha : PE X a ta) (hb : PE X (.BoolOp .And (b :: rest) pos) tb) : PE X (.BoolOp .And (a :: b :: rest) pos) (tAndV ta tb) := by
  intro pins s σ H Q I h
  refine BoolOp_and (thn (ha pins s σ H _ I h) fun v s1 ⟨x, H1, I1, r1, q1⟩ => ?_)
  obtain ⟨c, rfl, q1⟩ := q1
  cases r1
  refine wpAny_truthy_bool ?_
  cases c with
  | true => exact hb pins s1 σ H1 Q I1 q1
  | false => exact ⟨.bl false, H1, I1, rfl, q1⟩
theorem pe_or (ha : PE X a ta) (hb : PE X (.BoolOp .Or (b :: rest) pos) tb) : PE X (.BoolOp .Or (a :: b :: rest) pos) (tOrV ta tb) := by
  intro pins s σ H Q I h
  refine BoolOp_or (thn (ha pins s σ H _ I h) fun v s1 ⟨x, H1, I1, r1, q1⟩ => ?_)
  obtain ⟨c, rfl, q1⟩ := q1
  cases r1
  refine wpAny_truthy_bool ?_
  cases c with
  | false => exact hb pins s1 σ H1 Q I1 q1
  | true => exact ⟨.bl true, H1, I1, rfl, q1⟩
theorem pe_not (ha : PE X a ta) : PE X (.UnaryOp .Not a pos) (tNotV ta) := by
  intro pins s σ H Q I h
  refine UnaryOp_ (thn (ha pins s σ H _ I h) fun v s1 ⟨x, H1, I1, r1, q1⟩ => ?_)
  obtain ⟨c, rfl, q1⟩ := q1
  cases r1
  exact not_of (wpAny_truthy_bool ⟨.bl (!c), H1, I1, rfl, q1⟩)
/-- a if t else b -/
def tIf (t : TT) (ta tb : TE) : TE := fun σ H Q => t σ H fun c H1 => if c = true then ta σ H1 Q else tb σ H1 Q
theorem pe_ifExp {c : Expr} (hc : PT X c tA) (ha : PE X a ta) (hb : PE X b tb) : PE X (.IfExp c a b pos) (tIf tA ta tb) := by
  intro pins s σ H Q I h
  refine wpAny_IfExp (thn (hc pins s σ H _ I h) fun d s1 ⟨H1, I1, q1⟩ => ?_)
  cases d with
  | true => exact ha pins s1 σ H1 Q I1 q1
  | false => exact hb pins s1 σ H1 Q I1 q1
end
end L2

namespace L2
open PySem PySem.Spec PyProof.Rows

/-! ### a list, a tuple that is read: tracked, frozen, or an object of the module -/
def SqL (K : PySem.W.Frag) (H : Hp) (a : Addr) (xs : List V) : Prop :=
  Rd H a (.lst xs) ∨
    ∃ (o : Obj) (its : Array Value) (n : Nat), K.lookup a = some o ∧ o.cls = .type "list" ∧ o.dict = none ∧ o.data = .seq its n ∧ its.size ≤ sizeLine ∧ Vals xs its.toList
def SqT (K : PySem.W.Frag) (H : Hp) (a : Addr) (xs : List V) : Prop :=
  Rd H a (.tup xs) ∨
    ∃ (o : Obj) (its : Array Value) (n : Nat), K.lookup a = some o ∧ o.cls = .type "tuple" ∧ o.data = .seq its n ∧ its.size ≤ sizeLine ∧ Vals xs its.toList
def absV : Value → Option V
  | .none => some .non
  | .bool b => some (.bl b)
  | .int i _ => some (.int i)
  | .str x _ => some (.str x)
  | .bytes b _ => some (.byt b)
  | .float b _ => some (.flt b)
  | .ref a => some (.ref a)
  | .type n => some (.ty n)
  | _ => none
theorem RelV.abs {x : V} {u : Value} (r : RelV x u) : absV u = some x := by
  cases x with
  | non => cases r; rfl
  | bl _ => cases r; rfl
  | int _ => obtain ⟨t, rfl⟩ := r; rfl
  | str _ => obtain ⟨t, rfl⟩ := r; rfl
  | byt _ => obtain ⟨t, rfl⟩ := r; rfl
  | flt _ => obtain ⟨t, rfl⟩ := r; rfl
  | ref _ => cases r; rfl
  | ty _ => cases r; rfl
theorem RelV.inj {x y : V} {u : Value} (r : RelV x u) (q : RelV y u) : x = y := Option.some.inj (r.abs.symm.trans q.abs)
theorem Vals.inj : ∀ {xs ys : List V} {us : List Value}, Vals xs us → Vals ys us → xs = ys
  | _, _, _, .nil, .nil => rfl
  | _, _, _, .cons r t, .cons r' t' => by rw [r.inj r', Vals.inj t t']
section
variable {X : Cx} {pins : List (Addr × Obj)} {σ : St} {H : Hp} {s : Shared} {a : Addr} {xs ys : List V}
theorem SqL.of {K : PySem.W.Frag} (h : H a = some (.lst xs)) : SqL K H a xs := .inl (.inl h)
theorem SqT.of {K : PySem.W.Frag} (h : H a = some (.tup xs)) : SqT K H a xs := .inl (.inl h)
theorem Inv.list (I : Inv X pins σ H s) (h : SqL X.K H a xs) : ∃ its : List Value, Vals xs its ∧ PlainL s.heap a its.toArray ∧ xs.length ≤ sizeLine := by
  rcases h with h | ⟨o, its, n, hk, hc, hd, hs, hz, r⟩
  · obtain ⟨z, its, n, r, e⟩ := h.ok I.hok
    exact ⟨its, r, ⟨_, n, e, rfl, rfl, rfl⟩, z⟩
  · refine ⟨its.toList, r, ⟨o, n, I.kIn a o hk, hc, hd, by simpa using hs⟩, ?_⟩
    have e := r.length
    simp only [Array.length_toList] at e
    omega
theorem Inv.tuple (I : Inv X pins σ H s) (h : SqT X.K H a xs) : ∃ its : List Value, Vals xs its ∧ IsTup s.heap a its.toArray ∧ xs.length ≤ sizeLine := by
  rcases h with h | ⟨o, its, n, hk, hc, hs, hz, r⟩
  · obtain ⟨z, its, r, p⟩ := h.ok I.hok
    exact ⟨its, r, p, z⟩
  · refine ⟨its.toList, r, ⟨o, I.kIn a o hk, hc, n, by simpa using hs⟩, ?_⟩
    have e := r.length
    simp only [Array.length_toList] at e
    omega
theorem Inv.list_inj (I : Inv X pins σ H s) (h : SqL X.K H a xs) (h' : SqL X.K H a ys) : xs = ys := by
  obtain ⟨its, r, ⟨o, n, e, _, _, d⟩, _⟩ := I.list h
  obtain ⟨its', r', ⟨o', n', e', _, _, d'⟩, _⟩ := I.list h'
  rw [e] at e'; cases e'
  rw [d] at d'
  injection d' with d1 _
  have : its = its' := by simpa using congrArg Array.toList d1
  subst this
  exact r.inj r'
theorem Inv.tuple_inj (I : Inv X pins σ H s) (h : SqT X.K H a xs) (h' : SqT X.K H a ys) : xs = ys := by
  obtain ⟨its, r, ⟨o, e, _, n, d⟩, _⟩ := I.tuple h
  obtain ⟨its', r', ⟨o', e', _, n', d'⟩, _⟩ := I.tuple h'
  rw [e] at e'; cases e'
  rw [d] at d'
  injection d' with d1 _
  have : its = its' := by simpa using congrArg Array.toList d1
  subst this
  exact r.inj r'
end

/-! ### another wish about exceptions -/
abbrev Cx.wish (X : Cx) (E : Value → Shared → Prop) : Cx := { X with xe := E }
/-- no exception leaves -/
abbrev Cx.nox (X : Cx) : Cx := X.wish fun _ _ => False
theorem Cx.Ok.wish {X : Cx} (ok : X.Ok) (E : Value → Shared → Prop) : (X.wish E).Ok :=
  ⟨ok.mod, ok.kind, ok.glob, ok.blt, ok.above, ok.inj, ok.has, ok.cab, ok.hd, ok.frames, ok.stk, ok.exf, ok.bs, ok.bsz, ok.noex, ok.exfs, ok.funs, ok.frf⟩
theorem Cx.Ok.unwish {X : Cx} {E : Value → Shared → Prop} (ok : (X.wish E).Ok) : X.Ok :=
  ⟨ok.mod, ok.kind, ok.glob, ok.blt, ok.above, ok.inj, ok.has, ok.cab, ok.hd, ok.frames, ok.stk, ok.exf, ok.bs, ok.bsz, ok.noex, ok.exfs, ok.funs, ok.frf⟩
section
variable {X : Cx} {pins : List (Addr × Obj)} {σ : St} {H : Hp} {s : Shared} {E : Value → Shared → Prop}
theorem Inv.wish (I : Inv X pins σ H s) (E : Value → Shared → Prop) : Inv (X.wish E) pins σ H s := ⟨I.ok.wish E, I.os, I.bare, I.base, I.loc, I.cell, I.free, I.freeC, I.pin, I.hok, I.len⟩
theorem Inv.unwish (I : Inv (X.wish E) pins σ H s) : Inv X pins σ H s := ⟨I.ok.unwish, I.os, I.bare, I.base, I.loc, I.cell, I.free, I.freeC, I.pin, I.hok, I.len⟩
theorem SP.unwish {D : Ends} {f : Flow} {s' : Shared} (h : SP (X.wish E) pins D f s') : SP X pins D f s' := by
  cases f with
  | next => obtain ⟨σ', H', I, q⟩ := h; exact ⟨σ', H', I.unwish, q⟩
  | brk => obtain ⟨σ', H', I, q⟩ := h; exact ⟨σ', H', I.unwish, q⟩
  | cont => obtain ⟨σ', H', I, q⟩ := h; exact ⟨σ', H', I.unwish, q⟩
  | ret u => obtain ⟨v, σ', H', I, r, q⟩ := h; exact ⟨v, σ', H', I.unwish, r, q⟩
theorem PE.nox {e : Expr} {t : TE} (h : PE X.nox e t) : PE X e t := fun pins s σ H Q I hw =>
  wpAny_mono (h pins s σ H Q (I.wish _) hw) (fun _ _ ⟨v, H', I', r, q⟩ => ⟨v, H', I'.unwish, r, q⟩) fun _ _ z => False.elim z
theorem PT.nox {e : Expr} {t : TT} (h : PT X.nox e t) : PT X e t := fun pins s σ H Q I hw =>
  wpAny_mono (h pins s σ H Q (I.wish _) hw) (fun _ _ ⟨H', I', q⟩ => ⟨H', I'.unwish, q⟩) fun _ _ z => False.elim z
theorem PSs.nox {st : List Stmt} {t : TS} (h : PSs X.nox st t) : PSs X st t := fun pins s σ H D I hw =>
  wpAny_mono (h pins s σ H D (I.wish _) hw) (fun _ _ q => q.unwish) fun _ _ z => False.elim z
end

/-! ### blocks and small statements -/
section
variable {X : Cx} {st : Stmt} {rest : List Stmt} {t u : TS} {e : Expr} {te : TE} {pos : Pos}
def tNext : TS := fun D σ H => D.nx σ H
def tSeq (t u : TS) : TS := fun D σ H => t { D with nx := u D } σ H
theorem pss_nil : PSs X [] tNext := fun _ _ σ H _ I h => wpAny_execs_nil ⟨σ, H, I, h⟩
theorem pss_cons (h1 : PS X st t) (h2 : PSs X rest u) : PSs X (st :: rest) (tSeq t u) := by
  intro pins s σ H D I h
  refine wpAny_execs_cons (thn (h1 pins s σ H { D with nx := u D } I h) fun f s1 q => ?_)
  cases f with
  | next =>
    obtain ⟨σ', H', I', q⟩ := q
    exact h2 pins s1 σ' H' D I' q
  | ret v => exact q
  | brk => exact q
  | cont => exact q
theorem pss_one (h1 : PS X st t) : PSs X [st] t := by
  intro pins s σ H D I h
  refine wpAny_execs_cons (thn (h1 pins s σ H D I h) fun f s1 q => ?_)
  cases f with
  | next => exact wpAny_execs_nil q
  | ret v => exact q
  | brk => exact q
  | cont => exact q
def tBreak : TS := fun D σ H => D.bk σ H
def tCont : TS := fun D σ H => D.ct σ H
theorem ps_pass : PS X (.Pass pos) tNext := fun _ _ σ H _ I h => wpAny_Pass ⟨σ, H, I, h⟩
theorem ps_break : PS X (.Break pos) tBreak := fun _ _ σ H _ I h => wpAny_Break ⟨σ, H, I, h⟩
theorem ps_continue : PS X (.Continue pos) tCont := fun _ _ σ H _ I h => wpAny_Continue ⟨σ, H, I, h⟩
/-- in a def's body nothing is shown -/
theorem Inv.quiet {pins : List (Addr × Obj)} {σ : St} {H : Hp} {s : Shared} (I : Inv X pins σ H s) : interactive X.env = false := by simp [interactive, I.ok.kind]
/-- a docstring -/
theorem ps_doc {x j pos pos'} : PS X (.Expr (.Constant (.str x) j pos) pos') tNext := fun _ s σ H _ I h => wpAny_Expr (Calls.Constant_str (show SP X _ _ .next { s with toks := s.toks + 1 } from ⟨σ, H, I.tok _, h⟩)) I.quiet
/-- an expression whose value is dropped -/
def tDrop (te : TE) : TS := fun D σ H => te σ H fun _ H1 => D.nx σ H1
theorem ps_expr (he : PE X e te) (hs : swapsWith e none pos.line X.env = pure false := by rfl) : PS X (.Expr e pos) (tDrop te) := by
  intro pins s σ H D I h
  exact wpAny_Expr_any (thn (he pins s σ H _ I h) fun v s1 ⟨x, H1, I1, r1, q1⟩ => ⟨σ, H1, I1, q1⟩) I.quiet hs
def tRet (te : TE) : TS := fun D σ H => te σ H D.rt
theorem ps_ret (he : PE X e te) : PS X (.Return (some e) pos) (tRet te) := by
  intro pins s σ H D I h
  exact wpAny_Return_some (thn (he pins s σ H _ I h) fun v s1 ⟨x, H1, I1, r1, q1⟩ => ⟨x, σ, H1, I1, r1, q1⟩)
def tRetN : TS := fun D _ H => D.rt .non H
theorem ps_retN : PS X (.Return none pos) tRetN := fun _ _ σ H _ I h => wpAny_Return_none ⟨.non, σ, H, I, rfl, h⟩
def tIfS (c : TT) (t u : TS) : TS := fun D σ H => c σ H fun b H1 => if b = true then t D σ H1 else u D σ H1
theorem ps_if {c : Expr} {a b : List Stmt} {tc : TT} (hc : PT X c tc) (ha : PSs X a t) (hb : PSs X b u) : PS X (.If c a b pos) (tIfS tc t u) := by
  intro pins s σ H D I h
  refine wpAny_If (thn (hc pins s σ H _ I h) fun d s1 ⟨H1, I1, q1⟩ => ?_)
  cases d with
  | true => exact ha pins s1 σ H1 D I1 q1
  | false => exact hb pins s1 σ H1 D I1 q1
/-- code that the proof never comes to -/
def tNever : TS := fun _ _ _ => False
theorem ps_never : PS X st tNever := fun _ _ _ _ _ _ h => h.elim
theorem pss_never {sts : List Stmt} : PSs X sts tNever := fun _ _ _ _ _ _ h => h.elim
end

/-! ### targets -/
abbrev TG := V → St → Hp → (St → Hp → Prop) → Prop
abbrev TGs := List V → St → Hp → (St → Hp → Prop) → Prop
def PG (X : Cx) (target : Expr) (t : TG) : Prop :=
  ∀ (pins : List (Addr × Obj)) (s : Shared) (σ : St) (H : Hp) (v : V) (u : Value) (Q : St → Hp → Prop), Inv X pins σ H s → RelV v u → t v σ H Q →
    wpAny (model X.prog X.w) X.A (assign target X.env u) (fun _ s' => ∃ σ' H', Inv X pins σ' H' s' ∧ Q σ' H') X.xe s
/-- several targets, one after another -/
def PGs (X : Cx) (ts : List Expr) (t : TGs) : Prop :=
  ∀ (pins : List (Addr × Obj)) (s : Shared) (σ : St) (H : Hp) (vs : List V) (us : List Value) (Q : St → Hp → Prop), Inv X pins σ H s → Vals vs us → t vs σ H Q →
    wpAny (model X.prog X.w) X.A (assignInOrder ((assignEach ts X.env).map (·.2)) us) (fun _ s' => ∃ σ' H', Inv X pins σ' H' s' ∧ Q σ' H') X.xe s
/-- o[i] = v, by values -/
abbrev TSet := V → V → V → Hp → (Hp → Prop) → Prop
def PSet (X : Cx) (t : TSet) : Prop :=
  ∀ (pins : List (Addr × Obj)) (s : Shared) (σ : St) (H : Hp) (o i v : V) (ov iv u : Value) (Q : Hp → Prop), Inv X pins σ H s → RelV o ov → RelV i iv → RelV v u → t o i v H Q →
    wpAny (model X.prog X.w) X.A (setItem ov iv u) (fun _ s' => ∃ H', Inv X pins σ H' s' ∧ Q H') X.xe s
/-- a op= b, by values -/
abbrev TIp := V → V → Hp → VK → Prop
def PIp (X : Cx) (op : Operator) (t : TIp) : Prop :=
  ∀ (pins : List (Addr × Obj)) (s : Shared) (σ : St) (H : Hp) (x y : V) (v u : Value) (Q : VK), Inv X pins σ H s → RelV x v → RelV y u → t x y H Q →
    wpAny (model X.prog X.w) X.A (inplaceOp op v u) (EP X pins σ Q) X.xe s
section
variable {X : Cx} {pos : Pos}
def gName (i : Nat) : TG := fun v σ H Q => Q (σ.set i (some v)) H
theorem pg_name {i : Nat} {x : Str} (hN : X.N.Nodup) (hi : X.N[i]? = some x) (hx : Loc X.env.scope x) (hf : X.fn x = true ∨ X.env.scope.names.lookup x = some .local := by first | exact .inl rfl | exact .inr rfl | assumption) : PG X (.Name x pos) (gName i) := by
  intro pins s σ H v u Q I r h
  exact wpAny_assign_Name (store_ok I hN hi hx r (fun s' I' => ⟨_, H, I', h⟩) hf)
def gNil : TGs := fun vs σ H Q => vs = [] ∧ Q σ H
def gCons (t : TG) (u : TGs) : TGs := fun vs σ H Q => ∃ v r, vs = v :: r ∧ t v σ H fun σ' H' => u r σ' H' Q
theorem pgs_nil : PGs X [] gNil := by
  intro pins s σ H vs us Q I r h
  obtain ⟨e, h⟩ := h
  subst e
  cases r
  exact assignInOrder_nil ⟨σ, H, I, h⟩
theorem pgs_cons {e : Expr} {es : List Expr} {t : TG} {u : TGs} (h1 : PG X e t) (h2 : PGs X es u)
    (hs : (assignEach (e :: es) X.env).map (·.2) = assign e X.env :: (assignEach es X.env).map (·.2) := by rfl) : PGs X (e :: es) (gCons t u) := by
  intro pins s σ H vs us Q I r h
  obtain ⟨v, vr, e1, h⟩ := h
  subst e1
  cases r with
  | cons r rr =>
    rw [hs]
    refine assignInOrder_cons (thn (h1 pins s σ H _ _ _ I r h) fun _ s1 ⟨σ1, H1, I1, q1⟩ => ?_)
    exact h2 pins s1 σ1 H1 _ _ Q I1 rr q1
/-- (a, b, ..) = a tuple of that length -/
def gTup (K : PySem.W.Frag) (n : Nat) (t : TGs) : TG := fun v σ H Q => ∃ a xs, v = .ref a ∧ SqT K H a xs ∧ xs.length = n ∧ t xs σ H Q
theorem pg_tup {es : List Expr} {k : Nat} {t : TGs} {n : Nat} (hc : X.calm = true) (h : PGs X es t)
    (hn : (assignEach es X.env).length = n := by rfl) (hst : (assignEach es X.env).findIdx? (·.1) = none := by rfl) : PG X (.Tuple es k pos) (gTup X.K n t) := by
  intro pins s σ H v u Q I r hw
  obtain ⟨a, xs, e1, hq, hl, hw⟩ := hw
  subst e1
  cases r
  obtain ⟨its, rv, ht, hz⟩ := I.tuple hq
  refine assign_Tuple_tuple (I.ok.hd hc) ht (by simp [hn, ← hl, rv.length]) hst fun h' hx => ?_
  have I1 : Inv X pins σ H { s with heap := h' } := I.kept (t' := s.toks) fun b o e => hx b o (Nat.ne_of_lt (Heap.lt_size e)) e
  exact h pins _ σ H xs _ Q I1 (by simpa using rv) hw
/-- o[i] = .. -/
def gSub (to ti : TE) (t : TSet) : TG := fun v σ H Q => to σ H fun o H1 => ti σ H1 fun i H2 => t o i v H2 fun H3 => Q σ H3
theorem pg_sub {o i : Expr} {to ti : TE} {t : TSet} (ho : PE X o to) (hi : PE X i ti) (hs : PSet X t)
    (ha : ∀ v, assign (.Subscript o i pos) X.env v = (do
      let ov ← holding [v] (eval o X.env)
      let iv ← holding [v, ov] (eval i X.env)
      standAt pos
      holding [v, ov, iv] (setItem ov iv v)
      release [v, ov, iv] []) := by intro _; rfl) : PG X (.Subscript o i pos) (gSub to ti t) := by
  intro pins s σ H v u Q I r h
  rw [ha]
  refine wpAny_bind (wpAny_holding (thn (ho pins s σ H _ I h) fun ov s1 ⟨x, H1, I1, r1, q1⟩ => ?_))
  refine wpAny_bind (wpAny_holding (thn (hi pins s1 σ H1 _ I1 q1) fun iv s2 ⟨y, H2, I2, r2, q2⟩ => ?_))
  refine wpAny_bind (wpAny_standAt (wpAny_bind (wpAny_holding (thn (hs pins s2 σ H2 x y v ov iv u _ I2 r1 r2 r q2) fun _ s3 ⟨H3, I3, q3⟩ => ?_))))
  exact wpAny_release ⟨σ, H3, I3, q3⟩
/-- target = value -/
def tAsg (te : TE) (g : TG) : TS := fun D σ H => te σ H fun x H1 => g x σ H1 D.nx
theorem ps_asg {tg e : Expr} {te : TE} {g : TG} (he : PE X e te) (hg : PG X tg g) (hs : swapsWithSole [tg] e pos.line X.env = pure false := by rfl) (hw : swappedStores [tg] e X.env = pure none := by rfl)
    (h1 : (assignEach [tg] X.env).map (·.2) = [assign tg X.env] := by rfl) : PS X (.Assign [tg] e pos) (tAsg te g) := by
  intro pins s σ H D I h
  refine wpAny_Assign_stores (thn (he pins s σ H _ I h) fun v s1 ⟨x, H1, I1, r1, q1⟩ => ?_) hs hw
  rw [h1]
  exact thn (hg pins s1 σ H1 x v _ I1 r1 q1) fun _ s2 q => q
/-- name = value -/
theorem ps_set {i : Nat} {x : Str} {e : Expr} {te : TE} {pos' : Pos} (hN : X.N.Nodup) (hi : X.N[i]? = some x) (hx : Loc X.env.scope x) (he : PE X e te) (hs : swapsWith e (some (.Name x pos')) pos.line X.env = pure false := by rfl) (hf : X.fn x = true ∨ X.env.scope.names.lookup x = some .local := by first | exact .inl rfl | exact .inr rfl | assumption) :
    PS X (.Assign [.Name x pos'] e pos) (tAsg te (gName i)) := by
  intro pins s σ H D I h
  refine wpAny_Assign_Name (thn (he pins s σ H _ I h) fun v s1 ⟨y, H1, I1, r1, q1⟩ => ?_) hs
  exact store_ok I1 hN hi hx r1 (fun s2 I2 => ⟨_, H1, I2, q1⟩) hf
/-- a, b = x, y with plain local names: stored from the right; the pair itself is not tracked (the opening rows as in PyProof/Rows/TupAssign.lean:23) -/
def tPar (i j : Nat) (ta : TA) : TS := fun D σ H => ta σ H fun vs H1 => ∃ v w, vs = [v, w] ∧ D.nx ((σ.set i (some v)).set j (some w)) H1
theorem ps_par {i j : Nat} {x y : Str} {a b : Expr} {ta : TA} {px py pt : Pos} {kt k2 pt2} (hc : X.calm = true) (hN : X.N.Nodup) (hi : X.N[i]? = some x) (hj : X.N[j]? = some y) (hij : i ≠ j)
    (hx : X.env.scope.names.lookup x = some .local) (hy : X.env.scope.names.lookup y = some .local) (ha : PA X [a, b] ta)
    (hw : swappedStores [.Tuple [.Name x px, .Name y py] kt pt] (.Tuple [a, b] k2 pt2) X.env = pure (some [x, y]))
    (hs : swapsWithSole [.Tuple [.Name x px, .Name y py] kt pt] (.Tuple [a, b] k2 pt2) pos.line X.env = pure false := by rfl) :
    PS X (.Assign [.Tuple [.Name x px, .Name y py] kt pt] (.Tuple [a, b] k2 pt2) pos) (tPar i j ta) := by
  intro pins s σ H D I h
  rw [exec_Assign_arm]
  refine wpAny_bind (wpAny_standAt ?_)
  rw [hs]
  refine wpAny_bind (wpAny_pure ?_)
  rw [if_neg (by decide)]
  refine wpAny_bind (Tuple_ (thn (ha _ pins s σ H _ I h) fun us s1 ⟨vs, H1, I1, r1, q1⟩ => ?_))
  obtain ⟨v, w, e1, q1⟩ := q1
  subst e1
  obtain ⟨u1, u2, rfl, rv, rw'⟩ : ∃ u1 u2, us = [u1, u2] ∧ RelV v u1 ∧ RelV w u2 := by
    cases r1 with
    | cons p q =>
      cases q with
      | cons p' q' =>
        cases q'
        exact ⟨_, _, rfl, p, p'⟩
  refine wpAny_newObj_type ?_ (by show 2 ≤ sizeLine; decide)
  have I2 : Inv X pins σ H1 { s1 with heap := s1.heap.push { cls := .type "tuple", data := .seq [u1, u2].toArray } } := I1.kept (t' := s1.toks) fun b o e => Heap.get?_push_of_some _ e
  rw [hw]
  refine wpAny_bind (wpAny_pure ?_)
  show wpAny (model X.prog X.w) X.A (do rule "assign.swapped-stores"; let items ← unpackItems (.ref s1.heap.objs.size) 2 none; assignInOrder [fun v => bindName X.env y v, fun v => bindName X.env x v] items.reverse; pure Flow.next) _ _ _
  refine wpAny_bind (wpAny_rule (wpAny_bind (unpackItems_tuple (items := #[u1, u2]) (I.ok.hd hc) (IsTup.new s1.heap _) fun h' hx' => ?_)))
  have I3 := I2.kept (h' := h') (t' := s1.toks) fun b o e => hx' b o (Nat.ne_of_lt (Heap.lt_size e)) e
  show wpAny _ _ (assignInOrder [fun v => bindName X.env y v, fun v => bindName X.env x v] [u2, u1] >>= fun _ => pure Flow.next) _ _ _
  refine wpAny_bind (assignInOrder_cons (wpAny_bindName (store_ok I3 hN hj (.inl hy) rw' (fun s2 I4 => ?_) (.inr hy))))
  refine assignInOrder_cons (wpAny_bindName (store_ok I4 hN hi (.inl hx) rv (fun s3 I5 => assignInOrder_nil (wpAny_pure ?_)) (.inr hx)))
  rw [List.set_comm _ _ (Ne.symm hij)] at I5
  exact ⟨_, H1, I5, q1⟩
/-- name op= e -/
def tAug (i : Nat) (te : TE) (ti : TIp) : TS := fun D σ H => ∃ x, σ[i]? = some (some x) ∧ te σ H fun y H1 => ti x y H1 fun z H2 => D.nx (σ.set i (some z)) H2
theorem ps_aug {i : Nat} {x : Str} {e : Expr} {te : TE} {op : Operator} {ti : TIp} {pos' : Pos} (hN : X.N.Nodup) (hi : X.N[i]? = some x) (hx : Loc X.env.scope x) (he : PE X e te) (ho : PIp X op ti) (hf : X.fn x = true ∨ X.env.scope.names.lookup x = some .local := by first | exact .inl rfl | exact .inr rfl | assumption) :
    PS X (.AugAssign (.Name x pos') op e pos) (tAug i te ti) := by
  intro pins s σ H D I h
  obtain ⟨v, e1, h⟩ := h
  obtain ⟨m, hn, hl⟩ := I.loc
  have vis : Vis X.env.scope x := by rcases hx with k | k; exact .inl k; exact .inr (.inl k)
  obtain ⟨u, r, l⟩ := hl i x v hi e1 vis
  refine wpAny_AugAssign_Name ?_
  have go : wpAny (model X.prog X.w) X.A (eval e X.env) (fun w s₂ => wpAny (model X.prog X.w) X.A (inplaceOp op u w) (fun r s₃ => wpAny (model X.prog X.w) X.A (storeName X.env x r) (fun _ => SP X pins D .next) X.xe s₃) X.xe s₂) X.xe s := by
    refine thn (he pins s σ H _ I h) fun w s1 ⟨y, H1, I1, r1, q1⟩ => ?_
    refine thn (ho pins s1 σ H1 v y u w _ I1 r r1 q1) fun z s2 ⟨zv, H2, I2, r2, q2⟩ => ?_
    exact store_ok I2 hN hi hx r2 (fun s3 I3 => ⟨_, H2, I3, q2⟩) hf
  rcases l with ⟨hk, hm⟩ | ⟨hk, c, hc, hcell⟩
  · exact wpAny_loadName_local I.ok.kind hk hn hm go
  · rcases hk with hk | hk
    · exact wpAny_loadName_cell I.ok.kind hk hc hcell go
    · rcases hx with k | k
      · have : X.env.scope.names.lookup x = some .free := hk
        rw [k] at this; cases this
      · have : X.env.scope.names.lookup x = some .free := hk
        rw [k] at this; cases this
/-- o[i] op= e -/
def tAugS (to ti te : TE) (tget : V → V → Hp → VK → Prop) (tip : TIp) (tset : TSet) : TS := fun D σ H => to σ H fun o H1 => ti σ H1 fun i H2 => tget o i H2 fun x H3 => te σ H3 fun y H4 => tip x y H4 fun z H5 => tset o i z H5 fun H6 => D.nx σ H6
/-- o[i], by values -/
def PGet (X : Cx) (t : V → V → Hp → VK → Prop) : Prop :=
  ∀ (pins : List (Addr × Obj)) (s : Shared) (σ : St) (H : Hp) (o i : V) (ov iv : Value) (Q : VK), Inv X pins σ H s → RelV o ov → RelV i iv → t o i H Q →
    wpAny (model X.prog X.w) X.A (getItem ov iv) (EP X pins σ Q) X.xe s
theorem ps_augS {o i e : Expr} {to ti te : TE} {tget : V → V → Hp → VK → Prop} {tip : TIp} {tset : TSet} {op : Operator} {tpos : Pos} (ho : PE X o to) (hi : PE X i ti) (hg : PGet X tget) (he : PE X e te) (hp : PIp X op tip) (hs : PSet X tset)
    (ha : ∀ ov iv new, augStore i ov iv new = (do holding [new, ov, iv] (setItem ov iv new); release [new, ov, iv] []; pure .next) := by intros; rfl) : PS X (.AugAssign (.Subscript o i tpos) op e pos) (tAugS to ti te tget tip tset) := by
  intro pins s σ H D I h
  refine wpAny_AugAssign_SubscriptAny (thn (ho pins s σ H _ I h) fun ov s1 ⟨x1, H1, I1, r1, q1⟩ => ?_) ha
  refine thn (hi pins s1 σ H1 _ I1 q1) fun iv s2 ⟨x2, H2, I2, r2, q2⟩ => ?_
  refine thn (hg pins s2 σ H2 x1 x2 ov iv _ I2 r1 r2 q2) fun old s3 ⟨x3, H3, I3, r3, q3⟩ => ?_
  refine thn (he pins s3 σ H3 _ I3 q3) fun v s4 ⟨x4, H4, I4, r4, q4⟩ => ?_
  refine thn (hp pins s4 σ H4 x3 x4 old v _ I4 r3 r4 q4) fun new s5 ⟨x5, H5, I5, r5, q5⟩ => ?_
  exact thn (hs pins s5 σ H5 x1 x2 x5 ov iv new _ I5 r1 r2 r5 q5) fun _ s6 ⟨H6, I6, q6⟩ => ⟨σ, H6, I6, q6⟩
/-- ints -/
def ipI (f : Int → Int → Int) : TIp := fun x y H Q => ∃ i j, x = .int i ∧ y = .int j ∧ Q (.int (f i j)) H
theorem ip_add : PIp X .Add (ipI fun i j => i + j) := by
  intro pins s σ H x y v u Q I r1 r2 h
  obtain ⟨i, j, e1, e2, q⟩ := h
  subst e1; subst e2
  obtain ⟨t, rfl⟩ := r1
  obtain ⟨t', rfl⟩ := r2
  exact iadd_int ⟨.int _, H, I.tok _, ⟨_, rfl⟩, q⟩
theorem ip_sub : PIp X .Sub (ipI fun i j => i - j) := by
  intro pins s σ H x y v u Q I r1 r2 h
  obtain ⟨i, j, e1, e2, q⟩ := h
  subst e1; subst e2
  obtain ⟨t, rfl⟩ := r1
  obtain ⟨t', rfl⟩ := r2
  exact isub_int ⟨.int _, H, I.tok _, ⟨_, rfl⟩, q⟩
end

/-! ### while -/
section
variable {X : Cx} {pos : Pos}
/-- the invariant W with its measure -/
def tWhile (c : TT) (tb : TS) : TS := fun D σ H => ∃ W : Nat → St → Hp → Prop, (∃ m, W m σ H) ∧ ∀ m σ H, W m σ H →
  c σ H fun b H1 => if b = true then ∃ N : St → Hp → Prop, (∀ σ' H', N σ' H' → ∃ m', m' < m ∧ W m' σ' H') ∧ tb { D with nx := N, ct := N, bk := D.nx } σ H1 else D.nx σ H1
theorem ps_while {c : Expr} {body : List Stmt} {tc : TT} {tb : TS} (hp : PassesOwn (model X.prog X.w) X.A X.env X.xe) (hc : PT X c tc) (hb : PSs X body tb) : PS X (.While c body [] pos) (tWhile tc tb) := by
  intro pins s σ H D I h
  obtain ⟨W, ⟨m0, w0⟩, turn⟩ := h
  refine wpAny_While (codeAny_whileLoop (fun n s' => ∃ σ' H', Inv X pins σ' H' s' ∧ W n σ' H') ?_ m0 ⟨σ, H, I, w0⟩)
  rintro n s1 ⟨σ1, H1, I1, w1⟩
  refine wpAny_passesOwn hp (thn (hc pins s1 σ1 H1 _ I1 (turn n σ1 H1 w1)) fun b s2 ⟨H2, I2, q2⟩ => ?_)
  cases b with
  | true =>
    obtain ⟨N, hN, q2⟩ := q2
    rw [if_pos rfl]
    refine wpAny_passesOwn hp (thn (hb pins s2 σ1 H2 _ I2 q2) fun f s3 q3 => ?_)
    cases f with
    | next =>
      obtain ⟨σ3, H3, I3, n3⟩ := q3
      obtain ⟨m', hm, w3⟩ := hN σ3 H3 n3
      exact ⟨m', hm, σ3, H3, I3, w3⟩
    | cont =>
      obtain ⟨σ3, H3, I3, n3⟩ := q3
      obtain ⟨m', hm, w3⟩ := hN σ3 H3 n3
      exact ⟨m', hm, σ3, H3, I3, w3⟩
    | brk => exact q3
    | ret v => exact q3
  | false =>
    rw [if_neg Bool.false_ne_true]
    exact wpAny_execs_nil ⟨σ1, H2, I2, q2⟩
end

/-! ### what a loop or a comprehension walks -/
/-- at turn i: it yields x (the heap may grow), or it stops -/
structure It where
  go : Nat → Hp → Prop
  yld : Nat → Hp → V → Hp → Prop
  stop : Nat → Hp → Prop
/-- the iterator's own objects may turn: they are not the frame's, not pinned, younger than the entry (or a comprehension's own) -/
def FpOk (X : Cx) (pins : List (Addr × Obj)) (H : Hp) (b : Addr) : Prop :=
  H b = none ∧ b ≠ X.env.locals ∧ b ∉ X.fs ∧ (b ∈ X.ex ∨ X.s₀.heap.objs.size ≤ b) ∧ (∀ x c, X.env.cells.lookup x = some c → c ≠ b) ∧ ∀ p ∈ X.pn ++ pins, p.1 ≠ b
theorem Inv.fpOk {X : Cx} {pins : List (Addr × Obj)} {σ : St} {H H' : Hp} {s : Shared} {b : Addr} (I : Inv X pins σ H s) (hb : s.heap.objs.size ≤ b) (hn : H' b = none) : FpOk X pins H' b := by
  refine ⟨hn, Nat.ne_of_gt (Nat.lt_of_lt_of_le I.lt hb), I.nofs hb, .inr (Nat.le_trans I.sz hb), fun x c e z => ?_, fun p hp z => ?_⟩
  · obtain ⟨v, q⟩ := I.cell x c e
    exact absurd (Nat.lt_of_lt_of_le q.lt (by rw [z]; exact hb)) (Nat.lt_irrefl _)
  · exact absurd (Nat.lt_of_lt_of_le (Heap.lt_size (I.pin p hp).1) (by rw [z]; exact hb)) (Nat.lt_irrefl _)
structure Turn (P : Program) (w : World) (K : PySem.W.Frag) (tg : Expr) (J : It) (fp : List Addr) (it : Addr) (tn : Nat → Heap → Prop) : Prop where
  mem : it ∈ fp
  obj : ∀ i h, tn i h → ∀ b ∈ fp, ∃ o, h.get? b = some o ∧ ∀ v, o.data ≠ .cell v
  keep : ∀ i h h', tn i h → (∀ b ∈ fp, ∀ o, h.get? b = some o → h'.get? b = some o) → tn i h'
  item : ∀ (X : Cx), X.prog = P → X.w = w → X.K = K → X.calm = true → ∀ (i : Nat) (pins : List (Addr × Obj)) (s : Shared) (σ : St) (H : Hp) (E : Value → Shared → Prop), Inv X pins σ H s → (∀ b ∈ fp, FpOk X pins H b) → tn i s.heap → J.go i H →
    wpAny (model P w) X.A (pyNext (.ref it)) (fun r s1 => ∃ u, r = some u ∧
      wpAny (model P w) X.A (letOwnedTupleGo tg (.ref it) u) (fun _ s2 => ∃ x H', Inv X pins σ H' s2 ∧ RelV x u ∧ J.yld i H x H' ∧ tn (i + 1) s2.heap ∧ ∀ b ∈ fp, H' b = none) E s1) E s
  done : ∀ (X : Cx), X.prog = P → X.w = w → X.K = K → X.calm = true → ∀ (i : Nat) (pins : List (Addr × Obj)) (s : Shared) (σ : St) (H : Hp) (E : Value → Shared → Prop), Inv X pins σ H s → (∀ b ∈ fp, FpOk X pins H b) → tn i s.heap → J.stop i H →
    wpAny (model P w) X.A (pyNext (.ref it)) (fun r s1 => r = none ∧ Inv X pins σ H s1) E s
  self : ∀ (A : Around) (i : Nat) (s : Shared) (Q : Value → Shared → Prop) (E : Value → Shared → Prop), tn i s.heap → Q (.ref it) s → wpAny (model P w) A (pyIter (.ref it)) Q E s
abbrev TI := St → Hp → (It → Hp → Prop) → Prop
/-- an iterator has come -/
def PIE (X : Cx) (pins : List (Addr × Obj)) (σ : St) (tg : Expr) (R : It → Hp → Prop) (itv : Value) (s2 : Shared) : Prop :=
  ∃ (it : Addr) (fp : List Addr) (tn : Nat → Heap → Prop) (J : It) (H' : Hp), itv = .ref it ∧ Inv X pins σ H' s2 ∧ Turn X.prog X.w X.K tg J fp it tn ∧ tn 0 s2.heap ∧ (∀ b ∈ fp, FpOk X pins H' b) ∧ R J H'
def PI (X : Cx) (tg iter : Expr) (wi : TI) : Prop :=
  ∀ (pins : List (Addr × Obj)) (s : Shared) (σ : St) (H : Hp) (R : It → Hp → Prop), Inv X pins σ H s → wi σ H R →
    wpAny (model X.prog X.w) X.A (eval iter X.env) (fun v s1 => wpAny (model X.prog X.w) X.A (pyIter v) (PIE X pins σ tg R) X.xe s1) X.xe s

/-- the step ahead of the store is nothing for an iterator that keeps no tuple -/
theorem go_of {M : Model} {A : Around} {E : Value → Shared → Prop} {s : Shared} {tg : Expr} {it : Addr} {u : Value} {o : Obj} {n : String} {vs : Array Value} {Q : Unit → Shared → Prop} (ho : s.heap.get? it = some o) (hc : o.cls = .type n) (hd : o.data = .fields vs)
    (hn : ["enumerate", "zip", "dict_itemiterator", "dict_reverseitemiterator", "odict_iterator", "itertools.zip_longest", "itertools.pairwise"].contains n = false) (hQ : Q () s) : wpAny M A (letOwnedTupleGo tg (.ref it) u) Q E s := by
  unfold letOwnedTupleGo
  cases tg <;> first
    | exact wpAny_pure hQ
    | (cases u <;> first
        | exact wpAny_pure hQ
        | (refine wpAny_bind (wpAny_load ho ?_)
           rw [hc, hd]
           show wpAny M A (if (["enumerate", "zip", "dict_itemiterator", "dict_reverseitemiterator", "odict_iterator", "itertools.zip_longest", "itertools.pairwise"].contains n && vs[0]? == some (rawInt _)) = true then _ else _) Q E s
           rw [if_neg (by intro h; rw [hn, Bool.false_and] at h; cases h)]
           exact wpAny_pure hQ))

/-- the list at a, as it stands at each turn (a loop may append to it) -/
def Itl (K : PySem.W.Frag) (a : Addr) : It :=
  ⟨fun i H => ∃ xs x, SqL K H a xs ∧ xs[i]? = some x, fun i H x H' => H' = H ∧ ∀ xs, SqL K H a xs → xs[i]? = some x, fun i H => ∃ xs, SqL K H a xs ∧ xs.length ≤ i⟩
def Itt (K : PySem.W.Frag) (a : Addr) : It :=
  ⟨fun i H => ∃ xs x, SqT K H a xs ∧ xs[i]? = some x, fun i H x H' => H' = H ∧ ∀ xs, SqT K H a xs → xs[i]? = some x, fun i H => ∃ xs, SqT K H a xs ∧ xs.length ≤ i⟩
/-- lo, lo + 1, .. (n of them) -/
def Itr (lo : Int) (n : Nat) : It := ⟨fun i _ => i < n, fun i H x H' => H' = H ∧ x = .int (lo + i), fun i _ => n ≤ i⟩
theorem turn_list {P : Program} {w : World} {K : PySem.W.Frag} {tg : Expr} (a it : Addr) : Turn P w K tg (Itl K a) [it] it (fun i h => h.IsListIter it a i) where
  mem := by simp
  obj := fun i h st b hb => by
    have e : b = it := by simpa using hb
    subst e
    obtain ⟨o, e, c, d⟩ := st
    exact ⟨o, e, fun v z => by rw [d] at z; cases z⟩
  keep := fun i h h' st k => st.at fun o e => k it (by simp) o e
  item := by
    intro X hP hw hK hc i pins s σ H E I hf st hg
    subst hP hw hK
    obtain ⟨xs, x, hq, hx⟩ := hg
    obtain ⟨its, rv, p, hz⟩ := I.list hq
    obtain ⟨u, hu, ru⟩ := rv.get hx
    obtain ⟨f0, f1, f2, f3, f4, f5⟩ := hf it (by simp)
    refine wpAny_pyNext_list_item st p.isList (x := u) (by simpa using hu) fun h' st' sb => ?_
    have I1 : Inv X pins σ H { s with heap := h' } := I.turned (t' := s.toks) (fun b o hb e => (sb.2 b hb).trans e) f0 f1 f3 f4 f5
    obtain ⟨o, e, c, d⟩ := id st'
    exact ⟨u, rfl, go_of (s := { s with heap := h' }) e c d (by decide) ⟨x, H, I1, ru, ⟨rfl, fun ys hy => by rw [I.list_inj hy hq]; exact hx⟩, st', fun b hb => (hf b hb).1⟩⟩
  done := by
    intro X hP hw hK hc i pins s σ H E I hf st hg
    subst hP hw hK
    obtain ⟨xs, hq, hx⟩ := hg
    obtain ⟨its, rv, p, hz⟩ := I.list hq
    obtain ⟨f0, f1, f2, f3, f4, f5⟩ := hf it (by simp)
    have hl := rv.length
    exact wpAny_pyNext_list_end (I.ok.hd hc) st p.isList (by simp; omega) fun h' eb => ⟨rfl, I.turned (t' := s.toks) (fun b o hb e => eb b o hb e) f0 f1 f3 f4 f5⟩
  self := fun _ _ _ _ _ st h => wpAny_pyIter_listiter st h
theorem turn_tuple {P : Program} {w : World} {K : PySem.W.Frag} {tg : Expr} (a it : Addr) : Turn P w K tg (Itt K a) [it] it (fun i h => h.IsTupleIter it a i) where
  mem := by simp
  obj := fun i h st b hb => by
    have e : b = it := by simpa using hb
    subst e
    obtain ⟨o, e, c, d⟩ := st
    exact ⟨o, e, fun v z => by rw [d] at z; cases z⟩
  keep := fun i h h' st k => st.at fun o e => k it (by simp) o e
  item := by
    intro X hP hw hK hc i pins s σ H E I hf st hg
    subst hP hw hK
    obtain ⟨xs, x, hq, hx⟩ := hg
    obtain ⟨its, rv, p, hz⟩ := I.tuple hq
    obtain ⟨u, hu, ru⟩ := rv.get hx
    obtain ⟨f0, f1, f2, f3, f4, f5⟩ := hf it (by simp)
    refine wpAny_pyNext_tuple_item st (show s.heap.IsTuple a its.toArray from p) (x := u) (by simpa using hu) fun h' st' sb => ?_
    have I1 : Inv X pins σ H { s with heap := h' } := I.turned (t' := s.toks) (fun b o hb e => (sb.2 b hb).trans e) f0 f1 f3 f4 f5
    obtain ⟨o, e, c, d⟩ := id st'
    exact ⟨u, rfl, go_of (s := { s with heap := h' }) e c d (by decide) ⟨x, H, I1, ru, ⟨rfl, fun ys hy => by rw [I.tuple_inj hy hq]; exact hx⟩, st', fun b hb => (hf b hb).1⟩⟩
  done := by
    intro X hP hw hK hc i pins s σ H E I hf st hg
    subst hP hw hK
    obtain ⟨xs, hq, hx⟩ := hg
    obtain ⟨its, rv, p, hz⟩ := I.tuple hq
    obtain ⟨f0, f1, f2, f3, f4, f5⟩ := hf it (by simp)
    have hl := rv.length
    exact wpAny_pyNext_tuple_end (I.ok.hd hc) st (show s.heap.IsTuple a its.toArray from p) (by simp; omega) fun h' eb => ⟨rfl, I.turned (t' := s.toks) (fun b o hb e => eb b o hb e) f0 f1 f3 f4 f5⟩
  self := fun _ _ _ _ _ st h => wpAny_pyIter_tupleiter st h
theorem turn_range {P : Program} {w : World} {K : PySem.W.Frag} {tg : Expr} (it : Addr) (lo : Int) (n : Nat) : Turn P w K tg (Itr lo n) [it] it (fun i h => IsRangeIter h it (lo + (i : Nat) * 1) ((n : Int) - (i : Nat)) 1) where
  mem := by simp
  obj := fun i h st b hb => by
    have e : b = it := by simpa using hb
    subst e
    exact ⟨_, st, fun v z => by
      have z' : Data.fields _ = Data.cell v := z
      cases z'⟩
  keep := fun i h h' st k => k it (by simp) _ st
  item := by
    intro X hP hw hK hc i pins s σ H E I hf st hg
    subst hP hw hK
    obtain ⟨f0, f1, f2, f3, f4, f5⟩ := hf it (by simp)
    have W := Walks.range (prog := X.prog) (w := X.w) (I.ok.hd hc) it lo 1 n
    refine W.item i s _ _ hg st fun v h' tk hv st' kk => ?_
    obtain ⟨t, rfl⟩ := hv
    have I1 : Inv X pins σ H { s with heap := h', toks := tk } := I.turned (fun b o hb e => kk b o (by simpa using hb) e) f0 f1 f3 f4 f5
    refine ⟨_, rfl, go_of (s := { s with heap := h', toks := tk }) (n := "range_iterator") st' rfl rfl (by decide) ⟨.int (lo + i), H, I1, ⟨t, ?_⟩, ⟨rfl, rfl⟩, st', fun b hb => (hf b hb).1⟩⟩
    rw [Int.mul_one]
  done := by
    intro X hP hw hK hc i pins s σ H E I hf st hg
    subst hP hw hK
    obtain ⟨f0, f1, f2, f3, f4, f5⟩ := hf it (by simp)
    exact wpAny_pyNext_range_end (I.ok.hd hc) st (by have : n ≤ i := hg; omega) fun h' eb => ⟨rfl, I.turned (t' := s.toks) (fun b o hb e => eb b o hb e) f0 f1 f3 f4 f5⟩
  self := fun _ _ _ _ _ st h => wpAny_pyIter_rangeiter st h
end L2

namespace L2
open PySem PySem.Spec PyProof.Rows
section
variable {X : Cx} {tg : Expr}
def iList (K : PySem.W.Frag) (tl : TE) : TI := fun σ H R => tl σ H fun x H1 => ∃ a, x = .ref a ∧ (∃ xs, SqL K H1 a xs) ∧ R (Itl K a) H1
def iTup (K : PySem.W.Frag) (tl : TE) : TI := fun σ H R => tl σ H fun x H1 => ∃ a, x = .ref a ∧ (∃ xs, SqT K H1 a xs) ∧ R (Itt K a) H1
theorem pi_list {l : Expr} {tl : TE} (hl : PE X l tl) : PI X tg l (iList X.K tl) := by
  intro pins s σ H R I h
  refine thn (hl pins s σ H _ I h) fun v s1 ⟨x, H1, I1, r1, q1⟩ => ?_
  obtain ⟨a, e, ⟨xs, hq⟩, q⟩ := q1
  subst e
  cases r1
  obtain ⟨its, rv, p, hz⟩ := I1.list hq
  refine wpAny_pyIter_list p.isList ?_
  refine ⟨s1.heap.objs.size, [s1.heap.objs.size], _, _, H1, rfl, I1.kept (t' := s1.toks) fun b o e => Heap.get?_push_of_some _ e, turn_list a _, ⟨_, Heap.get?_push_size _ rfl, rfl, rfl⟩, fun b hb => ?_, q⟩
  have e : b = s1.heap.objs.size := by simpa using hb
  subst e
  exact I1.fpOk (Nat.le_refl _) (I1.hok.fresh (Nat.le_refl _))
theorem pi_tup {l : Expr} {tl : TE} (hl : PE X l tl) : PI X tg l (iTup X.K tl) := by
  intro pins s σ H R I h
  refine thn (hl pins s σ H _ I h) fun v s1 ⟨x, H1, I1, r1, q1⟩ => ?_
  obtain ⟨a, e, ⟨xs, hq⟩, q⟩ := q1
  subst e
  cases r1
  obtain ⟨its, rv, p, hz⟩ := I1.tuple hq
  refine wpAny_pyIter_tuple (show s1.heap.IsTuple a its.toArray from p) ?_
  refine ⟨s1.heap.objs.size, [s1.heap.objs.size], _, _, H1, rfl, I1.kept (t' := s1.toks) fun b o e => Heap.get?_push_of_some _ e, turn_tuple a _, ⟨_, Heap.get?_push_size _ rfl, rfl, rfl⟩, fun b hb => ?_, q⟩
  have e : b = s1.heap.objs.size := by simpa using hb
  subst e
  exact I1.fpOk (Nat.le_refl _) (I1.hok.fresh (Nat.le_refl _))
/-- a range object just made, walked -/
theorem range_it {pins : List (Addr × Obj)} {σ : St} {H : Hp} {s : Shared} {R : It → Hp → Prop} {E : Value → Shared → Prop} {lo hi : Int} {t u v : Tok} {tk : Nat} (I : Inv X pins σ H s) (h1 : -(2 ^ 62) ≤ lo) (h2 : lo < 2 ^ 62) (h3 : -(2 ^ 62) ≤ hi) (h4 : hi < 2 ^ 62)
    (q : R (Itr lo (hi - lo).toNat) H) : wpAny (model X.prog X.w) X.A (pyIter (.ref s.heap.objs.size)) (PIE X pins σ tg R) E { s with heap := s.heap.push { cls := .type "range", data := .fields #[.int lo t, .int hi u, .int 1 v] }, toks := tk } := by
  refine wpAny_pyIter_range (IsRange.new ..) (small_one h1 h2 h3 h4) ?_
  have I1 : Inv X pins σ H { s with heap := s.heap.push { cls := .type "range", data := .fields #[.int lo t, .int hi u, .int 1 v] }, toks := tk } := I.kept fun b o e => Heap.get?_push_of_some _ e
  refine ⟨(s.heap.push { cls := .type "range", data := .fields #[.int lo t, .int hi u, .int 1 v] }).objs.size, [(s.heap.push { cls := .type "range", data := .fields #[.int lo t, .int hi u, .int 1 v] }).objs.size], _, _, H, rfl,
    I1.kept (t' := tk) fun b o e => Heap.get?_push_of_some _ e, turn_range _ lo (hi - lo).toNat, ?_, fun b hb => ?_, q⟩
  · have e1 : lo + ((0 : Nat) : Int) * 1 = lo := by simp
    have e2 : (((hi - lo).toNat : Nat) : Int) - ((0 : Nat) : Int) = Builtin.Range.rangeSize lo hi 1 := by rw [rangeSize_one]; split <;> omega
    show IsRangeIter _ _ (lo + ((0 : Nat) : Int) * 1) ((((hi - lo).toNat : Nat) : Int) - ((0 : Nat) : Int)) 1
    rw [e1, e2]
    exact Heap.get?_push_size _ rfl
  · have e : b = (s.heap.push { cls := .type "range", data := .fields #[.int lo t, .int hi u, .int 1 v] }).objs.size := by simpa using hb
    subst e
    exact I1.fpOk (Nat.le_refl _) (I1.hok.fresh (Nat.le_refl _))
def iRng1 (ta : TA) : TI := fun σ H R => ta σ H fun vs H1 => ∃ j : Int, vs = [.int j] ∧ -(2 ^ 62) ≤ j ∧ j < 2 ^ 62 ∧ R (Itr 0 j.toNat) H1
def iRng2 (ta : TA) : TI := fun σ H R => ta σ H fun vs H1 => ∃ i j : Int, vs = [.int i, .int j] ∧ (-(2 ^ 62) ≤ i ∧ i < 2 ^ 62 ∧ -(2 ^ 62) ≤ j ∧ j < 2 ^ 62) ∧ R (Itr i (j - i).toNat) H1
theorem pi_range1 {a : Expr} {ta : TA} {p pos : Pos} (hg : Gl X "range") (hm : X.mg "range" = none) (ha : PA X [a] ta) (hs : starEach [a] X.env = [(false, eval a X.env)] := by rfl) : PI X tg (.Call (.Name "range" p) [a] [] pos) (iRng1 ta) := by
  intro pins s σ H R I h
  refine Call_ (ld_blt I hg hm boot_range (PyProof.Rows.callWith_type1 (thn (ha pos pins s σ H _ I h) fun us s1 ⟨vs, H1, I1, r1, q1⟩ => ?_) hs rfl))
  obtain ⟨j, e, q1, q2, q⟩ := q1
  subst e
  cases r1 with
  | cons r rr =>
    cases rr
    obtain ⟨t, rfl⟩ := r
    exact call_range_1 (range_it I1 (by omega) (by omega) q1 q2 (by simpa using q))
theorem pi_range2 {a b : Expr} {ta : TA} {p pos : Pos} (hg : Gl X "range") (hm : X.mg "range" = none) (ha : PA X [a, b] ta) (hs : starEach [a, b] X.env = [(false, eval a X.env), (false, eval b X.env)] := by rfl) (hs2 : starEach [b] X.env = [(false, eval b X.env)] := by rfl) :
    PI X tg (.Call (.Name "range" p) [a, b] [] pos) (iRng2 ta) := by
  intro pins s σ H R I h
  refine Call_ (ld_blt I hg hm boot_range (PyProof.Rows.callWith_type1 (thn (ha pos pins s σ H _ I h) fun us s1 ⟨vs, H1, I1, r1, q1⟩ => ?_) (by rw [hs, hs2]) (by rw [hs2]; rfl)))
  obtain ⟨i, j, e, ⟨q1, q2, q3, q4⟩, q⟩ := q1
  subst e
  cases r1 with
  | cons r rr =>
    cases rr with
    | cons r' rr =>
      cases rr
      obtain ⟨t, rfl⟩ := r
      obtain ⟨t', rfl⟩ := r'
      exact call_range_2 (range_it I1 q1 q2 q3 q4 q)

/-! ### for -/
/-- W: the invariant by the turn and a measure; N: what the body is to reach -/
def tFor (wi : TI) (g : TG) (tb : TS) : TS := fun D σ H => wi σ H fun J H1 => ∃ W : Nat → Nat → St → Hp → Prop, (∃ m, W 0 m σ H1) ∧ ∀ i m σ H, W i m σ H →
  (J.stop i H ∧ D.nx σ H) ∨ (J.go i H ∧ ∃ N : St → Hp → Prop, (∀ σ' H', N σ' H' → ∃ m', m' < m ∧ W (i + 1) m' σ' H') ∧ ∀ x H', J.yld i H x H' → g x σ H' fun σ2 H2 => tb { D with nx := N, ct := N, bk := D.nx } σ2 H2)
/-- the records at fp as they stand -/
def pinsAt (fp : List Addr) (h : Heap) : List (Addr × Obj) := fp.filterMap fun b => (h.get? b).map fun o => (b, o)
theorem mem_pinsAt {fp : List Addr} {h : Heap} {b : Addr} {o : Obj} (hb : b ∈ fp) (e : h.get? b = some o) : (b, o) ∈ pinsAt fp h := List.mem_filterMap.mpr ⟨b, hb, by rw [e]; rfl⟩
theorem of_pinsAt {fp : List Addr} {h : Heap} {p : Addr × Obj} (hp : p ∈ pinsAt fp h) : p.1 ∈ fp ∧ h.get? p.1 = some p.2 := by
  obtain ⟨b, hb, e⟩ := List.mem_filterMap.mp hp
  cases q : h.get? b with
  | none => rw [q] at e; cases e
  | some o =>
    rw [q] at e
    have e' : (b, o) = p := Option.some.inj e
    subst e'
    exact ⟨hb, q⟩
theorem Inv.pinned {pins : List (Addr × Obj)} {σ : St} {H : Hp} {s : Shared} {fp : List Addr} (I : Inv X pins σ H s) (hf : ∀ b ∈ fp, FpOk X pins H b) (ho : ∀ b ∈ fp, ∃ o, s.heap.get? b = some o ∧ ∀ v, o.data ≠ .cell v) : Inv X (pins ++ pinsAt fp s.heap) σ H s :=
  I.pins_of fun p hp => (List.mem_append.mp hp).elim (fun z => I.pin p (List.mem_append_right _ z)) fun z => by
    obtain ⟨hb, e⟩ := of_pinsAt z
    obtain ⟨f0, f1, f2, _⟩ := hf p.1 hb
    obtain ⟨o, e', d⟩ := ho p.1 hb
    rw [e] at e'; cases e'
    exact ⟨e, f0, f1, f2, d⟩
theorem Inv.unpinned {pins pl : List (Addr × Obj)} {σ : St} {H : Hp} {s : Shared} (I : Inv X (pins ++ pl) σ H s) : Inv X pins σ H s := I.pins_of fun p hp => I.pin p (List.mem_append_right _ (List.mem_append_left _ hp))
theorem ps_for {iter : Expr} {body : List Stmt} {wi : TI} {g : TG} {tb : TS} {pos : Pos} (hp : PassesOwn (model X.prog X.w) X.A X.env X.xe) (hc : X.calm = true) (hi : PI X tg iter wi) (hg : PG X tg g) (hb : PSs X body tb)
    (hs : ∀ x, foldedSetIterable iter X.env x = pure x := by intro _; rfl) : PS X (.For tg iter body [] pos) (tFor wi g tb) := by
  intro pins s σ H D I h
  refine wpAny_For (thn (hi pins s σ H _ I h) fun v s1 h1 => thn h1 fun itv s2 h2 => ?_) hs
  obtain ⟨it, fp, tn, J, H2, e, I2, T, st2, f2, W, ⟨m0, w0⟩, turn⟩ := h2
  subst e
  -- what stays true of the iterator's objects through the loop
  have stat : ∀ {H' : Hp}, (∀ b ∈ fp, H' b = none) → ∀ b ∈ fp, FpOk X pins H' b := fun hn b hb => ⟨hn b hb, (f2 b hb).2⟩
  refine codeAny_forLoop_any (fun n s' => ∃ i σ' H', Inv X pins σ' H' s' ∧ tn i s'.heap ∧ (∀ b ∈ fp, H' b = none) ∧ W i n σ' H') ?_ m0 ⟨0, σ, H2, I2, st2, fun b hb => (f2 b hb).1, w0⟩
  rintro n s3 ⟨i, σ3, H3, I3, st3, fr3, w3⟩
  rcases turn i n σ3 H3 w3 with ⟨stop, qn⟩ | ⟨go, N, hN, step⟩
  · refine wpAny_passesOwn hp (thn (T.done X rfl rfl rfl hc i pins s3 σ3 H3 X.xe I3 (stat fr3) st3 stop) fun r s4 ⟨hr, I4⟩ => ?_)
    subst hr
    exact wpAny_execs_nil ⟨σ3, H3, I4, qn⟩
  · refine wpAny_passesOwn hp (thn (T.item X rfl rfl rfl hc i pins s3 σ3 H3 X.xe I3 (stat fr3) st3 go) fun r s4 ⟨u, hr, h4⟩ => ?_)
    subst hr
    refine wpAny_passesOwn hp (thn h4 fun _ s5 ⟨x, H5, I5, r5, y5, st5, fr5⟩ => ?_)
    have I5' := I5.pinned (stat fr5) (T.obj _ _ st5)
    refine wpAny_passesOwn hp (thn (hg _ s5 σ3 H5 x u _ I5' r5 (step x H5 y5)) fun _ s6 ⟨σ6, H6, I6, q6⟩ => ?_)
    refine wpAny_passesOwn hp (thn (hb _ s6 σ6 H6 _ I6 q6) fun f s7 q7 => ?_)
    have again : ∀ {σ7 : St} {H7 : Hp}, Inv X (pins ++ pinsAt fp s5.heap) σ7 H7 s7 → N σ7 H7 → ∃ m, m < n ∧ ∃ i σ' H', Inv X pins σ' H' s7 ∧ tn i s7.heap ∧ (∀ b ∈ fp, H' b = none) ∧ W i m σ' H' := fun {σ7 H7} I7 n7 => by
      obtain ⟨m', hm, w7⟩ := hN σ7 H7 n7
      refine ⟨m', hm, i + 1, σ7, H7, I7.unpinned, T.keep _ _ _ st5 fun b hb o e => (I7.pin (b, o) (List.mem_append_right _ (List.mem_append_right _ (mem_pinsAt hb e)))).1, fun b hb => ?_, w7⟩
      obtain ⟨o, e, d⟩ := T.obj _ _ st5 b hb
      exact (I7.pin (b, o) (List.mem_append_right _ (List.mem_append_right _ (mem_pinsAt hb e)))).2.1
    cases f with
    | next => obtain ⟨σ7, H7, I7, n7⟩ := q7; exact again I7 n7
    | cont => obtain ⟨σ7, H7, I7, n7⟩ := q7; exact again I7 n7
    | brk => obtain ⟨σ7, H7, I7, q7⟩ := q7; exact ⟨σ7, H7, I7.unpinned, q7⟩
    | ret v => obtain ⟨x7, σ7, H7, I7, r7, q7⟩ := q7; exact ⟨x7, σ7, H7, I7.unpinned, r7, q7⟩
end

/-! ### the forms one uses -/
/-- over a list that the body leaves as it is -/
theorem for_list {K : PySem.W.Frag} {a : Addr} {xs : List V} {g : TG} {tb : TS} {D : Ends} {σ : St} {H : Hp} (Pv : Nat → St → Hp → Prop) (h0 : Pv 0 σ H) (hl : ∀ i σ H, i ≤ xs.length → Pv i σ H → SqL K H a xs)
    (hs : ∀ i x σ H, xs[i]? = some x → Pv i σ H → g x σ H fun σ2 H2 => tb { D with nx := Pv (i + 1), ct := Pv (i + 1), bk := D.nx } σ2 H2) (hd : ∀ σ H, Pv xs.length σ H → D.nx σ H) :
    ∃ W : Nat → Nat → St → Hp → Prop, (∃ m, W 0 m σ H) ∧ ∀ i m σ H, W i m σ H →
      ((Itl K a).stop i H ∧ D.nx σ H) ∨ ((Itl K a).go i H ∧ ∃ N : St → Hp → Prop, (∀ σ' H', N σ' H' → ∃ m', m' < m ∧ W (i + 1) m' σ' H') ∧ ∀ x H', (Itl K a).yld i H x H' → g x σ H' fun σ2 H2 => tb { D with nx := N, ct := N, bk := D.nx } σ2 H2) := by
  refine ⟨fun i m σ H => m = xs.length - i ∧ i ≤ xs.length ∧ Pv i σ H, ⟨xs.length, by simp, Nat.zero_le _, h0⟩, ?_⟩
  rintro i m σ H ⟨rfl, hi, p⟩
  have q := hl i σ H hi p
  by_cases hlt : i < xs.length
  · refine .inr ⟨⟨xs, xs[i], q, by simp [hlt]⟩, Pv (i + 1), fun σ' H' p' => ⟨xs.length - (i + 1), by omega, rfl, hlt, p'⟩, fun x H' y => ?_⟩
    obtain ⟨e, y⟩ := y
    subst e
    exact hs i x σ _ (y xs q) p
  · have e : i = xs.length := by omega
    subst e
    exact .inl ⟨⟨xs, q, Nat.le_refl _⟩, hd σ H p⟩
theorem for_tup {K : PySem.W.Frag} {a : Addr} {xs : List V} {g : TG} {tb : TS} {D : Ends} {σ : St} {H : Hp} (Pv : Nat → St → Hp → Prop) (h0 : Pv 0 σ H) (hl : ∀ i σ H, i ≤ xs.length → Pv i σ H → SqT K H a xs)
    (hs : ∀ i x σ H, xs[i]? = some x → Pv i σ H → g x σ H fun σ2 H2 => tb { D with nx := Pv (i + 1), ct := Pv (i + 1), bk := D.nx } σ2 H2) (hd : ∀ σ H, Pv xs.length σ H → D.nx σ H) :
    ∃ W : Nat → Nat → St → Hp → Prop, (∃ m, W 0 m σ H) ∧ ∀ i m σ H, W i m σ H →
      ((Itt K a).stop i H ∧ D.nx σ H) ∨ ((Itt K a).go i H ∧ ∃ N : St → Hp → Prop, (∀ σ' H', N σ' H' → ∃ m', m' < m ∧ W (i + 1) m' σ' H') ∧ ∀ x H', (Itt K a).yld i H x H' → g x σ H' fun σ2 H2 => tb { D with nx := N, ct := N, bk := D.nx } σ2 H2) := by
  refine ⟨fun i m σ H => m = xs.length - i ∧ i ≤ xs.length ∧ Pv i σ H, ⟨xs.length, by simp, Nat.zero_le _, h0⟩, ?_⟩
  rintro i m σ H ⟨rfl, hi, p⟩
  have q := hl i σ H hi p
  by_cases hlt : i < xs.length
  · refine .inr ⟨⟨xs, xs[i], q, by simp [hlt]⟩, Pv (i + 1), fun σ' H' p' => ⟨xs.length - (i + 1), by omega, rfl, hlt, p'⟩, fun x H' y => ?_⟩
    obtain ⟨e, y⟩ := y
    subst e
    exact hs i x σ _ (y xs q) p
  · have e : i = xs.length := by omega
    subst e
    exact .inl ⟨⟨xs, q, Nat.le_refl _⟩, hd σ H p⟩
theorem for_range {lo : Int} {n : Nat} {g : TG} {tb : TS} {D : Ends} {σ : St} {H : Hp} (Pv : Nat → St → Hp → Prop) (h0 : Pv 0 σ H)
    (hs : ∀ i σ H, i < n → Pv i σ H → g (.int (lo + i)) σ H fun σ2 H2 => tb { D with nx := Pv (i + 1), ct := Pv (i + 1), bk := D.nx } σ2 H2) (hd : ∀ σ H, Pv n σ H → D.nx σ H) :
    ∃ W : Nat → Nat → St → Hp → Prop, (∃ m, W 0 m σ H) ∧ ∀ i m σ H, W i m σ H →
      ((Itr lo n).stop i H ∧ D.nx σ H) ∨ ((Itr lo n).go i H ∧ ∃ N : St → Hp → Prop, (∀ σ' H', N σ' H' → ∃ m', m' < m ∧ W (i + 1) m' σ' H') ∧ ∀ x H', (Itr lo n).yld i H x H' → g x σ H' fun σ2 H2 => tb { D with nx := N, ct := N, bk := D.nx } σ2 H2) := by
  refine ⟨fun i m σ H => m = n - i ∧ i ≤ n ∧ Pv i σ H, ⟨n, by simp, Nat.zero_le _, h0⟩, ?_⟩
  rintro i m σ H ⟨rfl, hi, p⟩
  by_cases hlt : i < n
  · refine .inr ⟨hlt, Pv (i + 1), fun σ' H' p' => ⟨n - (i + 1), by omega, rfl, hlt, p'⟩, fun x H' y => ?_⟩
    obtain ⟨e, y⟩ := y
    subst e y
    exact hs i σ _ hlt p
  · have e : i = n := by omega
    subst e
    exact .inl ⟨Nat.le_refl _, hd σ H p⟩
/-- while, by a word and a measure of the state -/
theorem while_by {c : TT} {tb : TS} {D : Ends} {σ : St} {H : Hp} (Pv : St → Hp → Prop) (μ : St → Hp → Nat) (h0 : Pv σ H)
    (hs : ∀ σ H, Pv σ H → c σ H fun b H1 => if b = true then tb { D with nx := fun σ' H' => Pv σ' H' ∧ μ σ' H' < μ σ H, ct := fun σ' H' => Pv σ' H' ∧ μ σ' H' < μ σ H, bk := D.nx } σ H1 else D.nx σ H1)
    (mono : ∀ σ H Q Q', (∀ b H1, Q b H1 → Q' b H1) → c σ H Q → c σ H Q') : tWhile c tb D σ H := by
  refine ⟨fun m σ H => m = μ σ H ∧ Pv σ H, ⟨_, rfl, h0⟩, ?_⟩
  rintro m σ H ⟨rfl, p⟩
  refine mono σ H _ _ (fun b H1 q => ?_) (hs σ H p)
  cases b with
  | true => exact ⟨_, fun σ' H' ⟨p', l⟩ => ⟨_, l, rfl, p'⟩, q⟩
  | false => exact q
end L2

namespace L2
open PySem PySem.Spec PyProof.Rows

abbrev R2 := V → V → Hp → VK → Prop
/-- a two-place operation on values: f is binaryOp op, inplaceOp op or compareOp op -/
def OpR (X : Cx) (f : Value → Value → Sem Value) (r : R2) : Prop :=
  ∀ (pins : List (Addr × Obj)) (s : Shared) (σ : St) (H : Hp) (x y : V) (v u : Value) (Q : VK), Inv X pins σ H s → RelV x v → RelV y u → r x y H Q →
    wpAny (model X.prog X.w) X.A (f v u) (EP X pins σ Q) X.xe s
/-- a one-place operation -/
def UnR (X : Cx) (f : Value → Sem Value) (r : V → Hp → VK → Prop) : Prop :=
  ∀ (pins : List (Addr × Obj)) (s : Shared) (σ : St) (H : Hp) (x : V) (v : Value) (Q : VK), Inv X pins σ H s → RelV x v → r x H Q →
    wpAny (model X.prog X.w) X.A (f v) (EP X pins σ Q) X.xe s
/-- a call of a value that is known (a builtin, a type) with values -/
def CallR (X : Cx) (f : Value) (r : List V → Hp → VK → Prop) : Prop :=
  ∀ (pins : List (Addr × Obj)) (s : Shared) (σ : St) (H : Hp) (xs : List V) (us : List Value) (Q : VK), Inv X pins σ H s → Vals xs us → r xs H Q →
    wpAny (model X.prog X.w) X.A (call f us) (EP X pins σ Q) X.xe s
/-- a value's truth -/
def TruR (X : Cx) (r : V → Hp → (Bool → Hp → Prop) → Prop) : Prop :=
  ∀ (pins : List (Addr × Obj)) (s : Shared) (σ : St) (H : Hp) (x : V) (v : Value) (Q : Bool → Hp → Prop), Inv X pins σ H s → RelV x v → r x H Q →
    wpAny (model X.prog X.w) X.A (truthy v) (TP X pins σ Q) X.xe s

def tOp (r : R2) (ta tb : TE) : TE := fun σ H Q => ta σ H fun x H1 => tb σ H1 fun y H2 => r x y H2 Q
def tUn (r : V → Hp → VK → Prop) (ta : TE) : TE := fun σ H Q => ta σ H fun x H1 => r x H1 Q
/-- ints in, under C, and a value out -/
def rI (C : Int → Int → Prop) (g : Int → Int → V) : R2 := fun x y H Q => ∃ i j, x = .int i ∧ y = .int j ∧ C i j ∧ Q (g i j) H
def rI0 (g : Int → Int → V) : R2 := fun x y H Q => ∃ i j, x = .int i ∧ y = .int j ∧ Q (g i j) H
def rU (g : Int → V) : V → Hp → VK → Prop := fun x H Q => ∃ i, x = .int i ∧ Q (g i) H

section
variable {X : Cx} {a b c : Expr} {ta tb tc : TE} {pos : Pos}

theorem binT (ha : PE X a ta) (hb : PE X b tb) {pins : List (Addr × Obj)} {s : Shared} {σ : St} {H : Hp} {R : V → V → Hp → Prop} (I : Inv X pins σ H s)
    (h : ta σ H fun x H1 => tb σ H1 fun y H2 => R x y H2) {Q : Value → Shared → Prop} {f : Value → Value → Sem Value}
    (hf : ∀ v u s2 x y H2, Inv X pins σ H2 s2 → RelV x v → RelV y u → R x y H2 → wpAny (model X.prog X.w) X.A (f v u) Q X.xe s2) :
    wpAny (model X.prog X.w) X.A (eval a X.env) (fun v s₁ => wpAny (model X.prog X.w) X.A (eval b X.env) (fun u s₂ => wpAny (model X.prog X.w) X.A (f v u) Q X.xe s₂) X.xe s₁) X.xe s := by
  refine thn (ha pins s σ H _ I h) fun v s1 ⟨x, H1, I1, r1, q1⟩ => ?_
  refine thn (hb pins s1 σ H1 _ I1 q1) fun u s2 ⟨y, H2, I2, r2, q2⟩ => ?_
  exact hf v u s2 x y H2 I2 r1 r2 q2

theorem pe_op {op : Operator} {r : R2} (ho : OpR X (binaryOp op) r) (ha : PE X a ta) (hb : PE X b tb) : PE X (.BinOp a op b pos) (tOp r ta tb) := by
  intro pins s σ H Q I h
  exact wpAny_BinOp (binT ha hb I h fun v u s2 x y H2 I2 rx ry q => ho pins s2 σ H2 x y v u Q I2 rx ry q)
theorem pe_un {op : UnaryOp} {r : V → Hp → VK → Prop} (ho : UnR X (unaryOp op) r) (ha : PE X a ta) : PE X (.UnaryOp op a pos) (tUn r ta) := by
  intro pins s σ H Q I h
  exact UnaryOp_ (thn (ha pins s σ H _ I h) fun v s1 ⟨x, H1, I1, r1, q1⟩ => ho pins s1 σ H1 x v Q I1 r1 q1)
/-- a op= e at a name: the name's slot i -/
theorem augR {op : Operator} {r : R2} (ho : OpR X (inplaceOp op) r) {pins : List (Addr × Obj)} {s : Shared} {σ : St} {H : Hp} {x y : V} {v u : Value} {Q : VK} (I : Inv X pins σ H s)
    (rx : RelV x v) (ry : RelV y u) (q : r x y H Q) : wpAny (model X.prog X.w) X.A (inplaceOp op v u) (EP X pins σ Q) X.xe s := ho pins s σ H x y v u Q I rx ry q

/-! ### ints -/
theorem opI {f : Value → Value → Sem Value} {C : Int → Int → Prop} {g : Int → Int → Int}
    (rule : ∀ (i j : Int) (t u : Tok) (s : Shared) (Q : Value → Shared → Prop) (E : Value → Shared → Prop), C i j → Q (.int (g i j) s.toks) { s with toks := s.toks + 1 } → wpAny (model X.prog X.w) X.A (f (.int i t) (.int j u)) Q E s) :
    OpR X f (rI C fun i j => .int (g i j)) := by
  intro pins s σ H x y v u Q I rx ry h
  obtain ⟨i, j, rfl, rfl, hc, q⟩ := h
  obtain ⟨t, rfl⟩ := rx
  obtain ⟨t', rfl⟩ := ry
  exact rule i j t t' s _ _ hc ⟨.int (g i j), H, I.tok _, ⟨_, rfl⟩, q⟩
theorem opI0 {f : Value → Value → Sem Value} {g : Int → Int → Int}
    (rule : ∀ (i j : Int) (t u : Tok) (s : Shared) (Q : Value → Shared → Prop) (E : Value → Shared → Prop), Q (.int (g i j) s.toks) { s with toks := s.toks + 1 } → wpAny (model X.prog X.w) X.A (f (.int i t) (.int j u)) Q E s) :
    OpR X f (rI0 fun i j => .int (g i j)) := by
  intro pins s σ H x y v u Q I rx ry h
  obtain ⟨i, j, rfl, rfl, q⟩ := h
  obtain ⟨t, rfl⟩ := rx
  obtain ⟨t', rfl⟩ := ry
  exact rule i j t t' s _ _ ⟨.int (g i j), H, I.tok _, ⟨_, rfl⟩, q⟩
theorem opB0 {f : Value → Value → Sem Value} {g : Int → Int → Bool}
    (rule : ∀ (i j : Int) (t u : Tok) (s : Shared) (Q : Value → Shared → Prop) (E : Value → Shared → Prop), Q (.bool (g i j)) s → wpAny (model X.prog X.w) X.A (f (.int i t) (.int j u)) Q E s) :
    OpR X f (rI0 fun i j => .bl (g i j)) := by
  intro pins s σ H x y v u Q I rx ry h
  obtain ⟨i, j, rfl, rfl, q⟩ := h
  obtain ⟨t, rfl⟩ := rx
  obtain ⟨t', rfl⟩ := ry
  exact rule i j t t' s _ _ ⟨.bl (g i j), H, I, rfl, q⟩

def CDiv (i j : Int) : Prop := 0 < j ∧ j < 1073741824
def CDivN (i j : Int) : Prop := j ≠ 0 ∧ j.natAbs < 1073741824
def CPow (i j : Int) : Prop := 0 ≤ j ∧ j ≤ 1000000 ∧ i.natAbs < 2 ^ 64
def CMul (i j : Int) : Prop := (-(2 ^ 64) < i ∧ i < 2 ^ 64) ∨ (-(2 ^ 64) < j ∧ j < 2 ^ 64)
theorem CMul.ok {i j : Int} (h : CMul i j) : IntMulOk i j := by
  rcases h with ⟨h1, h2⟩ | ⟨h1, h2⟩
  · exact .of_left (intBits_le_64 h1 h2)
  · exact .of_right (intBits_le_64 h1 h2)
theorem two_pow_nn (k : Nat) : (0 : Int) ≤ 2 ^ k := by
  rw [two_pow_cast]
  exact Int.natCast_nonneg _

theorem op_add : OpR X (binaryOp .Add) (rI0 fun i j => .int (i + j)) := opI0 fun _ _ _ _ _ _ _ q => add_int q
theorem op_sub : OpR X (binaryOp .Sub) (rI0 fun i j => .int (i - j)) := opI0 fun _ _ _ _ _ _ _ q => sub_int q
theorem op_mul : OpR X (binaryOp .Mult) (rI CMul fun i j => .int (i * j)) := opI fun _ _ _ _ _ _ _ hc q => mul_int q hc.ok
/-- // by a positive divisor -/
theorem op_fdiv : OpR X (binaryOp .FloorDiv) (rI CDiv fun i j => .int (i / j)) := opI fun i j _ _ _ _ _ hc q => by
  have h1 : (0 : Int) < j := hc.1
  have h2 : j < 1073741824 := hc.2
  exact floordiv_int (by omega) (by rw [Int.fdiv_eq_ediv_of_nonneg i (by omega)]; exact q) (.inl (PyProof.noPylong_small (by omega)))
theorem op_fdivN : OpR X (binaryOp .FloorDiv) (rI CDivN fun i j => .int (i.fdiv j)) := opI fun _ _ _ _ _ _ _ hc q => floordiv_int hc.1 q (.inl (PyProof.noPylong_small hc.2))
/-- % by a positive divisor of any size -/
theorem op_mod : OpR X (binaryOp .Mod) (rI (fun _ j => 0 < j) fun i j => .int (i % j)) := opI fun i j _ _ _ _ _ hc q => by
  have h1 : (0 : Int) < j := hc
  exact mod_int' (by omega) (by rw [Int.fmod_eq_emod_of_nonneg i (by omega)]; exact q)
theorem op_modN : OpR X (binaryOp .Mod) (rI (fun _ j => j ≠ 0) fun i j => .int (i.fmod j)) := opI fun _ _ _ _ _ _ _ hc q => mod_int' hc q
theorem op_pow : OpR X (binaryOp .Pow) (rI CPow fun i j => .int (i ^ j.toNat)) := opI fun _ _ _ _ _ _ _ hc q => pow_int_small hc.1 hc.2.1 hc.2.2 q
theorem op_shl : OpR X (binaryOp .LShift) (rI CPow fun i j => .int (i * 2 ^ j.toNat)) := opI fun _ _ _ _ _ _ _ hc q => lshift_int_small hc.1 hc.2.1 hc.2.2 q
theorem op_shr : OpR X (binaryOp .RShift) (rI (fun _ j => 0 ≤ j) fun i j => .int (i / 2 ^ j.toNat)) := opI fun i j _ _ _ _ _ hc q =>
  rshift_int hc (by rw [Int.fdiv_eq_ediv_of_nonneg i (two_pow_nn _)]; exact q)
theorem op_and : OpR X (binaryOp .BitAnd) (rI0 fun i j => .int (Builtin.bitAnd i j)) := opI0 fun _ _ _ _ _ _ _ q => and_int q
theorem op_or : OpR X (binaryOp .BitOr) (rI0 fun i j => .int (Builtin.bitOr i j)) := opI0 fun _ _ _ _ _ _ _ q => or_int q
theorem op_xor : OpR X (binaryOp .BitXor) (rI0 fun i j => .int (Builtin.bitXor i j)) := opI0 fun _ _ _ _ _ _ _ q => xor_int q

theorem iop_add : OpR X (inplaceOp .Add) (rI0 fun i j => .int (i + j)) := opI0 fun _ _ _ _ _ _ _ q => iadd_int q
theorem iop_sub : OpR X (inplaceOp .Sub) (rI0 fun i j => .int (i - j)) := opI0 fun _ _ _ _ _ _ _ q => isub_int q
theorem iop_mul : OpR X (inplaceOp .Mult) (rI CMul fun i j => .int (i * j)) := opI fun _ _ _ _ _ _ _ hc q => imul_int q hc.ok
theorem iop_fdiv : OpR X (inplaceOp .FloorDiv) (rI CDiv fun i j => .int (i / j)) := opI fun i j _ _ _ _ _ hc q => by
  have h1 : (0 : Int) < j := hc.1
  have h2 : j < 1073741824 := hc.2
  exact ifloordiv_int (by omega) (by rw [Int.fdiv_eq_ediv_of_nonneg i (by omega)]; exact q) (.inl (PyProof.noPylong_small (by omega)))
theorem iop_mod : OpR X (inplaceOp .Mod) (rI (fun _ j => 0 < j) fun i j => .int (i % j)) := opI fun i j _ _ _ _ _ hc q => by
  have h1 : (0 : Int) < j := hc
  exact imod_int (by omega) (by rw [Int.fmod_eq_emod_of_nonneg i (by omega)]; exact q)
theorem iop_shl : OpR X (inplaceOp .LShift) (rI CPow fun i j => .int (i * 2 ^ j.toNat)) := opI fun _ _ _ _ _ _ _ hc q => ilshift_int_small hc.1 hc.2.1 hc.2.2 q
theorem iop_shr : OpR X (inplaceOp .RShift) (rI (fun _ j => 0 ≤ j) fun i j => .int (i / 2 ^ j.toNat)) := opI fun i j _ _ _ _ _ hc q =>
  irshift_int hc (by rw [Int.fdiv_eq_ediv_of_nonneg i (two_pow_nn _)]; exact q)
theorem iop_and : OpR X (inplaceOp .BitAnd) (rI0 fun i j => .int (Builtin.bitAnd i j)) := opI0 fun _ _ _ _ _ _ _ q => iand_int q
theorem iop_or : OpR X (inplaceOp .BitOr) (rI0 fun i j => .int (Builtin.bitOr i j)) := opI0 fun _ _ _ _ _ _ _ q => ior_int q
theorem iop_xor : OpR X (inplaceOp .BitXor) (rI0 fun i j => .int (Builtin.bitXor i j)) := opI0 fun _ _ _ _ _ _ _ q => ixor_int q

theorem unI {f : Value → Sem Value} {g : Int → Int}
    (rule : ∀ (i : Int) (t : Tok) (s : Shared) (Q : Value → Shared → Prop) (E : Value → Shared → Prop), Q (.int (g i) s.toks) { s with toks := s.toks + 1 } → wpAny (model X.prog X.w) X.A (f (.int i t)) Q E s) :
    UnR X f (rU fun i => .int (g i)) := by
  intro pins s σ H x v Q I rx h
  obtain ⟨i, rfl, q⟩ := h
  obtain ⟨t, rfl⟩ := rx
  exact rule i t s _ _ ⟨.int (g i), H, I.tok _, ⟨_, rfl⟩, q⟩
theorem un_neg : UnR X (unaryOp .USub) (rU fun i => .int (-i)) := unI fun _ _ _ _ _ q => neg_int q
theorem un_inv : UnR X (unaryOp .Invert) (rU fun i => .int (Builtin.bitNot i)) := unI fun _ _ _ _ _ q => invert_int q

/-! ### bools among ints: n += (a < b) -/
theorem op_add_ib : OpR X (binaryOp .Add) (fun x y H Q => ∃ i k, x = .int i ∧ y = .bl k ∧ Q (.int (i + b2i k)) H) := by
  intro pins s σ H x y v u Q I rx ry h
  obtain ⟨i, k, rfl, rfl, q⟩ := h
  obtain ⟨t, rfl⟩ := rx
  cases ry
  exact add_int_bool ⟨.int (i + b2i k), H, I.tok _, ⟨_, rfl⟩, q⟩
end

/-! ### comparisons -/
/-- the scalars that == tells apart as data does -/
def scal : V → V → Bool
  | .non, .non => true | .non, .int _ => true | .int _, .non => true | .non, .bl _ => true | .bl _, .non => true | .non, .str _ => true | .str _, .non => true
  | .int _, .int _ => true | .bl _, .bl _ => true | .str _, .str _ => true | .byt _, .byt _ => true
  | .int _, .str _ => true | .str _, .int _ => true | .bl _, .str _ => true | .str _, .bl _ => true
  | _, _ => false
def rEq : R2 := fun x y H Q => scal x y = true ∧ Q (.bl (decide (x = y))) H
def rNe : R2 := fun x y H Q => scal x y = true ∧ Q (.bl (!decide (x = y))) H

theorem dec_int {i j : Int} : decide (V.int i = V.int j) = (i == j) := by
  rw [Bool.eq_iff_iff]
  simp
theorem dec_bl {i j : Bool} : decide (V.bl i = V.bl j) = (i == j) := by
  rw [Bool.eq_iff_iff]
  simp
theorem dec_str {i j : Str} : decide (V.str i = V.str j) = (i == j) := by
  rw [Bool.eq_iff_iff]
  simp
theorem dec_byt {i j : Array UInt8} : decide (V.byt i = V.byt j) = (i.toList == j.toList) := by
  rw [Bool.eq_iff_iff]
  cases i
  cases j
  simp

section
variable {X : Cx} {a b c : Expr} {ta tb tc : TE} {pos : Pos}
theorem fin_bl {pins : List (Addr × Obj)} {σ : St} {H : Hp} {s : Shared} {Q : VK} {k k' : Bool} (I : Inv X pins σ H s) (q : Q (.bl k) H) (e : k = k') : EP X pins σ Q (.bool k') s := by
  subst e
  exact ⟨.bl k, H, I, rfl, q⟩
theorem op_eq : OpR X (compareOp .Eq) rEq := by
  intro pins s σ H x y v u Q I rx ry h
  obtain ⟨hs, q⟩ := h
  cases x with
  | non =>
    cases rx
    cases y with
    | non => cases ry; exact PySem.EqNone.eq_none_none (fin_bl I q (by simp))
    | bl j => cases ry; exact PySem.EqNone.eq_none_bool (fin_bl I q (by simp))
    | int j => obtain ⟨t', rfl⟩ := ry; exact PySem.EqNone.eq_none_int (fin_bl I q (by simp))
    | str j => obtain ⟨t', rfl⟩ := ry; exact PySem.EqNone.eq_none_str (fin_bl I q (by simp))
    | _ => exact absurd (show false = true from hs) Bool.false_ne_true
  | bl i =>
    cases rx
    cases y with
    | non => cases ry; exact PySem.EqNone.eq_bool_none (fin_bl I q (by simp))
    | bl j => cases ry; exact eq_bool (fin_bl I q dec_bl)
    | str j => obtain ⟨t', rfl⟩ := ry; exact PySem.EqMixed.eq_bool_str (fin_bl I q (by simp))
    | _ => exact absurd (show false = true from hs) Bool.false_ne_true
  | int i =>
    obtain ⟨t, rfl⟩ := rx
    cases y with
    | non => cases ry; exact PySem.EqNone.eq_int_none (fin_bl I q (by simp))
    | int j => obtain ⟨t', rfl⟩ := ry; exact eq_int (fin_bl I q dec_int)
    | str j => obtain ⟨t', rfl⟩ := ry; exact PySem.EqMixed.eq_int_str (fin_bl I q (by simp))
    | _ => exact absurd (show false = true from hs) Bool.false_ne_true
  | str i =>
    obtain ⟨t, rfl⟩ := rx
    cases y with
    | non => cases ry; exact PySem.EqNone.eq_str_none (fin_bl I q (by simp))
    | bl j => cases ry; exact PySem.EqMixed.eq_str_bool (fin_bl I q (by simp))
    | int j => obtain ⟨t', rfl⟩ := ry; exact PySem.EqMixed.eq_str_int (fin_bl I q (by simp))
    | str j => obtain ⟨t', rfl⟩ := ry; exact eq_str (fin_bl I q dec_str)
    | _ => exact absurd (show false = true from hs) Bool.false_ne_true
  | byt i =>
    obtain ⟨t, rfl⟩ := rx
    cases y with
    | byt j => obtain ⟨t', rfl⟩ := ry; exact PySem.W.eq_bytes (fin_bl I q dec_byt)
    | _ => exact absurd (show false = true from hs) Bool.false_ne_true
  | _ => cases y <;> exact absurd (show false = true from hs) Bool.false_ne_true
theorem op_ne : OpR X (compareOp .NotEq) rNe := by
  intro pins s σ H x y v u Q I rx ry h
  obtain ⟨hs, q⟩ := h
  cases x with
  | non =>
    cases rx
    cases y with
    | non => cases ry; exact PySem.EqNone.ne_none_none (fin_bl I q (by simp))
    | bl j => cases ry; exact PySem.EqNone.ne_none_bool (fin_bl I q (by simp))
    | int j => obtain ⟨t', rfl⟩ := ry; exact PySem.EqNone.ne_none_int (fin_bl I q (by simp))
    | str j => obtain ⟨t', rfl⟩ := ry; exact PySem.EqNone.ne_none_str (fin_bl I q (by simp))
    | _ => exact absurd (show false = true from hs) Bool.false_ne_true
  | bl i =>
    cases rx
    cases y with
    | non => cases ry; exact PySem.EqNone.ne_bool_none (fin_bl I q (by simp))
    | bl j => cases ry; exact ne_bool (fin_bl I q (congrArg not dec_bl))
    | str j => obtain ⟨t', rfl⟩ := ry; exact PySem.EqMixed.ne_bool_str (fin_bl I q (by simp))
    | _ => exact absurd (show false = true from hs) Bool.false_ne_true
  | int i =>
    obtain ⟨t, rfl⟩ := rx
    cases y with
    | non => cases ry; exact PySem.EqNone.ne_int_none (fin_bl I q (by simp))
    | int j => obtain ⟨t', rfl⟩ := ry; exact ne_int (fin_bl I q (congrArg not dec_int))
    | str j => obtain ⟨t', rfl⟩ := ry; exact PySem.EqMixed.ne_int_str (fin_bl I q (by simp))
    | _ => exact absurd (show false = true from hs) Bool.false_ne_true
  | str i =>
    obtain ⟨t, rfl⟩ := rx
    cases y with
    | non => cases ry; exact PySem.EqNone.ne_str_none (fin_bl I q (by simp))
    | bl j => cases ry; exact PySem.EqMixed.ne_str_bool (fin_bl I q (by simp))
    | int j => obtain ⟨t', rfl⟩ := ry; exact PySem.EqMixed.ne_str_int (fin_bl I q (by simp))
    | str j => obtain ⟨t', rfl⟩ := ry; exact ne_str (fin_bl I q (congrArg not dec_str))
    | _ => exact absurd (show false = true from hs) Bool.false_ne_true
  | byt i =>
    obtain ⟨t, rfl⟩ := rx
    cases y with
    | byt j => obtain ⟨t', rfl⟩ := ry; exact PySem.W.ne_bytes (fin_bl I q (congrArg not dec_byt))
    | _ => exact absurd (show false = true from hs) Bool.false_ne_true
  | _ => cases y <;> exact absurd (show false = true from hs) Bool.false_ne_true

theorem op_lt : OpR X (compareOp .Lt) (rI0 fun i j => .bl (decide (i < j))) := opB0 fun _ _ _ _ _ _ _ q => lt_int q
theorem op_le : OpR X (compareOp .LtE) (rI0 fun i j => .bl (decide (i ≤ j))) := opB0 fun _ _ _ _ _ _ _ q => le_int q
theorem op_gt : OpR X (compareOp .Gt) (rI0 fun i j => .bl (decide (j < i))) := opB0 fun _ _ _ _ _ _ _ q => gt_int q
theorem op_ge : OpR X (compareOp .GtE) (rI0 fun i j => .bl (decide (j ≤ i))) := opB0 fun _ _ _ _ _ _ _ q => ge_int q
theorem op_lt_str : OpR X (compareOp .Lt) (fun x y H Q => ∃ i j, x = .str i ∧ y = .str j ∧ Q (.bl (decide (i.cps.toList < j.cps.toList))) H) := by
  intro pins s σ H x y v u Q I rx ry h
  obtain ⟨i, j, rfl, rfl, q⟩ := h
  obtain ⟨t, rfl⟩ := rx
  obtain ⟨t', rfl⟩ := ry
  exact lt_str (fin_bl I q rfl)
/-- the one string within the other -/
theorem op_in_str : OpR X (compareOp .In) (fun x y H Q => ∃ i j, x = .str i ∧ y = .str j ∧ Q (.bl (!(Builtin.Str.occurrences j i 0 j.length 1).isEmpty)) H) := by
  intro pins s σ H x y v u Q I rx ry h
  obtain ⟨i, j, rfl, rfl, q⟩ := h
  obtain ⟨t, rfl⟩ := rx
  obtain ⟨t', rfl⟩ := ry
  exact in_str (fin_bl I q rfl)

/-- is None, is not None: the right side a value none -/
theorem op_isN : OpR X (compareOp .Is) (fun x y H Q => y = .non ∧ Q (.bl (decide (x = .non))) H) := by
  intro pins s σ H x y v u Q I rx ry h
  obtain ⟨rfl, q⟩ := h
  cases ry
  refine is_none_gen (fin_bl I q ?_)
  cases x <;> first
    | (cases rx; rfl)
    | (obtain ⟨t, rfl⟩ := rx; rfl)
theorem op_notN : OpR X (compareOp .IsNot) (fun x y H Q => y = .non ∧ Q (.bl (!decide (x = .non))) H) := by
  intro pins s σ H x y v u Q I rx ry h
  obtain ⟨rfl, q⟩ := h
  cases ry
  refine isnot_none_gen (fin_bl I q ?_)
  cases x <;> first
    | (cases rx; rfl)
    | (obtain ⟨t, rfl⟩ := rx; rfl)

theorem op_notin_str : OpR X (compareOp .NotIn) (fun x y H Q => ∃ i j, x = .str i ∧ y = .str j ∧ Q (.bl (!(!(Builtin.Str.occurrences j i 0 j.length 1).isEmpty))) H) := by
  intro pins s σ H x y v u Q I rx ry h
  obtain ⟨i, j, rfl, rfl, q⟩ := h
  obtain ⟨t, rfl⟩ := rx
  obtain ⟨t', rfl⟩ := ry
  exact notIn_str (fin_bl I q rfl)
/-- is, is not of two objects that are tracked lists or instances -/
def isObj : HO → Bool
  | .lst _ => true
  | .ins _ _ _ => true
  | _ => false
theorem obj_there {pins : List (Addr × Obj)} {s : Shared} {σ : St} {H : Hp} {a : Addr} {o : HO} (I : Inv X pins σ H s) (h : H a = some o) (p : isObj o = true) : ∃ ob, s.heap.get? a = some ob ∧ ob.cls ≠ .type "tuple" := by
  cases o with
  | lst xs =>
    obtain ⟨_, its, n, _, e⟩ : xs.length ≤ sizeLine ∧ ∃ (its : List Value) (n : Nat), Vals xs its ∧ s.heap.get? a = some { cls := .type "list", data := .seq its.toArray n } := I.hok a _ h
    exact ⟨_, e, (by show Value.type "list" ≠ .type "tuple"; decide +kernel)⟩
  | ins C dx fs =>
    have x := I.hok a _ h
    obtain ⟨_, _, _, e, _⟩ := x
    exact ⟨_, e, (by show Value.ref C ≠ .type "tuple"; exact fun z => by cases z)⟩
  | _ => exact absurd (show false = true from p) Bool.false_ne_true
theorem op_is_ref : OpR X (compareOp .Is) (fun x y H Q => ∃ a b oa ob, x = .ref a ∧ y = .ref b ∧ H a = some oa ∧ isObj oa = true ∧ H b = some ob ∧ isObj ob = true ∧ Q (.bl (decide (a = b))) H) := by
  intro pins s σ H x y v u Q I rx ry h
  obtain ⟨a, b, oa, ob, rfl, rfl, ha, pa, hb, pb, q⟩ := h
  cases rx
  cases ry
  obtain ⟨o1, e1, n1⟩ := obj_there I ha pa
  obtain ⟨o2, e2, _⟩ := obj_there I hb pb
  by_cases z : a = b
  · subst z
    exact wpAny_is_ref_self (fin_bl I q (by simp))
  · exact wpAny_is_ref_other z e1 e2 n1 (fin_bl I q (by simp [z]))
theorem op_isnot_ref : OpR X (compareOp .IsNot) (fun x y H Q => ∃ a b oa ob, x = .ref a ∧ y = .ref b ∧ H a = some oa ∧ isObj oa = true ∧ H b = some ob ∧ isObj ob = true ∧ Q (.bl (!decide (a = b))) H) := by
  intro pins s σ H x y v u Q I rx ry h
  obtain ⟨a, b, oa, ob, rfl, rfl, ha, pa, hb, pb, q⟩ := h
  cases rx
  cases ry
  obtain ⟨o1, e1, n1⟩ := obj_there I ha pa
  obtain ⟨o2, e2, _⟩ := obj_there I hb pb
  by_cases z : a = b
  · subst z
    exact wpAny_isNot_ref_self (fin_bl I q (by simp))
  · exact wpAny_isNot_ref_other z e1 e2 n1 (fin_bl I q (by simp [z]))

/-- two rules for one operation: by cases -/
theorem OpR.or {f : Value → Value → Sem Value} {r r' : R2} (h : OpR X f r) (h' : OpR X f r') : OpR X f (fun x y H Q => r x y H Q ∨ r' x y H Q) := by
  intro pins s σ H x y v u Q I rx ry q
  rcases q with q | q
  · exact h pins s σ H x y v u Q I rx ry q
  · exact h' pins s σ H x y v u Q I rx ry q

theorem nomark (b : Expr) {op : CmpOp} (h : op ≠ .In := by decide) (h2 : op ≠ .NotIn := by decide) : behindInMarks op b = false := by
  have e1 : (op == CmpOp.In) = false := by cases op <;> first | rfl | exact absurd rfl h
  have e2 : (op == CmpOp.NotIn) = false := by cases op <;> first | rfl | exact absurd rfl h2
  cases b <;> simp [behindInMarks, e1, e2]
/-- a comparison as a value; hm: nomark b, or (for in, not in) by with_unfolding_all rfl -/
theorem pe_cmpR {op : CmpOp} {r : R2} (ho : OpR X (compareOp op) r) (ha : PE X a ta) (hb : PE X b tb) (hm : behindInMarks op b = false) : PE X (.Compare a [op] [b] pos) (tOp r ta tb) := by
  intro pins s σ H Q I h
  exact wpAny_Compare1 (binT ha hb I h fun v u s2 x y H2 I2 rx ry q => ho pins s2 σ H2 x y v u Q I2 rx ry q) hm
/-- a reading of a value as a test -/
def tTest (t : TE) : TT := fun σ H Q => t σ H fun x H' => ∃ k, x = .bl k ∧ Q k H'
theorem pt_cmpR {op : CmpOp} {r : R2} (ho : OpR X (compareOp op) r) (ha : PE X a ta) (hb : PE X b tb) (hm : behindInMarks op b = false) : PT X (.Compare a [op] [b] pos) (tTest (tOp r ta tb)) := by
  intro pins s σ H Q I h
  refine wpAny_isTrue_Compare1 (thn (ha pins s σ H _ I h) fun v s1 ⟨x, H1, I1, r1, q1⟩ => thn (hb pins s1 σ H1 _ I1 q1) fun u s2 ⟨y, H2, I2, r2, q2⟩ =>
    thn (ho pins s2 σ H2 x y v u _ I2 r1 r2 q2) fun c s3 ⟨z, H3, I3, r3, k, e, q3⟩ => ?_) hm
  subst e
  cases r3
  exact wpAny_truthy_bool ⟨H3, I3, q3⟩
/-- a op1 b op2 c -/
def tChain (r r' : R2) (ta tb tc : TE) : TE := fun σ H Q => ta σ H fun x H1 => tb σ H1 fun y H2 => r x y H2 fun z H3 => ∃ k, z = .bl k ∧
  (if k = true then tc σ H3 fun w' H4 => r' y w' H4 Q else Q (.bl false) H3)
theorem pe_chain {op op' : CmpOp} {r r' : R2} (ho : OpR X (compareOp op) r) (ho' : OpR X (compareOp op') r') (ha : PE X a ta) (hb : PE X b tb) (hc : PE X c tc)
    (hm : lastMarks [op, op'] [b, c] = false := by with_unfolding_all rfl) : PE X (.Compare a [op, op'] [b, c] pos) (tChain r r' ta tb tc) := by
  intro pins s σ H Q I h
  refine Compare_chain (thn (ha pins s σ H _ I h) fun v s1 ⟨x, H1, I1, r1, q1⟩ => chain_link (thn (hb pins s1 σ H1 _ I1 q1) fun u s2 ⟨y, H2, I2, r2, q2⟩ =>
    thn (ho pins s2 σ H2 x y v u _ I2 r1 r2 q2) fun d s3 ⟨z, H3, I3, r3, k, e, q3⟩ => ?_)) hm
  subst e
  cases r3
  refine wpAny_truthy_bool ?_
  cases k with
  | false => exact ite_ff ⟨.bl false, H3, I3, rfl, q3⟩
  | true => exact ite_tt (chain_last (thn (hc pins s3 σ H3 _ I3 q3) fun w' s4 ⟨z', H4, I4, r4, q4⟩ => ho' pins s4 σ H4 y z' u w' Q I4 r2 r4 q4))
theorem pt_chain {op op' : CmpOp} {r r' : R2} (ho : OpR X (compareOp op) r) (ho' : OpR X (compareOp op') r') (ha : PE X a ta) (hb : PE X b tb) (hc : PE X c tc)
    (hm : lastMarks [op, op'] [b, c] = false := by with_unfolding_all rfl) : PT X (.Compare a [op, op'] [b, c] pos) (tTest (tChain r r' ta tb tc)) := by
  intro pins s σ H Q I h
  refine isTrue_chain (thn (ha pins s σ H _ I h) fun v s1 ⟨x, H1, I1, r1, q1⟩ => test_link (thn (hb pins s1 σ H1 _ I1 q1) fun u s2 ⟨y, H2, I2, r2, q2⟩ =>
    thn (ho pins s2 σ H2 x y v u _ I2 r1 r2 q2) fun d s3 ⟨z, H3, I3, r3, k, e, q3⟩ => ?_)) hm
  subst e
  cases r3
  refine wpAny_truthy_bool ?_
  cases k with
  | false =>
    obtain ⟨k', e', q'⟩ := q3
    cases e'
    exact ite_ff ⟨H3, I3, q'⟩
  | true =>
    refine ite_tt (test_last (thn (hc pins s3 σ H3 _ I3 q3) fun w' s4 ⟨z', H4, I4, r4, q4⟩ => thn (ho' pins s4 σ H4 y z' u w' _ I4 r2 r4 q4) fun d' s5 ⟨z2, H5, I5, r5, k2, e2, q5⟩ => ?_))
    subst e2
    cases r5
    exact wpAny_truthy_bool ⟨H5, I5, q5⟩

/-! ### truth -/
/-- a value's truth by the abstract heap -/
def TruV (K : PySem.W.Frag) (x : V) (H : Hp) (k : Bool) : Prop :=
  match x with
  | .non => k = false
  | .bl b => k = b
  | .int i => k = (i != 0)
  | .str y => y.length ≤ sizeLine ∧ k = ((y.length : Int) != 0)
  | .byt y => y.size ≤ sizeLine ∧ k = ((y.size : Int) != 0)
  | .ref p => (∃ xs, SqL K H p xs ∧ k = !xs.isEmpty) ∨ (∃ xs, SqT K H p xs ∧ k = !xs.isEmpty) ∨ ∃ kvs, H p = some (.dK kvs) ∧ k = !kvs.isEmpty
  | _ => False
theorem isEmpty_kv {κ : Type} {kvs : List (κ × V)} {vs : List (κ × Value)} (r : KV kvs vs) : (!vs.isEmpty) = !kvs.isEmpty := by
  cases r <;> rfl
theorem isEmpty_of {xs : List V} {its : List Value} (r : Vals xs its) : (!its.toArray.isEmpty) = !xs.isEmpty := by
  cases r <;> simp
theorem line63 : (sizeLine : Nat) < 2 ^ 63 := by rw [sizeLine_eq]; decide
theorem tru_ok : TruR X (fun x H Q => ∃ k, TruV X.K x H k ∧ Q k H) := by
  intro pins s σ H x v Q I rx h
  obtain ⟨k, e, q⟩ := h
  have hl := line63
  have hs : sizeLine = 16777216 := sizeLine_eq
  cases x with
  | non =>
    cases rx
    have e' : k = false := e
    subst e'
    exact truthy_none ⟨H, I, q⟩
  | bl b =>
    cases rx
    have e' : k = b := e
    subst e'
    exact wpAny_truthy_bool ⟨H, I, q⟩
  | int i =>
    obtain ⟨t, rfl⟩ := rx
    have e' : k = (i != 0) := e
    subst e'
    exact PySem.P.truthy_int ⟨H, I, q⟩
  | str y =>
    obtain ⟨t, rfl⟩ := rx
    obtain ⟨hy, e'⟩ : y.length ≤ sizeLine ∧ k = ((y.length : Int) != 0) := e
    subst e'
    exact PySem.P.truthy_str (by omega) ⟨H, I.tok _, q⟩
  | byt y =>
    obtain ⟨t, rfl⟩ := rx
    obtain ⟨hy, e'⟩ : y.size ≤ sizeLine ∧ k = ((y.size : Int) != 0) := e
    subst e'
    exact PySem.W.truthy_bytes (by omega) ⟨H, I.tok _, q⟩
  | ref p =>
    cases rx
    have e' : (∃ xs, SqL X.K H p xs ∧ k = !xs.isEmpty) ∨ (∃ xs, SqT X.K H p xs ∧ k = !xs.isEmpty) ∨ ∃ kvs, H p = some (.dK kvs) ∧ k = !kvs.isEmpty := e
    rcases e' with ⟨xs, hx, e'⟩ | ⟨xs, hx, e'⟩ | ⟨kvs, hx, e'⟩
    · subst e'
      obtain ⟨its, r, pl, hz⟩ := I.list hx
      have hlen := r.length
      exact wpAny_truthy_list pl.isList (by simp only [List.size_toArray]; omega) ⟨H, I.tok _, by rw [isEmpty_of r]; exact q⟩
    · subst e'
      obtain ⟨its, r, pl, hz⟩ := I.tuple hx
      have hlen := r.length
      exact truthy_tuple pl (by simp only [List.size_toArray]; omega) ⟨H, I.tok _, by rw [isEmpty_of r]; exact q⟩
    · subst e'
      obtain ⟨hz, hS, vs, r, m⟩ : kvs.length ≤ sizeLine ∧ (p == sysModules) = false ∧ ∃ vs, KV kvs vs ∧ s.heap.DictOf (mixKind X.prog X.w) p vs := I.hok p _ hx
      have hlen : kvs.length = vs.length := Paired.length r
      exact wpAny_truthy_dict hS m (by omega) ⟨H, I.tok _, by rw [isEmpty_kv r]; exact q⟩
  | _ => exact (show False from e).elim
/-- any expression whose test is its value's truth (a name, a call, a subscript, a field ..: he by fun _ => rfl) -/
theorem pt_truth (ha : PE X a ta) (he : ∀ whole, isTrue a X.env whole = (do let v ← whole; standAt a.pos; holding [v] (truthy v))) :
    PT X a (fun σ H Q => ta σ H fun x H' => ∃ k, TruV X.K x H' k ∧ Q k H') := by
  intro pins s σ H Q I h
  exact isTrue_plain (thn (ha pins s σ H _ I h) fun v s1 ⟨x, H1, I1, r1, q1⟩ => tru_ok pins s1 σ H1 x v Q I1 r1 q1) (he _)

/-! ### strs and bytes -/
theorem pe_byt {x : List UInt8} {k : Nat} : PE X (.Constant (.bytes x) k pos) (fun _ H Q => Q (.byt x.toArray) H) := fun _ _ _ H _ I h => PySem.W.Constant_bytes ⟨.byt x.toArray, H, I.tok _, ⟨_, rfl⟩, h⟩
theorem op_add_str : OpR X (binaryOp .Add) (fun x y H Q => ∃ i j, x = .str i ∧ y = .str j ∧ i.length + j.length ≤ sizeLine ∧ Q (.str (i ++ j)) H) := by
  intro pins s σ H x y v u Q I rx ry h
  obtain ⟨i, j, rfl, rfl, hz, q⟩ := h
  obtain ⟨t, rfl⟩ := rx
  obtain ⟨t', rfl⟩ := ry
  exact add_str (fun t' tk => ⟨.str (i ++ j), H, I.tok _, ⟨_, rfl⟩, q⟩) hz
theorem iop_add_str : OpR X (inplaceOp .Add) (fun x y H Q => ∃ i j, x = .str i ∧ y = .str j ∧ i.length + j.length ≤ sizeLine ∧ Q (.str (i ++ j)) H) := by
  intro pins s σ H x y v u Q I rx ry h
  obtain ⟨i, j, rfl, rfl, hz, q⟩ := h
  obtain ⟨t, rfl⟩ := rx
  obtain ⟨t', rfl⟩ := ry
  exact iadd_str (fun t' tk => ⟨.str (i ++ j), H, I.tok _, ⟨_, rfl⟩, q⟩) hz
theorem op_add_byt : OpR X (binaryOp .Add) (fun x y H Q => ∃ i j, x = .byt i ∧ y = .byt j ∧ i.size + j.size ≤ 16777216 ∧ Q (.byt (i ++ j)) H) := by
  intro pins s σ H x y v u Q I rx ry h
  obtain ⟨i, j, rfl, rfl, hz, q⟩ := h
  obtain ⟨t, rfl⟩ := rx
  obtain ⟨t', rfl⟩ := ry
  exact PySem.W.KBy.add_bytes hz (fun t' tk => ⟨.byt (i ++ j), H, I.tok _, ⟨_, rfl⟩, q⟩)

def PlainIxT (b : Expr) : Prop := ∀ o i, subscripted b false o i = operate [o, i] (getItem o i)
/-- s[i], 0 ≤ i < len -/
theorem pe_item_str (ha : PE X a ta) (hb : PE X b tb) (hs : PlainIxT b) :
    PE X (.Subscript a b pos) (tOp (fun x y H Q => ∃ z i c, x = .str z ∧ y = .int i ∧ 0 ≤ i ∧ i < 2 ^ 63 ∧ i < z.length ∧ z.cps[i.toNat]? = some c ∧ Q (.str ⟨#[c]⟩) H) ta tb) := by
  intro pins s σ H Q I h
  refine Subscript_ (binT ha hb I h fun v u s2 x y H2 I2 rx ry q => ?_)
  obtain ⟨z, i, c, rfl, rfl, h0, h63, h1, hc, q⟩ := q
  obtain ⟨t, rfl⟩ := rx
  obtain ⟨t', rfl⟩ := ry
  have e : seqIndex? i z.length = some i.toNat := PySem.StrLaws.seqIndex_nonneg h0 h1
  exact tail_any (typeIs_str s2 z t) slot_str_getitem.lookup (getItem_str (c := c) (by
    have e1 : decide (i < -(2 ^ 63 : Int)) = false := decide_eq_false (by omega)
    have e2 : decide (i ≥ 2 ^ 63) = false := decide_eq_false (by omega)
    rw [e1, e2] <;> rfl) (by rw [e]; exact hc) ⟨.str ⟨#[c]⟩, H2, I2.tok _, ⟨_, rfl⟩, q⟩) (hs _ _)
/-- b[i], 0 ≤ i < len -/
theorem pe_item_byt (ha : PE X a ta) (hb : PE X b tb) (hs : PlainIxT b) :
    PE X (.Subscript a b pos) (tOp (fun x y H Q => ∃ (z : List UInt8) (i : Int), x = .byt z.toArray ∧ y = .int i ∧ z.length ≤ sizeLine ∧ 0 ≤ i ∧ i < z.length ∧ Q (.int ((z.getD i.toNat 0).toNat : Nat)) H) ta tb) := by
  intro pins s σ H Q I h
  refine Subscript_ (binT ha hb I h fun v u s2 x y H2 I2 rx ry q => ?_)
  obtain ⟨z, i, rfl, rfl, hz, h0, h1, q⟩ := q
  obtain ⟨t, rfl⟩ := rx
  obtain ⟨t', rfl⟩ := ry
  have hl : sizeLine = 16777216 := sizeLine_eq
  exact tail_any (PySem.W.typeIs_bytes s2 z.toArray t) PySem.W.FB.slot_bytes_getitem.lookup (PySem.W.getItem_bytes (by omega) h0 h1 ⟨.int ((z.getD i.toNat 0).toNat : Nat), H2, I2.tok _, ⟨_, rfl⟩, q⟩) (hs _ _)

/-! ### scalar builtins, by CallR -/
theorem vals1 {x : V} {us : List Value} (r : Vals [x] us) : ∃ u, us = [u] ∧ RelV x u := by
  cases r with
  | cons r1 r2 => cases r2; exact ⟨_, rfl, r1⟩
theorem vals2 {x y : V} {us : List Value} (r : Vals [x, y] us) : ∃ u w', us = [u, w'] ∧ RelV x u ∧ RelV y w' := by
  cases r with
  | cons r1 r2 =>
    cases r2 with
    | cons r3 r4 => cases r4; exact ⟨_, _, rfl, r1, r3⟩
theorem call_abs : CallR X (.builtin "abs") (fun xs H Q => ∃ i, xs = [.int i] ∧ Q (.int (if i < 0 then -i else i)) H) := by
  intro pins s σ H xs us Q I r h
  obtain ⟨i, rfl, q⟩ := h
  obtain ⟨u, rfl, t, rfl⟩ := vals1 r
  exact call_abs_int fun u tk => ⟨.int (if i < 0 then -i else i), H, I.tok _, ⟨_, rfl⟩, q⟩
theorem call_max2 (hc : X.calm = true) : CallR X (.builtin "max") (fun xs H Q => ∃ i j, xs = [.int i, .int j] ∧ Q (.int (if j > i then j else i)) H) := by
  intro pins s σ H xs us Q I r h
  obtain ⟨i, j, rfl, q⟩ := h
  obtain ⟨u, w', rfl, ⟨t, rfl⟩, ⟨t', rfl⟩⟩ := vals2 r
  refine max_two_ints (I.ok.hd hc) fun h' tk k => ⟨_, H, I.kept k, ?_, q⟩
  by_cases hj : j > i
  · rw [if_pos hj, if_pos hj]; exact ⟨_, rfl⟩
  · rw [if_neg hj, if_neg hj]; exact ⟨_, rfl⟩
theorem call_min2 (hc : X.calm = true) : CallR X (.builtin "min") (fun xs H Q => ∃ i j, xs = [.int i, .int j] ∧ Q (.int (if j < i then j else i)) H) := by
  intro pins s σ H xs us Q I r h
  obtain ⟨i, j, rfl, q⟩ := h
  obtain ⟨u, w', rfl, ⟨t, rfl⟩, ⟨t', rfl⟩⟩ := vals2 r
  refine min_two_ints (I.ok.hd hc) fun h' tk k => ⟨_, H, I.kept k, ?_, q⟩
  by_cases hj : j < i
  · rw [if_pos hj, if_pos hj]; exact ⟨_, rfl⟩
  · rw [if_neg hj, if_neg hj]; exact ⟨_, rfl⟩
theorem call_int1 : CallR X (.type "int") (fun xs H Q => (∃ i, xs = [.int i] ∧ Q (.int i) H) ∨ ∃ k, xs = [.bl k] ∧ Q (.int (if k then 1 else 0)) H) := by
  intro pins s σ H xs us Q I r h
  rcases h with ⟨i, rfl, q⟩ | ⟨k, rfl, q⟩
  · obtain ⟨u, rfl, t, rfl⟩ := vals1 r
    exact call_int_int ⟨.int i, H, I, ⟨_, rfl⟩, q⟩
  · obtain ⟨u, rfl, r1⟩ := vals1 r
    cases r1
    exact call_int_bool ⟨.int (if k then 1 else 0), H, I.tok _, ⟨_, rfl⟩, q⟩
theorem call_bool1 : CallR X (.type "bool") (fun xs H Q => (∃ i, xs = [.int i] ∧ Q (.bl (i != 0)) H) ∨ ∃ k, xs = [.bl k] ∧ Q (.bl k) H) := by
  intro pins s σ H xs us Q I r h
  rcases h with ⟨i, rfl, q⟩ | ⟨k, rfl, q⟩
  · obtain ⟨u, rfl, t, rfl⟩ := vals1 r
    exact call_bool_int ⟨.bl (i != 0), H, I, rfl, q⟩
  · obtain ⟨u, rfl, r1⟩ := vals1 r
    cases r1
    exact call_bool_bool ⟨.bl k, H, I, rfl, q⟩
theorem call_str_int : CallR X (.type "str") (fun xs H Q => ∃ i, xs = [.int i] ∧ i.natAbs.log2 < 1920 ∧ Q (.str (toString i)) H) := by
  intro pins s σ H xs us Q I r h
  obtain ⟨i, rfl, hz, q⟩ := h
  obtain ⟨u, rfl, t, rfl⟩ := vals1 r
  exact PySem.P.str_of_int hz ⟨.str _, H, I.tok _, ⟨_, rfl⟩, q⟩
theorem call_ord : CallR X (.builtin "ord") (fun xs H Q => ∃ x, xs = [.str x] ∧ x.length = 1 ∧ Q (.int (x.cps.getD 0 0 : Nat)) H) := by
  intro pins s σ H xs us Q I r h
  obtain ⟨x, rfl, hz, q⟩ := h
  obtain ⟨u, rfl, t, rfl⟩ := vals1 r
  exact ord_of_one hz ⟨.int _, H, I.tok _, ⟨_, rfl⟩, q⟩
theorem call_chr : CallR X (.builtin "chr") (fun xs H Q => ∃ i, xs = [.int i] ∧ 0 ≤ i ∧ i ≤ 1114111 ∧ Q (.str ⟨#[i.toNat]⟩) H) := by
  intro pins s σ H xs us Q I r h
  obtain ⟨i, rfl, h0, h1, q⟩ := h
  obtain ⟨u, rfl, t, rfl⟩ := vals1 r
  exact chr_of_range h0 h1 ⟨.str _, H, I.tok _, ⟨_, rfl⟩, q⟩
/-- len of a str, a bytes, a list, a tuple -/
def LenV (K : PySem.W.Frag) (x : V) (H : Hp) (n : Nat) : Prop :=
  match x with
  | .str y => y.length ≤ sizeLine ∧ n = y.length
  | .byt y => y.size ≤ sizeLine ∧ n = y.size
  | .ref p => (∃ xs, SqL K H p xs ∧ n = xs.length) ∨ ∃ xs, SqT K H p xs ∧ n = xs.length
  | _ => False
theorem call_len : CallR X (.builtin "len") (fun xs H Q => ∃ x n, xs = [x] ∧ LenV X.K x H n ∧ Q (.int n) H) := by
  intro pins s σ H xs us Q I r h
  obtain ⟨x, n, rfl, e, q⟩ := h
  obtain ⟨u, rfl, rx⟩ := vals1 r
  have hl := line63
  have hs : sizeLine = 16777216 := sizeLine_eq
  cases x with
  | str y =>
    obtain ⟨t, rfl⟩ := rx
    obtain ⟨hy, e'⟩ : y.length ≤ sizeLine ∧ n = y.length := e
    subst e'
    exact len_str (by omega) ⟨.int _, H, I.tok _, ⟨_, rfl⟩, q⟩
  | byt y =>
    obtain ⟨t, rfl⟩ := rx
    obtain ⟨hy, e'⟩ : y.size ≤ sizeLine ∧ n = y.size := e
    subst e'
    exact PySem.W.len_bytes (by omega) ⟨.int _, H, I.tok _, ⟨_, rfl⟩, q⟩
  | ref p =>
    cases rx
    have e' : (∃ xs, SqL X.K H p xs ∧ n = xs.length) ∨ ∃ xs, SqT X.K H p xs ∧ n = xs.length := e
    rcases e' with ⟨xs, hx, e'⟩ | ⟨xs, hx, e'⟩
    · subst e'
      obtain ⟨its, r', pl, hz⟩ := I.list hx
      have hlen := r'.length
      exact Calls.call_len_list pl.isList (by simp only [List.size_toArray]; omega) ⟨.int xs.length, H, I.tok _, ⟨_, by simp only [List.size_toArray]; rw [hlen]⟩, q⟩
    · subst e'
      obtain ⟨its, r', pl, hz⟩ := I.tuple hx
      have hlen := r'.length
      exact len_tuple pl (by simp only [List.size_toArray]; omega) ⟨.int xs.length, H, I.tok _, ⟨_, by simp only [List.size_toArray]; rw [hlen]⟩, q⟩
  | _ => exact (show False from e).elim
/-- divmod: a new tuple -/
theorem call_divmod : CallR X (.builtin "divmod") (fun xs H Q => ∃ i j, xs = [.int i, .int j] ∧ CDiv i j ∧ ∀ p, H p = none → Q (.ref p) (upd H p (.tup [.int (i / j), .int (i % j)]))) := by
  intro pins s σ H xs us Q I r h
  obtain ⟨i, j, rfl, ⟨h1, h2⟩, q⟩ := h
  obtain ⟨u, w', rfl, ⟨t, rfl⟩, ⟨t', rfl⟩⟩ := vals2 r
  refine divmod_int (by omega) ?_ (.inl (PyProof.noPylong_small (by omega)))
  rw [Int.fdiv_eq_ediv_of_nonneg i (by omega), Int.fmod_eq_emod_of_nonneg i (by omega)]
  have hn : H s.heap.objs.size = none := I.hok.fresh (Nat.le_refl _)
  refine ⟨.ref s.heap.objs.size, _, ?_, rfl, q _ hn⟩
  refine I.laid (fun b o e => Heap.get?_push_of_some _ e) (Nat.le_refl _) ⟨by simp only [List.length_cons, List.length_nil]; rw [sizeLine_eq]; decide, [.int (i / j) s.toks, .int (i % j) (s.toks + 1)], .cons ⟨_, rfl⟩ (.cons ⟨_, rfl⟩ .nil), ?_⟩
  exact ⟨_, Heap.get?_push_size s.heap rfl, rfl, 0, rfl⟩
end
end L2

namespace L2
open PySem PySem.Spec PyProof.Rows

/-! ### an instance, its attributes a map -/
structure ObjM (h : Heap) (x dx C : Addr) (mA : Str → Option Value) : Prop where
  obj : h.get? x = some (PySem.W.instObj C dx)
  ns : h.Ns1 dx mA
  ne : dx ≠ x

theorem lookIn_ns {h : Heap} {dx : Addr} {mA : Str → Option Value} (n : h.Ns1 dx mA) : ∃ od, h.get? dx = some od ∧ ∀ name, PySem.W.lookIn name od = some (mA name) := by
  obtain ⟨o, es, ep, ho, hd, hk, _, hm⟩ := n
  refine ⟨o, ho, fun name => ?_⟩
  have e := hm name
  unfold nsFind findBy at e
  rw [← Array.find?_toList] at e
  unfold PySem.W.lookIn
  rw [hd]
  dsimp only
  split
  · rename_i y q
    rw [q] at e
    exact congrArg some e
  · rename_i q
    rw [q] at e
    have a : es.toList.any (·.refKey) = false := by
      rw [List.any_eq_false]
      intro y hy
      obtain ⟨z, t, hkey⟩ := hk y (Array.mem_toList_iff.mp hy)
      simp [DictEntry.refKey, hkey]
    have a' : ¬ es.toList.any (·.refKey) = true := by rw [a]; exact Bool.false_ne_true
    rw [if_neg a']
    exact congrArg some e

theorem ObjM.look {h : Heap} {x dx C : Addr} {mA : Str → Option Value} (I : ObjM h x dx C mA) : ∃ od, PySem.W.InstAt h x (PySem.W.instObj C dx) C (some od) ∧ ∀ name, PySem.W.lookIn name od = some (mA name) :=
  let ⟨od, ho, hl⟩ := lookIn_ns I.ns
  ⟨od, ⟨I.obj, rfl, rfl, ho⟩, hl⟩

section
variable {prog : Program} {w : World} {A : Around} {E : Value → Shared → Prop} {s : Shared} {K : PySem.W.Frag} {x dx C f : Addr} {mA : Str → Option Value} {name : Str} {v : Value}

theorem get_map {expr : Bool} {Q : Value → Shared → Prop} (X : K.In s.heap) (I : ObjM s.heap x dx C mA) (hg : PySem.W.plainGet K C name = true) (hh : PySem.W.hasDictIn K C = true)
    (ha : PySem.W.findIn K (.ref C) name = some none) (hv : mA name = some v) (hv' : PySem.W.handedIn v = true) (h : Q v { s with toks := s.toks + 1 }) :
    wpAny (model prog w) A (getAttr (.ref x) name expr) Q E s := by
  obtain ⟨od, J, hl⟩ := I.look
  exact PySem.W.get_value X J (PySem.W.plainGet_of hg).1 (PySem.W.findObj_own hh ha rfl (by rw [hl, hv])) hv' h

theorem get_const {expr : Bool} {a : Value} {Q : Value → Shared → Prop} (X : K.In s.heap) (I : ObjM s.heap x dx C mA) (hg : PySem.W.plainGet K C name = true) (hh : PySem.W.hasDictIn K C = true)
    (ha : PySem.W.findIn K (.ref C) name = some (some a)) (hn : PySem.W.specialIn K a "__get__" = some none) (hc : PySem.W.copiedNames.contains name = false) (hv : mA name = none) (hv' : PySem.W.handedIn a = true)
    (h : Q a { s with toks := s.toks + 1 }) : wpAny (model prog w) A (getAttr (.ref x) name expr) Q E s := by
  obtain ⟨od, J, hl⟩ := I.look
  exact PySem.W.get_value X J (PySem.W.plainGet_of hg).1 (PySem.W.findObj_cls hh ha hn hv' hc (by rw [hl, hv])) hv' h

theorem get_meth {pl : Sem Bool} {Q : Value × List Value → Shared → Prop} (X : K.In s.heap) (I : ObjM s.heap x dx C mA) (hg : PySem.W.plainGet K C name = true)
    (hf : PySem.W.findIn K (.ref C) name = some (some (.ref f))) (ht : PySem.W.isFn K (.ref f) = true) (hv : mA name = none) (h : Q (.ref f, [.ref x]) s) :
    wpAny (model prog w) A (getMethod (.ref x) name pl) Q E s := by
  obtain ⟨od, J, hl⟩ := I.look
  exact PySem.W.method_fn X J (PySem.W.plainGet_of hg).1 (PySem.W.plainGet_of hg).2 hf (beq_iff_eq.mp ht) (by show (PySem.W.lookIn name od).map (·.isSome) = some false; rw [hl, hv]; rfl) h

theorem set_map {ns : List Str} {Q : Unit → Shared → Prop} (X : K.In s.heap) (I : ObjM s.heap x dx C mA)
    (hs : PySem.W.findIn K (.ref C) "__setattr__" = some (some (.builtin "object.__setattr__"))) (hp : PySem.W.plainOver K C = true) (ht : PySem.W.takerIn K C name = some none) (hh : PySem.W.hasDictIn K C = true)
    (hw : PySem.Within mA ns) (hsz : ns.length ≤ sizeLine)
    (h : ∀ h', ObjM h' x dx C (fun y => if y = name then some v else mA y) → Heap.SameBut dx s.heap h' → Q () { s with heap := h', toks := s.toks + 2 }) :
    wpAny (model prog w) A (setAttr (.ref x) name v) Q E s := by
  obtain ⟨od, J, hl⟩ := I.look
  refine PySem.W.set_plain X J hs (PySem.W.osa_open (s := { s with toks := s.toks + 1 }) (r := none) X J hp ht fun b => ?_)
  obtain ⟨cd, hc, hd'⟩ := PySem.W.any_some hh
  have hx : s.heap.get? x = some ⟨.ref C, some dx, .plain, #[]⟩ := I.obj
  refine wpAny_bind (wpAny_pure (wpAny_bind (wpAny_bind (wpAny_loadPart hx (wpAny_bind (PySem.W.Looks.here (s := { s with toks := s.toks + 1 }) (PySem.W.looks_clsIn X hc) ?_))))))
  rw [hd']
  refine wpAny_pure (a := some dx) (wpAny_bind (wpAny_pure (wpAny_bind ?_)))
  refine wpAny_nsSet1 (s := { s with toks := s.toks + 1 }) I.ns fun h' hn2 hs2 => ?_
  obtain ⟨oD, esD, epD, hoD, hdD, hcD⟩ := hn2.count (PySem.Within.cons name v hw)
  refine wpAny_bind (wpAny_lookBehind hoD (by rw [hdD]; exact pastItsLine_dict (Nat.le_trans hcD (by rw [List.length_cons]; omega))) ?_)
  exact wpAny_pure (h _ ⟨(hs2.2 _ (Ne.symm I.ne)).trans I.obj, hn2, I.ne⟩ hs2)

/-- C(..): the dict at the heap's end, the instance behind it; then its __init__ -/
theorem make_map {R : Result → Shared → Prop} {vs : List Value} {kw : List (Str × Value)} (X : K.In s.heap) (hm : PySem.W.makesIn K C = true)
    (hi : PySem.W.findIn K (.ref C) "__init__" = some (some (.ref f))) (hf : PySem.W.typeIn K (.ref f) = some (.type "function"))
    (h : codeAny (model prog w) (A.under (.builtin "type.__call__" ⟨.ref C :: vs, kw⟩)) (.call (.ref f) ⟨.ref (s.heap.objs.size + 1) :: vs, kw⟩) (PySem.W.InitBack (s.heap.objs.size + 1) R)
      { s with heap := (s.heap.push PySem.W.emptyDict).push (PySem.W.instObj C s.heap.objs.size) }) :
    codeAny (model prog w) A (.call (.ref C) ⟨vs, kw⟩) R s := by
  obtain ⟨hh, g, d, t, os⟩ := s
  exact PySem.W.make_core (PySem.W.makes_of X hm) (PySem.W.looks_findIn X hi) (fun self => PySem.W.bind_fn X self hf) (.inl rfl) h
/-- C() where there is no __init__ but object's -/
theorem make_map0 {R : Result → Shared → Prop} (X : K.In s.heap) (hm : PySem.W.makesIn K C = true)
    (hi : PySem.W.findIn K (.ref C) "__init__" = some (some (.builtin "object.__init__")))
    (hb : ∀ self, PySem.W.Looks (model prog w) s.heap (bindSpecial (.builtin "object.__init__") self) (.builtin "object.__init__", [self]))
    (h : codeAny (model prog w) (A.under (.builtin "type.__call__" ⟨[.ref C], []⟩)) (.call (.builtin "object.__init__") ⟨[.ref (s.heap.objs.size + 1)], []⟩) (PySem.W.InitBack (s.heap.objs.size + 1) R)
      { s with heap := (s.heap.push PySem.W.emptyDict).push (PySem.W.instObj C s.heap.objs.size) }) :
    codeAny (model prog w) A (.call (.ref C) ⟨[], []⟩) R s := by
  obtain ⟨hh, g, d, t, os⟩ := s
  exact PySem.W.make_core (PySem.W.makes_of X hm) (PySem.W.looks_findIn X hi) hb (.inr ⟨rfl, rfl⟩) h
end

/-! ### the attributes as a list of pairs -/
def putF (f : Str) (v : V) : List (Str × V) → List (Str × V)
  | [] => [(f, v)]
  | (g, x) :: r => if g = f then (g, v) :: r else (g, x) :: putF f v r
theorem lookup_putF (f g : Str) (v : V) : ∀ fs : List (Str × V), (putF f v fs).lookup g = if g = f then some v else fs.lookup g
  | [] => by
    show List.lookup g [(f, v)] = _
    by_cases h : g = f
    · have hb : (g == f) = true := beq_iff_eq.mpr h
      simp only [List.lookup, hb, if_pos h]
    · have hb : (g == f) = false := beq_eq_false_iff_ne.mpr h
      simp only [List.lookup, hb, if_neg h]
  | (k, x) :: r => by
    have ih := lookup_putF f g v r
    rw [show putF f v ((k, x) :: r) = (if k = f then (k, v) :: r else (k, x) :: putF f v r) from rfl]
    by_cases hk : k = f
    · rw [if_pos hk]
      by_cases h : g = k
      · have hb : (g == k) = true := beq_iff_eq.mpr h
        simp only [List.lookup, hb, if_pos (h.trans hk)]
      · have hb : (g == k) = false := beq_eq_false_iff_ne.mpr h
        simp only [List.lookup, hb, if_neg (fun e : g = f => h (e.trans hk.symm))]
    · rw [if_neg hk]
      by_cases h : g = k
      · have hb : (g == k) = true := beq_iff_eq.mpr h
        simp only [List.lookup, hb, if_neg (fun e : g = f => hk (h.symm.trans e))]
      · have hb : (g == k) = false := beq_eq_false_iff_ne.mpr h
        simp only [List.lookup, hb]
        exact ih
theorem keys_putF (f : Str) (v : V) : ∀ fs : List (Str × V), f ∈ (putF f v fs).map (·.1) ∧ ∀ g, g ∈ fs.map (·.1) → g ∈ (putF f v fs).map (·.1)
  | [] => ⟨by simp [putF], fun g h => by simp at h⟩
  | (k, x) :: r => by
    obtain ⟨i1, i2⟩ := keys_putF f v r
    rw [show putF f v ((k, x) :: r) = (if k = f then (k, v) :: r else (k, x) :: putF f v r) from rfl]
    by_cases hk : k = f
    · rw [if_pos hk]
      subst hk
      exact ⟨by simp, fun g h => by simpa using h⟩
    · rw [if_neg hk]
      refine ⟨?_, fun g h => ?_⟩
      · rw [List.map_cons]
        exact List.mem_cons_of_mem _ i1
      · rw [List.map_cons] at h ⊢
        rcases List.mem_cons.mp h with e | e
        · exact List.mem_cons.mpr (.inl e)
        · exact List.mem_cons_of_mem _ (i2 g e)
theorem length_putF (f : Str) (v : V) : ∀ fs : List (Str × V), (putF f v fs).length ≤ fs.length + 1
  | [] => by simp [putF]
  | (k, x) :: r => by
    have ih := length_putF f v r
    rw [show putF f v ((k, x) :: r) = (if k = f then (k, v) :: r else (k, x) :: putF f v r) from rfl]
    by_cases hk : k = f
    · rw [if_pos hk, List.length_cons, List.length_cons]; omega
    · rw [if_neg hk, List.length_cons, List.length_cons]; omega

theorem RelO.some_of {v : V} {o : Option Value} (r : RelO (some v) o) : ∃ u, o = some u ∧ RelV v u := by
  cases o with
  | none => exact (show False from r).elim
  | some u => exact ⟨u, rfl, r⟩
theorem RelO.none_of {o : Option Value} (r : RelO none o) : o = none := by
  cases o with
  | none => rfl
  | some u => exact (show False from r).elim
theorem handed_of {v : V} {u : Value} (r : RelV v u) : PySem.W.handedIn u = true := by
  cases v with
  | non => cases (show u = Value.none from r); rfl
  | bl b => cases (show u = Value.bool b from r); rfl
  | int i => obtain ⟨t, e⟩ := (show ∃ t, u = Value.int i t from r); cases e; rfl
  | str x => obtain ⟨t, e⟩ := (show ∃ t, u = Value.str x t from r); cases e; rfl
  | byt b => obtain ⟨t, e⟩ := (show ∃ t, u = Value.bytes b t from r); cases e; rfl
  | flt b => obtain ⟨t, e⟩ := (show ∃ t, u = Value.float b t from r); cases e; rfl
  | ref a => cases (show u = Value.ref a from r); rfl
  | ty n => cases (show u = Value.type n from r); rfl

section
variable {P : Program} {w : World} {H H' : Hp} {h h' : Heap} {a C dx : Addr} {fs fs' : List (Str × V)}
theorem ins_get (hok : HOk P w H h) (e : H a = some (.ins C dx fs)) : ∃ mA, ObjM h a dx C mA ∧ (∀ f, RelO (fs.lookup f) (mA f)) ∧ PySem.Within mA (fs.map (·.1)) ∧ fs.length ≤ 1000 ∧ H dx = some (.own a) := by
  obtain ⟨d, z, ne, ob, mA, n, r, q⟩ := (show ObjOk P w H h a (.ins C dx fs) from hok a _ e)
  exact ⟨mA, ⟨ob, n, ne⟩, r, q, z, d⟩
end

/-! ### what of the text a class must have -/
structure Cls (K : PySem.W.Frag) (C : Addr) : Prop where
  pg : PySem.W.plainGet K C Str.empty = true
  hd : PySem.W.hasDictIn K C = true
  po : PySem.W.plainOver K C = true
  sa : PySem.W.findIn K (.ref C) "__setattr__" = some (some (.builtin "object.__setattr__"))
theorem Cls.get {K : PySem.W.Frag} {C : Addr} (c : Cls K C) (f : Str) : PySem.W.plainGet K C f = true := c.pg
/-- no class of it has the name -/
def NoAttr (K : PySem.W.Frag) (C : Addr) (f : Str) : Prop := PySem.W.findIn K (.ref C) f = some none
theorem NoAttr.taker {K : PySem.W.Frag} {C : Addr} {f : Str} (n : NoAttr K C f) : PySem.W.takerIn K C f = some none := by
  unfold PySem.W.takerIn
  rw [show PySem.W.findIn K (.ref C) f = some none from n]
  rfl
/-- a constant of the class -/
structure Con (K : PySem.W.Frag) (C : Addr) (f : Str) (v : V) (u : Value) : Prop where
  at_ : PySem.W.findIn K (.ref C) f = some (some u)
  rel : RelV v u
  get : PySem.W.specialIn K u "__get__" = some none
  cp : PySem.W.copiedNames.contains f = false
/-- a method: a plain def of the class or of one above it -/
structure Meth (K : PySem.W.Frag) (C : Addr) (m : Str) (f : Addr) : Prop where
  at_ : PySem.W.findIn K (.ref C) m = some (some (.ref f))
  fn : PySem.W.isFn K (.ref f) = true
  kp : PySem.W.keepIn K (.ref f) = true

section
variable {X : Cx} {pins : List (Addr × Obj)} {σ : St} {H : Hp} {s : Shared} {a C dx : Addr} {fs : List (Str × V)} {f : Str} {v : V} {A : Around} {E : Value → Shared → Prop}

theorem getattr_ok {b : Bool} {Q : Value → Shared → Prop} (I : Inv X pins σ H s) (e : H a = some (.ins C dx fs)) (c : Cls X.K C) (n : NoAttr X.K C f) (l : fs.lookup f = some v)
    (h : ∀ u s', Inv X pins σ H s' → RelV v u → Q u s') : wpAny (model X.prog X.w) A (getAttr (.ref a) f b) Q E s := by
  obtain ⟨mA, O, r, _, _, _⟩ := ins_get I.hok e
  obtain ⟨u, hu, ru⟩ := RelO.some_of (v := v) (o := mA f) (by rw [← l]; exact r f)
  exact get_map I.kIn O (c.get f) c.hd n hu (handed_of ru) (h u _ (I.tok _) ru)

theorem getcon_ok {b : Bool} {u : Value} {Q : Value → Shared → Prop} (I : Inv X pins σ H s) (e : H a = some (.ins C dx fs)) (c : Cls X.K C) (k : Con X.K C f v u) (l : fs.lookup f = none)
    (h : ∀ s', Inv X pins σ H s' → Q u s') : wpAny (model X.prog X.w) A (getAttr (.ref a) f b) Q E s := by
  obtain ⟨mA, O, r, _, _, _⟩ := ins_get I.hok e
  have hn : mA f = none := RelO.none_of (by rw [← l]; exact r f)
  exact get_const I.kIn O (c.get f) c.hd k.at_ k.get k.cp hn (handed_of k.rel) (h _ (I.tok _))

theorem getmeth_ok {m : Str} {g : Addr} {pl : Sem Bool} {Q : Value × List Value → Shared → Prop} (I : Inv X pins σ H s) (e : H a = some (.ins C dx fs)) (c : Cls X.K C) (k : Meth X.K C m g) (l : fs.lookup m = none)
    (h : Q (.ref g, [.ref a]) s) : wpAny (model X.prog X.w) A (getMethod (.ref a) m pl) Q E s := by
  obtain ⟨mA, O, r, _, _, _⟩ := ins_get I.hok e
  have hn : mA m = none := RelO.none_of (by rw [← l]; exact r m)
  exact get_meth I.kIn O (c.get m) k.at_ k.fn hn h

theorem setattr_ok {y : V} {u : Value} {Q : Unit → Shared → Prop} (I : Inv X pins σ H s) (e : H a = some (.ins C dx fs)) (c : Cls X.K C) (n : NoAttr X.K C f) (hl : fs.length < 1000) (ry : RelV y u)
    (h : ∀ s', Inv X pins σ (upd H a (.ins C dx (putF f y fs))) s' → Q () s') : wpAny (model X.prog X.w) A (setAttr (.ref a) f u) Q E s := by
  obtain ⟨mA, O, r, wi, _, ho⟩ := ins_get I.hok e
  have hz : (fs.map (·.1)).length ≤ sizeLine := by rw [List.length_map, sizeLine_eq]; omega
  refine set_map I.kIn O c.sa c.po n.taker c.hd wi hz fun h' O' sb => h _ ?_
  have hd : ∃ o, h'.get? dx = some o := let ⟨o, _, _, e', _⟩ := O'.ns; ⟨o, e'⟩
  refine I.write (x := a) (e := dx) (by rw [e]; exact True.intro) (.inr ho) (fun b q hb z => (sb.2 b hb).trans z) hd ?_
  refine ⟨by rw [upd_ne O.ne]; exact ho, ?_, O.ne, O'.obj, _, O'.ns, fun g => ?_, fun g hg => ?_⟩
  · have := length_putF f y fs; omega
  · show RelO ((putF f y fs).lookup g) (if g = f then some u else mA g)
    rw [lookup_putF]
    by_cases q : g = f
    · rw [if_pos q, if_pos q]; exact ry
    · rw [if_neg q, if_neg q]; exact r g
  · by_cases q : g = f
    · rw [q]; exact (keys_putF f y fs).1
    · refine (keys_putF f y fs).2 g (wi g fun z => hg ?_)
      show (if g = f then some u else mA g) = none
      rw [if_neg q]; exact z

/-- a new instance, tracked, without attributes -/
theorem Inv.made (I : Inv X pins σ H s) : Inv X pins σ (upd (upd H s.heap.objs.size (.own (s.heap.objs.size + 1))) (s.heap.objs.size + 1) (.ins C s.heap.objs.size []))
    { s with heap := (s.heap.push PySem.W.emptyDict).push (PySem.W.instObj C s.heap.objs.size) } := by
  have e1 : (s.heap.push PySem.W.emptyDict).get? s.heap.objs.size = some PySem.W.emptyDict := Heap.get?_push_size s.heap rfl
  have e2 : ((s.heap.push PySem.W.emptyDict).push (PySem.W.instObj C s.heap.objs.size)).get? (s.heap.objs.size + 1) = some (PySem.W.instObj C s.heap.objs.size) := by
    have := Heap.get?_push_size (s.heap.push PySem.W.emptyDict) (o := PySem.W.instObj C s.heap.objs.size) rfl
    rwa [Heap.size_push] at this
  have e3 : (s.heap.push PySem.W.emptyDict).Ns s.heap.objs.size (fun _ => none) := ⟨PySem.W.emptyDict, #[], _, e1, rfl, (fun e he => absurd he (by simp)), fun _ => rfl⟩
  have I1 := I.laid (a := s.heap.objs.size) (o := .own (s.heap.objs.size + 1)) (h' := s.heap.push PySem.W.emptyDict) (t' := s.toks) (fun b u q => Heap.get?_push_of_some _ q) (Nat.le_refl _) ⟨_, e1⟩
  refine I1.laid (a := s.heap.objs.size + 1) (o := .ins C s.heap.objs.size []) (t' := s.toks) (fun b u q => Heap.get?_push_of_some _ q) (Nat.le_of_eq (Heap.size_push _ _)) ?_
  have ne : s.heap.objs.size ≠ s.heap.objs.size + 1 := Nat.ne_of_lt (Nat.lt_succ_self _)
  refine ⟨by rw [upd_ne ne, upd_same], Nat.zero_le _, ne, e2, fun _ => none, (Heap.Ns1.of_empty e3).at fun o q => Heap.get?_push_of_some _ q, fun _ => True.intro, fun y hy => absurd rfl hy⟩

/-- e.f where nothing but the object is asked: through attributeBase (super) and the last hold -/
theorem attr_of {prog : Program} {w : World} {env : Env} {e : Expr} {f : Str} {pos : Pos} {s : Shared} {Q : Value → Shared → Prop} (hb : attributeBase e f env (eval e env) = eval e env)
    (h : wpAny (model prog w) A (eval e env) (fun o s₁ => wpAny (model prog w) A (getAttr o f true) Q E s₁) E s) : wpAny (model prog w) A (eval (.Attribute e f pos) env) Q E s :=
  Attribute_any_ h (by rw [arm_eval_Attribute, hb])
end

/-! ### readings and rules -/
/-- e.f, an attribute of the instance -/
def tFld (K : PySem.W.Frag) (ta : TE) (f : Str) : TE := fun σ H Q => ta σ H fun x H1 => ∃ a C dx fs v, x = .ref a ∧ H1 a = some (.ins C dx fs) ∧ Cls K C ∧ NoAttr K C f ∧ fs.lookup f = some v ∧ Q v H1
/-- e.f, a constant of the class -/
def tCon (K : PySem.W.Frag) (ta : TE) (f : Str) : TE := fun σ H Q => ta σ H fun x H1 => ∃ a C dx fs v u, x = .ref a ∧ H1 a = some (.ins C dx fs) ∧ Cls K C ∧ Con K C f v u ∧ fs.lookup f = none ∧ Q v H1
/-- e.f = value -/
def sFld (K : PySem.W.Frag) (ta tv : TE) (f : Str) : TS := fun D σ H => tv σ H fun y H1 => ta σ H1 fun x H2 => ∃ a C dx fs, x = .ref a ∧ H2 a = some (.ins C dx fs) ∧ Cls K C ∧ NoAttr K C f ∧ fs.length < 1000 ∧
  D.nx σ (upd H2 a (.ins C dx (putF f y fs)))
/-- an augmented operator on two values -/
def InOp (X : Cx) (op : Operator) (rd : V → V → Hp → VK → Prop) : Prop :=
  ∀ (pins : List (Addr × Obj)) (s : Shared) (σ : St) (H : Hp) (x y : V) (u v : Value) (Q : VK), Inv X pins σ H s → RelV x u → RelV y v → rd x y H Q → wpAny (model X.prog X.w) X.A (inplaceOp op u v) (EP X pins σ Q) X.xe s
/-- e.f op= value -/
def sFldAug (K : PySem.W.Frag) (ta tv : TE) (rd : V → V → Hp → VK → Prop) (f : Str) : TS := fun D σ H => ta σ H fun x H1 => ∃ a C dx fs v, x = .ref a ∧ H1 a = some (.ins C dx fs) ∧ Cls K C ∧ NoAttr K C f ∧ fs.lookup f = some v ∧
  tv σ H1 fun y H2 => rd v y H2 fun z H3 => ∃ dx' fs', H3 a = some (.ins C dx' fs') ∧ fs'.length < 1000 ∧ D.nx σ (upd H3 a (.ins C dx' (putF f z fs')))

section
variable {X : Cx} {o e value : Expr} {f : Str} {pos pos' tpos : Pos} {ta tv : TE}
theorem pe_fld (he : PE X e ta) (hb : attributeBase e f X.env (eval e X.env) = eval e X.env) : PE X (.Attribute e f pos) (tFld X.K ta f) := by
  intro pins s σ H Q I h
  refine attr_of hb (thn (he pins s σ H _ I h) fun u s1 ⟨x, H1, I1, rx, a, C, dx, fs, v, ex, ea, c, n, l, q⟩ => ?_)
  subst ex
  obtain rfl : u = Value.ref a := rx
  exact getattr_ok I1 ea c n l fun u' s2 I2 ru => ⟨v, H1, I2, ru, q⟩
theorem pe_con (he : PE X e ta) (hb : attributeBase e f X.env (eval e X.env) = eval e X.env) : PE X (.Attribute e f pos) (tCon X.K ta f) := by
  intro pins s σ H Q I h
  refine attr_of hb (thn (he pins s σ H _ I h) fun u s1 ⟨x, H1, I1, rx, a, C, dx, fs, v, u0, ex, ea, c, k, l, q⟩ => ?_)
  subst ex
  obtain rfl : u = Value.ref a := rx
  exact getcon_ok I1 ea c k l fun s2 I2 => ⟨v, H1, I2, k.rel, q⟩
theorem ps_fld (ha : PE X o ta) (hv : PE X value tv) (hs : swapsWith value (some (.Attribute o f pos')) pos.line X.env = pure false) : PS X (.Assign [.Attribute o f pos'] value pos) (sFld X.K ta tv f) := by
  intro pins s σ H D I h
  refine plainObj_wpAny_Assign_Attribute (thn (hv pins s σ H _ I h) fun u s1 ⟨y, H1, I1, ry, q⟩ => thn (ha pins s1 σ H1 _ I1 q) fun ov s2 ⟨x, H2, I2, rx, a, C, dx, fs, ex, ea, c, n, l, q2⟩ => ?_) hs
  subst ex
  obtain rfl : ov = Value.ref a := rx
  exact setattr_ok I2 ea c n l ry fun s3 I3 => ⟨σ, _, I3, q2⟩
theorem ps_fldaug {op : Operator} {rd : V → V → Hp → VK → Prop} (ha : PE X o ta) (hv : PE X value tv) (hop : InOp X op rd) : PS X (.AugAssign (.Attribute o f tpos) op value pos) (sFldAug X.K ta tv rd f) := by
  intro pins s σ H D I h
  refine wpAny_AugAssign_AttributeAny (thn (ha pins s σ H _ I h) fun ov s1 ⟨x, H1, I1, rx, a, C, dx, fs, v, ex, ea, c, n, l, q⟩ => ?_)
  subst ex
  obtain rfl : ov = Value.ref a := rx
  refine getattr_ok I1 ea c n l fun u s2 I2 ru => thn (hv pins s2 σ H1 _ I2 q) fun w3 s3 ⟨y, H2, I3, ry, q3⟩ => thn (hop pins s3 σ H2 v y u w3 _ I3 ru ry q3) fun w4 s4 ⟨z, H3, I4, rz, dx', fs', ea', l', q4⟩ => ?_
  exact setattr_ok I4 ea' c n l' rz fun s5 I5 => ⟨σ, _, I5, q4⟩
def rAdd : V → V → Hp → VK → Prop := fun x y H Q => ∃ i j, x = .int i ∧ y = .int j ∧ Q (.int (i + j)) H
def rSub : V → V → Hp → VK → Prop := fun x y H Q => ∃ i j, x = .int i ∧ y = .int j ∧ Q (.int (i - j)) H
theorem in_add : InOp X .Add rAdd := by
  rintro pins s σ H x y u v Q I rx ry ⟨i, j, rfl, rfl, q⟩
  obtain ⟨t, rfl⟩ := (show ∃ t, u = Value.int i t from rx)
  obtain ⟨t', rfl⟩ := (show ∃ t', v = Value.int j t' from ry)
  exact PyProof.Rows.iadd_int ⟨.int (i + j), H, I.tok _, ⟨_, rfl⟩, q⟩
theorem in_sub : InOp X .Sub rSub := by
  rintro pins s σ H x y u v Q I rx ry ⟨i, j, rfl, rfl, q⟩
  obtain ⟨t, rfl⟩ := (show ∃ t, u = Value.int i t from rx)
  obtain ⟨t', rfl⟩ := (show ∃ t', v = Value.int j t' from ry)
  exact PyProof.Rows.isub_int ⟨.int (i - j), H, I.tok _, ⟨_, rfl⟩, q⟩

/-- what is between an instance and its method: the tree of a method call -/
theorem methcall_of {pl : Sem Bool} {m : Str} {apos : Pos} {args : List Expr} {pins : List (Addr × Obj)} {s : Shared} {σ : St} {H : Hp} {Q : Value → Shared → Prop} {te : TE} (he : PE X e te) (I : Inv X pins σ H s)
    (h : te σ H fun x H1 => ∃ a C dx fs g, x = .ref a ∧ H1 a = some (.ins C dx fs) ∧ Cls X.K C ∧ Meth X.K C m g ∧ fs.lookup m = none ∧
      ∀ s1, Inv X pins σ H1 s1 → wpAny (model X.prog X.w) X.A (callWith pos (.ref g) [.ref a] (backTo pos (starEach args X.env)) (backToKw pos (keywordEach [] X.env))) Q X.xe s1)
    (ht : eval (.Call (.Attribute e m apos) args [] pos) X.env = (do
      let ov ← eval e X.env
      standAt apos.atName
      let (f, first) ← holding [ov] (getMethod ov m pl)
      callWith pos f first (backTo pos (starEach args X.env)) (backToKw pos (keywordEach [] X.env)))) :
    wpAny (model X.prog X.w) X.A (eval (.Call (.Attribute e m apos) args [] pos) X.env) Q X.xe s := by
  refine PySem.W.methodCall_KW (pl := pl) (thn (he pins s σ H _ I h) fun u s1 ⟨x, H1, I1, rx, a, C, dx, fs, g, ex, ea, c, k, l, q⟩ => ?_) ht
  subst ex
  obtain rfl : u = Value.ref a := rx
  exact getmeth_ok I1 ea c k l (q s1 I1)
end

/-! ### isinstance -/
section
variable {X : Cx} {pins : List (Addr × Obj)} {σ : St} {H : Hp} {s : Shared} {A : Around} {E : Value → Shared → Prop} {Q : Value → Shared → Prop} {c : Value} {b : Bool}
/-- the type of a value, as the fragment's deciders take it; for an instance its class -/
inductive TyOf (K : PySem.W.Frag) (H : Hp) : V → Value → Prop where
  | non : TyOf K H .non (.type "NoneType")
  | bl (x : Bool) : TyOf K H (.bl x) (.type "bool")
  | int (i : Int) : TyOf K H (.int i) (.type "int")
  | str (x : Str) : TyOf K H (.str x) (.type "str")
  | flt (x : UInt64) : TyOf K H (.flt x) (.type "float")
  | lst {a : Addr} {xs : List V} (e : H a = some (.lst xs)) : TyOf K H (.ref a) (.type "list")
  | frz {a : Addr} {o : Obj} {xs : List V} (e : H a = some (.frz o (.lst xs))) : TyOf K H (.ref a) (.type "list")
  | tup {a : Addr} {xs : List V} (e : H a = some (.tup xs)) : TyOf K H (.ref a) (.type "tuple")
  | dK {a : Addr} {kvs : List (Key × V)} (e : H a = some (.dK kvs)) : TyOf K H (.ref a) (.type "dict")
  | dT {a : Addr} {kvs : List (List Key × V)} (e : H a = some (.dT kvs)) : TyOf K H (.ref a) (.type "dict")
  | ins {a C dx : Addr} {fs : List (Str × V)} (e : H a = some (.ins C dx fs)) (cl : Cls K C) (ha : PySem.W.findIn K (.ref C) "__class__" = some (some (.builtin "object.__class__")))
      (hn : PySem.W.specialIn K (.builtin "object.__class__") "__get__" = some (some (.builtin "getset_descriptor.__get__"))) (htk : PySem.W.takesIn K (.builtin "object.__class__") = some true)
      (hm : PySem.W.mroIn K C (.type "object") = some true) : TyOf K H (.ref a) (.ref C)
/-- isinstance(x, c) for one class c, a built-in or an own one: kitOne's answer -/
theorem isinst_ok {x : V} {u t : Value} (I : Inv X pins σ H s) (rx : RelV x u) (ty : TyOf X.K H x t) (e : PySem.W.kitOne X.K t c = some b) (h : ∀ tk, Q (.bool b) { s with toks := tk }) :
    wpAny (model X.prog X.w) A (call (.builtin "isinstance") [u, c]) Q E s := by
  cases ty with
  | non => cases (show u = Value.none from rx); exact PySem.W.kia_one PySem.W.kitx_none I.kIn True.intro e (fun z => nomatch z) h
  | bl y => cases (show u = Value.bool y from rx); exact PySem.W.kia_one PySem.W.kitx_bool I.kIn True.intro e (fun z => nomatch z) h
  | int i => obtain ⟨t, q⟩ := (show ∃ t, u = Value.int i t from rx); cases q; exact PySem.W.kia_one PySem.W.kitx_int I.kIn True.intro e (fun z => nomatch z) h
  | str y => obtain ⟨t, q⟩ := (show ∃ t, u = Value.str y t from rx); cases q; exact PySem.W.kia_one PySem.W.kitx_str I.kIn True.intro e (fun z => nomatch z) h
  | flt y => obtain ⟨t, q⟩ := (show ∃ t, u = Value.float y t from rx); cases q; exact PySem.W.kia_one PySem.W.kitx_float I.kIn True.intro e (fun z => nomatch z) h
  | @lst a xs ea =>
    cases (show u = Value.ref a from rx)
    obtain ⟨_, _, n, _, h1⟩ := (show ObjOk X.prog X.w H s.heap a (.lst xs) from I.hok a _ ea)
    exact PySem.W.kia_one PySem.W.kitx_list I.kIn ⟨_, h1, rfl⟩ e (fun z => nomatch z) h
  | @frz a ob xs ea =>
    cases (show u = Value.ref a from rx)
    obtain ⟨_, _, _, n, _, h1⟩ := (show ObjOk X.prog X.w H s.heap a (.frz ob (.lst xs)) from I.hok a _ ea)
    exact PySem.W.kia_one PySem.W.kitx_list I.kIn ⟨_, h1, rfl⟩ e (fun z => nomatch z) h
  | @tup a xs ea =>
    cases (show u = Value.ref a from rx)
    obtain ⟨_, _, _, p⟩ := (show ObjOk X.prog X.w H s.heap a (.tup xs) from I.hok a _ ea)
    obtain ⟨o, h1, h2, _⟩ := p
    exact PySem.W.kia_one PySem.W.kitx_tuple I.kIn ⟨o, h1, h2⟩ e (fun z => nomatch z) h
  | @dK a kvs ea =>
    cases (show u = Value.ref a from rx)
    obtain ⟨_, _, vs, _, p⟩ := (show ObjOk X.prog X.w H s.heap a (.dK kvs) from I.hok a _ ea)
    obtain ⟨o, es, ep, h1, h2, _⟩ := p
    exact PySem.W.kia_one PySem.W.kitx_dict I.kIn ⟨o, h1, h2.1⟩ e (fun z => nomatch z) h
  | @dT a kvs ea =>
    cases (show u = Value.ref a from rx)
    obtain ⟨_, _, xs, _, o, es, ep, h1, h2, _⟩ := (show ObjOk X.prog X.w H s.heap a (.dT kvs) from I.hok a _ ea)
    exact PySem.W.kia_one PySem.W.kitx_dict I.kIn ⟨o, h1, h2.1⟩ e (fun z => nomatch z) h
  | @ins a C dx fs ea cl ha hn htk hm =>
    cases (show u = Value.ref a from rx)
    obtain ⟨mA, O, _⟩ := ins_get I.hok ea
    obtain ⟨od, J, _⟩ := O.look
    exact PySem.W.kia_one (PySem.W.kitx_own (cl.get _) cl.hd ha hn htk hm) I.kIn J e (fun z => nomatch z) h
end
end L2

namespace L2
open PySem PySem.Spec PyProof.Rows

/-! ### room -/
structure Room (k : Nat) (A : Around) : Prop where
  hd : A.handled = none
  dp : A.depth + 3 * k + 5 < recursionLimit
  un : A.units + 16 * k + 200 < cLine
theorem Room.mono {j k : Nat} {A : Around} (r : Room k A) (h : j ≤ k) : Room j A := ⟨r.hd, by have := r.dp; omega, by have := r.un; omega⟩
theorem Room.deeper {k : Nat} {A : Around} (r : Room (k + 1) A) (env : Env) : Room k (A.deeper env) :=
  ⟨r.hd, by have := r.dp; show A.depth + 1 + 3 * k + 5 < _; omega, by have := r.un; show A.units + 3 + 16 * k + 200 < _; omega⟩
theorem Room.in1 {k : Nat} {A : Around} (r : Room (k + 1) A) : Room k A.in1 :=
  ⟨r.hd, by have := r.dp; show A.depth + 3 * k + 5 < _; omega, by have := r.un; show A.units + 1 + 16 * k + 200 < _; omega⟩
theorem make_depth {A : Around} {C : Addr} {us : List Value} {kw : List (Str × Value)} : (A.under (.builtin "type.__call__" ⟨.ref C :: us, kw⟩)).depth = A.depth + 1 := by
  first | rfl | simp [Around.under, Code.weight, Code.isCreation, Code.isGuard, Code.isCaller, Code.frames, Code.isFrame, guardIds]
theorem make_units {A : Around} {C : Addr} {us : List Value} {kw : List (Str × Value)} : (A.under (.builtin "type.__call__" ⟨.ref C :: us, kw⟩)).units = A.units + 1 := by
  first | rfl | simp [Around.under, Code.cUnits, Code.frames, Code.isFrame]
theorem Room.make {k : Nat} {A : Around} (r : Room (k + 1) A) (C : Addr) (us : List Value) (kw : List (Str × Value)) : Room k (A.under (.builtin "type.__call__" ⟨.ref C :: us, kw⟩)) :=
  ⟨r.hd, by have := r.dp; rw [make_depth]; omega, by have := r.un; rw [make_units]; omega⟩
theorem Room.depth {k : Nat} {A : Around} (r : Room k A) : A.depth < recursionLimit := by have := r.dp; omega
theorem Room.units {k : Nat} {A : Around} (r : Room k A) : A.units + 64 < cLine := by have := r.un; omega
theorem Room.units0 {k : Nat} {A : Around} (r : Room k A) : A.units < cLine := by have := r.un; omega

/-! ### argument lists and displays -/
def tNil : TA := fun _ H Q => Q [] H
def tCons (ta : TE) (tr : TA) : TA := fun σ H Q => ta σ H fun x H1 => tr σ H1 fun xs H2 => Q (x :: xs) H2
section
variable {X : Cx} {e : Expr} {es : List Expr} {te : TE} {t : TA} {pos : Pos}
theorem pa_nil : PA X [] tNil := fun _ _ _ _ H Q I h => Calls.spliced_nil ⟨[], H, I, .nil, h⟩
theorem pa_cons (ha : PE X e te) (hr : PA X es t) (hs : starEach (e :: es) X.env = (false, eval e X.env) :: starEach es X.env := by rfl) : PA X (e :: es) (tCons te t) := by
  intro pos pins s σ H Q I h
  rw [hs]
  show wpAny _ _ (spliced ((false, eval e X.env) :: backTo pos (starEach es X.env))) _ _ s
  refine Calls.spliced_cons (thn (ha pins s σ H _ I h) fun u s1 ⟨x, H1, I1, r1, q1⟩ => ?_)
  exact thn (hr pos pins s1 σ H1 _ I1 q1) fun us s2 ⟨xs, H2, I2, r2, q2⟩ => ⟨x :: xs, H2, I2, .cons r1 r2, q2⟩

/-- a tuple, a list of written items -/
def tTup (t : TA) : TE := fun σ H Q => t σ H fun xs H1 => xs.length ≤ sizeLine ∧ ∀ p, H1 p = none → Q (.ref p) (upd H1 p (.tup xs))
def tLst (t : TA) : TE := fun σ H Q => t σ H fun xs H1 => xs.length ≤ sizeLine ∧ ∀ p, H1 p = none → Q (.ref p) (upd H1 p (.lst xs))
theorem pe_tup {x1} (h : PA X es t) : PE X (.Tuple es x1 pos) (tTup t) := by
  intro pins s σ H Q I hq
  refine wpAny_Tuple_spliced (thn (h pos pins s σ H _ I hq) fun us s1 ⟨xs, H1, I1, r, z, q⟩ => ⟨by rw [← r.length]; exact z, ?_⟩)
  have hf : H1 s1.heap.objs.size = none := I1.hok.fresh (Nat.le_refl _)
  refine ⟨.ref s1.heap.objs.size, upd H1 s1.heap.objs.size (.tup xs), I1.laid (t' := s1.toks) (fun b u e => Heap.get?_push_of_some _ e) (Nat.le_refl _) ?_, rfl, q _ hf⟩
  exact ⟨z, us, r, ⟨_, Heap.get?_push_size _ rfl, rfl, _, rfl⟩⟩
theorem pe_lst (h : PA X es t) : PE X (.List es pos) (tLst t) := by
  intro pins s σ H Q I hq
  refine wpAny_List_spliced (thn (h pos pins s σ H _ I hq) fun us s1 ⟨xs, H1, I1, r, z, q⟩ => ⟨by rw [← r.length]; exact z, ?_⟩)
  have hf : H1 s1.heap.objs.size = none := I1.hok.fresh (Nat.le_refl _)
  refine ⟨.ref s1.heap.objs.size, upd H1 s1.heap.objs.size (.lst xs), I1.laid (t' := s1.toks) (fun b u e => Heap.get?_push_of_some _ e) (Nat.le_refl _) ?_, rfl, q _ hf⟩
  exact ⟨z, us, 0, r, Heap.get?_push_size _ rfl⟩
end

/-! ### what a def promises -/
/-- a def's promise: the bound arguments in the parameters' order, the heap, the wanted end, the wanted exception -/
abbrev Sp := List V → Hp → VK → XK → Prop
/-- how an exception lies behind a call (file 08 gives it): the callers' frames, abstract heap and state ahead of the call, the wish, the exception, the state -/
abbrev CXT := List Env → Hp → Shared → XK → Value → Shared → Prop

/-- the state at a call -/
structure Env0 (P : Program) (w : World) (K : PySem.W.Frag) (mg : Str → Option Value) (base : Heap) (A : Around) (outer : List Env) (s : Shared) (H : Hp) : Prop where
  frames : A.frames = some outer
  mod : Mod K mg base
  bs : ∀ b o, base.get? b = some o → s.heap.get? b = some o ∧ H b = none
  bsz : base.objs.size ≤ s.heap.objs.size
  funs : s.heap.FunFrames base outer
  frf : ∀ b ∈ frs outer, H b = none
  hok : HOk P w H s.heap
  bare : AllBare s.gens
/-- a call's end -/
def CE (outer : List Env) (P : Program) (w : World) (H : Hp) (s : Shared) (Q : VK) (u : Value) (s' : Shared) : Prop :=
  ∃ v H', s'.os = s.os ∧ AllBare s'.gens ∧ Un (frs outer) [] H H' s.heap s'.heap ∧ HOk P w H' s'.heap ∧ RelV v u ∧ Q v H'
def CR (CX : CXT) (outer : List Env) (P : Program) (w : World) (H : Hp) (s : Shared) (Q : VK) (E : XK) (r : Result) (s' : Shared) : Prop :=
  match r with
  | .ok (.ret u) => CE outer P w H s Q u s'
  | .ok _ => False
  | .error e => CX outer H s E e s'
structure FnOk (P : Program) (w : World) (K : PySem.W.Frag) (mg : Str → Option Value) (base : Heap) (CX : CXT) (k : Nat) (f : Addr) (fd : FuncData) (ps : List Str) (sp : Sp) : Prop where
  len : ∀ vs H Q E, sp vs H Q E → vs.length = ps.length
  run : ∀ (A : Around) (outer : List Env) (s : Shared) (H : Hp) (args : Args) (us : List Value) (vs : List V) (Q : VK) (E : XK), Room k A → Env0 P w K mg base A outer s H → BindsTo s fd args (ps.zip us) → Vals vs us → sp vs H Q E →
    codeAny (model P w) A (.call (.ref f) args) (CR CX outer P w H s Q E) s
theorem FnOk.mono {P : Program} {w : World} {K : PySem.W.Frag} {mg : Str → Option Value} {base : Heap} {CX : CXT} {j k : Nat} {f : Addr} {fd : FuncData} {ps : List Str} {sp : Sp} (F : FnOk P w K mg base CX j f fd ps sp) (h : j ≤ k) :
    FnOk P w K mg base CX k f fd ps sp := ⟨F.len, fun A outer s H args us vs Q E hr => F.run A outer s H args us vs Q E (hr.mono h)⟩
/-- a weaker promise -/
theorem FnOk.imp {P : Program} {w : World} {K : PySem.W.Frag} {mg : Str → Option Value} {base : Heap} {CX : CXT} {k : Nat} {f : Addr} {fd : FuncData} {ps : List Str} {sp sp' : Sp} (F : FnOk P w K mg base CX k f fd ps sp)
    (h : ∀ vs H Q E, sp' vs H Q E → sp vs H Q E) : FnOk P w K mg base CX k f fd ps sp' :=
  ⟨fun vs H Q E q => F.len vs H Q E (h _ _ _ _ q), fun A outer s H args us vs Q E hr he hb hv hs => F.run A outer s H args us vs Q E hr he hb hv (h _ _ _ _ hs)⟩

theorem Env0.make {P : Program} {w : World} {K : PySem.W.Frag} {mg : Str → Option Value} {base : Heap} {A : Around} {outer : List Env} {s : Shared} {H : Hp} (e : Env0 P w K mg base A outer s H) (C : Addr) (us : List Value) (kw : List (Str × Value)) :
    Env0 P w K mg base (A.under (.builtin "type.__call__" ⟨.ref C :: us, kw⟩)) outer s H := ⟨by first | exact e.frames | (simpa [Around.under, Code.envs, Code.isFrame, pushEnvs] using e.frames), e.mod, e.bs, e.bsz, e.funs, e.frf, e.hok, e.bare⟩
theorem Env0.in1 {P : Program} {w : World} {K : PySem.W.Frag} {mg : Str → Option Value} {base : Heap} {A : Around} {outer : List Env} {s : Shared} {H : Hp} (e : Env0 P w K mg base A outer s H) :
    Env0 P w K mg base A.in1 outer s H := ⟨e.frames, e.mod, e.bs, e.bsz, e.funs, e.frf, e.hok, e.bare⟩

section
variable {X : Cx} {pins : List (Addr × Obj)} {σ : St} {H : Hp} {s s' : Shared}
/-- from a body: what a callee wants -/
theorem Inv.env0 (I : Inv X pins σ H s) : Env0 X.prog X.w X.K X.mg X.base X.A X.stack s H :=
  ⟨I.ok.frames, I.ok.mod, I.bs, Nat.le_trans I.ok.bsz I.sz, I.stack, I.stkFree, I.hok, I.bare⟩
/-- behind a call -/
theorem Inv.after {Q : VK} {u : Value} (I : Inv X pins σ H s) (h : CE X.stack X.prog X.w H s Q u s') : EP X pins σ Q u s' := by
  obtain ⟨v, H', os, bare, un, hok, r, q⟩ := h
  obtain ⟨hh, g, d, t, os'⟩ := s'
  obtain rfl : os' = s.os := os
  exact ⟨v, H', I.call (h' := hh) (g' := g) (d' := d) (t' := t) (ch := []) un hok bare (fun b z => absurd z (by simp)), r, q⟩
end

/-! ### calls -/
/-- f(..): the written arguments, then the defaults dvs; E: what is wanted of an exception -/
def tCall (sp : Sp) (dvs : List V) (E : XK) (t : TA) : TE := fun σ H Q => t σ H fun vs H1 => sp (vs ++ dvs) H1 Q E
/-- o.m(..) of an instance of the class at C -/
def tMeth (C : Addr) (m : Str) (sp : Sp) (dvs : List V) (E : XK) (ta : TE) (t : TA) : TE := fun σ H Q => ta σ H fun x H1 => ∃ a dx fs, x = .ref a ∧ H1 a = some (.ins C dx fs) ∧ fs.lookup m = none ∧
  t σ H1 fun vs H2 => sp (x :: (vs ++ dvs)) H2 Q E
/-- C(..): a new instance and its dict, then __init__ -/
def tMake (C : Addr) (sp : Sp) (dvs : List V) (E : XK) (t : TA) : TE := fun σ H Q => t σ H fun vs H1 => ∀ x dx, H1 x = none → H1 dx = none → dx ≠ x →
  sp (.ref x :: (vs ++ dvs)) (upd (upd H1 dx (.own x)) x (.ins C dx [])) (fun v H2 => v = .non ∧ Q (.ref x) H2) E

/-- how the parameters are bound: us the positional arguments, kw the keywords' values by name, ds the defaults that fill up -/
def Binds (K : PySem.W.Frag) (fd : FuncData) (ps : List Str) (ds : List Value) : Prop :=
  ∀ (s : Shared) (us : List Value), K.In s.heap → (us ++ ds).length = ps.length → BindsTo s fd ⟨us, []⟩ (ps.zip (us ++ ds))
/-- every parameter is given -/
theorem Binds.all {K : PySem.W.Frag} {fd : FuncData} {ps : List Str} (h : ∀ us : List Value, us.length = ps.length → bindArgs fd ⟨us, []⟩ = pure (ps.zip us)) : Binds K fd ps [] := fun s us _ hl => by
  rw [List.append_nil] at hl ⊢
  exact .of_eq (h us hl)

/-- an exception of a callee reaches what this body wants of exceptions -/
def Passes (CX : CXT) (X : Cx) (E : XK) : Prop := ∀ (pins : List (Addr × Obj)) (σ : St) (H : Hp) (s : Shared) (e : Value) (s' : Shared), Inv X pins σ H s → CX X.stack H s E e s' → X.xe e s'

section
variable {X : Cx} {CX : CXT} {k : Nat} {f C : Addr} {fd : FuncData} {ps : List Str} {sp : Sp} {dvs : List V} {ds : List Value} {E : XK} {x m : Str} {p pos apos : Pos} {e o : Expr} {es : List Expr} {ta : TE} {t : TA}

/-- the callee runs -/
theorem run_fn {pins : List (Addr × Obj)} {σ : St} {H : Hp} {s : Shared} {Q : VK} {us : List Value} {vs : List V} (F : FnOk X.prog X.w X.K X.mg X.base CX k f fd ps sp) (hr : Room k X.A) (hb : Binds X.K fd ps ds) (hd : Vals dvs ds) (hx : Passes CX X E)
    (I : Inv X pins σ H s) (r : Vals vs us) (h : sp (vs ++ dvs) H Q E) : wpAny (model X.prog X.w) X.A (call (.ref f) us) (EP X pins σ Q) X.xe s := by
  have r2 : Vals (vs ++ dvs) (us ++ ds) := r.append hd
  have hl : (us ++ ds).length = ps.length := by rw [← r2.length]; exact F.len _ _ _ _ h
  refine wpAny_call (codeAny_mono (F.run X.A X.stack s H ⟨us, []⟩ (us ++ ds) (vs ++ dvs) Q E hr I.env0 (hb s us I.kIn hl) r2 h) fun r s' hq => ?_)
  cases r with
  | error e => exact hx pins σ H s e s' I hq
  | ok fl =>
    cases fl with
    | ret u => exact I.after hq
    | next => exact False.elim hq
    | brk => exact False.elim hq
    | cont => exact False.elim hq

theorem pe_call (F : FnOk X.prog X.w X.K X.mg X.base CX k f fd ps sp) (hr : Room k X.A) (hg : Gl X x) (hm : X.mg x = some (.ref f)) (hk : PySem.W.keepIn X.K (.ref f) = true) (hb : Binds X.K fd ps ds) (hd : Vals dvs ds) (hx : Passes CX X E)
    (ha : PA X (e :: es) t) (hdb : (x == ("__debug__" : Str)) = false := by decide) (he : starEach (e :: es) X.env = (false, eval e X.env) :: starEach es X.env := by rfl) (hpl : (backTo pos (starEach es X.env)).any (·.1) = false := by rfl) :
    PE X (.Call (.Name x p) (e :: es) [] pos) (tCall sp dvs E t) := by
  intro pins s σ H Q I h
  refine wpAny_Call_Name_kw (ld_glob I hg hm ?_ hdb)
  refine PySem.W.callWith_K (h₀ := X.base) I.ok.mod.kin hk (thn (ha pos pins s σ H _ I h) fun us s1 ⟨vs, H1, I1, r, q⟩ => ⟨I1.kIn, ?_⟩) he hpl
  exact run_fn F hr hb hd hx I1 r q
theorem pe_call0 (F : FnOk X.prog X.w X.K X.mg X.base CX k f fd ps sp) (hr : Room k X.A) (hg : Gl X x) (hm : X.mg x = some (.ref f)) (hk : PySem.W.keepIn X.K (.ref f) = true) (hb : Binds X.K fd ps ds) (hd : Vals dvs ds) (hx : Passes CX X E)
    (hdb : (x == ("__debug__" : Str)) = false := by decide) : PE X (.Call (.Name x p) [] [] pos) (tCall sp dvs E tNil) := by
  intro pins s σ H Q I h
  refine wpAny_Call_Name_kw (ld_glob I hg hm ?_ hdb)
  exact PySem.W.callWith_K0 I.kIn hk (run_fn (us := []) F hr hb hd hx I .nil h)

/-- o.m(e, ..) -/
theorem pe_meth {pl : Sem Bool} (he : PE X o ta) (c : Cls X.K C) (hm : Meth X.K C m f) (F : FnOk X.prog X.w X.K X.mg X.base CX k f fd ps sp) (hr : Room k X.A) (hb : Binds X.K fd ps ds) (hd : Vals dvs ds) (hx : Passes CX X E) (ha : PA X (e :: es) t)
    (hst : starEach (e :: es) X.env = (false, eval e X.env) :: starEach es X.env := by rfl) (hpl : (backTo pos (starEach es X.env)).any (·.1) = false := by rfl)
    (ht : eval (.Call (.Attribute o m apos) (e :: es) [] pos) X.env = (do
      let ov ← eval o X.env
      standAt apos.atName
      let (f, first) ← holding [ov] (getMethod ov m pl)
      callWith pos f first (backTo pos (starEach (e :: es) X.env)) (backToKw pos (keywordEach [] X.env))) := by rfl) :
    PE X (.Call (.Attribute o m apos) (e :: es) [] pos) (tMeth C m sp dvs E ta t) := by
  intro pins s σ H Q I h
  refine PySem.W.methodCall_KW (pl := pl) (thn (he pins s σ H _ I h) fun u s1 ⟨x, H1, I1, rx, a, dx, fs, ex, ea, l, q⟩ => ?_) ht
  subst ex
  obtain rfl : u = Value.ref a := rx
  refine getmeth_ok I1 ea c hm l ?_
  refine PySem.W.callWith_K (first := [.ref a]) (h₀ := X.base) I.ok.mod.kin hm.kp (thn (ha pos pins s1 σ H1 _ I1 q) fun us s2 ⟨vs, H2, I2, r, q2⟩ => ⟨I2.kIn, ?_⟩) hst hpl
  exact run_fn (us := .ref a :: us) (vs := .ref a :: vs) F hr hb hd hx I2 (.cons rfl r) q2
/-- o.m() -/
theorem pe_meth0 {pl : Sem Bool} (he : PE X o ta) (c : Cls X.K C) (hm : Meth X.K C m f) (F : FnOk X.prog X.w X.K X.mg X.base CX k f fd ps sp) (hr : Room k X.A) (hb : Binds X.K fd ps ds) (hd : Vals dvs ds) (hx : Passes CX X E)
    (ht : eval (.Call (.Attribute o m apos) [] [] pos) X.env = (do
      let ov ← eval o X.env
      standAt apos.atName
      let (f, first) ← holding [ov] (getMethod ov m pl)
      callWith pos f first (backTo pos (starEach [] X.env)) (backToKw pos (keywordEach [] X.env))) := by rfl) :
    PE X (.Call (.Attribute o m apos) [] [] pos) (tMeth C m sp dvs E ta tNil) := by
  intro pins s σ H Q I h
  refine PySem.W.methodCall_KW (pl := pl) (thn (he pins s σ H _ I h) fun u s1 ⟨x, H1, I1, rx, a, dx, fs, ex, ea, l, q⟩ => ?_) ht
  subst ex
  obtain rfl : u = Value.ref a := rx
  refine getmeth_ok I1 ea c hm l ?_
  exact PySem.W.callWith_K0 (first := [.ref a]) I1.kIn hm.kp (run_fn (us := [.ref a]) (vs := [.ref a]) F hr hb hd hx I1 (.cons rfl .nil) q)

/-- what a class must have to be made -/
structure Mk (K : PySem.W.Frag) (C f : Addr) : Prop where
  makes : PySem.W.makesIn K C = true
  init : PySem.W.findIn K (.ref C) "__init__" = some (some (.ref f))
  fn : PySem.W.isFn K (.ref f) = true
  kp : PySem.W.keepIn K (.ref C) = true

theorem run_make {pins : List (Addr × Obj)} {σ : St} {H : Hp} {s : Shared} {Q : VK} {us : List Value} {vs : List V} (M : Mk X.K C f) (F : FnOk X.prog X.w X.K X.mg X.base CX k f fd ps sp) (hr : Room (k + 1) X.A) (hb : Binds X.K fd ps ds) (hd : Vals dvs ds)
    (hx : Passes CX X E) (I : Inv X pins σ H s) (r : Vals vs us)
    (h : ∀ x dx, H x = none → H dx = none → dx ≠ x → sp (.ref x :: (vs ++ dvs)) (upd (upd H dx (.own x)) x (.ins C dx [])) (fun v H2 => v = .non ∧ Q (.ref x) H2) E) :
    wpAny (model X.prog X.w) X.A (call (.ref C) us) (EP X pins σ Q) X.xe s := by
  have hq := h (s.heap.objs.size + 1) s.heap.objs.size (I.hok.fresh (Nat.le_succ _)) (I.hok.fresh (Nat.le_refl _)) (Nat.ne_of_lt (Nat.lt_succ_self _))
  have I2 := Inv.made (C := C) I
  have r2 : Vals (V.ref (s.heap.objs.size + 1) :: (vs ++ dvs)) (Value.ref (s.heap.objs.size + 1) :: (us ++ ds)) := .cons rfl (r.append hd)
  have hl : (Value.ref (s.heap.objs.size + 1) :: us ++ ds).length = ps.length := by
    have e := r2.length
    rw [F.len _ _ _ _ hq] at e
    exact e.symm
  refine wpAny_call (make_map (f := f) I.kIn M.makes M.init (beq_iff_eq.mp M.fn) (codeAny_mono (F.run _ X.stack _ _ ⟨Value.ref (s.heap.objs.size + 1) :: us, []⟩ (Value.ref (s.heap.objs.size + 1) :: (us ++ ds)) _ _ E (hr.make C us [])
    (I2.env0.make C us []) (hb _ (Value.ref (s.heap.objs.size + 1) :: us) I2.kIn hl) r2 hq) fun r s' hq' => ?_))
  cases r with
  | error e => exact hx pins σ _ _ e s' I2 hq'
  | ok fl =>
    cases fl with
    | ret u =>
      obtain ⟨v, H', I3, rv, ev, q3⟩ := I2.after hq'
      subst ev
      exact ⟨rv, ⟨V.ref (s.heap.objs.size + 1), H', I3, rfl, q3⟩⟩
    | next => exact False.elim hq'
    | brk => exact False.elim hq'
    | cont => exact False.elim hq'
theorem pe_make (M : Mk X.K C f) (F : FnOk X.prog X.w X.K X.mg X.base CX k f fd ps sp) (hr : Room (k + 1) X.A) (hg : Gl X x) (hm : X.mg x = some (.ref C)) (hb : Binds X.K fd ps ds) (hd : Vals dvs ds) (hx : Passes CX X E)
    (ha : PA X (e :: es) t) (hdb : (x == ("__debug__" : Str)) = false := by decide) (he : starEach (e :: es) X.env = (false, eval e X.env) :: starEach es X.env := by rfl) (hpl : (backTo pos (starEach es X.env)).any (·.1) = false := by rfl) :
    PE X (.Call (.Name x p) (e :: es) [] pos) (tMake C sp dvs E t) := by
  intro pins s σ H Q I h
  refine wpAny_Call_Name_kw (ld_glob I hg hm ?_ hdb)
  refine PySem.W.callWith_K (h₀ := X.base) I.ok.mod.kin M.kp (thn (ha pos pins s σ H _ I h) fun us s1 ⟨vs, H1, I1, r, q⟩ => ⟨I1.kIn, ?_⟩) he hpl
  exact run_make M F hr hb hd hx I1 r q
theorem pe_make0 (M : Mk X.K C f) (F : FnOk X.prog X.w X.K X.mg X.base CX k f fd ps sp) (hr : Room (k + 1) X.A) (hg : Gl X x) (hm : X.mg x = some (.ref C)) (hb : Binds X.K fd ps ds) (hd : Vals dvs ds) (hx : Passes CX X E)
    (hdb : (x == ("__debug__" : Str)) = false := by decide) : PE X (.Call (.Name x p) [] [] pos) (tMake C sp dvs E tNil) := by
  intro pins s σ H Q I h
  refine wpAny_Call_Name_kw (ld_glob I hg hm ?_ hdb)
  exact PySem.W.callWith_K0 I.kIn M.kp (run_make (us := []) M F hr hb hd hx I .nil h)
end

/-! ### keywords -/
/-- the values of the keywords, from the left -/
def PK (X : Cx) (kws : List Keyword) (t : TA) : Prop :=
  ∀ (pos : Pos) (pins : List (Addr × Obj)) (s : Shared) (σ : St) (H : Hp) (Q : List V → Hp → Prop), Inv X pins σ H s → t σ H Q → wpAny (model X.prog X.w) X.A (evalAll ((backToKw pos (keywordEach kws X.env)).map (·.2))) (AP X pins σ Q) X.xe s
section
variable {X : Cx} {CX : CXT} {k : Nat} {f C : Addr} {fd : FuncData} {ps ks : List Str} {sp : Sp} {E : XK} {x m : Str} {p pos apos kpos : Pos} {e o : Expr} {es : List Expr} {kws : List Keyword} {te ta : TE} {t tk : TA} {nm : Option Str}
theorem pk_nil : PK X [] tNil := fun _ _ _ _ H Q I h => wpAny_evalAll_nil ⟨[], H, I, .nil, h⟩
theorem pk_cons (ha : PE X e te) (hr : PK X kws t) : PK X (⟨nm, e, kpos⟩ :: kws) (tCons te t) := by
  intro pos pins s σ H Q I h
  show wpAny _ _ (evalAll ((do let v ← eval e X.env; standAt pos; pure v) :: (backToKw pos (keywordEach kws X.env)).map (·.2))) _ _ s
  refine wpAny_evalAll_cons (wpAny_bind (thn (ha pins s σ H _ I h) fun u s1 ⟨x, H1, I1, r1, q1⟩ => wpAny_bind (wpAny_standAt (wpAny_pure ?_))))
  exact thn (hr pos pins s1 σ H1 _ I1 q1) fun us s2 ⟨xs, H2, I2, r2, q2⟩ => ⟨x :: xs, H2, I2, .cons r1 r2, q2⟩

/-- how a call with keywords binds: g puts the positional values us and the keywords' values ws (names ks) in the parameters' order, defaults among them -/
structure KBinds (K : PySem.W.Frag) (fd : FuncData) (ps ks : List Str) (g : List Value → List Value → List Value) (gV : List V → List V → List V) : Prop where
  to : ∀ (s : Shared) (us ws : List Value), K.In s.heap → (g us ws).length = ps.length → BindsTo s fd ⟨us, ks.zip ws⟩ (ps.zip (g us ws))
  rel : ∀ {vs : List V} {us : List Value} {zs : List V} {ws : List Value}, Vals vs us → Vals zs ws → Vals (gV vs zs) (g us ws)
def tCallK (sp : Sp) (gV : List V → List V → List V) (E : XK) (t tk : TA) : TE := fun σ H Q => t σ H fun vs H1 => tk σ H1 fun zs H2 => sp (gV vs zs) H2 Q E
variable {g : List Value → List Value → List Value} {gV : List V → List V → List V}
theorem run_fnk {pins : List (Addr × Obj)} {σ : St} {H : Hp} {s : Shared} {Q : VK} {us ws : List Value} {vs zs : List V} (F : FnOk X.prog X.w X.K X.mg X.base CX k f fd ps sp) (hr : Room k X.A) (hb : KBinds X.K fd ps ks g gV) (hx : Passes CX X E)
    (I : Inv X pins σ H s) (r : Vals vs us) (rz : Vals zs ws) (h : sp (gV vs zs) H Q E) : wpAny (model X.prog X.w) X.A (call (.ref f) us (ks.zip ws)) (EP X pins σ Q) X.xe s := by
  have r2 := hb.rel r rz
  have hl : (g us ws).length = ps.length := by rw [← r2.length]; exact F.len _ _ _ _ h
  refine wpAny_call (codeAny_mono (F.run X.A X.stack s H ⟨us, ks.zip ws⟩ (g us ws) (gV vs zs) Q E hr I.env0 (hb.to s us ws I.kIn hl) r2 h) fun r s' hq => ?_)
  cases r with
  | error e => exact hx pins σ H s e s' I hq
  | ok fl =>
    cases fl with
    | ret u => exact I.after hq
    | next => exact False.elim hq
    | brk => exact False.elim hq
    | cont => exact False.elim hq
/-- f(e, .., k = v, ..) -/
theorem pe_callK (F : FnOk X.prog X.w X.K X.mg X.base CX k f fd ps sp) (hr : Room k X.A) (hg : Gl X x) (hm : X.mg x = some (.ref f)) (hk : PySem.W.keepIn X.K (.ref f) = true) (hb : KBinds X.K fd ps ks g gV) (hx : Passes CX X E)
    (ha : PA X (e :: es) t) (hkw : PK X kws tk) (hall : (backToKw pos (keywordEach kws X.env)).all (·.1.isSome) = true := by rfl) (hks : (backToKw pos (keywordEach kws X.env)).filterMap (·.1) = ks := by rfl)
    (hdb : (x == ("__debug__" : Str)) = false := by decide) (he : starEach (e :: es) X.env = (false, eval e X.env) :: starEach es X.env := by rfl)
    (hpl : ((backTo pos (starEach (e :: es) X.env)).any (·.1) || (backToKw pos (keywordEach kws X.env)).any (·.1.isNone)) = false := by rfl) :
    PE X (.Call (.Name x p) (e :: es) kws pos) (tCallK sp gV E t tk) := by
  intro pins s σ H Q I h
  refine wpAny_Call_Name_kw (ld_glob I hg hm ?_ hdb)
  refine PySem.W.callWith_KW (h₀ := X.base) I.ok.mod.kin hk hall (thn (ha pos pins s σ H _ I h) fun us s1 ⟨vs, H1, I1, r, q⟩ => ?_) hpl he
  refine thn (hkw pos pins s1 σ H1 _ I1 q) fun ws s2 ⟨zs, H2, I2, rz, q2⟩ => ⟨I2.kIn, ?_⟩
  rw [hks]
  exact run_fnk F hr hb hx I2 r rz q2
end

/-! ### a def's body keeps its promise -/
/-- names: the parameters first -/
structure FnScope (N P : List Str) (sc : Scope) : Prop where
  kind : sc.kind = .function
  co : sc.isCoroutine = false
  gen : sc.isGenerator = false
  nd : N.Nodup
  pre : N.take P.length = P
  par : ∀ x ∈ P, sc.names.lookup x = some .local ∨ sc.names.lookup x = some .cell
  nofree : ∀ y ∈ sc.names, y.2 ≠ .free

theorem bindL_out {kindOf : Str → Option NameKind} {x : Str} : ∀ {binds : List (Str × Value)} {m : Str → Option Value}, (∀ v, (x, v) ∉ binds) → bindL kindOf binds m x = m x
  | [], _, _ => rfl
  | (n, v) :: r, m, h => by
    unfold bindL
    rw [bindL_out fun w hw => h w (List.mem_cons_of_mem _ hw)]
    split
    · have : x ≠ n := by rintro rfl; exact h v List.mem_cons_self
      simp [this]
    · rfl
theorem bindC_out {kindOf : Str → Option NameKind} {x : Str} : ∀ {binds : List (Str × Value)} {m : Str → Option Value}, (∀ v, (x, v) ∉ binds) → bindC kindOf binds m x = m x
  | [], _, _ => rfl
  | (n, v) :: r, m, h => by
    unfold bindC
    rw [bindC_out fun w hw => h w (List.mem_cons_of_mem _ hw)]
    split
    · rfl
    · have : x ≠ n := by rintro rfl; exact h v List.mem_cons_self
      simp [this]
theorem bindL_get {kindOf : Str → Option NameKind} {x : Str} {v : Value} : ∀ {P : List Str} {vs : List Value} {i : Nat} {m : Str → Option Value}, P.Nodup → P[i]? = some x → vs[i]? = some v → kindOf x = some .local →
    bindL kindOf (P.zip vs) m x = some v
  | [], _, _, _, _, h, _, _ => by simp at h
  | _ :: _, [], _, _, _, _, h, _ => by simp at h
  | p :: P, w :: vs, 0, m, nd, h1, h2, hk => by
    simp at h1 h2; subst h1; subst h2
    show bindL kindOf ((p, w) :: P.zip vs) m p = _
    unfold bindL
    rw [bindL_out fun v hv => (List.nodup_cons.mp nd).1 (List.of_mem_zip hv).1, if_pos hk]
    simp
  | p :: P, w :: vs, i + 1, m, nd, h1, h2, hk => by
    show bindL kindOf ((p, w) :: P.zip vs) m x = _
    unfold bindL
    exact bindL_get (i := i) (List.nodup_cons.mp nd).2 (by simpa using h1) (by simpa using h2) hk
theorem bindC_get {kindOf : Str → Option NameKind} {x : Str} {v : Value} : ∀ {P : List Str} {vs : List Value} {i : Nat} {m : Str → Option Value}, P.Nodup → P[i]? = some x → vs[i]? = some v → kindOf x ≠ some .local →
    bindC kindOf (P.zip vs) m x = some v
  | [], _, _, _, _, h, _, _ => by simp at h
  | _ :: _, [], _, _, _, _, h, _ => by simp at h
  | p :: P, w :: vs, 0, m, nd, h1, h2, hk => by
    simp at h1 h2; subst h1; subst h2
    show bindC kindOf ((p, w) :: P.zip vs) m p = _
    unfold bindC
    rw [bindC_out fun v hv => (List.nodup_cons.mp nd).1 (List.of_mem_zip hv).1, if_neg hk]
    simp
  | p :: P, w :: vs, i + 1, m, nd, h1, h2, hk => by
    show bindC kindOf ((p, w) :: P.zip vs) m x = _
    unfold bindC
    exact bindC_get (i := i) (List.nodup_cons.mp nd).2 (by simpa using h1) (by simpa using h2) hk

/-- the names' values at the entry -/
def start (N : List Str) (vs : List V) : St := vs.map some ++ List.replicate (N.length - vs.length) none

/-- the context of a def's body, at its entry; an exception leaves the frame, then lies as CX says -/
def cxOf (CX : CXT) (P : Program) (w : World) (K : PySem.W.Frag) (mg : Str → Option Value) (base : Heap) (N : List Str) (qual : Str) (scope : Scope) (f : Addr) (cd : Value) (A : Around) (outer : List Env) (s : Shared) (H : Hp) (E : XK) : Cx where
  prog := P
  w := w
  K := K
  mg := mg
  base := base
  A := A.deeper (envOfC qual scope s.heap.objs.size f cd)
  N := N
  s₀ := s
  H₀ := H
  env := envOfC qual scope s.heap.objs.size f cd
  outer := outer
  stack := envOfC qual scope s.heap.objs.size f cd :: outer
  ex := []
  calm := true
  fn := fun _ => true
  pn := []
  xe := fun e s' => wpAny (model P w) (A.deeper (envOfC qual scope s.heap.objs.size f cd)) (leaving (envOfC qual scope s.heap.objs.size f cd) e) (fun _ s'' => CX outer H s E e s'') (fun e' s'' => CX outer H s E e' s'') s'

theorem cell_has {sc : Scope} {n : Nat} {x : Str} (h : sc.names.lookup x = some .cell) : ∃ c, (cellsFrom n sc.names []).lookup x = some c := by
  have q := PySem.W.cellsFrom_some sc.names n [] (.inl h)
  exact Option.isSome_iff_exists.mp q

theorem inv_start {CX : CXT} {P : Program} {w : World} {K : PySem.W.Frag} {mg : Str → Option Value} {base : Heap} {N ps : List Str} {qual : Str} {scope : Scope} {f : Addr} {cd : Value} {A : Around} {outer : List Env} {s s1 : Shared} {H : Hp} {E : XK} {us : List Value} {vs : List V}
    (S : FnScope N ps scope) (hd : A.handled = none) (e0 : Env0 P w K mg base A outer s H) (hl : vs.length = ps.length) (r : Vals vs us)
    (x : InCallC s s.heap.objs.size (bindL (envOfC qual scope s.heap.objs.size f cd).kindOf (ps.zip us) fun _ => none) (cellsFrom (s.heap.objs.size + 1) scope.names []) (bindC (envOfC qual scope s.heap.objs.size f cd).kindOf (ps.zip us) fun _ => none) s1) :
    Inv (cxOf CX P w K mg base N qual scope f cd A outer s H E) [] (start N vs) H s1 := by
  have hpl : ps.length ≤ N.length := by have := congrArg List.length S.pre; rw [List.length_take] at this; omega
  obtain ⟨h1, tk, rfl, hk⟩ := x.done
  have noA : ∀ b : Addr, b ∉ (cxOf CX P w K mg base N qual scope f cd A outer s H E).ex := fun b z => absurd (show b ∈ ([] : List Addr) from z) (by simp)
  refine ⟨⟨e0.mod, S.kind, rfl, rfl, Nat.le_refl _, fun y z c h1 h2 => ?_, fun y hy => ?_, fun y c _ h => ?_, fun _ => hd, Around.frames_deeper e0.frames, .inr ⟨rfl, rfl⟩, fun b z => absurd z (noA b), e0.bs, e0.bsz, fun b _ _ => noA b, fun b z => absurd z (noA b), e0.funs, e0.frf⟩,
    rfl, e0.bare, Un.kept hk, ⟨_, x.toInCall.ns, fun i y v h1 h2 h3 => ?_⟩, fun y c h => ⟨_, x.cell y c h⟩, e0.hok.fresh (Nat.le_refl _), fun y c h => ?_, fun p hp => absurd (show p ∈ ([] : List (Addr × Obj)) from hp) (by simp), e0.hok.kept hk, ?_⟩
  · exact name_of_addr x.apart (PySem.mem_of_lookup h1) (PySem.mem_of_lookup h2)
  · have hy : scope.names.lookup y = some .cell ∨ scope.names.lookup y = some .free := hy
    rcases hy with hy | hy
    · exact cell_has hy
    · exact absurd rfl (S.nofree _ (PySem.mem_of_lookup hy))
  · exact Nat.le_of_lt (x.above y c (PySem.mem_of_lookup h))
  · have hi : i < vs.length := by
      unfold start at h2
      by_cases hi : i < vs.length
      · exact hi
      · rw [List.getElem?_append_right (by simpa using hi)] at h2
        rw [List.getElem?_replicate] at h2
        split at h2 <;> cases h2
    have ha : vs[i]? = some v := by
      unfold start at h2
      rw [List.getElem?_append_left (by simpa using hi), List.getElem?_map] at h2
      cases e : vs[i]? with
      | none => rw [e] at h2; cases h2
      | some a => rw [e] at h2; cases h2; rfl
    obtain ⟨u, hu, rv⟩ := r.get ha
    have hp : ps[i]? = some y := by
      rw [← S.pre, List.getElem?_take_of_lt (by omega)]; exact h1
    have ndP : ps.Nodup := by rw [← S.pre]; exact S.nd.sublist (List.take_sublist _ _)
    refine ⟨u, rv, ?_⟩
    rcases S.par y (List.mem_of_getElem? hp) with k | k
    · exact .inl ⟨k, bindL_get ndP hp hu k⟩
    · obtain ⟨c, e⟩ := cell_has (n := s.heap.objs.size + 1) k
      refine .inr ⟨.inl k, c, e, ?_⟩
      have q := x.cell y c e
      rw [bindC_get ndP hp hu (by show scope.names.lookup y ≠ _; rw [k]; decide)] at q
      exact q
  · exact e0.hok.fresh (Nat.le_of_lt (x.above y c (PySem.mem_of_lookup h)))
  · unfold start
    show _ = N.length
    rw [List.length_append, List.length_map, List.length_replicate]
    omega

/-- THE RULE: a def (or a method) of the text, by its body. The body's reading t is chosen for each entry; it is run at the parameters' values -/
theorem fn_of {CX : CXT} {P : Program} {w : World} {K : PySem.W.Frag} {mg : Str → Option Value} {base : Heap} {k : Nat} {f : Addr} {name qual : Str} {params : Arguments} {body : List Stmt} {scope : Scope} {dV kV doc pm cdv ct oc : Value} {an od : Option Addr}
    {osl : Array (Option Value)} {N ps : List Str} {sp : Sp} (lk : K.lookup f = some ⟨oc, od, .func (PySem.W.fnOf name qual params body scope dV kV doc pm an cdv ct), osl⟩) (hcd : PySem.W.codeIn K cdv qual = true) (S : FnScope N ps scope)
    (len : ∀ vs H Q E, sp vs H Q E → vs.length = ps.length)
    (hbody : ∀ (A : Around) (outer : List Env) (s : Shared) (H : Hp) (vs : List V) (Q : VK) (E : XK), Room k (A.deeper (envOfC qual scope s.heap.objs.size f cdv)) → sp vs H Q E →
      ∃ t, PSs (cxOf CX P w K mg base N qual scope f cdv A outer s H E) body t ∧ t { nx := fun _ H' => Q .non H', rt := Q } (start N vs) H) :
    FnOk P w K mg base CX (k + 1) f (PySem.W.fnOf name qual params body scope dV kV doc pm an cdv ct) ps sp := by
  refine ⟨len, fun A outer s H args us vs Q E hr e0 hb r hsp => ?_⟩
  have hl := len _ _ _ _ hsp
  have KX : K.In s.heap := e0.mod.kin.keeps fun b o e => (e0.bs b o e).1
  have lim : s.heap.NoLimit := e0.mod.nolimit.keeps fun b o e => (e0.bs b o e).1
  have hkind : ∀ y ∈ ps.zip us, scope.names.lookup y.1 = some .local ∨ (scope.names.lookup y.1 = some .cell ∧ ((cellsFrom (s.heap.objs.size + 1) scope.names []).lookup y.1).isSome = true) := fun ⟨n, v⟩ hy => by
    rcases S.par n (List.of_mem_zip hy).1 with q | q
    · exact .inl q
    · exact .inr ⟨q, PySem.W.cellsFrom_some _ _ _ (.inl q)⟩
  refine codeAny_call_function hr.depth (KX _ _ lk) rfl S.co S.gen rfl (PySem.W.codeRec_of KX hcd) (hb _ _ _ _ ?_)
  refine wpAny_newFunctionEnv_cells S.kind hkind fun env he s1 x => ?_
  subst he
  refine ⟨lim.keeps x.toInCall.keep, codeAny_func ?_⟩
  obtain ⟨t, ht, hq⟩ := hbody A outer s H vs Q E (hr.deeper _) hsp
  have I : Inv (cxOf CX P w K mg base N qual scope f cdv A outer s H E) [] (start N vs) H s1 := inv_start S hr.hd e0 hl r x
  refine wpAny_mono (ht [] s1 (start N vs) H _ I hq) (fun fl s' hs => ?_) fun e s' hs => hs
  have fin : ∀ {σ' : St} {H' : Hp} {v : V} {u : Value}, Inv (cxOf CX P w K mg base N qual scope f cdv A outer s H E) [] σ' H' s' → RelV v u → Q v H' → CE outer P w H s Q u s' :=
    fun {σ' H' v u} J rv q => ⟨v, H', J.os, J.bare, J.base, J.hok, rv, q⟩
  cases fl with
  | ret u =>
    obtain ⟨v, σ', H', J, rv, q⟩ := hs
    exact fin J rv q
  | next =>
    obtain ⟨σ', H', J, q⟩ := hs
    exact fin (v := V.non) (u := Value.none) J rfl q
  | brk =>
    obtain ⟨_, _, _, q⟩ := hs
    exact False.elim q
  | cont =>
    obtain ⟨_, _, _, q⟩ := hs
    exact False.elim q
end L2

namespace L2
open PySem PySem.Spec PyProof.Rows
section
variable {X : Cx} {x : Str} {p pos : Pos} {e : Expr} {es : List Expr} {t : TA} {id T : String} {r : List V → Hp → VK → Prop}

def tCB (r : List V → Hp → VK → Prop) (t : TA) : TE := fun σ H Q => t σ H fun vs H1 => r vs H1 Q
/-- f(e, ..), f a built-in function -/
theorem pe_callB (hc : CallR X (.builtin id) r) (hg : Gl X x) (hm : X.mg x = none) (hv : bootBuiltins x = some (.builtin id)) (ha : PA X (e :: es) t) (hn : x ≠ "__name__" := by decide) (hdb : (x == ("__debug__" : Str)) = false := by decide)
    (he : starEach (e :: es) X.env = (false, eval e X.env) :: starEach es X.env := by rfl) (hpl : (backTo pos (starEach es X.env)).any (·.1) = false := by rfl) : PE X (.Call (.Name x p) (e :: es) [] pos) (tCB r t) := by
  intro pins s σ H Q I h
  refine wpAny_Call_Name_kw (ld_blt I hg hm hv ?_ hn hdb)
  exact PyProof.Rows.callWith_builtin1 (thn (ha pos pins s σ H _ I h) fun us s1 ⟨vs, H1, I1, r1, q1⟩ => hc pins s1 σ H1 vs us Q I1 r1 q1) he hpl
/-- T(e, ..), T a built-in type -/
theorem pe_callTy (hc : CallR X (.type T) r) (hg : Gl X x) (hm : X.mg x = none) (hv : bootBuiltins x = some (.type T)) (ha : PA X (e :: es) t) (hn : x ≠ "__name__" := by decide) (hdb : (x == ("__debug__" : Str)) = false := by decide)
    (he : starEach (e :: es) X.env = (false, eval e X.env) :: starEach es X.env := by rfl) (hpl : (backTo pos (starEach es X.env)).any (·.1) = false := by rfl) : PE X (.Call (.Name x p) (e :: es) [] pos) (tCB r t) := by
  intro pins s σ H Q I h
  refine wpAny_Call_Name_kw (ld_blt I hg hm hv ?_ hn hdb)
  exact PyProof.Rows.callWith_type1 (thn (ha pos pins s σ H _ I h) fun us s1 ⟨vs, H1, I1, r1, q1⟩ => hc pins s1 σ H1 vs us Q I1 r1 q1) he hpl
/-- T() -/
theorem pe_callTy0 (hc : CallR X (.type T) r) (hg : Gl X x) (hm : X.mg x = none) (hv : bootBuiltins x = some (.type T)) (hn : x ≠ "__name__" := by decide) (hdb : (x == ("__debug__" : Str)) = false := by decide) :
    PE X (.Call (.Name x p) [] [] pos) (tCB r tNil) := by
  intro pins s σ H Q I h
  refine wpAny_Call_Name_kw (ld_blt I hg hm hv ?_ hn hdb)
  exact PyProof.Rows.callWith_type0 (hc pins s σ H [] [] Q I .nil h)
end
end L2

namespace HT
open PySem PyProof.Rows

/-- t < u of tuples of ints -/
def lexLt : List Int → List Int → Bool
  | [], [] => false
  | [], _ :: _ => true
  | _ :: _, [] => false
  | x :: xs, y :: ys => if x = y then lexLt xs ys else decide (x < y)
theorem lexLt_cons (x y : Int) (xs ys : List Int) : lexLt (x :: xs) (y :: ys) = if x = y then lexLt xs ys else decide (x < y) := rfl
theorem lexLt_nil_nil : lexLt [] [] = false := rfl
theorem lexLt_nil_cons (y : Int) (ys : List Int) : lexLt [] (y :: ys) = true := rfl
theorem lexLt_cons_nil (x : Int) (xs : List Int) : lexLt (x :: xs) [] = false := rfl

theorem eqAt_int (A : Around) (s : Shared) (a : Int) (t : Tok) (c : Int) (u : Tok) : ∃ e, SeqAt.EqAt A s (.int a t) (.int c u) e ∧ (e = true ↔ a = c) :=
  ⟨(a == c), SeqAt.EqAt.int_int a t c u, by simp⟩
theorem rcLt_int (A : Around) (s : Shared) (a : Int) (t : Tok) (c : Int) (u : Tok) (prog : Program) (w : World) (E : Value → Shared → Prop) (Q : Value → Shared → Prop) (h : Q (.bool (decide (a < c))) s) :
    wpAny (model prog w) A (richCompare .Lt (.int a t) (.int c u)) Q E s :=
  (PyProof.Rows.lt_int h : wpAny (model prog w) A (compareOp .Lt (.int a t) (.int c u)) Q E s)

section
open PySem.SeqAt
open PySem.AutoSeq1 (wpAny_loadPart')
open PySem.MeetsSeq PySem.MeetsSeq2 PySem.MeetsSeq3

theorem tuple_lt_ints (l b : Addr) (items items2 : Array Value) (n n2 : Nat) (dd dd2 : Option Addr) (sl sl2 : Array (Option Value)) (ns ms : List Int) (hi : IntsAre items.toList ns) (hj : IntsAre items2.toList ms) :
    Meets (Builtin.«tuple.__lt__» ⟨[.ref l, .ref b], []⟩)
      (fun _ R s => s.heap.get? l = some { cls := .type "tuple", dict := dd, data := .seq items n, slots := sl } ∧ s.heap.get? b = some { cls := .type "tuple", dict := dd2, data := .seq items2 n2, slots := sl2 } ∧
        R (.ok (.ret (.bool (lexLt ns ms)))) s) :=
  .of_wp fun prog w A R s h => by
    obtain ⟨hp, g, d, tk, os⟩ := s; obtain ⟨hl, hb, h⟩ := h
    have f2 := AutoSeq1.sub_tuple_tuple
    have z1 : items.size = ns.length := by rw [← hi.length]; simp
    have z2 : items2.size = ms.length := by rw [← hj.length]; simp
    wp_walk using wpAny_loadPart' hl, wpAny_loadPart' hb, wpAny_forIn_list _ (fun rest b s' => b.1 = none ∧ s' = ⟨hp, g, d, tk, os⟩ ∧ ∃ (vs ws : List Value) (ns' ms' : List Int), rest = vs.zip ws ∧
      IntsAre vs ns' ∧ IntsAre ws ms' ∧ ns'.length + items2.size = ms'.length + items.size ∧ R (.ok (.ret (.bool (lexLt ns' ms')))) ⟨hp, g, d, tk, os⟩) _
    case turn =>
      rintro ⟨y, x⟩ rest b s' ⟨hb', rfl, vs, ws, ns', ms', hz, hvi, hwi, hlen, hR⟩
      cases hvi with
      | nil => rw [List.zip_nil_left] at hz; cases hz
      | cons a t hvi' =>
        cases hwi with
        | nil => rw [List.zip_nil_right] at hz; cases hz
        | cons c u hwi' =>
          rw [List.zip_cons_cons] at hz
          injection hz with hyx hrest
          injection hyx with hy hx
          subst hy hx
          rw [lexLt_cons] at hR
          simp only [List.length_cons] at hlen
          obtain ⟨e, he, hiff⟩ := eqAt_int A.in1 ⟨hp, g, d, tk, os⟩ a t c u
          refine wpAny_bind (he prog w _ _ ?_)
          cases e with
          | true =>
            rw [if_pos (hiff.mp rfl)] at hR
            wp_walk
            exact ⟨rfl, rfl, _, _, _, _, hrest, hvi', hwi', by omega, hR⟩
          | false =>
            rw [if_neg (fun q => absurd (hiff.mpr q) Bool.false_ne_true)] at hR
            have hri := rcLt_int A.in1 ⟨hp, g, d, tk, os⟩ a t c u prog w
            wp_walk using hri
            exact ⟨_, rfl, by simpa using hR⟩
    case fin =>
      rintro ⟨b1, b2⟩ s' ⟨hb', rfl, vs, ws, ns', ms', hz, hvi, hwi, hlen, hR⟩
      simp only at hb'
      subst hb'
      have hv : lexLt ns' ms' = decide (items.size < items2.size) := by
        cases hvi with
        | nil =>
          cases hwi with
          | nil =>
            simp only [List.length_nil] at hlen
            rw [lexLt_nil_nil]
            exact (decide_eq_false (by omega)).symm
          | cons c u hw =>
            simp only [List.length_nil, List.length_cons] at hlen
            rw [lexLt_nil_cons]
            exact (decide_eq_true (by omega)).symm
        | cons a t hv =>
          cases hwi with
          | nil =>
            simp only [List.length_nil, List.length_cons] at hlen
            rw [lexLt_cons_nil]
            exact (decide_eq_false (by omega)).symm
          | cons c u hw =>
            rw [List.zip_cons_cons] at hz
            cases hz
      rw [hv] at hR
      wp_walk
      exact ⟨_, rfl, by simpa [Builtin.Tuple.tupleCompareSizes] using hR⟩
    case h =>
      exact ⟨rfl, rfl, items.toList, items2.toList, ns, ms, rfl, hi, hj, by omega, h⟩
end

section
variable {prog : Program} {w : World} {A : Around} {E : Value → Shared → Prop} {s : Shared}

theorem lt_tupInts {l b : Addr} {items items2 : Array Value} {ns ms : List Int} {Q : Value → Shared → Prop} (hl : IsTup s.heap l items) (hb : IsTup s.heap b items2) (hi : IntsAre items.toList ns) (hj : IntsAre items2.toList ms)
    (hu : A.units < cLine) (h : Q (.bool (lexLt ns ms)) s) : wpAny (model prog w) A (compareOp .Lt (.ref l) (.ref b)) Q E s := by
  obtain ⟨⟨cls, dd, data, sl⟩, ho, hc, n, hd⟩ := id hl
  obtain ⟨⟨cls2, dd2, data2, sl2⟩, ho2, hc2, n2, hd2⟩ := id hb
  simp only at hc hd hc2 hd2
  subst hc hd hc2 hd2
  exact richCompare_meets_room (op := .Lt) ⟨_, ho, rfl⟩ ⟨_, ho2, rfl⟩ PySem.F.slot_tuple_lt PySem.F.entry_tuple_lt (PySem.F.args_tuple_lt_2 _ _) (tuple_lt_ints l b items items2 n n2 dd dd2 sl sl2 ns ms hi hj)
    ⟨ho, ho2, show Value.bool (lexLt ns ms) ≠ Value.notImplemented ∧ Q (.bool (lexLt ns ms)) s from ⟨(fun x => nomatch x), h⟩⟩ hu

/-- t + u, t not empty -/
theorem cat_tup {t b : Addr} {vs ws : List Value} {Q : Value → Shared → Prop} (ht : IsTup s.heap t vs.toArray) (hb : IsTup s.heap b ws.toArray) (hv : vs ≠ [])
    (h1 : ws = [] → Q (.ref t) s) (h2 : ws ≠ [] → Q (.ref s.heap.objs.size) { s with heap := s.heap.push { cls := .type "tuple", data := .seq (vs ++ ws).toArray } })
    (hsz : vs.length + ws.length ≤ sizeLine) : wpAny (model prog w) A (binaryOp .Add (.ref t) (.ref b)) Q E s := by
  obtain ⟨⟨cls, dd, data, sl⟩, ho, hc, n, hd⟩ := id ht
  obtain ⟨⟨cls2, dd2, data2, sl2⟩, ho2, hc2, n2, hd2⟩ := id hb
  simp only at hc hd hc2 hd2
  subst hc hd hc2 hd2
  have e : vs.toArray ++ ws.toArray = (vs ++ ws).toArray := by simp
  by_cases hw : ws = []
  · exact concat_meets ⟨_, ho, rfl⟩ ⟨_, ho2, rfl⟩ noFill_tuple_add seq_tuple_add PySem.F.slot_tuple_add PySem.F.entry_tuple_add (PySem.F.args_tuple_add_2 _ _)
      (tuple_addW1 t b vs.toArray ws.toArray n n2 dd dd2 sl sl2 (by simpa using hv) (by simp [hw])) ⟨ho, ho2, h1 hw⟩
  · refine concat_meets ⟨_, ho, rfl⟩ ⟨_, ho2, rfl⟩ noFill_tuple_add seq_tuple_add PySem.F.slot_tuple_add PySem.F.entry_tuple_add (PySem.F.args_tuple_add_2 _ _)
      (tuple_addW2 t b vs.toArray ws.toArray n n2 dd dd2 sl sl2 (by simpa using hv) (by simpa using hw) (by rw [List.size_toArray, List.size_toArray]; exact hsz)) ⟨ho, ho2, ?_⟩
    rw [e]
    exact h2 hw

/-! ### t[a:b], not the whole -/
/-- a slice's bound as a place among n (d where it is left out) -/
def sIx (n d : Nat) : Option Int → Nat
  | none => d
  | some v => if v < 0 then (v + (n : Int)).toNat else min v.toNat n
theorem sIx_none (n d : Nat) : sIx n d none = d := rfl
theorem sIx_nat (n d k : Nat) : sIx n d (some (k : Int)) = min k n := by
  show (if (k : Int) < 0 then ((k : Int) + (n : Int)).toNat else min (k : Int).toNat n) = min k n
  rw [if_neg (by omega), Int.toNat_natCast]
theorem sIx_le (n d : Nat) (hd : d ≤ n) (o : Option Int) : sIx n d o ≤ n := by
  cases o with
  | none => exact hd
  | some v =>
    show (if v < 0 then (v + (n : Int)).toNat else min v.toNat n) ≤ n
    by_cases hv : v < 0
    · rw [if_pos hv]; omega
    · rw [if_neg hv]; exact Nat.min_le_right _ _
theorem clip_eq (v : Int) (n d : Nat) : (if v < 0 then max (v + (n : Int)) 0 else min v (n : Int)) = ((sIx n d (some v) : Nat) : Int) := by
  show (if v < 0 then max (v + (n : Int)) 0 else min v (n : Int)) = (((if v < 0 then (v + (n : Int)).toNat else min v.toNat n) : Nat) : Int)
  by_cases hv : v < 0
  · simp only [if_pos hv]; omega
  · simp only [if_neg hv]; omega
theorem adjust_gen (lo hi : Option Int) (n : Nat) : Builtin.Slice.sliceAdjust lo hi 1 (n : Int) = (((sIx n 0 lo : Nat) : Int), ((sIx n n hi : Nat) : Int)) := by
  have h1 : ¬ ((1 : Int) < 0) := by omega
  unfold Builtin.Slice.sliceAdjust
  simp only [h1, if_false]
  refine Prod.ext ?_ ?_
  · cases lo with
    | none => rfl
    | some v => exact clip_eq v n 0
  · cases hi with
    | none => rfl
    | some v => exact clip_eq v n n
theorem places_gen (i j : Nat) : Builtin.Slice.slicePlaces (i : Int) (j : Int) 1 = j - i := by
  unfold Builtin.Slice.slicePlaces
  have h1 : (1 : Int) > 0 := by omega
  simp only [h1, if_true, Int.ediv_one]
  split <;> omega
theorem slicePart_ {v : Value} {o : Option Int} {Q : Option Int → Shared → Prop} (p : IsPart v o) (h : Q o s) : wpAny (model prog w) A (Builtin.Slice.slicePartIndex v) Q E s := by
  cases p with
  | none => exact slicePart_none h
  | int i t => exact slicePart_int h
theorem sliceApplied_gen {sl : Addr} {vl vu : Value} {lo hi : Option Int} {n : Nat} {Q : Int × Int × Nat → Shared → Prop} (hs : s.heap.IsSliceOf sl vl vu .none) (pl : IsPart vl lo) (pu : IsPart vu hi)
    (h : Q (((sIx n 0 lo : Nat) : Int), 1, sIx n n hi - sIx n 0 lo) s) : wpAny (model prog w) A (Builtin.Slice.sliceApplied (.ref sl) (pure (n : Int))) Q E s := by
  obtain ⟨os, hos, hcs, hds⟩ := id hs
  unfold Builtin.Slice.sliceApplied Builtin.Slice.sliceFields
  refine wpAny_bind (wpAny_bind (wpAny_field hos hds (x := vl) rfl (wpAny_bind (wpAny_field hos hds (x := vu) rfl (wpAny_bind (wpAny_field hos hds (x := .none) rfl (wpAny_pure ?_)))))))
  refine wpAny_bind (slicePart_none ?_)
  show wpAny _ _ (if ((1 : Int) == 0) = true then _ else _) _ _ s
  rw [if_neg (by decide)]
  refine wpAny_bind (slicePart_ pl (wpAny_bind (slicePart_ pu (wpAny_bind (wpAny_pure ?_)))))
  show wpAny _ _ (match Builtin.Slice.sliceAdjust lo hi 1 (n : Int) with | (lo, hi) => pure (lo, (1 : Int), Builtin.Slice.slicePlaces lo hi 1)) _ _ s
  rw [adjust_gen lo hi n]
  show wpAny _ _ (pure (((sIx n 0 lo : Nat) : Int), (1 : Int), Builtin.Slice.slicePlaces ((sIx n 0 lo : Nat) : Int) ((sIx n n hi : Nat) : Int) 1)) _ _ s
  rw [places_gen]
  exact wpAny_pure h
theorem pick_gen (xs : Array Value) (i k : Nat) : ((List.range k).filterMap fun (m : Nat) => xs[((i : Int) + (m : Int) * 1).toNat]?).toArray = ((xs.toList.drop i).take k).toArray := by
  have e : (fun (m : Nat) => xs[((i : Int) + (m : Int) * 1).toNat]?) = fun m => xs[i + m]? := by
    funext m
    have : ((i : Int) + (m : Int) * 1).toNat = i + m := by omega
    rw [this]
  rw [e]
  have := pick_run xs i k
  rw [List.filterMap_map] at this
  have e2 : ((fun x => xs[x]?) ∘ fun x => i + x) = fun m => xs[i + m]? := rfl
  rw [e2] at this
  rw [this]

theorem getItem_tuple_cut {t sl : Addr} {items : Array Value} {vl vu : Value} {lo hi : Option Int} {Q : Value → Shared → Prop} (ht : IsTup s.heap t items) (hs : s.heap.IsSliceOf sl vl vu .none) (pl : IsPart vl lo) (pu : IsPart vu hi)
    (hw : ¬ (sIx items.size 0 lo = 0 ∧ sIx items.size items.size hi = items.size))
    (h : Q (.ref s.heap.objs.size) { s with heap := s.heap.push { cls := .type "tuple", data := .seq ((items.toList.drop (sIx items.size 0 lo)).take (sIx items.size items.size hi - sIx items.size 0 lo)).toArray } })
    (hsz : items.size ≤ sizeLine) : wpAny (model prog w) A (getItem (.ref t) (.ref sl)) Q E s := by
  have htake : sizeOk (.seq ((items.toList.drop (sIx items.size 0 lo)).take (sIx items.size items.size hi - sIx items.size 0 lo)).toArray) := by
    show ((items.toList.drop (sIx items.size 0 lo)).take (sIx items.size items.size hi - sIx items.size 0 lo)).toArray.size ≤ sizeLine
    rw [List.size_toArray, List.length_take, List.length_drop, Array.length_toList]
    omega
  have hj : sIx items.size items.size hi ≤ items.size := sIx_le _ _ (Nat.le_refl _) hi
  obtain ⟨os, hos, hcs, hds⟩ := id hs
  have hTs : s.TypeIs (.ref sl) "slice" := ⟨os, hos, hcs⟩
  unfold getItem
  try with_reducible refine wpAny_holding ?_
  first | refine wpAny_bind (wpAny_pure ?_) | skip
  refine wpAny_bind (wpAny_sequenceKey ht.typeIs (by decide) ?_)
  refine wpAny_bind (wpAny_callSpecial?_slot (name := Str.ofString "__getitem__") ht.typeIs PyProof.Rows.slot_tuple_getitem
    (wpAny_call_entry PyProof.Rows.slot_tuple_getitem ht.typeIs entry_tuple_getitem ?_ (args_tuple_getitem _ _)))
  show wpAny _ _ (Builtin.Tuple.tupleItemsOf (.ref t) >>= _) _ _ s
  refine wpAny_bind (tupleItemsOf_ ht ?_)
  refine wpAny_bind (wpAny_typeOf hTs ?_)
  rw [if_pos (by decide)]
  refine wpAny_bind (sliceApplied_gen hs pl pu ?_)
  have hno : ¬ ((((sIx items.size 0 lo : Nat) : Int) == 0 && (1 : Int) == 1 && (sIx items.size items.size hi - sIx items.size 0 lo) == items.size) = true) := by
    intro q
    rw [Bool.and_eq_true, Bool.and_eq_true] at q
    have q1 : ((sIx items.size 0 lo : Nat) : Int) = 0 := eq_of_beq q.1.1
    have q2 : sIx items.size items.size hi - sIx items.size 0 lo = items.size := eq_of_beq q.2
    exact hw ⟨by omega, by omega⟩
  show wpAny _ _ (if (((sIx items.size 0 lo : Nat) : Int) == 0 && (1 : Int) == 1 && (sIx items.size items.size hi - sIx items.size 0 lo) == items.size) = true then _ else _) _ _ s
  rw [if_neg hno, pick_gen]
  first
    | exact wpAny_bind (m := Builtin.Tuple.tupleExact _) (wpAny_newObj_type (wpAny_pure ⟨_, rfl, wpAny_pure h⟩) htake)
    | exact wpAny_bind (m := Builtin.Tuple.tupleExact _) (wpAny_newObj_type (wpAny_bind (wpAny_pure (wpAny_pure ⟨_, rfl, wpAny_pure h⟩))) htake)
    | exact wpAny_bind (wpAny_bind (m := Builtin.Tuple.tupleExact _) (wpAny_newObj_type (wpAny_pure (wpAny_pure ⟨_, rfl, wpAny_pure h⟩)) htake))
    | exact wpAny_bind (wpAny_bind (m := Builtin.Tuple.tupleExact _) (wpAny_newObj_type (wpAny_pure ⟨_, rfl, wpAny_pure h⟩) htake))
end
end HT

namespace L2
open PySem PySem.Spec PyProof.Rows

/-! ### the parts of a slice -/
abbrev TO := St → Hp → (Option Int → Hp → Prop) → Prop
/-- a slice's part (left out, or an int) -/
def PO (X : Cx) (e : Option Expr) (t : TO) : Prop :=
  ∀ (pins : List (Addr × Obj)) (s : Shared) (σ : St) (H : Hp) (Q : Option Int → Hp → Prop), Inv X pins σ H s → t σ H Q →
    wpAny (model X.prog X.w) X.A (evalPart e X.env) (fun u s' => ∃ o H', Inv X pins σ H' s' ∧ IsPart u o ∧ Q o H') X.xe s
def tNoPart : TO := fun _ H Q => Q none H
def tPart (t : TE) : TO := fun σ H Q => t σ H fun x H1 => ∃ i, x = .int i ∧ Q (some i) H1

theorem intsAre_of {ns : List Int} : ∀ {us : List Value}, Vals (ns.map V.int) us → IntsAre us ns := by
  induction ns with
  | nil => intro us r; rw [List.map_nil] at r; cases r; exact .nil
  | cons n ns ih =>
    intro us r
    rw [List.map_cons] at r
    cases r with
    | cons r1 r2 =>
      obtain ⟨t, e⟩ := r1
      subst e
      exact .cons n t (ih r2)

section
variable {X : Cx} {e : Expr} {te : TE} {lo hi : Option Expr} {tl th : TO} {pos p2 : Pos}

theorem po_none : PO X none tNoPart := by
  intro pins s σ H Q I h
  rw [evalPart_none]
  exact wpAny_pure ⟨none, H, I, .none, h⟩
theorem po_some (h : PE X e te) : PO X (some e) (tPart te) := by
  intro pins s σ H Q I hw
  rw [evalPart_some]
  refine thn (h pins s σ H _ I hw) fun u s1 ⟨x, H1, I1, r1, q1⟩ => ?_
  obtain ⟨i, rfl, q⟩ := q1
  obtain ⟨t, rfl⟩ := r1
  exact ⟨some i, H1, I1, .int i t, q⟩

/-- what a slice of a value is, by values: the slice object stands at sl -/
def SlR (X : Cx) (r : V → Option Int → Option Int → Hp → VK → Prop) : Prop :=
  ∀ (pins : List (Addr × Obj)) (s : Shared) (σ : St) (H : Hp) (x : V) (v vl vu : Value) (lo hi : Option Int) (sl : Addr) (Q : VK), Inv X pins σ H s → RelV x v → s.heap.IsSliceOf sl vl vu .none → IsPart vl lo → IsPart vu hi → r x lo hi H Q →
    ∃ T id, typeLookup (.type T) "__getitem__" = pure (some (.builtin id)) ∧ s.TypeIs v T ∧ wpAny (model X.prog X.w) X.A (getItem v (.ref sl)) (EP X pins σ Q) X.xe s
theorem SlR.or {r r' : V → Option Int → Option Int → Hp → VK → Prop} (h : SlR X r) (h' : SlR X r') : SlR X (fun x lo hi H Q => r x lo hi H Q ∨ r' x lo hi H Q) := by
  intro pins s σ H x v vl vu lo hi sl Q I rx hs pl pu q
  rcases q with q | q
  · exact h pins s σ H x v vl vu lo hi sl Q I rx hs pl pu q
  · exact h' pins s σ H x v vl vu lo hi sl Q I rx hs pl pu q
def tSl (r : V → Option Int → Option Int → Hp → VK → Prop) (te : TE) (tl th : TO) : TE := fun σ H Q => te σ H fun x H1 => tl σ H1 fun l H2 => th σ H2 fun u H3 => r x l u H3 Q
/-- a[lo:hi], any a -/
theorem pe_slice {r : V → Option Int → Option Int → Hp → VK → Prop} (hr : SlR X r) (he : PE X e te) (hl : PO X lo tl) (hu : PO X hi th) : PE X (.Subscript e (.Slice lo hi none p2) pos) (tSl r te tl th) := by
  intro pins s σ H Q I h
  refine Subscript_ (thn (he pins s σ H _ I h) fun v s1 ⟨x, H1, I1, r1, q1⟩ => ?_)
  refine wpAny_Slice (thn (hl pins s1 σ H1 _ I1 q1) fun vl s2 ⟨l, H2, I2, pl, q2⟩ => thn (hu pins s2 σ H2 _ I2 q2) fun vu s3 ⟨u, H3, I3, pu, q3⟩ => ?_)
  rw [evalPart_none]
  refine wpAny_pure ?_
  have I4 : Inv X pins σ H3 { s3 with heap := s3.heap.push { cls := .type "slice", data := .fields #[vl, vu, .none] } } := I3.kept (t' := s3.toks) fun b ob q => Heap.get?_push_of_some _ q
  obtain ⟨T, id, hT, ht, hg⟩ := hr pins { s3 with heap := s3.heap.push { cls := .type "slice", data := .fields #[vl, vu, .none] } } σ H3 x v vl vu l u s3.heap.objs.size Q I4 r1 (Heap.IsSliceOf.new ..) pl pu q3
  show wpAny (model X.prog X.w) X.A (subscriptTail e (.Slice lo hi none p2) v (.ref s3.heap.objs.size)) (EP X pins σ Q) X.xe { s3 with heap := s3.heap.push { cls := .type "slice", data := .fields #[vl, vu, .none] } }
  exact tail_any (ops := [.ref s3.heap.objs.size, v]) ht hT hg (by with_unfolding_all rfl)

/-- the items of xs[lo:hi] -/
def cutV (xs : List V) (lo hi : Option Int) : List V := (xs.drop (HT.sIx xs.length 0 lo)).take (HT.sIx xs.length xs.length hi - HT.sIx xs.length 0 lo)
theorem cutV_length (xs : List V) (lo hi : Option Int) : (cutV xs lo hi).length ≤ xs.length := by
  unfold cutV
  rw [List.length_take, List.length_drop]
  omega
/-- t[lo:hi], not the whole of it (the whole would be t itself) -/
def rSlT (K : PySem.W.Frag) : V → Option Int → Option Int → Hp → VK → Prop := fun x lo hi H Q => ∃ a xs, x = .ref a ∧ SqT K H a xs ∧
  ¬ (HT.sIx xs.length 0 lo = 0 ∧ HT.sIx xs.length xs.length hi = xs.length) ∧ ∀ p, H p = none → Q (.ref p) (upd H p (.tup (cutV xs lo hi)))
theorem sl_tup : SlR X (rSlT X.K) := by
  intro pins s σ H x v vl vu lo hi sl Q I rx hs pl pu h
  obtain ⟨a, xs, rfl, hx, hw, q⟩ := h
  cases rx
  obtain ⟨its, r, ht, hz⟩ := I.tuple hx
  have hlen : its.toArray.size = xs.length := by rw [List.size_toArray]; exact r.length.symm
  refine ⟨"tuple", _, PyProof.Rows.slot_tuple_getitem.lookup, ht.typeIs, ?_⟩
  refine HT.getItem_tuple_cut ht hs pl pu (by rw [hlen]; exact hw) ?_ (by rw [hlen]; exact hz)
  rw [hlen]
  refine ⟨.ref s.heap.objs.size, _, I.laid (t' := s.toks) (o := .tup (cutV xs lo hi)) (fun b ob q => Heap.get?_push_of_some _ q) (Nat.le_refl _) ?_, rfl, q _ (I.hok.fresh (Nat.le_refl _))⟩
  exact ⟨Nat.le_trans (cutV_length xs lo hi) hz, _, (r.drop (HT.sIx xs.length 0 lo)).take (HT.sIx xs.length xs.length hi - HT.sIx xs.length 0 lo), IsTup.new _ _⟩

/-! ### t < u, t + u -/
def rLtT (K : PySem.W.Frag) : R2 := fun x y H Q => ∃ a b ns ms, x = .ref a ∧ y = .ref b ∧ SqT K H a (ns.map V.int) ∧ SqT K H b (ms.map V.int) ∧ Q (.bl (HT.lexLt ns ms)) H
theorem op_ltT (hu : X.A.units < cLine) : OpR X (compareOp .Lt) (rLtT X.K) := by
  intro pins s σ H x y v u Q I rx ry h
  obtain ⟨a, b, ns, ms, rfl, rfl, ha, hb, q⟩ := h
  cases rx
  cases ry
  obtain ⟨its, r1, p1, _⟩ := I.tuple ha
  obtain ⟨its2, r2, p2, _⟩ := I.tuple hb
  have i1 : IntsAre its.toArray.toList ns := intsAre_of r1
  have i2 : IntsAre its2.toArray.toList ms := intsAre_of r2
  exact HT.lt_tupInts p1 p2 i1 i2 hu ⟨.bl (HT.lexLt ns ms), H, I, rfl, q⟩
/-- t + u, t not empty: u empty gives t itself -/
def rCatT (K : PySem.W.Frag) : R2 := fun x y H Q => ∃ a b xs ys, x = .ref a ∧ y = .ref b ∧ SqT K H a xs ∧ SqT K H b ys ∧ xs ≠ [] ∧ xs.length + ys.length ≤ sizeLine ∧
  (ys = [] → Q (.ref a) H) ∧ (ys ≠ [] → ∀ p, H p = none → Q (.ref p) (upd H p (.tup (xs ++ ys))))
theorem Vals.nil_iff {xs : List V} {us : List Value} (r : Vals xs us) : us = [] ↔ xs = [] := by
  cases r with
  | nil => simp
  | cons _ _ => simp
theorem op_catT : OpR X (binaryOp .Add) (rCatT X.K) := by
  intro pins s σ H x y v u Q I rx ry h
  obtain ⟨a, b, xs, ys, rfl, rfl, ha, hb, hx, hz, q1, q2⟩ := h
  cases rx
  cases ry
  obtain ⟨its, r1, p1, _⟩ := I.tuple ha
  obtain ⟨its2, r2, p2, _⟩ := I.tuple hb
  refine HT.cat_tup p1 p2 (fun z => hx (r1.nil_iff.mp z)) (fun z => ⟨.ref a, H, I, rfl, q1 (r2.nil_iff.mp z)⟩) (fun z => ?_) (by rw [← r1.length, ← r2.length]; exact hz)
  refine ⟨.ref s.heap.objs.size, _, I.laid (t' := s.toks) (o := .tup (xs ++ ys)) (fun b ob q => Heap.get?_push_of_some _ q) (Nat.le_refl _) ?_, rfl, q2 (fun w => z (r2.nil_iff.mpr w)) _ (I.hok.fresh (Nat.le_refl _))⟩
  exact ⟨by rw [List.length_append]; exact hz, _, r1.append r2, IsTup.new _ _⟩
/-- tuple(t) -/
theorem call_tupleT : CallR X (.type "tuple") (fun xs H Q => ∃ a ys, xs = [.ref a] ∧ SqT X.K H a ys ∧ Q (.ref a) H) := by
  intro pins s σ H xs us Q I r h
  obtain ⟨a, ys, rfl, ha, q⟩ := h
  obtain ⟨u, rfl, ru⟩ := vals1 r
  cases ru
  obtain ⟨its, _, p1, _⟩ := I.tuple ha
  exact call_tuple_same (items := its.toArray) p1 ⟨.ref a, H, I, rfl, q⟩
end
end L2

namespace L2
open PySem PySem.Spec PyProof.Rows

/-! ### places -/
/-- the place that an index of any sign means -/
def ixN (n : Nat) (i : Int) : Option Nat := if 0 ≤ i then (if i < n then some i.toNat else none) else if -(n : Int) ≤ i then some (i + n).toNat else none
def atI {α : Type} (xs : List α) (i : Int) : Option α := (ixN xs.length i).bind fun j => xs[j]?
theorem ixN_seq {n : Nat} {i : Int} {j : Nat} (h : ixN n i = some j) : seqIndex? i n = some j ∧ j < n ∧ -(n : Int) ≤ i ∧ i < n := by
  unfold ixN at h
  by_cases h0 : 0 ≤ i
  · rw [if_pos h0] at h
    by_cases h1 : i < n
    · rw [if_pos h1] at h
      have e : i.toNat = j := Option.some.inj h
      exact ⟨by rw [seqIndex_of h0 h1, e], by omega, by omega, h1⟩
    · rw [if_neg h1] at h; cases h
  · rw [if_neg h0] at h
    by_cases h1 : -(n : Int) ≤ i
    · rw [if_pos h1] at h
      have e : (i + n).toNat = j := Option.some.inj h
      exact ⟨by rw [seqIndex_neg (by omega) h1, e], by omega, h1, by omega⟩
    · rw [if_neg h1] at h; cases h
theorem atI_get {α : Type} {xs : List α} {i : Int} {v : α} (h : atI xs i = some v) : ∃ j, seqIndex? i xs.length = some j ∧ xs[j]? = some v ∧ j < xs.length ∧ -(xs.length : Int) ≤ i ∧ i < xs.length := by
  unfold atI at h
  cases e : ixN xs.length i with
  | none => rw [e] at h; cases h
  | some j =>
    rw [e] at h
    obtain ⟨h1, h2, h3, h4⟩ := ixN_seq e
    exact ⟨j, h1, h, h2, h3, h4⟩
theorem atI_nat {α : Type} {xs : List α} {j : Nat} {v : α} (h : xs[j]? = some v) : atI xs (j : Int) = some v := by
  have hj : j < xs.length := (List.getElem?_eq_some_iff.mp h).1
  have e : ixN xs.length (j : Int) = some j := by
    unfold ixN
    rw [if_pos (by omega), if_pos (by omega)]; simp
  unfold atI; rw [e]; exact h
theorem atI_last {α : Type} (xs : List α) (v : α) : atI (xs ++ [v]) (-1) = some v := by
  have hl : (xs ++ [v]).length = xs.length + 1 := by simp
  have e : ixN (xs ++ [v]).length (-1) = some xs.length := by
    unfold ixN
    rw [hl, if_neg (by decide), if_pos (by omega)]
    congr 1
    omega
  unfold atI
  rw [e]
  show (xs ++ [v])[xs.length]? = some v
  simp

/-! ### what may be subscripted -/
/-- what stands as an index of a plain subscript -/
def PlainIx (b : Expr) : Prop := ∀ o i, subscripted b false o i = operate [o, i] (getItem o i)
/-- a subscript by values -/
def IxR (X : Cx) (r : R2) : Prop :=
  ∀ (value slice : Expr) (pins : List (Addr × Obj)) (s : Shared) (σ : St) (H : Hp) (x y : V) (v u : Value) (Q : VK), Inv X pins σ H s → RelV x v → RelV y u → r x y H Q →
    subscripted slice false v u = operate [v, u] (getItem v u) → wpAny (model X.prog X.w) X.A (subscriptTail value slice v u) (EP X pins σ Q) X.xe s
/-- a call of a builtin's method by values: the receiver, the arguments -/
def MtR (X : Cx) (id : String) (r : V → List V → Hp → VK → Prop) : Prop :=
  ∀ (pins : List (Addr × Obj)) (s : Shared) (σ : St) (H : Hp) (x : V) (xs : List V) (v : Value) (us : List Value) (Q : VK), Inv X pins σ H s → RelV x v → Vals xs us → r x xs H Q →
    wpAny (model X.prog X.w) X.A (call (.builtin id) (v :: us)) (EP X pins σ Q) X.xe s
section
variable {X : Cx} {a b : Expr} {ta tb : TE} {pos : Pos}
theorem IxR.or {r r' : R2} (h : IxR X r) (h' : IxR X r') : IxR X (fun x y H Q => r x y H Q ∨ r' x y H Q) := by
  intro value slice pins s σ H x y v u Q I rx ry q hs
  rcases q with q | q
  · exact h value slice pins s σ H x y v u Q I rx ry q hs
  · exact h' value slice pins s σ H x y v u Q I rx ry q hs
theorem MtR.or {id : String} {r r' : V → List V → Hp → VK → Prop} (h : MtR X id r) (h' : MtR X id r') : MtR X id (fun x xs H Q => r x xs H Q ∨ r' x xs H Q) := by
  intro pins s σ H x xs v us Q I rx rs q
  rcases q with q | q
  · exact h pins s σ H x xs v us Q I rx rs q
  · exact h' pins s σ H x xs v us Q I rx rs q
/-- a[b] -/
theorem pe_ix {r : R2} (hr : IxR X r) (ha : PE X a ta) (hb : PE X b tb) (hs : PlainIx b) : PE X (.Subscript a b pos) (tOp r ta tb) := by
  intro pins s σ H Q I h
  exact Subscript_ (binT ha hb I h fun v u s2 x y H2 I2 rx ry q => hr a b pins s2 σ H2 x y v u Q I2 rx ry q (hs _ _))

def rIxL (K : PySem.W.Frag) : R2 := fun x y H Q => ∃ p xs i v, x = .ref p ∧ y = .int i ∧ SqL K H p xs ∧ atI xs i = some v ∧ Q v H
def rIxT (K : PySem.W.Frag) : R2 := fun x y H Q => ∃ p xs i v, x = .ref p ∧ y = .int i ∧ SqT K H p xs ∧ atI xs i = some v ∧ Q v H
def rIxS : R2 := fun x y H Q => ∃ z i c, x = .str z ∧ y = .int i ∧ z.length ≤ sizeLine ∧ atI z.cps.toList i = some c ∧ Q (.str ⟨#[c]⟩) H
theorem ix_list : IxR X (rIxL X.K) := by
  intro value slice pins s σ H x y v u Q I rx ry h hs
  obtain ⟨p, xs, i, z, rfl, rfl, hq, he, q⟩ := h
  cases rx
  obtain ⟨t, rfl⟩ := ry
  obtain ⟨its, r, pl, hz⟩ := I.list hq
  obtain ⟨j, h1, h2, h3, h4, h5⟩ := atI_get he
  obtain ⟨w, ew, rw'⟩ := r.get h2
  have hl := r.length
  have hn := line63
  have fin : EP X pins σ Q w s := ⟨z, H, I, rw', q⟩
  by_cases h0 : 0 ≤ i
  · have hj : i.toNat = j := by
      rw [seqIndex_of h0 h5] at h1
      exact Option.some.inj h1
    exact item_listR pl.isList h0 (by omega) (by rw [hj]; simpa using ew) fin hs
  · have hj : (i + (its.toArray.size : Int)).toNat = j := by
      rw [seqIndex_neg (by omega) h4] at h1
      rw [List.size_toArray, ← hl]
      exact Option.some.inj h1
    exact subscriptTail_builtinR (x := w) pl.isList.typeIs slot_list_getitem.lookup
      (wpAny_getItem_list_neg (Q := fun r s' => r = w ∧ EP X pins σ Q r s') pl.isList (by omega) (by rw [List.size_toArray] <;> omega) (by omega) (by rw [hj]; simpa using ew) ⟨rfl, fin⟩) hs
theorem ix_tup : IxR X (rIxT X.K) := by
  intro value slice pins s σ H x y v u Q I rx ry h hs
  obtain ⟨p, xs, i, z, rfl, rfl, hq, he, q⟩ := h
  cases rx
  obtain ⟨t, rfl⟩ := ry
  obtain ⟨its, r, pl, hz⟩ := I.tuple hq
  obtain ⟨j, h1, h2, h3, h4, h5⟩ := atI_get he
  obtain ⟨w, ew, rw'⟩ := r.get h2
  have hl := r.length
  have hn := line63
  have fin : EP X pins σ Q w s := ⟨z, H, I, rw', q⟩
  exact subscriptTail_builtinR (x := w) pl.typeIs slot_tuple_getitem.lookup
    (getItem_tuple (j := j) (Q := fun r s' => r = w ∧ EP X pins σ Q r s') pl (by omega) (by omega) (by rw [List.size_toArray, ← hl]; exact h1) (by simpa using ew) ⟨rfl, fin⟩) hs
theorem ix_str : IxR X rIxS := by
  intro value slice pins s σ H x y v u Q I rx ry h hs
  obtain ⟨z, i, c, rfl, rfl, hz, he, q⟩ := h
  obtain ⟨t, rfl⟩ := rx
  obtain ⟨t', rfl⟩ := ry
  obtain ⟨j, h1, h2, h3, h4, h5⟩ := atI_get he
  have hl : z.cps.toList.length = z.length := by simp [Str.length]
  rw [hl] at h1 h4 h5
  have hn := line63
  exact tail_any (typeIs_str s z t) slot_str_getitem.lookup (getItem_str (c := c) (by
    have e1 : decide (i < -(2 ^ 63 : Int)) = false := decide_eq_false (by omega)
    have e2 : decide (i ≥ 2 ^ 63) = false := decide_eq_false (by omega)
    rw [e1, e2, Bool.or_false]) (by rw [h1]; simpa using h2) ⟨.str ⟨#[c]⟩, H, I.tok _, ⟨_, rfl⟩, q⟩) hs
/-- list, tuple or str -/
def rIx (K : PySem.W.Frag) : R2 := fun x y H Q => rIxL K x y H Q ∨ rIxT K x y H Q ∨ rIxS x y H Q
theorem ix_seq : IxR X (rIx X.K) := ix_list.or (ix_tup.or ix_str)

/-! ### xs[i] = v, any sign -/
/-- the list's object behind a store -/
theorem mapSeq_set (its : List Value) (n j : Nat) (u : Value) : Obj.mapSeq (·.setIfInBounds j u) { cls := .type "list", data := .seq its.toArray n } = { cls := .type "list", data := .seq (its.set j u).toArray n } := by
  simp [Obj.mapSeq]
theorem Inv.lst {pins : List (Addr × Obj)} {σ : St} {H : Hp} {s : Shared} {p : Addr} {xs : List V} (I : Inv X pins σ H s) (h : H p = some (.lst xs)) :
    ∃ (its : List Value) (n : Nat), Vals xs its ∧ s.heap.get? p = some { cls := .type "list", data := .seq its.toArray n } ∧ xs.length ≤ sizeLine := by
  obtain ⟨z, its, n, r, e⟩ := I.hok p _ h
  exact ⟨its, n, r, e, z⟩
/-- the list at p is written by an update of its object -/
theorem Inv.lstUpd {pins : List (Addr × Obj)} {σ : St} {H : Hp} {s : Shared} {p : Addr} {xs ys : List V} {its its' : List Value} {n n' : Nat} {f : Obj → Obj} (I : Inv X pins σ H s) (h : H p = some (.lst xs))
    (ho : s.heap.get? p = some { cls := .type "list", data := .seq its.toArray n }) (hf : f { cls := .type "list", data := .seq its.toArray n } = { cls := .type "list", data := .seq its'.toArray n' }) (r : Vals ys its') (hz : ys.length ≤ sizeLine) (t : Nat) :
    Inv X pins σ (upd H p (.lst ys)) { s with heap := s.heap.update p f, toks := t } := by
  have e : (s.heap.update p f).get? p = some { cls := .type "list", data := .seq its'.toArray n' } := by
    rw [Heap.get?_update_self f ho (by rw [hf] <;> rfl), hf]
  refine I.write (x := p) (e := p) (by rw [h]; trivial) (.inl rfl) (fun b u hb q => (Heap.get?_update_other _ _ (Ne.symm hb)).trans q) ⟨_, e⟩ ?_
  exact ⟨hz, its', n', r, e⟩
def rSetL : V → V → V → Hp → (Hp → Prop) → Prop := fun o i v H Q => ∃ p xs k j, o = .ref p ∧ i = .int k ∧ H p = some (.lst xs) ∧ ixN xs.length k = some j ∧ Q (upd H p (.lst (xs.set j v)))
theorem set_list : PSet X rSetL := by
  intro pins s σ H o i v ov iv u Q I ro ri rv h
  obtain ⟨p, xs, k, j, rfl, rfl, hp, hj, q⟩ := h
  cases ro
  obtain ⟨t, rfl⟩ := ri
  obtain ⟨its, n, r, ho, hz⟩ := I.lst hp
  obtain ⟨h1, h2, h3, h4⟩ := ixN_seq hj
  have hl := r.length
  have hn := line63
  have I' : Inv X pins σ (upd H p (.lst (xs.set j v))) { s with heap := s.heap.update p (Obj.mapSeq (·.setIfInBounds j u)) } :=
    I.lstUpd hp ho (mapSeq_set its n j u) (r.set rv j) (by rw [List.length_set]; exact hz) s.toks
  by_cases h0 : 0 ≤ k
  · have hk : k.toNat = j := by
      rw [seqIndex_of h0 h4] at h1
      exact Option.some.inj h1
    exact PySem.W.ki_setAt ho h0 (by omega) (by rw [List.size_toArray, ← hl]; exact h4) (by rw [hk]; exact ⟨_, I', q⟩)
  · have hk : (k + (its.toArray.size : Int)).toNat = j := by
      rw [seqIndex_neg (by omega) h3] at h1
      rw [List.size_toArray, ← hl]
      exact Option.some.inj h1
    exact PySem.W.ki_setBack ho (by omega) (by rw [List.size_toArray, ← hl]; exact h3) (by omega) (by rw [hk]; exact ⟨_, I', q⟩)

/-! ### slices -/
theorem slice_bounds (lo hi : Option Int) (n : Nat) : (sliceBounds lo hi none n).1 = ((HT.sIx n 0 lo : Nat) : Int) ∧ (sliceBounds lo hi none n).2.1 = ((HT.sIx n n hi : Nat) : Int) ∧ (sliceBounds lo hi none n).2.2 = 1 := by
  refine ⟨?_, ?_, rfl⟩
  · cases lo with
    | none => simp [sliceBounds, HT.sIx]
    | some i =>
      simp only [sliceBounds, HT.sIx, Option.getD_none, show (1 : Int) > 0 by decide, if_true]
      by_cases h : i < 0
      · simp only [h, if_true] <;> omega
      · simp only [h, if_false] <;> omega
  · cases hi with
    | none => simp [sliceBounds, HT.sIx]
    | some i =>
      simp only [sliceBounds, HT.sIx, Option.getD_none, show (1 : Int) > 0 by decide, if_true]
      by_cases h : i < 0
      · simp only [h, if_true] <;> omega
      · simp only [h, if_false] <;> omega
theorem slicePick_cut (its : List Value) (lo hi : Option Int) : slicePick its.toArray lo hi none = ((its.drop (HT.sIx its.length 0 lo)).take (HT.sIx its.length its.length hi - HT.sIx its.length 0 lo)).toArray := by
  obtain ⟨h1, h2, h3⟩ := slice_bounds lo hi its.toArray.size
  unfold slicePick
  rw [h1, h2, h3]
  simp only [sliceRange_one, pick_run, List.size_toArray] <;> rfl
/-- xs[lo:hi] of a list: a new list -/
def rSlL (K : PySem.W.Frag) : V → Option Int → Option Int → Hp → VK → Prop := fun x lo hi H Q => ∃ a xs, x = .ref a ∧ SqL K H a xs ∧ ∀ p, H p = none → Q (.ref p) (upd H p (.lst (cutV xs lo hi)))
theorem sl_list : SlR X (rSlL X.K) := by
  intro pins s σ H x v vl vu lo hi sl Q I rx hs pl pu h
  obtain ⟨a, xs, rfl, hx, q⟩ := h
  cases rx
  obtain ⟨its, r, ht, hz⟩ := I.list hx
  have hlen := r.length
  refine ⟨"list", _, slot_list_getitem.lookup, ht.isList.typeIs, ?_⟩
  refine wpAny_getItem_list_slice ht.isList hs pl pu .none (by simp) ?_ (by rw [List.size_toArray] <;> omega)
  rw [slicePick_cut, ← hlen]
  refine ⟨.ref s.heap.objs.size, _, I.laid (t' := s.toks) (o := .lst (cutV xs lo hi)) (fun b ob q => Heap.get?_push_of_some _ q) (Nat.le_refl _) ?_, rfl, q _ (I.hok.fresh (Nat.le_refl _))⟩
  exact ⟨Nat.le_trans (cutV_length xs lo hi) hz, _, 0, (r.drop (HT.sIx xs.length 0 lo)).take (HT.sIx xs.length xs.length hi - HT.sIx xs.length 0 lo), Heap.get?_push_size _ rfl⟩

/-! ### in, not in: flat items -/
def flatV : V → Bool
  | .non => true
  | .bl _ => true
  | .int _ => true
  | .str _ => true
  | _ => false
/-- == of flat values -/
def eqV : V → V → Bool
  | .non, .non => true
  | .bl a, .bl b => a == b
  | .bl a, .int b => (if a then 1 else 0) == b
  | .int a, .bl b => a == (if b then 1 else 0)
  | .int a, .int b => a == b
  | .str a, .str b => a == b
  | _, _ => false
theorem eqAt_V {A : Around} {s : Shared} {y x : V} {u v : Value} (ry : RelV y u) (rx : RelV x v) (fy : flatV y = true) (fx : flatV x = true) : SeqAt.EqAt A s u v (eqV y x) := by
  cases y with
  | non =>
    cases ry
    cases x with
    | non => cases rx; exact SeqAt.EqAt.same _
    | bl b => cases rx; exact SeqAt.EqAt.none_bool b
    | int b => obtain ⟨t, rfl⟩ := rx; exact SeqAt.EqAt.none_int b t
    | str b => obtain ⟨t, rfl⟩ := rx; exact SeqAt.EqAt.none_str b t
    | _ => exact absurd (show false = true from fx) Bool.false_ne_true
  | bl a =>
    cases ry
    cases x with
    | non => cases rx; exact SeqAt.EqAt.bool_none a
    | bl b => cases rx; exact SeqAt.EqAt.bool_bool a b
    | int b => obtain ⟨t, rfl⟩ := rx; exact SeqAt.EqAt.bool_int a b t
    | str b => obtain ⟨t, rfl⟩ := rx; exact SeqAt.EqAt.bool_str a b t
    | _ => exact absurd (show false = true from fx) Bool.false_ne_true
  | int a =>
    obtain ⟨t', rfl⟩ := ry
    cases x with
    | non => cases rx; exact SeqAt.EqAt.int_none a t'
    | bl b => cases rx; exact SeqAt.EqAt.int_bool a t' b
    | int b => obtain ⟨t, rfl⟩ := rx; exact SeqAt.EqAt.int_int a t' b t
    | str b => obtain ⟨t, rfl⟩ := rx; exact SeqAt.EqAt.int_str a t' b t
    | _ => exact absurd (show false = true from fx) Bool.false_ne_true
  | str a =>
    obtain ⟨t', rfl⟩ := ry
    cases x with
    | non => cases rx; exact SeqAt.EqAt.str_none a t'
    | bl b => cases rx; exact SeqAt.EqAt.str_bool a t' b
    | int b => obtain ⟨t, rfl⟩ := rx; exact SeqAt.EqAt.str_int a t' b t
    | str b => obtain ⟨t, rfl⟩ := rx; exact SeqAt.EqAt.str_str a t' b t
    | _ => exact absurd (show false = true from fx) Bool.false_ne_true
  | _ => exact absurd (show false = true from fy) Bool.false_ne_true
/-- the items' answers, read off the values (a value's own answer does not lean on its token) -/
def eqU (x : V) (u : Value) : Bool := match u with
  | .none => eqV .non x
  | .bool b => eqV (.bl b) x
  | .int i _ => eqV (.int i) x
  | .str z _ => eqV (.str z) x
  | _ => false
theorem eqU_of {x y : V} {u : Value} (r : RelV y u) (f : flatV y = true) : eqU x u = eqV y x := by
  cases y with
  | non => cases r; rfl
  | bl b => cases r; rfl
  | int i => obtain ⟨t, rfl⟩ := r; rfl
  | str z => obtain ⟨t, rfl⟩ := r; rfl
  | _ => exact absurd (show false = true from f) Bool.false_ne_true
theorem any_eqU {x : V} : ∀ {xs : List V} {us : List Value}, Vals xs us → xs.all flatV = true → us.any (eqU x) = xs.any fun y => eqV y x
  | _, _, .nil, _ => rfl
  | y :: xs, u :: us, .cons r t, f => by
    rw [List.all_cons, Bool.and_eq_true] at f
    rw [List.any_cons, List.any_cons, eqU_of r f.1, any_eqU t f.2]
theorem mem_eqAt {A : Around} {s : Shared} {x : V} {v : Value} (rx : RelV x v) (fx : flatV x = true) : ∀ {xs : List V} {us : List Value}, Vals xs us → xs.all flatV = true → ∀ u ∈ us, SeqAt.EqAt A s u v (eqU x u)
  | _, _, .nil, _ => fun u hu => by cases hu
  | y :: xs, u :: us, .cons r t, f => fun u' hu => by
    rw [List.all_cons, Bool.and_eq_true] at f
    rcases List.mem_cons.mp hu with rfl | hu
    · rw [eqU_of r f.1]; exact eqAt_V r rx f.1 fx
    · exact mem_eqAt rx fx t f.2 u' hu
def inV (x : V) (xs : List V) : Bool := xs.any fun y => eqV y x
/-- x in a list or tuple of flat items -/
def rIn (K : PySem.W.Frag) (neg : Bool) : R2 := fun x y H Q => ∃ p xs, y = .ref p ∧ (SqL K H p xs ∨ SqT K H p xs) ∧ flatV x = true ∧ xs.all flatV = true ∧ Q (.bl (if neg then !inV x xs else inV x xs)) H
theorem op_in_seq : OpR X (compareOp .In) (rIn X.K false) := by
  intro pins s σ H x y v u Q I rx ry h
  obtain ⟨p, xs, rfl, hq, fx, fs, q⟩ := h
  cases ry
  rcases hq with hq | hq
  · obtain ⟨its, r, pl, hz⟩ := I.list hq
    refine SeqAt.in_listAt (eqU x) pl.isList (fun w hw => mem_eqAt rx fx r fs w (by simpa using hw)) ⟨.bl _, H, I, rfl, ?_⟩
    rw [show its.toArray.any (eqU x) = its.any (eqU x) by simp, any_eqU r fs]
    exact q
  · obtain ⟨its, r, pl, hz⟩ := I.tuple hq
    refine SeqAt.in_tupleAt (eqU x) pl (fun w hw => mem_eqAt rx fx r fs w (by simpa using hw)) ⟨.bl _, H, I, rfl, ?_⟩
    rw [show its.toArray.any (eqU x) = its.any (eqU x) by simp, any_eqU r fs]
    exact q
theorem op_notIn_seq : OpR X (compareOp .NotIn) (rIn X.K true) := by
  intro pins s σ H x y v u Q I rx ry h
  obtain ⟨p, xs, rfl, hq, fx, fs, q⟩ := h
  cases ry
  rcases hq with hq | hq
  · obtain ⟨its, r, pl, hz⟩ := I.list hq
    refine SeqAt.notIn_listAt (eqU x) pl.isList (fun w hw => mem_eqAt rx fx r fs w (by simpa using hw)) ⟨.bl _, H, I, rfl, ?_⟩
    rw [show its.toArray.any (eqU x) = its.any (eqU x) by simp, any_eqU r fs]
    exact q
  · obtain ⟨its, r, pl, hz⟩ := I.tuple hq
    refine SeqAt.notIn_tupleAt (eqU x) pl (fun w hw => mem_eqAt rx fx r fs w (by simpa using hw)) ⟨.bl _, H, I, rfl, ?_⟩
    rw [show its.toArray.any (eqU x) = its.any (eqU x) by simp, any_eqU r fs]
    exact q
theorem op_notIn_str : OpR X (compareOp .NotIn) (fun x y H Q => ∃ i j, x = .str i ∧ y = .str j ∧ Q (.bl (!(!(Builtin.Str.occurrences j i 0 j.length 1).isEmpty))) H) := by
  intro pins s σ H x y v u Q I rx ry h
  obtain ⟨i, j, rfl, rfl, q⟩ := h
  obtain ⟨t, rfl⟩ := rx
  obtain ⟨t', rfl⟩ := ry
  exact notIn_str ⟨.bl _, H, I, rfl, q⟩

/-! ### len, list(x), tuple(x) of any list or tuple that is read -/
theorem call_len_seq : CallR X (.builtin "len") (fun xs H Q => ∃ p ys, xs = [.ref p] ∧ (SqL X.K H p ys ∨ SqT X.K H p ys) ∧ Q (.int ys.length) H) := by
  intro pins s σ H xs us Q I r h
  obtain ⟨p, ys, rfl, hq, q⟩ := h
  obtain ⟨u, rfl, rx⟩ := vals1 r
  cases rx
  have hn := line63
  rcases hq with hq | hq
  · obtain ⟨its, r', pl, hz⟩ := I.list hq
    have hlen := r'.length
    exact Calls.call_len_list pl.isList (by simp only [List.size_toArray] <;> omega) ⟨.int ys.length, H, I.tok _, ⟨s.toks + 1, by rw [List.size_toArray, hlen]⟩, q⟩
  · obtain ⟨its, r', pl, hz⟩ := I.tuple hq
    have hlen := r'.length
    exact len_tuple pl (by simp only [List.size_toArray] <;> omega) ⟨.int ys.length, H, I.tok _, ⟨s.toks + 1, by rw [List.size_toArray, hlen]⟩, q⟩
theorem call_len_str : CallR X (.builtin "len") (fun xs H Q => ∃ z, xs = [.str z] ∧ z.length ≤ sizeLine ∧ Q (.int z.length) H) := by
  intro pins s σ H xs us Q I r h
  obtain ⟨z, rfl, hz, q⟩ := h
  obtain ⟨u, rfl, t, rfl⟩ := vals1 r
  have hn := line63
  exact len_str (by omega) ⟨.int z.length, H, I.tok _, ⟨_, rfl⟩, q⟩
theorem CallR.or {f : Value} {r r' : List V → Hp → VK → Prop} (h : CallR X f r) (h' : CallR X f r') : CallR X f (fun xs H Q => r xs H Q ∨ r' xs H Q) := by
  intro pins s σ H xs us Q I rs q
  rcases q with q | q
  · exact h pins s σ H xs us Q I rs q
  · exact h' pins s σ H xs us Q I rs q
theorem call_list_of : CallR X (.type "list") (fun xs H Q => ∃ p ys, xs = [.ref p] ∧ (SqL X.K H p ys ∨ SqT X.K H p ys) ∧ ∀ l, H l = none → Q (.ref l) (upd H l (.lst ys))) := by
  intro pins s σ H xs us Q I r h
  obtain ⟨p, ys, rfl, hq, q⟩ := h
  obtain ⟨u, rfl, rx⟩ := vals1 r
  cases rx
  have fin : ∀ (its : List Value), Vals ys its → ys.length ≤ sizeLine → ∀ (h' : Heap) (c' : Nat), (∀ b o', s.heap.get? b = some o' → h'.get? b = some o') →
      h'.get? s.heap.objs.size = some { cls := .type "list", dict := none, data := .seq its.toArray c', slots := #[] } → EP X pins σ Q (.ref s.heap.objs.size) { s with heap := h' } := fun its r' hz h' c' kp e =>
    ⟨.ref s.heap.objs.size, _, I.laid (t' := s.toks) kp (Nat.le_refl _) (show ObjOk X.prog X.w _ h' _ (.lst ys) from ⟨hz, its, c', r', e⟩), rfl, q _ (I.hok.fresh (Nat.le_refl _))⟩
  rcases hq with hq | hq
  · obtain ⟨its, r', pl, hz⟩ := I.list hq
    have hlen := r'.length
    obtain ⟨o, ho, hc, n, hd⟩ := pl.isList
    exact call_list_seq p (.inl rfl) ho hc hd (fun h' c' kp e => fin its r' hz h' c' kp e) (by simp only [List.size_toArray] <;> omega)
  · obtain ⟨its, r', pl, hz⟩ := I.tuple hq
    have hlen := r'.length
    obtain ⟨o, ho, hc, n, hd⟩ := pl
    exact call_list_seq p (.inr rfl) ho hc hd (fun h' c' kp e => fin its r' hz h' c' kp e) (by simp only [List.size_toArray] <;> omega)
theorem call_tuple_of : CallR X (.type "tuple") (fun xs H Q => ∃ p ys, xs = [.ref p] ∧ ((SqL X.K H p ys ∧ ∀ l, H l = none → Q (.ref l) (upd H l (.tup ys))) ∨ (SqT X.K H p ys ∧ Q (.ref p) H))) := by
  intro pins s σ H xs us Q I r h
  obtain ⟨p, ys, rfl, h⟩ := h
  obtain ⟨u, rfl, rx⟩ := vals1 r
  cases rx
  rcases h with ⟨hq, q⟩ | ⟨hq, q⟩
  · obtain ⟨its, r', pl, hz⟩ := I.list hq
    have hlen := r'.length
    refine call_tuple_list pl.isList (fun h' kp => ?_) (by simp only [List.size_toArray] <;> omega)
    have I1 : Inv X pins σ H { s with heap := h' } := I.kept (t' := s.toks) kp
    have I2 : Inv X pins σ (upd H h'.objs.size (.tup ys)) { s with heap := h'.push { cls := .type "tuple", data := .seq its.toArray } } :=
      I1.laid (t' := s.toks) (fun b o e => Heap.get?_push_of_some _ e) (Nat.le_refl _) (show ObjOk X.prog X.w _ _ _ (.tup ys) from ⟨hz, its, r', IsTup.new _ _⟩)
    exact ⟨.ref h'.objs.size, _, I2, rfl, q _ (I1.hok.fresh (Nat.le_refl _))⟩
  · obtain ⟨its, r', pl, hz⟩ := I.tuple hq
    exact call_tuple_same pl ⟨.ref p, H, I, rfl, q⟩

/-! ### the call of a builtin's method: o.m(..) -/
/-- the value is of that builtin type -/
def tyV (K : PySem.W.Frag) (T : String) (x : V) (H : Hp) : Prop := match x with
  | .str _ => T = "str"
  | .int _ => T = "int"
  | .ref p => (T = "list" ∧ ∃ xs, SqL K H p xs) ∨ (T = "tuple" ∧ ∃ o, K.lookup p = some o ∧ o.cls = .type "tuple" ∧ o.dict = none) ∨
      (T = "dict" ∧ ((∃ kvs, H p = some (.dK kvs)) ∨ ∃ kvs, H p = some (.dT kvs))) ∨ (T = "set" ∧ ∃ S n, H p = some (.set S n))
  | _ => False
theorem tyV_is {pins : List (Addr × Obj)} {σ : St} {H : Hp} {s : Shared} {T : String} {x : V} {v : Value} (I : Inv X pins σ H s) (r : RelV x v) (ty : tyV X.K T x H) :
    s.TypeIs v T ∧ ∀ a, v = .ref a → ∃ ob, s.heap.get? a = some ob ∧ ob.dict = none := by
  cases x with
  | str z =>
    obtain ⟨t, rfl⟩ := r
    cases (show T = "str" from ty)
    exact ⟨typeIs_str s z t, fun _ e => nomatch e⟩
  | int i =>
    obtain ⟨t, rfl⟩ := r
    cases (show T = "int" from ty)
    exact ⟨typeIs_int s i t, fun _ e => nomatch e⟩
  | ref p =>
    cases r
    rcases ty with ⟨rfl, xs, hq⟩ | ⟨rfl, o, hk, hc, hd⟩ | ⟨rfl, hk⟩ | ⟨rfl, S, n, hk⟩
    · obtain ⟨its, _, pl, _⟩ := I.list hq
      refine ⟨pl.isList.typeIs, fun a e => ?_⟩
      cases e
      obtain ⟨o, n, e, c, hd, _⟩ := pl
      exact ⟨o, e, hd⟩
    · refine ⟨⟨o, I.kIn p o hk, hc⟩, fun a e => ?_⟩
      cases e
      exact ⟨o, I.kIn _ o hk, hd⟩
    · have z : ∃ o, s.heap.get? p = some o ∧ o.ExactDict := by
        rcases hk with ⟨kvs, hk⟩ | ⟨kvs, hk⟩
        · obtain ⟨_, _, _, _, o, _, _, e, ex, _⟩ := I.hok p _ hk
          exact ⟨o, e, ex⟩
        · obtain ⟨_, _, _, _, o, _, _, e, ex, _⟩ := I.hok p _ hk
          exact ⟨o, e, ex⟩
      obtain ⟨o, e, ex⟩ := z
      refine ⟨⟨o, e, ex.1⟩, fun a e2 => ?_⟩
      cases e2
      exact ⟨o, e, ex.2.1⟩
    · obtain ⟨o, _, _, _, e, ex, _⟩ := I.hok p _ hk
      refine ⟨⟨o, e, ex.1⟩, fun a e2 => ?_⟩
      cases e2
      exact ⟨o, e, ex.2.1⟩
  | _ => exact False.elim ty
def tBM0 (K : PySem.W.Frag) (T : String) (r : V → List V → Hp → VK → Prop) (to : TE) : TE := fun σ H Q => to σ H fun x H1 => tyV K T x H1 ∧ r x [] H1 Q
def tBM (K : PySem.W.Frag) (T : String) (r : V → List V → Hp → VK → Prop) (to : TE) (t : TA) : TE := fun σ H Q => to σ H fun x H1 => tyV K T x H1 ∧ t σ H1 fun xs H2 => r x xs H2 Q
variable {o e : Expr} {es : List Expr} {to : TE} {t : TA} {name : Str} {apos cpos : Pos} {T id : String} {r : V → List V → Hp → VK → Prop}
theorem pe_bm0 (pa : PlainAttrs T) (slot : Slot T name id) (hty : typeOf (.builtin id) = pure (.type "method_descriptor")) (hm : MtR X id r) (ho : PE X o to)
    (hbase : attributeBase o name X.env (eval o X.env) = eval o X.env := by rfl) (hline : (apos.endLine == cpos.line) = true := by rfl) : PE X (.Call (.Attribute o name apos) [] [] cpos) (tBM0 X.K T r to) := by
  intro pins s σ H Q I h
  refine wpAny_Call_method0_late hbase hline (thn (ho pins s σ H _ I h) fun v s1 ⟨x, H1, I1, r1, ty, q1⟩ => ?_)
  obtain ⟨h1, h2⟩ := tyV_is I1 r1 ty
  exact ⟨T, id, pa, slot, hty, h1, h2, Calls.callWith_builtin rfl (PySem.evalArgs_none (hm pins s1 σ H1 x [] v [] Q I1 r1 .nil q1))⟩
theorem pe_bm (pa : PlainAttrs T) (slot : Slot T name id) (hty : typeOf (.builtin id) = pure (.type "method_descriptor")) (hm : MtR X id r) (ho : PE X o to) (ha : PA X (e :: es) t)
    (hbase : attributeBase o name X.env (eval o X.env) = eval o X.env := by rfl)
    (hfew : ((backTo cpos (starEach (e :: es) X.env)).all (fun x => !x.1) && (backToKw cpos (keywordEach [] X.env)).all (fun x => x.1.isSome)
      && decide ((e :: es).length + ([] : List Keyword).length + (if ([] : List Keyword).isEmpty then 0 else 1) < 30)) = true := by rfl)
    (hline : (apos.endLine == cpos.line) = true := by rfl) (hs : starEach (e :: es) X.env = (false, eval e X.env) :: starEach es X.env := by rfl) (hplain : (backTo cpos (starEach es X.env)).any (·.1) = false := by rfl) :
    PE X (.Call (.Attribute o name apos) (e :: es) [] cpos) (tBM X.K T r to t) := by
  intro pins s σ H Q I h
  refine wpAny_Call_method_late hbase hfew hline rfl (thn (ho pins s σ H _ I h) fun v s1 ⟨x, H1, I1, r1, ty, q1⟩ => ?_)
  obtain ⟨h1, h2⟩ := tyV_is I1 r1 ty
  refine ⟨T, id, pa, slot, hty, h1, h2, ?_⟩
  have hA := ha cpos pins s1 σ H1 _ I1 q1
  rw [hs] at hA ⊢
  refine Calls.callWith_builtin (by show (false || (backTo cpos (starEach es X.env)).any (·.1)) = false; rw [hplain] <;> rfl) (Calls.evalArgs_plain ?_)
  exact thn hA fun us s2 ⟨vs, H2, I2, r2, q2⟩ => hm pins s2 σ H2 x vs v us Q I2 r1 r2 q2
/- xs.append(e), list.index on a module's tuple .. are MtR facts of 06m -/
end
end L2

namespace L2
open PySem PySem.Spec PyProof.Rows

def MtM (X : Cx) (id : String) (r : V → List V → Hp → VK → Prop) : Prop :=
  ∀ (pins : List (Addr × Obj)) (s : Shared) (σ : St) (H : Hp) (x : V) (xs : List V) (v : Value) (us : List Value) (Q : VK), Inv X pins σ H s → RelV x v → Vals xs us → r x xs H Q →
    wpAny (model X.prog X.w) X.A (call (.builtin id) (v :: us)) (EP X pins σ Q) X.xe s

/-! ### lists of values -/
theorem Vals.one : ∀ {x : V} {us : List Value}, Vals [x] us → ∃ u, us = [u] ∧ RelV x u
  | _, _, .cons r .nil => ⟨_, rfl, r⟩
theorem Vals.two : ∀ {x y : V} {us : List Value}, Vals [x, y] us → ∃ u v, us = [u, v] ∧ RelV x u ∧ RelV y v
  | _, _, _, .cons r (.cons q .nil) => ⟨_, _, rfl, r, q⟩
theorem Vals.zero : ∀ {us : List Value}, Vals [] us → us = []
  | _, .nil => rfl
theorem Vals.dropLast {xs : List V} {us : List Value} (h : Vals xs us) : Vals xs.dropLast us.dropLast := by
  induction h with
  | nil => exact .nil
  | cons r t ih =>
    cases t with
    | nil => exact .nil
    | cons q t' => exact .cons r ih
theorem Vals.eraseIdx : ∀ {xs : List V} {us : List Value} (i : Nat), Vals xs us → Vals (xs.eraseIdx i) (us.eraseIdx i)
  | _, _, _, .nil => .nil
  | _, _, 0, .cons _ t => t
  | _, _, i + 1, .cons r t => .cons r (Vals.eraseIdx i t)
theorem Vals.reverse {xs : List V} {us : List Value} (h : Vals xs us) : Vals xs.reverse us.reverse := by
  induction h with
  | nil => exact .nil
  | cons r t ih => rw [List.reverse_cons, List.reverse_cons]; exact Vals.append ih (.cons r .nil)
theorem Vals.rep {xs : List V} {us : List Value} (h : Vals xs us) : ∀ k : Nat, Vals (List.replicate k xs).flatten (List.replicate k us).flatten
  | 0 => .nil
  | k + 1 => by
    rw [List.replicate_succ, List.replicate_succ, List.flatten_cons, List.flatten_cons]
    exact Vals.append h (Vals.rep h k)
theorem erase_last {α : Type} (l : List α) : l.eraseIdx (l.length - 1) = l.dropLast := by
  induction l with
  | nil => rfl
  | cons a r ih =>
    cases r with
    | nil => rfl
    | cons b r =>
      have e : (a :: b :: r).length - 1 = ((b :: r).length - 1) + 1 := by
        have h1 : (a :: b :: r).length = r.length + 2 := rfl
        have h2 : (b :: r).length = r.length + 1 := rfl
        omega
      rw [e, List.eraseIdx_cons_succ, ih]
      all_goals rfl
theorem len_erase {α : Type} : ∀ (l : List α) (i : Nat), (l.eraseIdx i).length ≤ l.length
  | [], _ => Nat.le_refl _
  | _ :: _, 0 => Nat.le_succ _
  | _ :: r, i + 1 => Nat.succ_le_succ (len_erase r i)
theorem foldl_rep (its : List Value) : ∀ (k : Nat) (acc : List Value),
    List.foldl (fun x1 x2 => x1 ++ x2) acc.toArray (List.replicate k its.toArray) = (acc ++ (List.replicate k its).flatten).toArray
  | 0, acc => by simp
  | k + 1, acc => by
    have e : acc.toArray ++ its.toArray = (acc ++ its).toArray := by simp
    have e2 : (acc ++ its) ++ (List.replicate k its).flatten = acc ++ (List.replicate (k + 1) its).flatten := by
      rw [List.replicate_succ, List.flatten_cons, List.append_assoc]
    rw [← e2, ← foldl_rep its k (acc ++ its), ← e, List.replicate_succ, List.foldl_cons]

section
variable {X : Cx} {pins : List (Addr × Obj)} {σ : St} {H : Hp} {s : Shared} {l b : Addr} {xs ys zs : List V}

/-! ### the two steps: a tracked list is rewritten, a new list is laid -/
theorem Inv.lset {its its' : List Value} {n : Nat} {f : Array Value → Array Value} {t' : Nat} (I : Inv X pins σ H s) (hH : H l = some (.lst xs))
    (e : s.heap.get? l = some { cls := .type "list", data := .seq its.toArray n }) (hf : f its.toArray = its'.toArray) (hv : Vals ys its') (hz : ys.length ≤ sizeLine) :
    Inv X pins σ (upd H l (.lst ys)) { s with heap := s.heap.update l (Obj.mapSeq f), toks := t' } := by
  have q := PySem.IsL.update e f
  rw [hf] at q
  refine I.write (x := l) (e := l) (by rw [hH]; exact trivial) (.inl rfl) (fun b' u hb hu => (Heap.get?_update_other s.heap (Obj.mapSeq f) (Ne.symm hb)).trans hu) ⟨_, q⟩ ?_
  exact ⟨hz, its', _, hv, q⟩
theorem Inv.lnew {its : List Value} {t' : Nat} (I : Inv X pins σ H s) (hv : Vals ys its) (hz : ys.length ≤ sizeLine) :
    Inv X pins σ (upd H s.heap.objs.size (.lst ys)) { s with heap := s.heap.push { cls := .type "list", data := .seq its.toArray }, toks := t' } :=
  I.laid (fun _ _ q => Heap.get?_push_of_some _ q) (Nat.le_refl _) ⟨hz, its, 0, hv, Heap.get?_push_size _ rfl⟩
theorem Inv.fresh (I : Inv X pins σ H s) : H s.heap.objs.size = none := I.hok.fresh (Nat.le_refl _)
theorem Inv.lstM (I : Inv X pins σ H s) (hH : H l = some (.lst xs)) : xs.length ≤ sizeLine ∧ ∃ (its : List Value) (n : Nat), Vals xs its ∧ xs.length = its.length ∧ s.heap.get? l = some { cls := .type "list", data := .seq its.toArray n } := by
  obtain ⟨z, its, n, r, e⟩ := I.hok l _ hH
  exact ⟨z, its, n, r, r.length, e⟩

theorem notLongL {n : Nat} (h : n ≤ sizeLine) : Builtin.List.listTooLong n = false := by
  unfold Builtin.List.listTooLong
  exact decide_eq_false (by omega)
end

section
variable {X : Cx}

/-! ### methods -/
def rAppend : V → List V → Hp → VK → Prop := fun x vs H Q => ∃ l xs y, x = .ref l ∧ vs = [y] ∧ H l = some (.lst xs) ∧ xs.length < sizeLine ∧ Q .non (upd H l (.lst (xs ++ [y])))
theorem mt_append : MtM X "list.append" rAppend := by
  intro pins s σ H x vs v us Q I rx rv h
  obtain ⟨l, xs, y, rfl, rfl, hH, hz, q⟩ := h
  cases rx
  obtain ⟨u, rfl, ru⟩ := rv.one
  obtain ⟨z, its, n, r, hl, e⟩ := I.lstM hH
  refine call_meets F.slot_list_append ⟨_, e, rfl⟩ F.entry_list_append (F.args_list_append_2 _ _) (PySem.list_append l its.toArray n u (by rw [List.size_toArray]; omega)) ⟨e, ?_⟩
  refine ⟨.non, _, I.lset (its' := its ++ [u]) hH e (by simp) (r.append (.cons ru .nil)) ?_, rfl, q⟩
  rw [List.length_append, List.length_singleton]
  omega

def rExtend : V → List V → Hp → VK → Prop := fun x vs H Q => ∃ l b xs zs, x = .ref l ∧ vs = [.ref b] ∧ H l = some (.lst xs) ∧ H b = some (.lst zs) ∧ xs.length + zs.length ≤ sizeLine ∧ Q .non (upd H l (.lst (xs ++ zs)))
theorem mt_extend : MtM X "list.extend" rExtend := by
  intro pins s σ H x vs v us Q I rx rv h
  obtain ⟨l, b, xs, zs, rfl, rfl, hH, hB, hz, q⟩ := h
  cases rx
  obtain ⟨u, rfl, ru⟩ := rv.one
  cases ru
  obtain ⟨z, its, n, r, hl, e⟩ := I.lstM hH
  obtain ⟨z2, its2, n2, r2, hl2, e2⟩ := I.lstM hB
  have hsz : its.toArray.size + its2.toArray.size ≤ sizeLine := by rw [List.size_toArray, List.size_toArray]; omega
  have hlong : ¬ (!its.toArray.isEmpty && Builtin.List.listTooLong (its.toArray.size + its2.toArray.size)) = true := by
    rw [notLongL hsz, Bool.and_false]
    exact Bool.false_ne_true
  refine call_meets F.slot_list_extend ⟨_, e, rfl⟩ F.entry_list_extend (F.args_list_extend_2 _ _)
    (AutoSeq1.list_extend_list_list_0 l its.toArray n b its2.toArray n2 hlong (by rw [List.size_toArray]; omega) (by omega)) ⟨e, e2, ?_⟩
  refine ⟨.non, _, I.lset (its' := its ++ its2) hH e (by simp) (r.append r2) ?_, rfl, q⟩
  rw [List.length_append]
  omega

def rPop : V → List V → Hp → VK → Prop := fun x vs H Q => ∃ l xs y, x = .ref l ∧ vs = [] ∧ H l = some (.lst xs) ∧ xs[xs.length - 1]? = some y ∧ Q y (upd H l (.lst xs.dropLast))
theorem mt_pop : MtM X "list.pop" rPop := by
  intro pins s σ H x vs v us Q I rx rv h
  obtain ⟨l, xs, y, rfl, rfl, hH, hy, q⟩ := h
  cases rx
  have hus := rv.zero
  subst hus
  obtain ⟨z, its, n, r, hl, e⟩ := I.lstM hH
  obtain ⟨u, hu, ru⟩ := r.get hy
  have hy' : its.toArray[its.toArray.size - 1]? = some u := by
    show its.toArray[its.length - 1]? = some u
    rw [← Array.getElem?_toList, ← hl]
    exact hu
  refine call_meets F.slot_list_pop ⟨_, e, rfl⟩ F.entry_list_pop (F.args_list_pop_1 _) (MeetsSeq.list_pop_last l its.toArray n u hy' (by rw [List.size_toArray]; omega)) ⟨e, ?_⟩
  refine ⟨y, _, I.lset (its' := its.dropLast) hH e ?_ r.dropLast ?_, ru, q⟩
  · show its.toArray.eraseIdxIfInBounds (its.toArray.size - 1) = its.dropLast.toArray
    rw [List.size_toArray, List.eraseIdxIfInBounds_toArray, erase_last]
  · rw [List.length_dropLast]
    omega

def rPopAt : V → List V → Hp → VK → Prop := fun x vs H Q => ∃ l xs i k y, x = .ref l ∧ vs = [.int i] ∧ H l = some (.lst xs) ∧ -(2 ^ 63) ≤ i ∧ i < 2 ^ 63 ∧ seqIndex? i xs.length = some k ∧ xs[k]? = some y ∧ Q y (upd H l (.lst (xs.eraseIdx k)))
theorem mt_popAt : MtM X "list.pop" rPopAt := by
  intro pins s σ H x vs v us Q I rx rv h
  obtain ⟨l, xs, i, k, y, rfl, rfl, hH, h1, h2, hk, hy, q⟩ := h
  cases rx
  obtain ⟨u, rfl, ru⟩ := rv.one
  obtain ⟨t, rfl⟩ := ru
  obtain ⟨z, its, n, r, hl, e⟩ := I.lstM hH
  obtain ⟨w, hw, rw'⟩ := r.get hy
  refine call_meets F.slot_list_pop ⟨_, e, rfl⟩ F.entry_list_pop (F.args_list_pop_2 _ _)
    (MeetsSeq.list_pop_at l its.toArray n i t k w (fitsIndex_both h1 h2) (by rw [List.size_toArray, ← hl]; exact hk) (by rw [← Array.getElem?_toList]; exact hw) (by rw [List.size_toArray]; omega)) ⟨e, ?_⟩
  refine ⟨y, _, I.lset (its' := its.eraseIdx k) hH e ?_ (r.eraseIdx k) ?_, rw', q⟩
  · show its.toArray.eraseIdxIfInBounds k = (its.eraseIdx k).toArray
    rw [List.eraseIdxIfInBounds_toArray]
  · have := len_erase xs k
    omega

def rReverse : V → List V → Hp → VK → Prop := fun x vs H Q => ∃ l xs, x = .ref l ∧ vs = [] ∧ H l = some (.lst xs) ∧ Q .non (upd H l (.lst xs.reverse))
theorem mt_reverse : MtM X "list.reverse" rReverse := by
  intro pins s σ H x vs v us Q I rx rv h
  obtain ⟨l, xs, rfl, rfl, hH, q⟩ := h
  cases rx
  have hus := rv.zero
  subst hus
  obtain ⟨z, its, n, r, hl, e⟩ := I.lstM hH
  refine call_meets F.slot_list_reverse ⟨_, e, rfl⟩ F.entry_list_reverse (F.args_list_reverse_1 _) (AutoSeq1.list_reverse_list_0 l its.toArray n (by rw [List.size_toArray]; omega)) ⟨e, ?_⟩
  refine ⟨.non, _, I.lset (its' := its.reverse) hH e (by simp) r.reverse ?_, rfl, q⟩
  rw [List.length_reverse]
  omega

def rClear : V → List V → Hp → VK → Prop := fun x vs H Q => ∃ l xs, x = .ref l ∧ vs = [] ∧ H l = some (.lst xs) ∧ Q .non (upd H l (.lst []))
theorem mt_clear : MtM X "list.clear" rClear := by
  intro pins s σ H x vs v us Q I rx rv h
  obtain ⟨l, xs, rfl, rfl, hH, q⟩ := h
  cases rx
  have hus := rv.zero
  subst hus
  obtain ⟨z, its, n, r, hl, e⟩ := I.lstM hH
  refine call_meets F.slot_list_clear ⟨_, e, rfl⟩ F.entry_list_clear (F.args_list_clear_1 _) (AutoSeq1.list_clear_list_0 l its.toArray n (by rw [List.size_toArray]; omega)) ⟨e, ?_⟩
  exact ⟨.non, _, I.lset (its' := []) (ys := []) hH e rfl .nil (Nat.zero_le _), rfl, q⟩

/-! ### list + list, list += list, list * int -/
def rCat : R2 := fun x y H Q => ∃ l b xs zs, x = .ref l ∧ y = .ref b ∧ H l = some (.lst xs) ∧ H b = some (.lst zs) ∧ xs.length + zs.length ≤ sizeLine ∧ ∀ p, H p = none → Q (.ref p) (upd H p (.lst (xs ++ zs)))
theorem op_cat : OpR X (binaryOp .Add) rCat := by
  intro pins s σ H x y v u Q I rx ry h
  obtain ⟨l, b, xs, zs, rfl, rfl, hH, hB, hz, q⟩ := h
  cases rx
  cases ry
  obtain ⟨z, its, n, r, hl, e⟩ := I.lstM hH
  obtain ⟨z2, its2, n2, r2, hl2, e2⟩ := I.lstM hB
  refine PySem.P.add_list e e2 ?_ (by rw [List.size_toArray, List.size_toArray]; omega)
  have ea : its.toArray ++ its2.toArray = (its ++ its2).toArray := by simp
  rw [ea]
  exact ⟨.ref _, _, I.lnew (t' := s.toks) (r.append r2) (by rw [List.length_append]; omega), rfl, q _ I.fresh⟩
/-- a list times an int (a negative one is nothing) -/
def rRep : R2 := fun x y H Q => ∃ l k xs, x = .ref l ∧ y = .int k ∧ H l = some (.lst xs) ∧ -(2 ^ 63) ≤ k ∧ k < 2 ^ 63 ∧ xs.length * k.toNat ≤ sizeLine ∧
  ∀ p, H p = none → Q (.ref p) (upd H p (.lst (List.replicate k.toNat xs).flatten))
theorem len_rep {α : Type} (xs : List α) (k : Nat) : (List.replicate k xs).flatten.length = k * xs.length := by
  induction k with
  | zero => simp
  | succ k ih => rw [List.replicate_succ, List.flatten_cons, List.length_append, ih, Nat.succ_mul, Nat.add_comm]
theorem op_rep : OpR X (binaryOp .Mult) rRep := by
  intro pins s σ H x y v u Q I rx ry h
  obtain ⟨l, k, xs, rfl, rfl, hH, h1, h2, hz, q⟩ := h
  cases rx
  obtain ⟨t, rfl⟩ := ry
  obtain ⟨z, its, n, r, hl, e⟩ := I.lstM hH
  have hlen : its.toArray.size * k.toNat ≤ sizeLine := by rw [List.size_toArray, ← hl]; exact hz
  have hcap : ¬ its.toArray.size * k.toNat > (2 ^ 63 - 1) / 8 := by
    have : (sizeLine : Nat) ≤ (2 ^ 63 - 1) / 8 := by decide
    omega
  have hfit : ¬ (!Builtin.List.listFitsIndex k) = true := by
    rw [fitsIndex_both h1 h2]
    exact Bool.false_ne_true
  have hlong : ¬ Builtin.List.listTooLong (its.toArray.size * k.toNat) = true := by
    rw [notLongL hlen]
    exact Bool.false_ne_true
  have hnew : List.foldl (fun x1 x2 => x1 ++ x2) #[] (List.replicate (if its.toArray.isEmpty = true then 0 else k.toNat) its.toArray) = (List.replicate k.toNat its).flatten.toArray := by
    have f0 : ∀ m : Nat, List.foldl (fun x1 x2 => x1 ++ x2) #[] (List.replicate m its.toArray) = (List.replicate m its).flatten.toArray := fun m => by
      have := foldl_rep its m []
      rw [List.nil_append] at this
      exact this
    rw [f0]
    cases its with
    | nil => simp
    | cons a r' => rw [if_neg (by simp)]
  refine wpAny_binaryOp_repeat_ref (T := "list") (U := "int") (by decide) ⟨_, e, rfl⟩ (fun s' => typeIs_int s' k t) noFill_list_mul F.fills_int_mul F.slot_int_rmul repeat_list F.slot_int_index.lookup
    (call_meets F.slot_int_rmul (typeIs_int s k t) F.entry_int_rmul (F.args_int_rmul_2 _ _) (int___rmul___int_list k t l its.toArray n)
      ⟨e, rfl, ⟨_, e, rfl⟩, call_meets F.slot_list_mul ⟨_, e, rfl⟩ F.entry_list_mul (F.args_list_mul_2 _ _) (AutoListH.list___mul___list_int_3 l its.toArray n k t hfit hcap hlong) ⟨e, ?_⟩⟩)
  rw [hnew]
  exact ⟨.ref _, _, I.lnew (t' := s.toks) (r.rep k.toNat) (by rw [len_rep, Nat.mul_comm]; exact hz), rfl, q _ I.fresh⟩

/-! ### del xs[i] -/
theorem del_list {pins : List (Addr × Obj)} {s : Shared} {σ : St} {H : Hp} {l : Addr} {xs : List V} {i : Int} {t : Tok} {k : Nat} {Q : Unit → Shared → Prop} (I : Inv X pins σ H s) (hH : H l = some (.lst xs))
    (h1 : -(2 ^ 63) ≤ i) (h2 : i < 2 ^ 63) (hk : seqIndex? i xs.length = some k) (h : ∀ s', Inv X pins σ (upd H l (.lst (xs.eraseIdx k))) s' → Q () s') :
    wpAny (model X.prog X.w) X.A (delItem (.ref l) (.int i t)) Q X.xe s := by
  obtain ⟨z, its, n, r, hl, e⟩ := I.lstM hH
  refine PySem.P.delItem_list (k := k) e (fitsIndex_both h1 h2) (by rw [List.size_toArray, ← hl]; exact hk) (h _ ?_) (by rw [List.size_toArray]; omega)
  refine I.lset (its' := its.eraseIdx k) (t' := s.toks) hH e ?_ (r.eraseIdx k) ?_
  · show its.toArray.eraseIdxIfInBounds k = (its.eraseIdx k).toArray
    rw [List.eraseIdxIfInBounds_toArray]
  · have := len_erase xs k
    omega
end

/-! ### xs[a:b] = ys -/
section
variable {prog : Program} {w : World} {A : Around} {E : Value → Shared → Prop} {s : Shared}
theorem splice_eq (its its2 : List Value) (a c : Nat) : its.toArray.extract 0 a ++ its2.toArray ++ its.toArray.extract c its.toArray.size = (its.take a ++ its2 ++ its.drop c).toArray := by
  apply Array.toList_inj.mp
  first
    | (simp
       exact List.take_of_length_le (by simp))
    | simp [List.take_of_length_le]
    | simp
theorem bounds_run {a c n : Nat} (hac : a ≤ c) (hc : c ≤ n) : sliceBounds (some (a : Int)) (some (c : Int)) none n = ((a : Int), (c : Int), 1) := by
  simp only [sliceBounds, Option.getD_none]
  have h1 : ¬ ((a : Int) < 0) := by omega
  have h2 : ¬ ((c : Int) < 0) := by omega
  simp only [h1, h2, if_false, show (1 : Int) > 0 by decide, if_true]
  congr 1
  · omega
  · congr 1; omega
set_option maxRecDepth 100000 in
/-- list.__setitem__ with a slice of step one and another list -/
theorem setItem_slice {l b sl : Addr} {items new : Array Value} {n n2 : Nat} {vl vu : Value} {a c : Nat} {Q : Unit → Shared → Prop}
    (e : s.heap.get? l = some { cls := .type "list", data := .seq items n }) (e2 : s.heap.get? b = some { cls := .type "list", data := .seq new n2 }) (hne : l ≠ b)
    (hs : s.heap.IsSliceOf sl vl vu .none) (pl : IsPart vl (some (a : Int))) (pu : IsPart vu (some (c : Int))) (hac : a ≤ c) (hc : c ≤ items.size)
    (hsz : items.size + new.size ≤ sizeLine) (h : Q () { s with heap := s.heap.update l (Obj.mapSeq fun xs => xs.extract 0 a ++ new ++ xs.extract c xs.size) }) :
    wpAny (model prog w) A (setItem (.ref l) (.ref sl) (.ref b)) Q E s := by
  have hl : s.heap.IsList l items := PySem.IsL.isList e
  have hb : s.heap.IsList b new := PySem.IsL.isList e2
  obtain ⟨os, hos, hcs, hds⟩ := id hs
  have hTs : s.TypeIs (.ref sl) "slice" := ⟨os, hos, hcs⟩
  have hstep : ¬ ((rawPart none == rawInt 0) = true) := Bool.false_ne_true
  have hsame : Builtin.List.listSameRef (.ref l) (.ref b) = false := by
    unfold Builtin.List.listSameRef
    exact beq_eq_false_iff_ne.mpr hne
  have hmax : (max (a : Int) (c : Int)).toNat = c := by omega
  have hz' : ((fun xs : Array Value => xs.extract 0 a ++ new ++ xs.extract c xs.size) items).size ≤ sizeLine + 1 := by
    simp only [Array.size_append, Array.size_extract]
    omega
  unfold setItem
  try with_reducible refine wpAny_holding ?_
  first | refine wpAny_bind (wpAny_pure ?_) | skip
  refine wpAny_bind (wpAny_sequenceKey hl.typeIs (by decide) ?_)
  refine wpAny_bind (wpAny_callSpecial?_slot (name := Str.ofString "__setitem__") hl.typeIs slot_list_setitem
    (wpAny_call_entry slot_list_setitem hl.typeIs entry_list_setitem ?_ (args_list_setitem _ _ _)))
  show wpAny _ _ (Builtin.List.listSubscript? (.ref sl) >>= _) _ _ s
  refine wpAny_bind ?_
  unfold Builtin.List.listSubscript?
  refine wpAny_bind (wpAny_specialOf hTs slice_no_index ?_)
  simp only [Option.isNone_none, if_true]
  refine wpAny_pure ?_
  show wpAny _ _ (typeOf (.ref sl) >>= _) _ _ s
  refine wpAny_bind (wpAny_typeOf hTs ?_)
  first
    | rw [if_neg (by decide)]
    | refine PySem.W.KFB.if_not (by decide) ?_
  rw [listSliceParts_eq]
  refine wpAny_bind (wpAny_bind (wpAny_field hos hds (x := .none) rfl (wpAny_bind (wpAny_listPart .none ?_))))
  rw [if_neg hstep]
  refine wpAny_bind (wpAny_field hos hds (x := vl) rfl (wpAny_bind (wpAny_listPart pl ?_)))
  refine wpAny_bind (wpAny_field hos hds (x := vu) rfl (wpAny_bind (wpAny_listPart pu (wpAny_pure ?_))))
  first
    | simp only [hsame, Bool.false_eq_true, if_false]
    | refine PySem.W.KFB.if_not hsame ?_
    | (dsimp only
       rw [if_neg (by rw [hsame]; exact Bool.false_ne_true)])
  refine wpAny_bind (m := Builtin.List.listAllItems (.ref b) "must assign iterable to extended slice") ?_
  unfold Builtin.List.listAllItems
  refine wpAny_bind (wpAny_typeOf hb.typeIs ?_)
  first
    | refine PySem.W.KFB.if_so (by decide) ?_
    | rw [if_pos (by decide)]
    | simp only [beq_self_eq_true, Bool.true_or, if_true]
  unfold Builtin.List.listItems
  refine wpAny_bind (wpAny_seqItems e2 rfl (wpAny_pure ?_))
  refine wpAny_bind (wpAny_bind (wpAny_seqItems e rfl (wpAny_pure ?_)))
  refine wpAny_bind (wpAny_of_eq ((sliceIndices_raw (some (a : Int)) (some (c : Int)) none items.size (by simp)).trans (congrArg (pure : Int × Int × Int → Sem (Int × Int × Int)) (bounds_run hac hc))) ?_)
  show wpAny _ _ (if ((1 : Int) == 1) = true then _ else _) _ _ s
  rw [if_pos (by decide)]
  refine wpAny_bind (wpAny_rule ?_)
  first
    | simp only [notLongL hsz, Bool.false_eq_true, if_false]
    | refine PySem.W.KFB.if_not (notLongL hsz) ?_
  first | refine wpAny_bind (wpAny_pure ?_) | skip
  show wpAny _ _ (updateSeq l (fun xs => xs.extract 0 ((a : Int)).toNat ++ new ++ xs.extract (max (a : Int) (c : Int)).toNat xs.size) >>= _) _ _ s
  rw [hmax, Int.toNat_natCast]
  refine wpAny_bind (wpAny_updateSeq (hz := Nat.le_trans (Nat.le_add_right _ _) hsz) (_hz' := hz') e rfl ?_)
  refine wpAny_bind (wpAny_letGo ?_)
  first
    | exact wpAny_bind (wpAny_pure (wpAny_pure ⟨.none, rfl, wpAny_pure h⟩))
    | exact wpAny_pure ⟨.none, rfl, wpAny_pure h⟩
end

section
variable {X : Cx}
/-- xs[a:c] = ys of another list, at the value level: sl is the slice object that was just made -/
theorem set_slice {pins : List (Addr × Obj)} {s : Shared} {σ : St} {H : Hp} {l b sl : Addr} {xs ys : List V} {a c : Int} {vl vu : Value} {Q : Unit → Shared → Prop} (I : Inv X pins σ H s)
    (hH : H l = some (.lst xs)) (hB : H b = some (.lst ys)) (hne : l ≠ b) (hs : s.heap.IsSliceOf sl vl vu .none) (ra : RelV (.int a) vl) (rc : RelV (.int c) vu) (h0 : 0 ≤ a) (hac : a ≤ c) (hc : c ≤ xs.length)
    (hz : xs.length + ys.length ≤ sizeLine) (h : ∀ s', Inv X pins σ (upd H l (.lst (xs.take a.toNat ++ ys ++ xs.drop c.toNat))) s' → Q () s') :
    wpAny (model X.prog X.w) X.A (setItem (.ref l) (.ref sl) (.ref b)) Q X.xe s := by
  obtain ⟨ta, rfl⟩ := ra
  obtain ⟨tc, rfl⟩ := rc
  obtain ⟨z, its, n, r, hl, e⟩ := I.lstM hH
  obtain ⟨z2, its2, n2, r2, hl2, e2⟩ := I.lstM hB
  obtain ⟨a', rfl⟩ := Int.eq_ofNat_of_zero_le h0
  obtain ⟨c', rfl⟩ := Int.eq_ofNat_of_zero_le (Int.le_trans h0 hac)
  simp only [Int.toNat_natCast] at h
  refine setItem_slice (a := a') (c := c') e e2 hne hs (.int _ _) (.int _ _) (by omega) (by rw [List.size_toArray]; omega) (by rw [List.size_toArray, List.size_toArray]; omega) (h _ ?_)
  refine I.lset (its' := its.take a' ++ its2 ++ its.drop c') (t' := s.toks) hH e ?_ (Vals.append (Vals.append (r.take _) r2) (r.drop _)) ?_
  · exact splice_eq its its2 a' c'
  · rw [List.length_append, List.length_append, List.length_take, List.length_drop]
    omega
end
end L2

namespace Att
open PySem PySem.W PySem.Calls PyProof.Rows

/-! ### the script -/
theorem ints_of_wellAll {P : Params} {h : Heap} : ∀ (ns : List Int) (vs : List Value), WellAll P h vs (ns.map WData.int) → IntsAre vs ns := by
  intro ns
  induction ns with
  | nil =>
    intro vs w
    rw [List.map_nil] at w
    cases w
    exact .nil
  | cons n ns ih =>
    intro vs w
    rw [List.map_cons] at w
    cases w with
    | cons a b =>
      cases a
      exact .cons _ _ (ih _ b)

theorem script_of {l : OpenLaw} {n : Nat} (hn : l.most = some n) {P : Params} {h : Heap} {args : List WData} {vals : List Value}
    (hpre : l.row.toRowW.claim.pre args = true) (hwl : WellAll P h vals args) :
    ∃ a vs ns, vals = [Value.ref a] ∧ args = [WData.list (ns.map WData.int)] ∧ h.get? a = some { cls := .type "list", data := .seq vs.toArray } ∧ IntsAre vs ns ∧ ns.length ≤ n := by
  have hsh : WShape.hasAll [] args [.list .int] = true := (pre_splitW hpre).1
  have hc : l.pre.holds [] { args := args } = true := (pre_splitW hpre).2
  obtain ⟨d, r, rfl, h1, h2⟩ := hasAllW_cons hsh
  obtain rfl := hasAllW_nil h2
  obtain ⟨xs, rfl, h3⟩ := hasW_list h1
  obtain ⟨ns, rfl⟩ := items_int h3
  have hlen : ns.length ≤ n := by
    unfold OpenLaw.pre at hc
    have h4 : (WTm.not (.lt (.lit (.int (n : Int))) (.len (.arg 0)))).holds [] { args := [.list (ns.map .int)] } = true := by
      have h4 := (holds_andW hc).1
      rw [hn] at h4
      exact h4
    have h5 := condW_of h4 (w_not (w_lt w_lit (w_len_list (w_arg rfl))))
    rw [List.length_map] at h5
    refine Nat.le_of_not_lt fun q => ?_
    have q' : (n : Int) < ((ns.length : Nat) : Int) := by omega
    first
      | (rw [decide_eq_true q'] at h5; exact absurd h5 (by decide))
      | (simp at h5; omega)
  cases hwl with
  | cons w1 w2 =>
    cases w2
    cases w1 with
    | list ho hall => exact ⟨_, _, ns, rfl, rfl, ho, ints_of_wellAll ns _ hall, hlen⟩

theorem post_true (l : OpenLaw) (args : List WData) : l.row.toRowW.claim.post args (.bool true) args = true :=
  postW_of (r := l.row.toRowW) (X := (true == true))
    (show WShape.has [] (.bool true) .bool = true by first | rfl | decide | simp [WShape.has, WShape.arms, WShape.armsAll])
    (show (WTm.eq .res (.lit (.bool true))).value [] { args := args, res := some (.bool true), after := args } = some (.bool (true == true)) from w_eq_bool (w_res rfl) w_lit) rfl

/-! ### the attachment: holds_open's last premise (the goal 'hc' behind k_head) from a wpAny of the law's body -/
theorem attach {l : OpenLaw} {n : Nat} {q : Program} {loose : List Str} {XP : (Str → Option Value) → Heap → Prop} {YP : World → Heap → Prop} {d : DefRec} {x : Str}
    (hn : l.most = some n) (hdf : d.params.defaults = [])
    (hbind : ∀ pm cd doc v : Value, bindArgs (docDef d.name d.params d.body d.scope pm cd doc) ⟨[v], []⟩ = pure [(x, v)])
    (hx : d.scope.names.lookup x = some .local ∨ d.scope.names.lookup x = some .cell)
    (hk : d.scope.kind = .function) (hco : d.scope.isCoroutine = false) (hgen : d.scope.isGenerator = false)
    (body : ∀ (w : World) (s₀ s₁ s : Shared) (mg mb : Str → Option Value) (fa : Addr) (o : Obj) (pm cd doc : Value) (a : Addr) (vs : List Value) (ns : List Int),
      Ground q loose [] XP w s₀ mg mb s₁.heap → YP w s₁.heap →
      s₁.heap.get? fa = some o → o.data = .func (docDef d.name d.params d.body d.scope pm cd doc) → s₁.heap.CodeRec cd d.name → mg d.name = some (.ref fa) →
      s₁.heap.get? a = some { cls := .type "list", data := .seq vs.toArray } → IntsAre vs ns → ns.length ≤ n →
      s.gens = #[] → s.os = s₁.os →
      Fr s₁.heap s₁.heap.objs.size s.heap (bindL (envOfC d.name d.scope s₁.heap.objs.size fa cd).kindOf [(x, .ref a)] fun _ => none) →
      Cl s₁.heap.objs.size (cellsFrom (s₁.heap.objs.size + 1) d.scope.names []) s.heap (bindC (envOfC d.name d.scope s₁.heap.objs.size fa cd).kindOf [(x, .ref a)] fun _ => none) →
      wpAny (model l.prog w) (callerA.deeper (envOfC d.name d.scope s₁.heap.objs.size fa cd)) (execs d.body (envOfC d.name d.scope s₁.heap.objs.size fa cd))
        (fun f s' => f = .ret (.bool true) ∧ OldK s₁.heap s'.heap ∧ s'.os = s₁.os ∧ AllBare s'.gens) (fun _ _ => False) s) :
    WalkO q loose XP YP l.row.toRowW d [] (fun f vs => PySem.call f vs) := by
  intro w s₀ s₁ mg mb G Y fa o pm cd doc dV kV ho hd hcd hD hmg hg args vals as hpre hlay hrd hwl hlo
  obtain rfl : dV = .none := Dflts.none hD hdf
  obtain rfl : kV = .none := Dflts.noKw hD
  obtain ⟨a, vs, ns, rfl, rfl, hobj, hints, hlen⟩ := script_of hn hpre hwl
  refine enter_call ?_
  refine call_cells_ret (o := o) (by rw [depth_caller]; decide) ho (fd_plain hd) G.T.nolimit hcd (hbind pm cd doc (.ref a)) (fun y hy => ?_) (fun h₁ tk F X => ?_) hco hgen hk
  · obtain rfl : y = (x, Value.ref a) := List.mem_singleton.mp hy
    rcases hx with e | e
    · exact .inl e
    · exact .inr ⟨e, cellsFrom_some _ _ _ (.inl e)⟩
  · refine wpAny_mono (body w s₀ s₁ { s₁ with heap := h₁, toks := tk } mg mb fa o pm cd doc a vs ns G Y ho (fd_plain hd) hcd hmg hobj hints hlen hg rfl F X) (fun f s' hq => ?_) (fun _ _ hq => hq)
    obtain ⟨rfl, h2, h3, h4⟩ := hq
    exact ⟨.inl ⟨.bool true, .bool true, [], rfl, fun _ => rfl, .bool true, post_true l _, fun _ => ⟨List.Pairwise.nil, fun _ hm => (nomatch hm)⟩⟩, h2, h3, h4⟩

/-- the same from a codeAny of the CALL (for a layer whose function contracts speak of calls) -/
theorem attach_call {l : OpenLaw} {n : Nat} {q : Program} {loose : List Str} {XP : (Str → Option Value) → Heap → Prop} {YP : World → Heap → Prop} {d : DefRec}
    (hn : l.most = some n) (hdf : d.params.defaults = [])
    (call : ∀ (w : World) (s₀ s₁ : Shared) (mg mb : Str → Option Value) (fa : Addr) (o : Obj) (pm cd doc : Value) (a : Addr) (vs : List Value) (ns : List Int),
      Ground q loose [] XP w s₀ mg mb s₁.heap → YP w s₁.heap →
      s₁.heap.get? fa = some o → o.data = .func (docDef d.name d.params d.body d.scope pm cd doc) → s₁.heap.CodeRec cd d.name → mg d.name = some (.ref fa) →
      s₁.heap.get? a = some { cls := .type "list", data := .seq vs.toArray } → IntsAre vs ns → ns.length ≤ n → s₁.gens = #[] →
      codeAny (model l.prog w) callerA (.call (.ref fa) ⟨[.ref a], []⟩) (fun r s' => r = .ok (.ret (.bool true)) ∧ OldK s₁.heap s'.heap ∧ s'.os = s₁.os ∧ AllBare s'.gens) s₁) :
    WalkO q loose XP YP l.row.toRowW d [] (fun f vs => PySem.call f vs) := by
  intro w s₀ s₁ mg mb G Y fa o pm cd doc dV kV ho hd hcd hD hmg hg args vals as hpre hlay hrd hwl hlo
  obtain rfl : dV = .none := Dflts.none hD hdf
  obtain rfl : kV = .none := Dflts.noKw hD
  obtain ⟨a, vs, ns, rfl, rfl, hobj, hints, hlen⟩ := script_of hn hpre hwl
  refine enter_call (codeAny_mono (call w s₀ s₁ mg mb fa o pm cd doc a vs ns G Y ho (fd_plain hd) hcd hmg hobj hints hlen hg) fun r s' hq => ?_)
  obtain ⟨rfl, h2, h3, h4⟩ := hq
  exact ⟨.inl ⟨.bool true, .bool true, [], rfl, fun _ => rfl, .bool true, post_true l _, fun _ => ⟨List.Pairwise.nil, fun _ hm => (nomatch hm)⟩⟩, h2, h3, h4⟩

/-- the same where the top left finished generators (o_head chose holds_openN): nothing may have changed at all and no generator may be left -/
theorem attachN {l : OpenLaw} {n : Nat} {q : Program} {loose : List Str} {XP : (Str → Option Value) → Heap → Prop} {YP : World → Heap → Prop} {d : DefRec} {x : Str}
    (hn : l.most = some n) (hdf : d.params.defaults = [])
    (hbind : ∀ pm cd doc v : Value, bindArgs (docDef d.name d.params d.body d.scope pm cd doc) ⟨[v], []⟩ = pure [(x, v)])
    (hx : d.scope.names.lookup x = some .local ∨ d.scope.names.lookup x = some .cell)
    (hk : d.scope.kind = .function) (hco : d.scope.isCoroutine = false) (hgen : d.scope.isGenerator = false)
    (body : ∀ (w : World) (s₀ s₁ s : Shared) (mg mb : Str → Option Value) (fa : Addr) (o : Obj) (pm cd doc : Value) (a : Addr) (vs : List Value) (ns : List Int),
      Ground q loose [] XP w s₀ mg mb s₁.heap → YP w s₁.heap →
      s₁.heap.get? fa = some o → o.data = .func (docDef d.name d.params d.body d.scope pm cd doc) → s₁.heap.CodeRec cd d.name → mg d.name = some (.ref fa) →
      s₁.heap.get? a = some { cls := .type "list", data := .seq vs.toArray } → IntsAre vs ns → ns.length ≤ n →
      s.gens = #[] → s.os = s₁.os →
      Fr s₁.heap s₁.heap.objs.size s.heap (bindL (envOfC d.name d.scope s₁.heap.objs.size fa cd).kindOf [(x, .ref a)] fun _ => none) →
      Cl s₁.heap.objs.size (cellsFrom (s₁.heap.objs.size + 1) d.scope.names []) s.heap (bindC (envOfC d.name d.scope s₁.heap.objs.size fa cd).kindOf [(x, .ref a)] fun _ => none) →
      wpAny (model l.prog w) (callerA.deeper (envOfC d.name d.scope s₁.heap.objs.size fa cd)) (execs d.body (envOfC d.name d.scope s₁.heap.objs.size fa cd))
        (fun f s' => f = .ret (.bool true) ∧ (∀ b o, s₁.heap.get? b = some o → s'.heap.get? b = some o) ∧ s'.os = s₁.os ∧ s'.gens = #[]) (fun _ _ => False) s) :
    WalkN q loose XP YP l.row.toRowW d [] (fun f vs => PySem.call f vs) := by
  intro w s₀ s₁ mg mb G Y fa o pm cd doc dV kV ho hd hcd hD hmg hg args vals as hpre hlay hrd hwl hlo
  obtain rfl : dV = .none := Dflts.none hD hdf
  obtain rfl : kV = .none := Dflts.noKw hD
  obtain ⟨a, vs, ns, rfl, rfl, hobj, hints, hlen⟩ := script_of hn hpre hwl
  refine enter_callW ?_
  refine call_cells_ret (o := o) (by rw [depth_caller]; decide) ho (fd_plain hd) G.T.nolimit hcd (hbind pm cd doc (.ref a)) (fun y hy => ?_) (fun h₁ tk F X => ?_) hco hgen hk
  · obtain rfl : y = (x, Value.ref a) := List.mem_singleton.mp hy
    rcases hx with e | e
    · exact .inl e
    · exact .inr ⟨e, cellsFrom_some _ _ _ (.inl e)⟩
  · refine wpAny_mono (body w s₀ s₁ { s₁ with heap := h₁, toks := tk } mg mb fa o pm cd doc a vs ns G Y ho (fd_plain hd) hcd hmg hobj hints hlen hg rfl F X) (fun f s' hq => ?_) (fun _ _ hq => hq)
    obtain ⟨rfl, h2, h3, h4⟩ := hq
    exact ⟨.inl ⟨.bool true, .bool true, [], rfl, fun _ => rfl, .bool true, post_true l _, fun _ => ⟨List.Pairwise.nil, fun _ hm => (nomatch hm)⟩⟩, h2, h3, h4⟩

/-! ### rules over ANY heap (no ledger) from facts about the written part K: the library's own take a ledger (News) for what they write -/
section
variable {prog : Program} {w : World} {A : Around} {E : Value → Shared → Prop} {s : Shared} {K : Frag}

/-- a def of the module, or a method (qual 'C.m'), entered: the frame is the next address; cells behind it -/
theorem call_fn {R : Result → Shared → Prop} {name qual : Str} {params : Arguments} {body : List Stmt} {scope : Scope} {dV kV doc pm cdv ct oc : Value} {an od : Option Addr} {osl : Array (Option Value)} {f : Addr} {args : Args} {binds : List (Str × Value)}
    (X : K.In s.heap) (hlim : s.heap.NoLimit) (ho : K.lookup f = some ⟨oc, od, .func (fnOf name qual params body scope dV kV doc pm an cdv ct), osl⟩) (hcd : codeIn K cdv qual = true) (hroom : A.depth < recursionLimit)
    (hbind : BindsTo s (fnOf name qual params body scope dV kV doc pm an cdv ct) args binds)
    (hkind : (binds.all fun y => scope.names.lookup y.1 == some .local || scope.names.lookup y.1 == some .cell) = true)
    (h : ∀ s₁, InCallC s s.heap.objs.size (bindL (envOfC qual scope s.heap.objs.size f cdv).kindOf binds fun _ => none) (cellsFrom (s.heap.objs.size + 1) scope.names [])
        (bindC (envOfC qual scope s.heap.objs.size f cdv).kindOf binds fun _ => none) s₁ →
      wpAny (model prog w) (A.deeper (envOfC qual scope s.heap.objs.size f cdv)) (execs body (envOfC qual scope s.heap.objs.size f cdv))
        (fun fl s' => R (.ok (.ret (match fl with | .ret v => v | _ => .none))) s')
        (fun e s' => wpAny (model prog w) (A.deeper (envOfC qual scope s.heap.objs.size f cdv)) (leaving (envOfC qual scope s.heap.objs.size f cdv) e) (fun _ s'' => R (.error e) s'') (fun e' s'' => R (.error e') s'') s') s₁)
    (hco : scope.isCoroutine = false) (hgen : scope.isGenerator = false) (hk : scope.kind = .function) : codeAny (model prog w) A (.call (.ref f) args) R s := by
  refine codeAny_call_function hroom (X _ _ ho) rfl hco hgen rfl (codeRec_of X hcd) (hbind _ _ _ _ ?_)
  refine wpAny_newFunctionEnv_cells hk (kindsX hkind _) fun env he s₁ x => ?_
  subst he
  exact ⟨hlim.keeps x.toInCall.keep, codeAny_func (h s₁ x)⟩

/-- C(..): dict at size, instance at size + 1, then __init__ -/
theorem make_obj {R : Result → Shared → Prop} {C fI : Addr} {rest : List Value} {kw : List (Str × Value)}
    (X : K.In s.heap) (hm : makesIn K C = true) (hi : findIn K (.ref C) "__init__" = some (some (.ref fI))) (hf : isFn K (.ref fI) = true)
    (h : codeAny (model prog w) (A.under (.builtin "type.__call__" ⟨.ref C :: rest, kw⟩)) (.call (.ref fI) ⟨.ref (s.heap.objs.size + 1) :: rest, kw⟩) (InitBack (s.heap.objs.size + 1) R)
      { s with heap := (s.heap.push emptyDict).push (instObj C s.heap.objs.size) }) : codeAny (model prog w) A (.call (.ref C) ⟨rest, kw⟩) R s := by
  obtain ⟨hh, g, d, t, os⟩ := s
  exact make_core (makes_of X hm) (looks_findIn X hi) (fun self => bind_fn X self (beq_iff_eq.mp hf)) (.inl rfl) h

/-- x.name where the instance's dict holds the name and the class does not -/
theorem get_field {x C : Addr} {ox : Obj} {es : List DictEntry} {n : Nat} {name : Str} {expr : Bool} {v : Value} {Q : Value → Shared → Prop}
    (X : K.In s.heap) (I : PySem.W.InstAt s.heap x ox C (some (dictOf es n))) (hg : plainGet K C name = true) (hh : hasDictIn K C = true) (ha : findIn K (.ref C) name = some none)
    (hl : getL name es = some (some v)) (hv : handedIn v = true) (h : Q v { s with toks := s.toks + 1 }) : wpAny (model prog w) A (getAttr (.ref x) name expr) Q E s :=
  get_value X I (plainGet_of hg).1 (findObj_own hh ha rfl hl) hv h

/-- x.m(..): the method found in the class -/
theorem get_method {x C f : Addr} {ox : Obj} {es : List DictEntry} {n : Nat} {name : Str} {pl : Sem Bool} {Q : Value × List Value → Shared → Prop}
    (X : K.In s.heap) (I : PySem.W.InstAt s.heap x ox C (some (dictOf es n))) (hg : plainGet K C name = true) (hf : findIn K (.ref C) name = some (some (.ref f))) (ht : isFn K (.ref f) = true)
    (hl : getL name es = some none) (h : Q (.ref f, [.ref x]) s) : wpAny (model prog w) A (getMethod (.ref x) name pl) Q E s :=
  method_fn X I (plainGet_of hg).1 (plainGet_of hg).2 hf (beq_iff_eq.mp ht) (by show (lookIn name (dictOf es n)).map _ = _; rw [lookIn_dict, hl]; rfl) h

/-! the whole heap as the ledger: makes every rule that writes through a ledger a rule over any heap -/
def noObjs (h : Heap) : Heap := { h with objs := #[] }
theorem noObjs_get (h : Heap) (b : Addr) : (noObjs h).get? b = none := by
  cases e : (noObjs h).get? b with
  | none => rfl
  | some o => exact absurd (Heap.lt_size e) (Nat.not_lt_zero _)
def ledger (h : Heap) (L d : Addr) : List (Addr × Obj) := (List.range h.objs.size).filterMap fun a => if a = L ∨ a = d then none else (h.get? a).map fun o => (a, o)
theorem mem_ledger {h : Heap} {L d a : Addr} {o : Obj} : (a, o) ∈ ledger h L d ↔ a ≠ L ∧ a ≠ d ∧ h.get? a = some o := by
  unfold ledger
  rw [List.mem_filterMap]
  constructor
  · rintro ⟨b, _, e⟩
    split at e
    · cases e
    · rename_i hb
      obtain ⟨o', ho, e'⟩ := Option.map_eq_some_iff.mp e
      cases e'
      exact ⟨fun q => hb (.inl q), fun q => hb (.inr q), ho⟩
  · rintro ⟨n1, n2, ho⟩
    refine ⟨a, List.mem_range.mpr (Heap.lt_size ho), ?_⟩
    rw [if_neg (show ¬ (a = L ∨ a = d) from fun q => q.elim n1 n2), ho] <;> rfl
theorem news_ledger {h : Heap} {L d : Addr} {od : Obj} (hne : d ≠ L) (ho : h.get? d = some od) : News (noObjs h) L h ([] ++ (d, od) :: ledger h L d) := by
  rintro ⟨a, o⟩ hp
  rcases List.mem_cons.mp hp with e | hp
  · cases e
    exact ⟨ho, hne, noObjs_get _ _⟩
  · obtain ⟨n1, n2, e⟩ := mem_ledger.mp hp
    exact ⟨e, n1, noObjs_get _ _⟩
theorem fr_all {h : Heap} {L : Addr} {m : Str → Option Value} (n : h.Ns L m) : Fr (noObjs h) L h m :=
  ⟨n, fun b o e => (by rw [noObjs_get] at e; cases e), Nat.zero_le _⟩
/-- Upd of the head entry (for append_K, setItem_K ..) -/
theorem upd_ledger {h : Heap} {L d : Addr} {o o' : Obj} : Upd d o o' ((d, o) :: ledger h L d) ((d, o') :: ledger h L d) :=
  .head fun ⟨_, _⟩ hp => (mem_ledger.mp hp).2.1

/-- x.name = v over any heap: L is any namespace of the heap (the frame's, say): its map stays, its object is not told; all else but the dict stays -/
theorem set_field {x C dx L : Addr} {ox : Obj} {m : Str → Option Value} {es es' : List DictEntry} {n n' : Nat} {name : Str} {v : Value} {Q : Unit → Shared → Prop}
    (X : K.In s.heap) (I : PySem.W.InstAt s.heap x ox C (some (dictOf es n))) (hd : ox.dict = some dx) (hL : s.heap.Ns L m) (hne : dx ≠ L)
    (hs : findIn K (.ref C) "__setattr__" = some (some (.builtin "object.__setattr__"))) (hp : plainOver K C = true) (ht : takerIn K C name = some none) (hh : hasDictIn K C = true) (hl : (getL name es).isSome = true)
    (e : (putL name (PyData.keyHash w.params name) (.str name (s.toks + 1)) v es, putN name es n) = (es', n')) (hz : es'.length ≤ 1000)
    (h : ∀ h' : Heap, h'.Ns L m → h'.get? dx = some (dictOf es' n') → (∀ b o, b ≠ dx → b ≠ L → s.heap.get? b = some o → h'.get? b = some o) → Q () { s with heap := h', toks := s.toks + 2 }) :
    wpAny (model prog w) A (setAttr (.ref x) name v) Q E s := by
  obtain ⟨e1, e2⟩ := Prod.mk.inj e
  have hdx : s.heap.get? dx = some (dictOf es n) := by
    have := I.dict
    rw [hd] at this
    exact this
  refine set_plain X I hs (osa_dict (s := { s with toks := s.toks + 1 }) (h₀ := noObjs s.heap) (L := L) (m := m) (od := dictOf es n) (od' := dictOf es' n') (es := es') (n := n') (pre := []) (post := ledger s.heap L dx)
    (fr_all hL) (news_ledger hne hdx) X I hd hp ht hh hl (fun _ q => nomatch q) (fun ⟨_, _⟩ q => (mem_ledger.mp q).2.1) (by rw [putName_dict, e1, e2]) rfl hz fun h' F' N' => ?_)
  exact h h' F'.ns (N'.get (List.Mem.head _)) fun b o n1 n2 ho => N'.get (List.Mem.tail _ (mem_ledger.mpr ⟨n2, n1, ho⟩))
end
end Att

namespace L2
open PySem PySem.Spec PyProof.Rows

theorem vals_ints : ∀ {vs : List Value} {ns : List Int}, IntsAre vs ns → Vals (ns.map V.int) vs
  | _, _, .nil => .nil
  | _, _, .cons n t h => .cons ⟨t, rfl⟩ (vals_ints h)

/-- nothing is tracked but the script, known to the object (or it is an object of the module) -/
def Only (H : Hp) : Prop := ∀ b, H b = none ∨ ∃ o xs, H b = some (.frz o (.lst xs))

/-- THE HEAD: the law's promise, at the heap behind the top. F, the promise of the law's def, may use that base is part of the heap (so K.In base, base.Ns mainGlobals mg stand in Mod) -/
theorem law_call {P : Program} {w : World} {K : PySem.W.Frag} {mg mb : Str → Option Value} {CX : CXT} {k : Nat} {fa a : Addr} {fd : FuncData} {x : Str} {sp : Sp} {s₁ : Shared} {vs : List Value} {ns : List Int}
    (KX : K.In s₁.heap) (hns : s₁.heap.Ns mainGlobals mg) (hb : s₁.heap.Ns builtinsNs mb) (hbb : ∀ x : Str, x ≠ "__name__" → mb x = bootBuiltins x) (hlim : s₁.heap.NoLimit) (hg : s₁.gens = #[])
    (ha : s₁.heap.get? a = some { cls := .type "list", data := .seq vs.toArray }) (hi : IntsAre vs ns) (hl : ns.length ≤ sizeLine) (hr : Room k callerA)
    (F : ∀ base : Heap, K.In base → base.Ns mainGlobals mg → FnOk P w K mg base CX k fa fd [x] sp) (hbind : ∀ (s : Shared) (u : Value), BindsTo s fd ⟨[u], []⟩ [(x, u)])
    (hsp : ∀ H : Hp, Only H → SqL K H a (ns.map V.int) → sp [.ref a] H (fun v _ => v = .bl true) fun _ _ _ => False)
    (hCX : ∀ H e s', CX [] H s₁ (fun _ _ _ => False) e s' → False) :
    codeAny (model P w) callerA (.call (.ref fa) ⟨[.ref a], []⟩) (fun r s' => r = .ok (.ret (.bool true)) ∧ OldK s₁.heap s'.heap ∧ s'.os = s₁.os ∧ AllBare s'.gens) s₁ := by
  have rv := vals_ints hi
  have lenV := hi.length
  -- from an abstract heap in which nothing but the script may be tracked
  have core : ∀ H : Hp, Only H → SqL K H a (ns.map V.int) → HOk P w H s₁.heap → (∀ b, H b ≠ none → b = a) → (H a ≠ none → K.lookup a = none) →
      codeAny (model P w) callerA (.call (.ref fa) ⟨[.ref a], []⟩) (fun r s' => r = .ok (.ret (.bool true)) ∧ OldK s₁.heap s'.heap ∧ s'.os = s₁.os ∧ AllBare s'.gens) s₁ := by
    intro H hO hS hok hA hK
    have base_of : ∀ {b : Addr} {o : Obj}, s₁.heap.get? b = some o → H b = none → (hidT s₁.heap H).get? b = some o := fun e n => hidT_get e n
    have noA : ∀ {b : Addr} {o : Obj} {es : Array DictEntry} {ep : Nat}, s₁.heap.get? b = some o → o.data = .dict es ep → H b = none := fun {b o es ep} e d => by
      cases q : H b with
      | none => rfl
      | some u =>
        have e' : b = a := hA b (by rw [q]; simp)
        subst e'
        rw [ha] at e; cases e
        have d' : Data.seq vs.toArray _ = Data.dict es ep := d
        cases d'
    have nsK : ∀ {b : Addr} {m : Str → Option Value}, s₁.heap.Ns b m → (hidT s₁.heap H).Ns b m := fun {b m} ⟨o, es, ep, e, d, r⟩ => ⟨o, es, ep, base_of e (noA e d), d, r⟩
    have hKb : K.In (hidT s₁.heap H) := fun b o e => base_of (KX b o e) (by
      cases q : H b with
      | none => rfl
      | some u =>
        have e' : b = a := hA b (by rw [q]; simp)
        subst e'
        rw [hK (by rw [q]; simp)] at e; cases e)
    have hM : Mod K mg (hidT s₁.heap H) := ⟨hKb, nsK hns, ⟨mb, nsK hb, hbb⟩, let ⟨mc, h1, h2⟩ := hlim; ⟨mc, nsK h1, h2⟩⟩
    have e0 : Env0 P w K mg (hidT s₁.heap H) callerA [] s₁ H := ⟨rfl, hM, fun b o e => of_hidT e, Nat.le_of_eq (hidT_size _ _), trivial, fun b hb => absurd (show b ∈ ([] : List Addr) from hb) (by simp), hok, .of_eq hg⟩
    refine codeAny_mono ((F _ hKb (nsK hns)).run callerA [] s₁ H ⟨[.ref a], []⟩ [.ref a] [.ref a] _ _ hr e0 (hbind s₁ (.ref a)) (.cons rfl .nil) (hsp H hO hS)) fun r s' h => ?_
    cases r with
    | error e => exact (hCX H e s' h).elim
    | ok fl =>
      cases fl with
      | next => exact False.elim h
      | brk => exact False.elim h
      | cont => exact False.elim h
      | ret u =>
        obtain ⟨v, H', os, bare, un, hok', r', q⟩ := h
        have q' : v = .bl true := q
        subst q'
        obtain rfl : u = Value.bool true := r'
        refine ⟨rfl, OldK.of_keep fun b o e => ?_, os, bare⟩
        cases q : H b with
        | none => exact un.keep b o e q (by intro z; exact absurd (show b ∈ ([] : List Addr) from z) (by simp)) (by simp)
        | some u =>
          rcases hO b with z | ⟨ob, xs, z⟩
          · rw [q] at z; cases z
          · have z2 := un.frzs b ob _ z
            obtain ⟨e1, _⟩ := hok b _ z
            obtain ⟨e2, _⟩ := hok' b _ z2
            rw [e] at e1; cases e1
            exact e2
  cases hk : K.lookup a with
  | some o =>
    -- the script is one of the module's own objects
    have e := KX a o hk
    rw [ha] at e
    cases e
    refine core (fun _ => none) (fun _ => .inl rfl) (.inr ⟨_, vs.toArray, _, hk, rfl, rfl, rfl, by rw [List.size_toArray, lenV]; exact hl, by simpa using rv⟩) (fun b u z => by have z' : (none : Option HO) = some u := z; cases z') (fun b z => absurd rfl z) fun z => absurd rfl z
  | none =>
    refine core (fun b => if b = a then some (.frz { cls := .type "list", data := .seq vs.toArray } (.lst (ns.map V.int))) else none) (fun b => ?_) (.inl (.inr ⟨{ cls := .type "list", data := .seq vs.toArray }, if_pos rfl⟩)) (fun b u z => ?_) (fun b z => ?_) fun _ => hk
    · by_cases hb : b = a
      · exact .inr ⟨_, _, if_pos hb⟩
      · exact .inl (if_neg hb)
    · by_cases hb : b = a
      · have z' := (if_pos hb).symm.trans z
        cases z'
        subst hb
        exact ⟨ha, by rw [List.length_map]; exact hl, vs, _, rv, ha⟩
      · have z' := (if_neg hb).symm.trans z
        cases z'
    · by_cases hb : b = a
      · exact hb
      · exact absurd (if_neg hb) z
end L2

namespace L2
open PySem PySem.Spec PyProof.Rows

abbrev KOf {K : PySem.W.Frag} {h : Heap} (_ : K.In h) : PySem.W.Frag := K

/-- the goal that k_head leaves (case hc), from the law's promise. F gives the function object fd (K's own) once, then the promise over every base -/
theorem walk_of {l : PySem.W.OpenLaw} {n k : Nat} {q : Program} {loose : List Str} {XP : (Str → Option Value) → Heap → Prop} {YP : World → Heap → Prop} {d : DefRec} {K : Params → PySem.W.Frag} {CX : World → CXT} {sp : World → Sp} {x : Str}
    (hn : l.most = some n) (hn2 : n ≤ sizeLine) (hdf : d.params.defaults = []) (hr : Room k callerA)
    (hY : ∀ (w : World) (h : Heap), YP w h → (K w.params).In h)
    (F : ∀ (w : World) (mg : Str → Option Value) (fa : Addr) (h : Heap), (K w.params).In h → h.Ns mainGlobals mg → mg d.name = some (.ref fa) →
      ∃ fd : FuncData, (∀ (s : Shared) (u : Value), BindsTo s fd ⟨[u], []⟩ [(x, u)]) ∧
        ∀ base : Heap, (K w.params).In base → base.Ns mainGlobals mg → FnOk l.prog w (K w.params) mg base (CX w) k fa fd [x] (sp w))
    (hsp : ∀ (w : World) (H : Hp) (a : Addr) (ns : List Int), ns.length ≤ n → Only H → SqL (K w.params) H a (ns.map V.int) → sp w [.ref a] H (fun v _ => v = .bl true) fun _ _ _ => False)
    (hCX : ∀ (w : World) (H : Hp) (s : Shared) (e : Value) (s' : Shared), CX w [] H s (fun _ _ _ => False) e s' → False) :
    PySem.W.WalkO q loose XP YP l.row.toRowW d [] (fun f vs => PySem.call f vs) := by
  refine Att.attach_call hn hdf fun w s₀ s₁ mg mb fa o pm cd doc a vs ns G Y ho hd hcd hmg hobj hints hlen hg => ?_
  have KX := hY w _ Y
  obtain ⟨fd, hb, hF⟩ := F w mg fa _ KX G.T.g hmg
  exact law_call KX G.T.g G.T.b G.T.builtins G.T.nolimit hg hobj hints (Nat.le_trans hlen hn2) hr hF hb (fun H hO hS => hsp w H a ns hlen hO hS) fun H e s' => hCX w H s₁ e s'
/-- the same where the promise hangs on the written part alone: (sp := My.sp_law), no hole under a binder -/
theorem walk_ofK {l : PySem.W.OpenLaw} {n k : Nat} {q : Program} {loose : List Str} {XP : (Str → Option Value) → Heap → Prop} {YP : World → Heap → Prop} {d : DefRec} {K : Params → PySem.W.Frag} {CX : CXT} {sp : PySem.W.Frag → Sp} {x : Str}
    (hn : l.most = some n) (hn2 : n ≤ sizeLine) (hdf : d.params.defaults = []) (hr : Room k callerA)
    (hY : ∀ (w : World) (h : Heap), YP w h → (K w.params).In h)
    (F : ∀ (w : World) (mg : Str → Option Value) (fa : Addr) (h : Heap), (K w.params).In h → h.Ns mainGlobals mg → mg d.name = some (.ref fa) →
      ∃ fd : FuncData, (∀ (s : Shared) (u : Value), BindsTo s fd ⟨[u], []⟩ [(x, u)]) ∧
        ∀ base : Heap, (K w.params).In base → base.Ns mainGlobals mg → FnOk l.prog w (K w.params) mg base CX k fa fd [x] (sp (K w.params)))
    (hsp : ∀ (K : PySem.W.Frag) (H : Hp) (a : Addr) (ns : List Int), ns.length ≤ n → Only H → SqL K H a (ns.map V.int) → sp K [.ref a] H (fun v _ => v = .bl true) fun _ _ _ => False)
    (hCX : ∀ (H : Hp) (s : Shared) (e : Value) (s' : Shared), CX [] H s (fun _ _ _ => False) e s' → False) :
    PySem.W.WalkO q loose XP YP l.row.toRowW d [] (fun f vs => PySem.call f vs) :=
  walk_of (K := K) (CX := fun _ => CX) (sp := fun w => sp (K w.params)) hn hn2 hdf hr hY F (fun w H a ns h1 h2 h3 => hsp (K w.params) H a ns h1 h2 h3) fun _ H s e s' => hCX H s e s'
end L2

/- THE LAST THEOREM (shape; LID, My.* are yours):
   My.Adr: a structure of the addresses that your layer names (classes, functions); My.Txt K t: a structure (Prop) of the equations over K;
   My.txt_mk : {K} {implicit addresses ..} (e1 : nsIn K mainGlobals "law" = some (some (.ref f))) (e2 : K.lookup f = some ⟨oc, od, .func (fnOf "law" "law" params body scope dV kV doc pm an cdv ct), sl⟩) (e3 : codeIn K cdv "law" = true) .. : ∃ t, My.Txt K t

set_option maxRecDepth 100000 in
set_option maxHeartbeats 0 in
theorem PySem.Challenge.cw_LID_holds : PySem.Challenge.rw_LID.Holds := by
  w_on; o_law; k_head; (case hw => w_witness2)
  k_fill
  refine L2.walk_of (l := PySem.Challenge.rw_LID) (n := 63) (k := 40) (x := "script") (CX := fun w => ..) (sp := fun _ => My.sp_law) rfl (by decide) rfl ⟨rfl, by decide, by decide⟩ (fun w h Y => PySem.W.kIn_of Y) ?F ?S ?C
  case F =>
    intro w mg fa h KX G hmg
    have T : ∃ t, My.Txt (L2.KOf KX) t := by
      dsimp only [L2.KOf]                          -- K must stand as «<heap const> w.params» for k_is
      refine' My.txt_mk ?e1 ?e2 ?e3 ..
      (case e1 => PySem.W.k_is)                    -- in the order: a name -> its address -> its object -> its parts
      (case e2 => PySem.W.k_is)
      ..
    obtain ⟨t, T⟩ := T
    have e0 := hmg.symm.trans (PySem.W.mg_of KX G T.law)
    cases e0                                       -- fa is the law's own address
    exact ⟨_, fun s u => .of_eq rfl, fun base kb nb => My.law_fn T kb nb⟩     -- if «.of_eq rfl» comes too early: refine' ⟨_, ?b, fun base kb nb => My.law_fn T kb nb⟩; exact fun s u => .of_eq rfl
  case S => exact fun w H a ns hl hO hS => ..
  case C => exact ..
(the tactic k_is has no namespace: write k_is) -/

/-! SHORT WORDS over the layer: a def of the text, its body, what a loop and a test want. -/
namespace L2
open PySem PySem.Spec PyProof.Rows

/-! ### the text by places -/
/-- the j-th statement of a class's body -/
def inClass (s : Stmt) (j : Nat) : Stmt := match s with
  | .ClassDef _ _ _ body _ _ _ _ _ _ _ => body.getD j (.Pass ⟨0, 0, 0, 0⟩)
  | _ => .Pass ⟨0, 0, 0, 0⟩
def defArgs (s : Stmt) : Arguments := match s with
  | .FunctionDef _ a _ _ _ _ _ _ _ _ => a
  | _ => { posonlyargs := [], args := [], vararg := none, kwonlyargs := [], kw_defaults := [], kwarg := none, defaults := [] }
def defBody (s : Stmt) : List Stmt := match s with
  | .FunctionDef _ _ b _ _ _ _ _ _ _ => b
  | _ => []
def defScope (s : Stmt) : Scope := match s with
  | .FunctionDef _ _ _ _ _ _ sc _ _ _ => sc
  | _ => { kind := .function, names := [], isGenerator := false, isCoroutine := false }

/-! ### no exception leaves a def -/
abbrev CX0 : CXT := fun _ _ _ _ _ _ => False
abbrev E0 : XK := fun _ _ _ => False
theorem pass0 {X : Cx} : Passes CX0 X E0 := fun _ _ _ _ _ _ _ h => h.elim

/-! ### a def (or method) of the text as it stands behind the top -/
structure Fun (K : PySem.W.Frag) (x qual : Str) (st : Stmt) (f : Addr) (fd : FuncData) : Prop where
  ex : ∃ (oc : Value) (od : Option Addr) (kV doc pm : Value) (an : Option Addr) (cdv ct : Value) (osl : Array (Option Value)),
    fd = PySem.W.fnOf x qual (defArgs st) (defBody st) (defScope st) .none kV doc pm an cdv ct ∧ K.lookup f = some ⟨oc, od, .func fd, osl⟩ ∧ PySem.W.codeIn K cdv qual = true
  kp : PySem.W.keepIn K (.ref f) = true
section
variable {P : Program} {w : World} {K : PySem.W.Frag} {mg : Str → Option Value} {base : Heap}
/-- THE RULE for a def: its body as a term of rules, and the reading of that term -/
theorem Fun.ok {x qual : Str} {st : Stmt} {f : Addr} {fd : FuncData} {N ps : List Str} {k : Nat} {sp : Sp} (F : Fun K x qual st f fd) (S : FnScope N ps (defScope st)) (len : ∀ vs H Q E, sp vs H Q E → vs.length = ps.length)
    (hbody : ∀ (cdv : Value) (A : Around) (outer : List Env) (s : Shared) (H : Hp) (vs : List V) (Q : VK) (E : XK), Room k (A.deeper (envOfC qual (defScope st) s.heap.objs.size f cdv)) → sp vs H Q E →
      ∃ t, PSs (cxOf CX0 P w K mg base N qual (defScope st) f cdv A outer s H E).nox (defBody st) t ∧ t { nx := fun _ H' => Q .non H', rt := Q } (start N vs) H) : FnOk P w K mg base CX0 (k + 1) f fd ps sp := by
  obtain ⟨oc, od, kV, doc, pm, an, cdv, ct, osl, rfl, lk, hcd⟩ := F.ex
  refine fn_of lk hcd S len fun A outer s H vs Q E hr hsp => ?_
  obtain ⟨t, h, q⟩ := hbody cdv A outer s H vs Q E hr hsp
  exact ⟨t, h.nox, q⟩
/-- how its arguments bind (no defaults): h is «fun _ _ _ _ _ _ us hl => match us, hl with | [_, _], _ => rfl», one _ a parameter -/
theorem Fun.binds {x qual : Str} {st : Stmt} {f : Addr} {fd : FuncData} {ps : List Str} (F : Fun K x qual st f fd)
    (h : ∀ (kV doc pm : Value) (an : Option Addr) (cdv ct : Value) (us : List Value), us.length = ps.length → bindArgs (PySem.W.fnOf x qual (defArgs st) (defBody st) (defScope st) .none kV doc pm an cdv ct) ⟨us, []⟩ = pure (ps.zip us)) : Binds K fd ps [] := by
  obtain ⟨oc, od, kV, doc, pm, an, cdv, ct, osl, rfl, lk, hcd⟩ := F.ex
  exact .all (h kV doc pm an cdv ct)
theorem fun_mk {x qual : Str} {st : Stmt} {f : Addr} {oc : Value} {od an : Option Addr} {osl : Array (Option Value)} {kV doc pm cdv ct : Value} (l : K.lookup f = some ⟨oc, od, .func (PySem.W.fnOf x qual (defArgs st) (defBody st) (defScope st) .none kV doc pm an cdv ct), osl⟩)
    (c : PySem.W.codeIn K cdv qual = true) (k : PySem.W.keepIn K (.ref f) = true) : Fun K x qual st f (PySem.W.fnOf x qual (defArgs st) (defBody st) (defScope st) .none kV doc pm an cdv ct) := ⟨⟨oc, od, kV, doc, pm, an, cdv, ct, osl, rfl, l, c⟩, k⟩
end
theorem hu_of {A : Around} {k : Nat} (hr : Room k A) : A.units + 1 < cLine := Nat.lt_of_le_of_lt (Nat.add_le_add_left (by decide : 1 ≤ 64) _) hr.units
theorem small1000 {n : Nat} (h : n ≤ 1000) : n < sizeLine := Nat.lt_of_le_of_lt h (by decide)

/-! ### expressions in short: the name that stands in the i-th slot -/
section
variable {X : Cx}
theorem pv (i : Nat) {x : Str} {pos : Pos} (hN : X.N[i]? = some x := by rfl) (hv : Vis X.env.scope x := by first | exact Or.inl rfl | exact Or.inr (Or.inl rfl) | exact Or.inr (Or.inr rfl)) (hd : (x == ("__debug__" : Str)) = false := by decide)
    (hcd : (x == ("__classdict__" : Str)) = false := by decide) : PE X (.Name x pos) (tVar i) := pe_var hN hv hd hcd
end

/-! ### tests -/
theorem iteF {A B : Prop} (h : B) : if false = true then A else B := by
  rw [if_neg Bool.false_ne_true]
  exact h
theorem iteT {A B : Prop} (h : A) : if true = true then A else B := by
  rw [if_pos rfl]
  exact h
theorem ite2 {c A B : Prop} [Decidable c] (h1 : c → A) (h2 : ¬ c → B) : if c then A else B := by
  by_cases h : c
  · rw [if_pos h]
    exact h1 h
  · rw [if_neg h]
    exact h2 h
theorem iteNS {c A B : Prop} [Decidable c] (hc : c) (h : B) : if (!decide c) = true then A else B := by
  rw [decide_eq_true hc]
  exact iteF h

/-! ### heaps -/
/-- all that was tracked is as it was -/
def Same (H H' : Hp) : Prop := ∀ b o, H b = some o → H' b = some o
theorem Same.refl (H : Hp) : Same H H := fun _ _ h => h
theorem Same.trans {H H1 H2 : Hp} (a : Same H H1) (b : Same H1 H2) : Same H H2 := fun c o h => b c o (a c o h)
theorem Same.free {H H' : Hp} (e : Same H H') {l : Addr} (h : H' l = Option.none) : H l = Option.none := by
  cases q : H l with
  | none => rfl
  | some o =>
    rw [e l o q] at h
    cases h
theorem Same.seq {K : PySem.W.Frag} {H H' : Hp} {a : Addr} {xs : List V} (e : Same H H') (h : SqL K H a xs) : SqL K H' a xs := by
  rcases h with (h | ⟨o, h⟩) | h
  · exact .inl (.inl (e _ _ h))
  · exact .inl (.inr ⟨o, e _ _ h⟩)
  · exact .inr h

end L2
set_option Elab.async false
set_option linter.all false
set_option maxRecDepth 100000
/-! More rules over the layer: isinstance, sum, list comprehensions, a downward range, == of lists and tuples. -/
namespace L2
open PySem PySem.Spec PyProof.Rows
section
variable {X : Cx}
/-! ### isinstance -/
def rIsi (K : PySem.W.Frag) : List V → Hp → VK → Prop := fun xs H Q => ∃ (x : V) (T : String) (t : Value) (b : Bool), xs = [x, .ty T] ∧ TyOf K H x t ∧ PySem.W.kitOne K t (.type T) = some b ∧ Q (.bl b) H
theorem call_isi : CallR X (.builtin "isinstance") (rIsi X.K) := by
  intro pins s σ H vs us Q I r h
  obtain ⟨x, T, t, b, rfl, ty, e, q⟩ := h
  obtain ⟨u, u', rfl, r1, r2⟩ := r.two
  cases r2
  exact isinst_ok I r1 ty e fun tk => ⟨.bl b, H, I.tok tk, rfl, q⟩
/-! ### sum -/
def rSum (K : PySem.W.Frag) : List V → Hp → VK → Prop := fun xs H Q => ∃ (p : Addr) (ns : List Int), xs = [.ref p] ∧ SqL K H p (ns.map V.int) ∧ Q (.int ns.sum) H
theorem call_sumL (hc : X.calm = true) : CallR X (.builtin "sum") (rSum X.K) := by
  intro pins s σ H vs us Q I r h
  obtain ⟨p, ns, rfl, hS, q⟩ := h
  obtain ⟨u, rfl, r1⟩ := r.one
  cases r1
  obtain ⟨its, rv, pl, hz⟩ := I.list hS
  have hi : IntsAre its ns := intsAre_of rv
  obtain ⟨xs, e⟩ := hi.allInts.items
  have hl := pl.isList
  rw [e] at hl
  refine sum_intListG (I.ok.hd hc) hl fun h' tk t' hk => ?_
  refine ⟨.int ns.sum, H, I.kept hk, ⟨t', ?_⟩, q⟩
  have e2 : ns = xs.toList.map (·.1) := by rw [← hi.numsOf, ← nums_intItems, ← e]
  rw [preSum_eq, List.take_of_length_le (by simp), e2]
end
end L2

/-! ### list comprehensions: [e for x in it], [e for x in it if c] -/
namespace L2
open PySem PySem.Spec PyProof.Rows
/-- the cells that a block takes along -/
def clOf (env : Env) : List (Str × NameKind) → List (Str × Addr) → List (Str × Addr)
  | [], acc => acc
  | (n, k) :: r, acc => if k == .free then clOf env r ((n, (env.cells.lookup n).getD 0) :: acc) else clOf env r acc
theorem clOf_cons {env : Env} (n : Str) (k : NameKind) (r : List (Str × NameKind)) (acc : List (Str × Addr)) :
    clOf env ((n, k) :: r) acc = if (k == NameKind.free) = true then clOf env r ((n, (env.cells.lookup n).getD 0) :: acc) else clOf env r acc := rfl
theorem clos_go {env : Env} : ∀ (names : List (Str × NameKind)) (acc : List (Str × Addr)), (∀ y ∈ names, y.2 = .free → ∃ c, env.cells.lookup y.1 = some c) →
    (forIn names acc fun (x : Str × NameKind) (r : List (Str × Addr)) => match x with
      | (name, kind) => if (kind == NameKind.free) = true then do let c ← cellOf env name; pure (ForInStep.yield ((name, c) :: r)) else pure (ForInStep.yield r) : Sem (List (Str × Addr))) = pure (clOf env names acc)
  | [], acc, _ => rfl
  | (n, k) :: r, acc, h => by
    rw [List.forIn_cons]
    by_cases hk : (k == NameKind.free) = true
    · obtain ⟨c, hc⟩ := h (n, k) (by simp) (by simpa using hk)
      have e1 : cellOf env n = pure c := by unfold cellOf; rw [hc]
      have ih := clos_go (env := env) r ((n, c) :: acc) fun y hy => h y (List.mem_cons_of_mem _ hy)
      dsimp only
      rw [if_pos hk, e1]
      show (forIn r ((n, c) :: acc) _ : Sem _) = _
      have hc' : List.lookup n env.cells = some c := hc
      rw [ih, clOf_cons, if_pos hk, hc']
      rfl
    · have ih := clos_go (env := env) r acc fun y hy => h y (List.mem_cons_of_mem _ hy)
      dsimp only
      rw [if_neg hk]
      show (forIn r acc _ : Sem _) = _
      rw [ih, clOf_cons, if_neg hk]
theorem clos_is {env : Env} {scope : Scope} (h : ∀ y ∈ scope.names, y.2 = .free → ∃ c, env.cells.lookup y.1 = some c) : closureFor scope env = pure (clOf env scope.names []) := by
  have q := clos_go scope.names [] h
  simp only [closureFor]
  rw [q]
  rfl
theorem cl_from {env : Env} : ∀ (names : List (Str × NameKind)) (acc : List (Str × Addr)) {y : Str} {c : Addr}, (∀ z ∈ names, z.2 = .free → ∃ c, env.cells.lookup z.1 = some c) →
    (clOf env names acc).lookup y = some c → acc.lookup y = some c ∨ env.cells.lookup y = some c
  | [], acc, y, c, _, e => .inl e
  | (n, k) :: r, acc, y, c, h, e => by
    rw [clOf_cons] at e
    by_cases hk : (k == NameKind.free) = true
    · rw [if_pos hk] at e
      obtain ⟨d, hd⟩ := h (n, k) (by simp) (by simpa using hk)
      rcases cl_from r _ (fun z hz => h z (List.mem_cons_of_mem _ hz)) e with q | q
      · rw [List.lookup_cons] at q
        by_cases hy : (y == n) = true
        · rw [hy, hd] at q
          have ey : y = n := by simpa using hy
          cases q
          exact .inr (by rw [ey]; exact hd)
        · have hy' : (y == n) = false := by simpa using hy
          rw [hy'] at q
          exact .inl q
      · exact .inr q
    · rw [if_neg hk] at e
      exact cl_from r acc (fun z hz => h z (List.mem_cons_of_mem _ hz)) e
theorem cl_acc {env : Env} : ∀ (names : List (Str × NameKind)) (acc : List (Str × Addr)) {y : Str}, (∃ c, acc.lookup y = some c) → ∃ c, (clOf env names acc).lookup y = some c
  | [], acc, y, h => h
  | (n, k) :: r, acc, y, h => by
    rw [clOf_cons]
    by_cases hk : (k == NameKind.free) = true
    · rw [if_pos hk]
      refine cl_acc r _ ?_
      rw [List.lookup_cons]
      cases hy : y == n with
      | true => exact ⟨_, rfl⟩
      | false => exact h
    · rw [if_neg hk]
      exact cl_acc r _ h
theorem cl_has {env : Env} : ∀ (names : List (Str × NameKind)) (acc : List (Str × Addr)) {y : Str}, (y, NameKind.free) ∈ names → ∃ c, (clOf env names acc).lookup y = some c
  | [], acc, y, h => nomatch h
  | (n, k) :: r, acc, y, h => by
    rw [clOf_cons]
    rcases List.mem_cons.mp h with e | h
    · cases e
      rw [if_pos (by decide)]
      refine cl_acc r _ ⟨(env.cells.lookup n).getD 0, ?_⟩
      rw [List.lookup_cons]
      have : (n == n) = true := by simp
      rw [this]
    · by_cases hk : (k == NameKind.free) = true
      · rw [if_pos hk]
        exact cl_has r _ h
      · rw [if_neg hk]
        exact cl_has r _ h
theorem lookup_rel {env : Env} {y : Str} : ∀ {names : List (Str × NameKind)} {k : NameKind},
    (names.map fun (n, k) => if (k == NameKind.free && env.scope.kind == .function && env.kindOf n == some .cell) then (n, NameKind.cell) else (n, k)).lookup y = some k →
    ∃ k0, names.lookup y = some k0 ∧ (k = k0 ∨ (k0 = .free ∧ k = .cell))
  | [], k, h => by simp at h
  | (n, k1) :: r, k, h => by
    rw [List.map_cons, List.lookup_cons] at h
    rw [List.lookup_cons]
    by_cases hc : (k1 == NameKind.free && env.scope.kind == .function && env.kindOf n == some .cell) = true
    · have hf : k1 = .free := by
        have q : (k1 == NameKind.free) = true := by
          rw [Bool.and_eq_true, Bool.and_eq_true] at hc
          exact hc.1.1
        simpa using q
      rw [if_pos hc] at h
      cases hy : y == n with
      | true =>
        rw [hy] at h
        cases h
        exact ⟨k1, rfl, .inr ⟨hf, rfl⟩⟩
      | false =>
        rw [hy] at h
        exact lookup_rel h
    · rw [if_neg hc] at h
      cases hy : y == n with
      | true =>
        rw [hy] at h
        cases h
        exact ⟨k1, rfl, .inl rfl⟩
      | false =>
        rw [hy] at h
        exact lookup_rel h
/-- the names of the block: its own, then those of the slots ns of the def -/
def namesC (X : Cx) (x : Str) (ns : List Nat) : List Str := x :: ns.map fun j => X.N.getD j Str.empty
def slotsC (ns : List Nat) (σ : St) (v : Option V) : St := v :: ns.map fun j => (σ[j]?).join
/-- the block's context -/
def cxC (X : Cx) (scope : Scope) (x : Str) (ns : List Nat) (s : Shared) (H : Hp) (fp : List Addr) : Cx :=
  { X with N := namesC X x ns, s₀ := s, H₀ := H, env := compEnvC scope (clOf X.env scope.names []) s.heap.objs.size X.env, outer := X.stack, ex := fp, fn := fun _ => false, pn := [], xe := fun _ _ => False }
/-- what is asked of the block's table -/
structure Blk (X : Cx) (scope : Scope) (x : Str) (ns : List Nat) : Prop where
  kind : scope.kind = .function
  nocell : (scope.names.all fun y => y.2 != .cell) = true
  loc : (scope.names.all fun y => y.2 != .local || scope.names.lookup y.1 == some .local) = true
  own : scope.names.lookup x = some .local
  fr : (scope.names.all fun y => y.2 != .free || X.env.kindOf y.1 == some .cell) = true
  nd : (namesC X x ns).Nodup
  up : (ns.all fun j => scope.names.lookup (X.N.getD j Str.empty) == some .free) = true
section
variable {X : Cx} {scope : Scope} {x : Str} {ns : List Nat} {pins : List (Addr × Obj)} {σ : St} {H : Hp} {s : Shared}
theorem Blk.cells (B : Blk X scope x ns) (ok : X.Ok) : ∀ y ∈ scope.names, y.2 = .free → ∃ c, X.env.cells.lookup y.1 = some c := fun y hy hk => by
  have q := List.all_eq_true.mp B.fr y hy
  rw [hk] at q
  refine ok.has y.1 (.inl ?_)
  simpa using q
theorem Blk.from (B : Blk X scope x ns) (ok : X.Ok) {y : Str} {c : Addr} (e : (clOf X.env scope.names []).lookup y = some c) : X.env.cells.lookup y = some c := by
  rcases cl_from scope.names [] (B.cells ok) e with q | q
  · cases q
  · exact q
theorem Blk.has (B : Blk X scope x ns) {y : Str} {k : NameKind} (e : (relabel scope X.env).names.lookup y = some k) (hk : k = .cell ∨ k = .free) : ∃ c, (clOf X.env scope.names []).lookup y = some c := by
  obtain ⟨k0, e0, h0⟩ := lookup_rel (env := X.env) e
  have hm := PySem.mem_of_lookup e0
  have nc := List.all_eq_true.mp B.nocell _ hm
  have hf : k0 = .free := by
    rcases h0 with q | ⟨q, _⟩
    · subst q
      rcases hk with q | q
      · rw [q] at nc; cases nc
      · exact q
    · exact q
  subst hf
  exact cl_has scope.names [] hm
/-- the block's beginning: behind the new list (tracked), the block's own table just laid -/
theorem Inv.block (I : Inv X pins σ H s) (B : Blk X scope x ns) {fp : List Addr} (hfp : ∀ b ∈ fp, FpOk X pins H b) (hlt : ∀ b ∈ fp, b < s.heap.objs.size) {h1 : Heap} {m : Str → Option Value} {tk : Nat} (hn : h1.Ns s.heap.objs.size m)
    (hk : ∀ b o, s.heap.get? b = some o → h1.get? b = some o) : Inv (cxC X scope x ns s H fp) [] (slotsC ns σ none) H { s with heap := h1, toks := tk } := by
  have nofs : ∀ b ∈ fp, b ∉ frs X.stack := fun b hb hz => by
    rcases List.mem_cons.mp (I.stkSub b hz) with e | e
    · exact (hfp b hb).2.1 e
    · exact (hfp b hb).2.2.1 e
  refine ⟨⟨I.ok.mod, B.kind, I.ok.glob, I.ok.blt, Nat.le_refl _, fun y z c e1 e2 => I.ok.inj y z c (B.from I.ok e1) (B.from I.ok e2), fun y hy => ?_, fun y c hy _ => absurd hy (by simp [cxC]), I.ok.hd, I.ok.frames, .inl rfl, fun b hb => ⟨Nat.ne_of_lt (hlt b hb), fun y c e => (hfp b hb).2.2.2.2.1 y c (B.from I.ok e)⟩,
    I.bs, Nat.le_trans I.ok.bsz I.sz, fun b o e hb => ?_, nofs, I.stack, I.stkFree⟩, rfl, I.bare, Un.kept hk, ⟨m, hn, fun i y v e1 e2 e3 => ?_⟩, fun y c e => ?_, I.hok.fresh (Nat.le_refl _), fun y c e => I.freeC y c (B.from I.ok e), fun p hp => absurd (show p ∈ ([] : List (Addr × Obj)) from hp) (by simp), I.hok.kept hk, ?_⟩
  · rcases hy with hy | hy
    · exact B.has hy (.inl rfl)
    · exact B.has hy (.inr rfl)
  · rcases (hfp b hb).2.2.2.1 with z | z
    · exact I.ok.noex b o e z
    · exact absurd (Nat.lt_of_lt_of_le (Heap.lt_size e) (Nat.le_trans I.ok.bsz z)) (Nat.lt_irrefl _)
  · cases i with
    | zero => simp [slotsC] at e2
    | succ i =>
      have e1' : (ns.map fun j => X.N.getD j Str.empty)[i]? = some y := e1
      have e2' : (ns.map fun j => (σ[j]?).join)[i]? = some (some v) := e2
      rw [List.getElem?_map] at e1' e2'
      cases ej : ns[i]? with
      | none => rw [ej] at e1'; cases e1'
      | some j =>
        rw [ej] at e1' e2'
        have ey : X.N.getD j Str.empty = y := Option.some.inj e1'
        have ev : (σ[j]?).join = some v := Option.some.inj e2'
        have ev' : σ[j]? = some (some v) := by
          cases q : σ[j]? with
          | none => rw [q] at ev; cases ev
          | some o => rw [q] at ev; exact congrArg some ev
        have hj : j < X.N.length := by
          rw [← I.len]
          exact (List.getElem?_eq_some_iff.mp ev').1
        have hNy : X.N[j]? = some y := by
          rw [List.getElem?_eq_getElem hj, ← ey, List.getD_eq_getElem?_getD, List.getElem?_eq_getElem hj]; rfl
        have hup := List.all_eq_true.mp B.up j (List.mem_of_getElem? ej)
        rw [ey] at hup
        have hfree : scope.names.lookup y = some .free := by simpa using hup
        have hm := PySem.mem_of_lookup hfree
        have hcell : X.env.kindOf y = some .cell := by
          have q := List.all_eq_true.mp B.fr _ hm
          simpa using q
        obtain ⟨m0, hn0, hl0⟩ := I.loc
        obtain ⟨u, ru, look⟩ := hl0 j y v hNy ev' (.inr (.inl hcell))
        obtain ⟨c', ec'⟩ := cl_has (env := X.env) scope.names [] hm
        refine ⟨u, ru, .inr ⟨?_, c', ec', ?_⟩⟩
        · rcases e3 with e3 | e3 | e3
          · obtain ⟨k0, e0, h0⟩ := lookup_rel (env := X.env) e3
            rw [hfree] at e0
            cases e0
            rcases h0 with h0 | ⟨_, h0⟩ <;> cases h0
          · exact .inl e3
          · exact .inr e3
        · have ec := B.from I.ok ec'
          rcases look with ⟨hk1, _⟩ | ⟨_, c, e, hc⟩
          · rw [hcell] at hk1; cases hk1
          · rw [ec] at e
            cases e
            obtain ⟨o, ho, hd⟩ := hc
            exact ⟨o, hk _ _ ho, hd⟩
  · obtain ⟨v, o, ho, hd⟩ := I.cell y c (B.from I.ok e)
    exact ⟨v, o, hk _ _ ho, hd⟩
  · show (slotsC ns σ none).length = (namesC X x ns).length
    simp [slotsC, namesC]
/-- behind the block -/
theorem Inv.unblock {fp : List Addr} {σ' : St} {H' : Hp} {s' : Shared} (I : Inv X pins σ H s) (hfp : ∀ b ∈ fp, FpOk X pins H b) (J : Inv (cxC X scope x ns s H fp) [] σ' H' s') {h2 : Heap} (hs : Heap.SameBut s.heap.objs.size s'.heap h2) :
    Inv X pins σ H' { s' with heap := h2 } := by
  have hC : H' s.heap.objs.size = none := J.free
  have st : ∀ b o, b ≠ s.heap.objs.size → s'.heap.get? b = some o → h2.get? b = some o := fun b o hb e => (hs.2 b hb).trans e
  have ne : ∀ b o, s.heap.get? b = some o → b ≠ s.heap.objs.size := fun b o e => Nat.ne_of_lt (Heap.lt_size e)
  have U := J.base
  refine I.call' (s' := { s' with heap := h2 }) (ch := fp) J.os ⟨fun b o e n hb hx => st b o (ne b o e) (U.keep b o e n hb hx), fun b o e n hb hx => ?_, U.free, fun b o e hx => ?_, U.tups, U.frzs, U.tbls⟩ (fun b u e => ?_) J.bare fun b hb => ⟨(hfp b hb).2.2.2.1, (hfp b hb).2.1, (hfp b hb).2.2.2.2.1, (hfp b hb).2.2.2.2.2⟩
  · obtain ⟨sl, q⟩ := U.slot b o e n hb hx
    exact ⟨sl, st b _ (ne b o e) q⟩
  · obtain ⟨o', q⟩ := U.there b o e hx
    exact ⟨o', st b _ (ne b o e) q⟩
  · refine (J.hok b u e).stay (fun c v hc q => st c v ?_ q) (fun _ q => q) fun _ _ q => q
    rintro rfl
    rcases hc with z | z
    · rw [← z, hC] at e; cases e
    · rw [hC] at z; cases z
end
/-- the clause's test, or none -/
def PTs (X : Cx) (ifs : List Expr) (t : TT) : Prop :=
  ∀ (pins : List (Addr × Obj)) (s : Shared) (σ : St) (H : Hp) (Q : Bool → Hp → Prop), Inv X pins σ H s → t σ H Q →
    wpAny (model X.prog X.w) X.A (forIn ifs true fun c r => if r = true then do let ok ← isTrue c X.env (eval c X.env); pure (ForInStep.yield ok) else pure (ForInStep.yield r)) (TP X pins σ Q) X.xe s
def tNoIf : TT := fun _ H Q => Q true H
theorem pts_nil {X : Cx} : PTs X [] tNoIf := fun _ _ _ H _ I h => wpAny_tests_nil ⟨H, I, h⟩
theorem pts_one {X : Cx} {c : Expr} {t : TT} (h : PT X c t) : PTs X [c] t := fun pins s σ H Q I q => wpAny_tests_one (h pins s σ H Q I q)
/-- W: by the turn, a measure and the heap, in which the new list stands at D -/
def CompOk (J : It) (ns : List Nat) (tt : TT) (te : TE) (σ : St) (H1 : Hp) (Q : VK) : Prop := ∀ D, H1 D = none → ∃ W : Nat → Nat → Hp → Prop, (∃ m, W 0 m (upd H1 D (.lst []))) ∧ ∀ i m H2, W i m H2 →
  (J.stop i H2 ∧ Q (.ref D) H2) ∨ (J.go i H2 ∧ ∀ v H3, J.yld i H2 v H3 → tt (slotsC ns σ (some v)) H3 fun b H4 => if b = true then te (slotsC ns σ (some v)) H4 fun y H5 =>
    ∃ ys, H5 D = some (.lst ys) ∧ ys.length < sizeLine ∧ ∃ m', m' < m ∧ W (i + 1) m' (upd H5 D (.lst (ys ++ [y]))) else ∃ m', m' < m ∧ W (i + 1) m' H4)
def tComp (wi : TI) (ns : List Nat) (tt : TT) (te : TE) : TE := fun σ H Q => wi σ H fun J H1 => CompOk J ns tt te σ H1 Q
theorem letGo_then {M : Model} {A : Around} {E : Value → Shared → Prop} {α : Type} {t : Sem α} {Q : α → Shared → Prop} {s : Shared} (h : wpAny M A (pure ()) (fun _ s2 => wpAny M A t Q E s2) E s) : wpAny M A t Q E s := fun G p hG => (h G p hG : wpAny M A t Q E s) G p hG
section
variable {X : Cx} {scope : Scope} {x : Str} {ns : List Nat} {iter elt : Expr} {ifs : List Expr} {px pos : Pos} {wi : TI} {tt : TT} {te : TE}
theorem comp_any {use : Option (Value → Sem Unit)} {Q0 : Value → Shared → Prop} {p0 : Pos} {pins : List (Addr × Obj)} {s : Shared} {σ : St} {H : Hp} {Q : VK} (hc : X.calm = true) (B : Blk X scope x ns) (hi : PI X (.Name x px) iter wi) (ht : ∀ s H fp, PTs (cxC X scope x ns s H fp) ifs tt) (he : ∀ s H fp, PE (cxC X scope x ns s H fp) elt te)
    (hs : ∀ v, foldedSetIterable iter X.env v = pure v) (I : Inv X pins σ H s) (h : tComp wi ns tt te σ H Q)
    (fin : ∀ (s3 s6 : Shared) (H3 H6 : Hp) (fp : List Addr) (D : Addr), Inv X pins σ H3 s3 → (∀ b ∈ fp, FpOk X pins H3 b) → Inv (cxC X scope x ns s3 H3 fp) [] (slotsC ns σ none) H6 s6 → Q (.ref D) H6 → compPost (model X.prog X.w) X.A X.xe use Q0 (.ref D) s3.heap.objs.size (.ok .next) s6) :
    wpAny (model X.prog X.w) X.A (comprehension (.ListComp elt [⟨.Name x px, iter, ifs, 0⟩] scope pos) scope X.env p0 (newList []) false (eval iter X.env) use) Q0 X.xe s := by
  have hloc : ∀ y ∈ scope.names, y.2 = .local → scope.names.lookup y.1 = some .local := fun y hy hk => by
    have q := List.all_eq_true.mp B.loc y hy
    rw [hk] at q
    simpa using q
  have hcell : ∀ y ∈ scope.names, y.2 ≠ .cell := fun y hy hk => by
    have q := List.all_eq_true.mp B.nocell y hy
    rw [hk] at q
    cases q
  refine wpAny_comprehension_free (use := use) rfl hs (clos_is (B.cells I.ok)) B.kind hloc (thn (hi pins s σ H _ I h) fun v s1 h1 => thn h1 fun itv s2 h2 => ?_)
  obtain ⟨it, fp, tn, J, H2, e, I2, T, st2, f2, q2⟩ := h2
  subst e
  refine wpAny_newObj_type ?_
  obtain ⟨W, ⟨m0, w0⟩, turn⟩ := q2 s2.heap.objs.size I2.fresh
  have I3 := I2.lnew (ys := []) (its := []) (t' := s2.toks) .nil (Nat.zero_le _)
  generalize hs3 : ({ s2 with heap := s2.heap.push { cls := .type "list", data := .seq ([] : List Value).toArray }, toks := s2.toks } : Shared) = s3 at I3
  have e3 : s3.heap = s2.heap.push { cls := .type "list", data := .seq ([] : List Value).toArray } := by rw [← hs3]
  have lt2 : ∀ b ∈ fp, b < s2.heap.objs.size := fun b hb => by
    obtain ⟨o, q, _⟩ := T.obj _ _ st2 b hb
    exact Heap.lt_size q
  have f3 : ∀ b ∈ fp, FpOk X pins (upd H2 s2.heap.objs.size (.lst [])) b := fun b hb => ⟨by rw [upd_ne (Nat.ne_of_lt (lt2 b hb))]; exact (f2 b hb).1, (f2 b hb).2⟩
  have lt3 : ∀ b ∈ fp, b < s3.heap.objs.size := fun b hb => by
    rw [e3, Heap.size_push]
    exact Nat.lt_succ_of_lt (lt2 b hb)
  have st3 : tn 0 s3.heap := T.keep _ _ _ st2 fun b hb o q => by rw [e3]; exact Heap.get?_push_of_some _ q
  refine wpAny_newFunctionEnv hcell (fun y hy => nomatch hy) (fun h1 hn1 hb1 => ?_) B.kind
  have k1 : ∀ b o, s3.heap.get? b = some o → h1.get? b = some o := fun b o q => hb1.extBut b o (Nat.ne_of_lt (Heap.lt_size q)) (Heap.get?_push_of_some _ q)
  have I4 := I3.block B f3 lt3 (tk := s3.toks + ([] : List (Str × Value)).length) hn1 k1
  have st4 : tn 0 h1 := T.keep _ _ _ st3 fun b _ o q => k1 b o q
  have hkeep : ∀ {v : Option V} {H' : Hp} {s' : Shared}, Inv (cxC X scope x ns s3 (upd H2 s2.heap.objs.size (.lst [])) fp) [] (slotsC ns σ v) H' s' → Inv (cxC X scope x ns s3 (upd H2 s2.heap.objs.size (.lst [])) fp) [] (slotsC ns σ none) H' s' := fun {v H' s'} J' =>
    J'.weak (by simp [slotsC]) fun i w' q => by
      cases i with
      | zero => simp [slotsC] at q
      | succ i => exact q
  have fpC : ∀ {H' : Hp}, (∀ b ∈ fp, H' b = none) → ∀ b ∈ fp, FpOk (cxC X scope x ns s3 (upd H2 s2.heap.objs.size (.lst [])) fp) [] H' b := fun {H'} hn b hb =>
    ⟨hn b hb, Nat.ne_of_lt (lt3 b hb), I4.ok.exfs b hb, .inl hb, fun y c q => (f3 b hb).2.2.2.2.1 y c (B.from I3.ok q), fun p hp => absurd (show p ∈ ([] : List (Addr × Obj)) from hp) (by simp)⟩
  have loop : codeAny (model X.prog X.w) X.A (.compLoop (.ListComp elt [⟨.Name x px, iter, ifs, 0⟩] scope pos) 0 (.ref it) (.ref s2.heap.objs.size) (cxC X scope x ns s3 (upd H2 s2.heap.objs.size (.lst [])) fp).env)
      (compPost (model X.prog X.w) X.A X.xe use Q0 (.ref s2.heap.objs.size) s3.heap.objs.size) { s3 with heap := h1, toks := s3.toks + ([] : List (Str × Value)).length } := by
    refine codeAny_compLoop_tests (fun n s' => ∃ i H', Inv (cxC X scope x ns s3 (upd H2 s2.heap.objs.size (.lst [])) fp) [] (slotsC ns σ none) H' s' ∧ tn i s'.heap ∧ (∀ b ∈ fp, H' b = none) ∧ W i n H') ?_ m0 ⟨0, _, I4, st4, fun b hb => (f3 b hb).1, w0⟩
    rintro n s5 ⟨i, H5, I5, st5, fr5, w5⟩
    rcases turn i n H5 w5 with ⟨stop, qn⟩ | ⟨go, step⟩
    · refine thn (T.done (cxC X scope x ns s3 (upd H2 s2.heap.objs.size (.lst [])) fp) rfl rfl rfl hc i [] s5 _ H5 _ I5 (fpC fr5) st5 stop) fun r s6 ⟨hr, I6⟩ => ?_
      subst hr
      exact fin s3 s6 _ H5 fp _ I3 f3 I6 qn
    · refine thn (T.item (cxC X scope x ns s3 (upd H2 s2.heap.objs.size (.lst [])) fp) rfl rfl rfl hc i [] s5 _ H5 _ I5 (fpC fr5) st5 go) fun r s6 ⟨u, hr, h6⟩ => ?_
      subst hr
      refine letGo_then (thn h6 fun _ s7 ⟨v, H7, I7, r7, y7, st7, fr7⟩ => ?_)
      have I7' := I7.pinned (fpC fr7) (T.obj _ _ st7)
      have hxl : Loc (cxC X scope x ns s3 (upd H2 s2.heap.objs.size (.lst [])) fp).env.scope x := .inl (lookup_relabel_local B.own)
      refine wpAny_assign_Name (store_ok (i := 0) I7' B.nd rfl hxl r7 (fun s8 I8 => ?_) (.inr (lookup_relabel_local B.own)))
      have I8' : Inv (cxC X scope x ns s3 (upd H2 s2.heap.objs.size (.lst [])) fp) ([] ++ pinsAt fp s7.heap) (slotsC ns σ (some v)) H7 s8 := I8
      have again : ∀ {H' : Hp} {s' : Shared} {m' : Nat}, Inv (cxC X scope x ns s3 (upd H2 s2.heap.objs.size (.lst [])) fp) ([] ++ pinsAt fp s7.heap) (slotsC ns σ (some v)) H' s' → m' < n → W (i + 1) m' H' →
          ∃ m, m < n ∧ ∃ i H', Inv (cxC X scope x ns s3 (upd H2 s2.heap.objs.size (.lst [])) fp) [] (slotsC ns σ none) H' s' ∧ tn i s'.heap ∧ (∀ b ∈ fp, H' b = none) ∧ W i m H' := fun {H' s' m'} J' hm w' => by
        refine ⟨m', hm, i + 1, H', hkeep J'.unpinned, T.keep _ _ _ st7 fun b hb o e => (J'.pin (b, o) (List.mem_append_right _ (List.mem_append_right _ (mem_pinsAt hb e)))).1, fun b hb => ?_, w'⟩
        obtain ⟨o, e, d⟩ := T.obj _ _ st7 b hb
        exact (J'.pin (b, o) (List.mem_append_right _ (List.mem_append_right _ (mem_pinsAt hb e)))).2.1
      refine wpAny_mono (ht s3 _ fp _ s8 _ H7 _ I8' (step v H7 y7)) (fun b s9 ⟨H9, I9, q9⟩ => ?_) fun _ _ f => f.elim
      cases b with
      | false =>
        obtain ⟨m', hm, w'⟩ := q9
        exact again I9 hm w'
      | true =>
        refine wpAny_mono (he s3 _ fp _ s9 _ H9 _ I9 q9) (fun y s10 ⟨yv, H10, I10, r10, ys, hD, hz, m', hm, w'⟩ => ?_) fun _ _ f => f.elim
        refine wpAny_mono (mt_append (X := cxC X scope x ns s3 (upd H2 s2.heap.objs.size (.lst [])) fp) _ s10 _ H10 (.ref s2.heap.objs.size) [yv] (.ref s2.heap.objs.size) [y] (fun _ H' => H' = upd H10 s2.heap.objs.size (.lst (ys ++ [yv]))) I10 rfl (.cons r10 .nil) ⟨_, ys, yv, rfl, rfl, hD, hz, rfl⟩)
          (fun _ s11 ⟨_, H11, I11, _, e11⟩ => ?_) fun _ _ f => f.elim
        subst e11
        exact again I11 hm w'
  have start : codeAny (model X.prog X.w) X.A (.compStart (.ListComp elt [⟨.Name x px, iter, ifs, 0⟩] scope pos) 0 (.ref it) (.ref s2.heap.objs.size) (cxC X scope x ns s3 (upd H2 s2.heap.objs.size (.lst [])) fp).env)
      (compPost (model X.prog X.w) X.A X.xe use Q0 (.ref s2.heap.objs.size) s3.heap.objs.size) { s3 with heap := h1, toks := s3.toks + ([] : List (Str × Value)).length } :=
    codeAny_compStart_list loop (T.self _ 0 _ _ _ st4 loop)
  exact start
theorem pe_comp (hc : X.calm = true) (B : Blk X scope x ns) (hi : PI X (.Name x px) iter wi) (ht : ∀ s H fp, PTs (cxC X scope x ns s H fp) ifs tt) (he : ∀ s H fp, PE (cxC X scope x ns s H fp) elt te)
    (hs : ∀ v, foldedSetIterable iter X.env v = pure v := by intro _; rfl) : PE X (.ListComp elt [⟨.Name x px, iter, ifs, 0⟩] scope pos) (tComp wi ns tt te) := by
  intro pins s σ H Q I h
  rw [eval_ListComp]
  refine comp_any hc B hi ht he hs I h fun s3 s6 H3 H6 fp D I3 f3 I6 q => ?_
  obtain ⟨m6, hn6, _⟩ := I6.loc
  exact ⟨m6, hn6, fun h' hs' => ⟨.ref D, H6, I3.unblock f3 I6 hs', rfl, q⟩⟩
/-- y = [e for x in it ..]: the list is stored ahead of the block's end -/
theorem ps_setComp {i : Nat} {y : Str} {py spos : Pos} (hc : X.calm = true) (hN : X.N.Nodup) (hi' : X.N[i]? = some y) (hy : Loc X.env.scope y) (B : Blk X scope x ns) (hi : PI X (.Name x px) iter wi) (ht : ∀ s H fp, PTs (cxC X scope x ns s H fp) ifs tt) (he : ∀ s H fp, PE (cxC X scope x ns s H fp) elt te)
    (hsw : swapsWith (.ListComp elt [⟨.Name x px, iter, ifs, 0⟩] scope pos) (some (.Name y py)) spos.line X.env = pure true := by rfl) (hf : X.fn y = true ∨ X.env.scope.names.lookup y = some .local := by first | exact .inl rfl | exact .inr rfl | assumption)
    (hs : ∀ v, foldedSetIterable iter X.env v = pure v := by intro _; rfl) : PS X (.Assign [.Name y py] (.ListComp elt [⟨.Name x px, iter, ifs, 0⟩] scope pos) spos) (tAsg (tComp wi ns tt te) (gName i)) := by
  intro pins s σ H D I h
  rw [exec_Assign_Name_used _ _ _ _ hsw]
  refine wpAny_bind (wpAny_standAt (wpAny_bind ?_))
  show wpAny _ X.A (do let _ ← comprehension (.ListComp elt [⟨.Name x px, iter, ifs, 0⟩] scope pos) scope X.env _ (newList []) false (eval iter X.env) (some (assign (.Name y py) X.env))) _ _ s
  refine wpAny_bind (thn (comp_any (use := some (assign (.Name y py) X.env)) (Q0 := fun _ s' => SP X pins D .next s') (Q := fun v H1 => gName i v σ H1 D.nx) hc B hi ht he hs I h fun s3 s6 H3 H6 fp Dl I3 f3 I6 q => ?_) fun _ s' hq => wpAny_pure (wpAny_pure hq))
  obtain ⟨m6, hn6, _⟩ := I6.loc
  have IX : Inv X pins σ H6 s6 := I3.unblock (h2 := s6.heap) f3 I6 ⟨rfl, fun _ _ => rfl⟩
  show wpAny _ _ (assign (.Name y py) X.env (.ref Dl)) _ _ s6
  refine wpAny_assign_Name (store_ok2 IX hN hi' hy (v := .ref Dl) rfl (fun s7 I7 ⟨b, sb, hb⟩ => ?_) hf)
  have lt : ∀ c : Addr, c < s3.heap.objs.size → c ≠ s3.heap.objs.size := fun c h => Nat.ne_of_lt h
  have hbC : s3.heap.objs.size ≠ b := by
    rcases hb with e | e
    · rw [e]
      exact (lt _ I3.lt).symm
    · obtain ⟨v, q⟩ := I3.cell y b e
      exact (lt _ q.lt).symm
  refine ⟨m6, hn6.sameBut sb hbC, fun h' hs' => ⟨_, H6, ?_, q⟩⟩
  refine I7.turned (t' := s7.toks) (it := s3.heap.objs.size) (fun c o hc e => (hs'.2 c hc).trans e) I6.free (lt _ I3.lt).symm (.inr I3.sz) (fun z c e => ?_) fun p hp => ?_
  · obtain ⟨v, q⟩ := I3.cell z c e
    exact lt _ q.lt
  · exact lt _ (Heap.lt_size (I3.pin p hp).1)
end
end L2

/-! ### comprehensions, the forms one uses -/
namespace L2
open PySem PySem.Spec PyProof.Rows
theorem same_upd {H H' : Hp} {p : Addr} (h : Same H H') (hn : H p = none) (o : HO) : Same H (upd H' p o) := fun b u q => by rw [upd_ne (ne_of_none q hn)]; exact h b u q
theorem same_new {H : Hp} {p : Addr} (h : H p = none) (o : HO) : Same H (upd H p o) := same_upd (Same.refl H) h o
def resC (n : Nat) (p : Nat → Bool) (f : Nat → V) : List V := ((List.range n).filter p).map f
theorem resC_zero (p : Nat → Bool) (f : Nat → V) : resC 0 p f = [] := rfl
theorem resC_succ (n : Nat) (p : Nat → Bool) (f : Nat → V) : resC (n + 1) p f = resC n p f ++ (if p n = true then [f n] else []) := by
  unfold resC
  rw [List.range_succ, List.filter_append, List.map_append]
  congr 1
  by_cases h : p n = true
  · rw [if_pos h, List.filter_cons_of_pos h]; rfl
  · rw [if_neg h, List.filter_cons_of_neg h]; rfl
theorem resC_len (n : Nat) (p : Nat → Bool) (f : Nat → V) : (resC n p f).length ≤ n := by
  unfold resC
  rw [List.length_map]
  have := List.length_filter_le p (List.range n)
  rwa [List.length_range] at this
theorem resC_all (n : Nat) (f : Nat → V) : resC n (fun _ => true) f = (List.range n).map f := by
  unfold resC
  rw [List.filter_eq_self.mpr fun _ _ => rfl]
theorem range_map_get {α : Type} (xs : List α) (g : α → V) (f : Nat → V) (h : ∀ (i : Nat) (x : α), xs[i]? = some x → f i = g x) : (List.range xs.length).map f = xs.map g := by
  apply List.ext_getElem?
  intro i
  rw [List.getElem?_map, List.getElem?_map]
  by_cases hi : i < xs.length
  · rw [List.getElem?_range hi, List.getElem?_eq_getElem hi]
    exact congrArg some (h i xs[i] (List.getElem?_eq_getElem hi))
  · have e1 : (List.range xs.length)[i]? = none := by rw [List.getElem?_eq_none_iff, List.length_range]; omega
    have e2 : xs[i]? = none := by rw [List.getElem?_eq_none_iff]; omega
    rw [e1, e2]; rfl
theorem comp_go {J : It} {n : Nat} {x f : Nat → V} {p : Nat → Bool} {ns : List Nat} {tt : TT} {te : TE} {σ : St} {H1 : Hp} {Q : VK}
    (hz : n ≤ sizeLine) (hstop : ∀ H', Same H1 H' → J.stop n H') (hgo : ∀ i H', i < n → Same H1 H' → J.go i H') (hy : ∀ i H' v H'', i < n → Same H1 H' → J.yld i H' v H'' → H'' = H' ∧ v = x i)
    (htest : ∀ i H' (R : Bool → Hp → Prop), i < n → Same H1 H' → (∀ H'', Same H' H'' → R (p i) H'') → tt (slotsC ns σ (some (x i))) H' R)
    (helt : ∀ i H' (R : VK), i < n → p i = true → Same H1 H' → (∀ H'', Same H' H'' → R (f i) H'') → te (slotsC ns σ (some (x i))) H' R)
    (q : ∀ D H', H1 D = none → Same H1 H' → H' D = some (.lst (resC n p f)) → Q (.ref D) H') :
    CompOk J ns tt te σ H1 Q := by
  intro D hD
  refine ⟨fun i m H' => m = n - i ∧ i ≤ n ∧ Same H1 H' ∧ H' D = some (.lst (resC i p f)), ⟨n, by omega, Nat.zero_le _, same_new hD _, upd_same⟩, ?_⟩
  rintro i m H2 ⟨rfl, hi, hs, hl⟩
  by_cases hlt : i < n
  · refine .inr ⟨hgo i H2 hlt hs, fun v H3 y => ?_⟩
    obtain ⟨e1, e2⟩ := hy i H2 v H3 hlt hs y
    subst e1 e2
    refine htest i _ _ hlt hs fun H4 h4 => ?_
    cases hp : p i with
    | false =>
      refine iteF ⟨n - (i + 1), by omega, rfl, hlt, hs.trans h4, ?_⟩
      rw [resC_succ, hp, h4 _ _ hl, if_neg Bool.false_ne_true, List.append_nil]
    | true =>
      refine iteT (helt i _ _ hlt hp (hs.trans h4) fun H5 h5 => ⟨resC i p f, h5 _ _ (h4 _ _ hl), ?_, n - (i + 1), by omega, rfl, hlt, same_upd ((hs.trans h4).trans h5) hD _, ?_⟩)
      · have := resC_len i p f; omega
      · rw [upd_same, resC_succ, hp, if_pos rfl]
  · have e : i = n := by omega
    subst e
    exact .inl ⟨hstop H2 hs, q D H2 hD hs hl⟩
/-- over a list -/
theorem comp_list {K : PySem.W.Frag} {a : Addr} {xs : List V} {f : Nat → V} {p : Nat → Bool} {ns : List Nat} {tt : TT} {te : TE} {σ : St} {H1 : Hp} {Q : VK} (hS : SqL K H1 a xs) (hz : xs.length ≤ sizeLine)
    (htest : ∀ i v H' (R : Bool → Hp → Prop), xs[i]? = some v → Same H1 H' → (∀ H'', Same H' H'' → R (p i) H'') → tt (slotsC ns σ (some v)) H' R)
    (helt : ∀ i v H' (R : VK), xs[i]? = some v → p i = true → Same H1 H' → (∀ H'', Same H' H'' → R (f i) H'') → te (slotsC ns σ (some v)) H' R)
    (q : ∀ D H', H1 D = none → Same H1 H' → H' D = some (.lst (resC xs.length p f)) → Q (.ref D) H') :
    CompOk (Itl K a) ns tt te σ H1 Q := by
  have get : ∀ i, i < xs.length → xs[i]? = some (xs.getD i .non) := fun i hi => by rw [List.getD_eq_getElem?_getD, List.getElem?_eq_getElem hi]; rfl
  refine comp_go (x := fun i => xs.getD i .non) (f := f) (p := p) hz (fun H' h => ⟨xs, h.seq hS, Nat.le_refl _⟩) (fun i H' hi h => ⟨xs, _, h.seq hS, get i hi⟩) (fun i H' v H'' hi h y => ⟨y.1, ?_⟩)
    (fun i H' R hi h k => htest i _ H' R (get i hi) h k) (fun i H' R hi hp h k => helt i _ H' R (get i hi) hp h k) q
  have := y.2 xs (h.seq hS)
  rw [get i hi] at this
  exact (Option.some.inj this).symm
/-- over a range upward -/
theorem comp_rng {lo : Int} {n : Nat} {f : Nat → V} {p : Nat → Bool} {ns : List Nat} {tt : TT} {te : TE} {σ : St} {H1 : Hp} {Q : VK} (hz : n ≤ sizeLine)
    (htest : ∀ (i : Nat) H' (R : Bool → Hp → Prop), i < n → Same H1 H' → (∀ H'', Same H' H'' → R (p i) H'') → tt (slotsC ns σ (some (.int (lo + i)))) H' R)
    (helt : ∀ (i : Nat) H' (R : VK), i < n → p i = true → Same H1 H' → (∀ H'', Same H' H'' → R (f i) H'') → te (slotsC ns σ (some (.int (lo + i)))) H' R)
    (q : ∀ D H', H1 D = none → Same H1 H' → H' D = some (.lst (resC n p f)) → Q (.ref D) H') :
    CompOk (Itr lo n) ns tt te σ H1 Q :=
  comp_go (x := fun i => .int (lo + i)) hz (fun _ _ => Nat.le_refl _) (fun _ _ hi _ => hi) (fun _ _ _ _ _ _ y => y) htest helt q

/-! ### range(a, b, -1) -/
def Itd (hi : Int) (n : Nat) : It := ⟨fun i _ => i < n, fun i H x H' => H' = H ∧ x = .int (hi - i), fun i _ => n ≤ i⟩
theorem turn_down {P : Program} {w : World} {K : PySem.W.Frag} {tg : Expr} (it : Addr) (hi : Int) (n : Nat) : Turn P w K tg (Itd hi n) [it] it (fun i h => IsRangeIter h it (hi + (i : Nat) * (-1)) ((n : Int) - (i : Nat)) (-1)) where
  mem := by simp
  obj := fun i h st b hb => by
    have e : b = it := by simpa using hb
    subst e
    exact ⟨_, st, fun v z => by
      have z' : Data.fields _ = Data.cell v := z
      cases z'⟩
  keep := fun i h h' st k => k it (by simp) _ st
  item := by
    intro X hP hw hK hc i pins s σ H E I hf st hg
    subst hP hw hK
    obtain ⟨f0, f1, f2, f3, f4, f5⟩ := hf it (by simp)
    have W := Walks.range (prog := X.prog) (w := X.w) (I.ok.hd hc) it hi (-1) n
    refine W.item i s _ _ hg st fun v h' tk hv st' kk => ?_
    obtain ⟨t, rfl⟩ := hv
    have I1 : Inv X pins σ H { s with heap := h', toks := tk } := I.turned (fun b o hb e => kk b o (by simpa using hb) e) f0 f1 f3 f4 f5
    refine ⟨_, rfl, go_of (s := { s with heap := h', toks := tk }) (n := "range_iterator") st' rfl rfl (by decide) ⟨.int (hi - i), H, I1, ⟨t, ?_⟩, ⟨rfl, rfl⟩, st', fun b hb => (hf b hb).1⟩⟩
    rw [show hi + (i : Int) * (-1) = hi - i by omega]
  done := by
    intro X hP hw hK hc i pins s σ H E I hf st hg
    subst hP hw hK
    obtain ⟨f0, f1, f2, f3, f4, f5⟩ := hf it (by simp)
    exact wpAny_pyNext_range_end (I.ok.hd hc) st (by have : n ≤ i := hg; omega) fun h' eb => ⟨rfl, I.turned (t' := s.toks) (fun b o hb e => eb b o hb e) f0 f1 f3 f4 f5⟩
  self := fun _ _ _ _ _ st h => wpAny_pyIter_rangeiter st h
section
variable {X : Cx} {tg : Expr}
theorem range_dn {pins : List (Addr × Obj)} {σ : St} {H : Hp} {s : Shared} {R : It → Hp → Prop} {E : Value → Shared → Prop} {lo hi : Int} {t u v : Tok} {tk : Nat} (I : Inv X pins σ H s) (h1 : -(2 ^ 62) ≤ hi) (h2 : hi < 2 ^ 62) (h3 : -(2 ^ 62) ≤ lo) (h4 : lo < 2 ^ 62)
    (q : R (Itd hi (hi - lo).toNat) H) : wpAny (model X.prog X.w) X.A (pyIter (.ref s.heap.objs.size)) (PIE X pins σ tg R) E { s with heap := s.heap.push { cls := .type "range", data := .fields #[.int hi t, .int lo u, .int (-1) v] }, toks := tk } := by
  refine wpAny_pyIter_range (IsRange.new ..) (PySem.W.small_down h1 h2 h3 h4) ?_
  have I1 : Inv X pins σ H { s with heap := s.heap.push { cls := .type "range", data := .fields #[.int hi t, .int lo u, .int (-1) v] }, toks := tk } := I.kept fun b o e => Heap.get?_push_of_some _ e
  refine ⟨(s.heap.push { cls := .type "range", data := .fields #[.int hi t, .int lo u, .int (-1) v] }).objs.size, [(s.heap.push { cls := .type "range", data := .fields #[.int hi t, .int lo u, .int (-1) v] }).objs.size], _, _, H, rfl,
    I1.kept (t' := tk) fun b o e => Heap.get?_push_of_some _ e, turn_down _ hi (hi - lo).toNat, ?_, fun b hb => ?_, q⟩
  · have e1 : hi + ((0 : Nat) : Int) * (-1) = hi := by simp
    have e2 : (((hi - lo).toNat : Nat) : Int) - ((0 : Nat) : Int) = Builtin.Range.rangeSize hi lo (-1) := by rw [PySem.W.rangeSize_downNat]; omega
    show IsRangeIter _ _ (hi + ((0 : Nat) : Int) * (-1)) ((((hi - lo).toNat : Nat) : Int) - ((0 : Nat) : Int)) (-1)
    rw [e1, e2]
    exact Heap.get?_push_size _ rfl
  · have e : b = (s.heap.push { cls := .type "range", data := .fields #[.int hi t, .int lo u, .int (-1) v] }).objs.size := by simpa using hb
    subst e
    exact I1.fpOk (Nat.le_refl _) (I1.hok.fresh (Nat.le_refl _))
def iRngD (ta : TA) : TI := fun σ H R => ta σ H fun vs H1 => ∃ i j : Int, vs = [.int i, .int j, .int (-1)] ∧ (-(2 ^ 62) ≤ i ∧ i < 2 ^ 62 ∧ -(2 ^ 62) ≤ j ∧ j < 2 ^ 62) ∧ R (Itd i (i - j).toNat) H1
theorem pi_rangeD {a b c : Expr} {ta : TA} {p pos : Pos} (hg : Gl X "range") (hm : X.mg "range" = none) (ha : PA X [a, b, c] ta) (hs : starEach [a, b, c] X.env = (false, eval a X.env) :: starEach [b, c] X.env := by rfl) (hs2 : (backTo pos (starEach [b, c] X.env)).any (·.1) = false := by rfl) :
    PI X tg (.Call (.Name "range" p) [a, b, c] [] pos) (iRngD ta) := by
  intro pins s σ H R I h
  refine Call_ (ld_blt I hg hm boot_range (PyProof.Rows.callWith_type1 (thn (ha pos pins s σ H _ I h) fun us s1 ⟨vs, H1, I1, r1, q1⟩ => ?_) hs hs2))
  obtain ⟨i, j, e, ⟨q1, q2, q3, q4⟩, q⟩ := q1
  subst e
  cases r1 with
  | cons r rr =>
    cases rr with
    | cons r' rr =>
      cases rr with
      | cons r'' rr =>
        cases rr
        obtain ⟨t, rfl⟩ := r
        obtain ⟨t', rfl⟩ := r'
        obtain ⟨t'', rfl⟩ := r''
        exact call_range_3 (by decide) (range_dn I1 q1 q2 q3 q4 q) (.inl (PyProof.noPylong_small (by decide)))
end
theorem for_down {hi : Int} {n : Nat} {g : TG} {tb : TS} {D : Ends} {σ : St} {H : Hp} (Pv : Nat → St → Hp → Prop) (h0 : Pv 0 σ H)
    (hs : ∀ (i : Nat) σ H, i < n → Pv i σ H → g (.int (hi - i)) σ H fun σ2 H2 => tb { D with nx := Pv (i + 1), ct := Pv (i + 1), bk := D.nx } σ2 H2) (hd : ∀ σ H, Pv n σ H → D.nx σ H) :
    ∃ W : Nat → Nat → St → Hp → Prop, (∃ m, W 0 m σ H) ∧ ∀ i m σ H, W i m σ H →
      ((Itd hi n).stop i H ∧ D.nx σ H) ∨ ((Itd hi n).go i H ∧ ∃ N : St → Hp → Prop, (∀ σ' H', N σ' H' → ∃ m', m' < m ∧ W (i + 1) m' σ' H') ∧ ∀ x H', (Itd hi n).yld i H x H' → g x σ H' fun σ2 H2 => tb { D with nx := N, ct := N, bk := D.nx } σ2 H2) := by
  refine ⟨fun i m σ H => m = n - i ∧ i ≤ n ∧ Pv i σ H, ⟨n, by simp, Nat.zero_le _, h0⟩, ?_⟩
  rintro i m σ H ⟨rfl, hi, p⟩
  by_cases hlt : i < n
  · refine .inr ⟨hlt, Pv (i + 1), fun σ' H' p' => ⟨n - (i + 1), by omega, rfl, hlt, p'⟩, fun x H' y => ?_⟩
    obtain ⟨e, y⟩ := y
    subst e y
    exact hs i σ _ hlt p
  · have e : i = n := by omega
    subst e
    exact .inl ⟨Nat.le_refl _, hd σ H p⟩

/-! ### xs.insert(0, e) -/
section
variable {X : Cx}
def rIns0 : V → List V → Hp → VK → Prop := fun x vs H Q => ∃ l xs y, x = .ref l ∧ vs = [.int 0, y] ∧ H l = some (.lst xs) ∧ xs.length < sizeLine ∧ Q .non (upd H l (.lst (y :: xs)))
theorem mt_ins0 : MtM X "list.insert" rIns0 := by
  intro pins s σ H x vs v us Q I rx rv h
  obtain ⟨l, xs, y, rfl, rfl, hH, hz, q⟩ := h
  cases rx
  obtain ⟨u0, u, rfl, r0, ru⟩ := rv.two
  obtain ⟨t0, rfl⟩ := r0
  obtain ⟨z, its, n, r, hl, e⟩ := I.lstM hH
  refine call_meets F.slot_list_insert ⟨_, e, rfl⟩ F.entry_list_insert (F.args_list_insert_3 _ _ _) (AutoSeq1.list_insert_list_int_val_1 l its.toArray n 0 t0 u (by decide) (by rw [List.size_toArray]; omega)) ⟨e, ?_⟩
  refine ⟨.non, _, I.lset (its' := u :: its) hH e ?_ (.cons ru r) ?_, rfl, q⟩
  · simp
  · rw [List.length_cons]
    omega

/-! ### == and != of lists, of tuples; their items ints, bools, texts, None -/
def eqAll : List V → List V → Bool
  | [], [] => true
  | x :: xs, y :: ys => eqV x y && eqAll xs ys
  | _, _ => false
theorem eqV_ints (i j : Int) : eqV (.int i) (.int j) = decide (i = j) := by
  by_cases h : i = j
  · subst h; simp [eqV]
  · simp [eqV, h]
theorem eqAll_ints : ∀ (a b : List Int), eqAll (a.map V.int) (b.map V.int) = decide (a = b)
  | [], [] => by simp [eqAll]
  | [], _ :: _ => by simp [eqAll]
  | _ :: _, [] => by simp [eqAll]
  | x :: a, y :: b => by
    show (eqV (.int x) (.int y) && eqAll (a.map V.int) (b.map V.int)) = _
    rw [eqV_ints, eqAll_ints a b]
    by_cases h1 : x = y <;> by_cases h2 : a = b <;> simp [h1, h2]
theorem eqAll_get : ∀ (xs ys : List V), eqAll xs ys = ((List.range (min xs.length ys.length)).all (fun j => eqV (xs.getD j .non) (ys.getD j .non)) && xs.length == ys.length)
  | [], [] => by simp [eqAll]
  | [], _ :: _ => by simp [eqAll]
  | _ :: _, [] => by simp [eqAll]
  | x :: xs, y :: ys => by
    have ih := eqAll_get xs ys
    show (eqV x y && eqAll xs ys) = _
    rw [ih, List.length_cons, List.length_cons, Nat.add_min_add_right, List.range_succ_eq_map, List.all_cons, List.all_map]
    have e : ((xs.length + 1 == ys.length + 1) : Bool) = (xs.length == ys.length) := by
      by_cases h : xs.length = ys.length <;> simp [h]
    rw [e, Bool.and_assoc]
    rfl
theorem flat_at {xs : List V} (h : xs.all flatV = true) {j : Nat} (hj : j < xs.length) : flatV (xs.getD j .non) = true := by
  rw [List.getD_eq_getElem?_getD, List.getElem?_eq_getElem hj]
  exact List.all_eq_true.mp h _ (List.getElem_mem hj)
theorem vals_at {xs : List V} {us : List Value} (r : Vals xs us) {j : Nat} (hj : j < us.toArray.size) : RelV (xs.getD j .non) (us.toArray[j]) := by
  have hj' : j < us.length := by simpa using hj
  have hx : j < xs.length := by rw [r.length]; exact hj'
  obtain ⟨u, h1, h2⟩ := r.get (List.getElem?_eq_getElem hx)
  rw [List.getElem?_eq_getElem hj'] at h1
  rw [List.getD_eq_getElem?_getD, List.getElem?_eq_getElem hx]
  have : us.toArray[j] = u := by simpa using Option.some.inj h1
  rw [this]
  exact h2
def rEqS (K : PySem.W.Frag) (neg : Bool) : R2 := fun x y H Q => ∃ a b xs ys, x = .ref a ∧ y = .ref b ∧ ((SqL K H a xs ∧ SqL K H b ys) ∨ (SqT K H a xs ∧ SqT K H b ys)) ∧ xs.all flatV = true ∧ ys.all flatV = true ∧ Q (.bl (if neg then !eqAll xs ys else eqAll xs ys)) H
theorem op_eqS (hu : X.A.units < cLine) : OpR X (compareOp .Eq) (rEqS X.K false) := by
  intro pins s σ H x y v u Q I rx ry h
  obtain ⟨a, b, xs, ys, rfl, rfl, hS, fx, fy, q⟩ := h
  cases rx
  cases ry
  rcases hS with ⟨ha, hb⟩ | ⟨ha, hb⟩
  · obtain ⟨ia, ra, pa, _⟩ := I.list ha
    obtain ⟨ib, rb, pb, _⟩ := I.list hb
    have la := ra.length
    have lb := rb.length
    by_cases hl : xs.length = ys.length
    · refine SeqAt.eq_listAt (e := fun j => eqV (xs.getD j .non) (ys.getD j .non)) pa.isList pb.isList (by simp; omega) hu (fun j h1 h2 => ?_) ⟨.bl _, H, I, rfl, ?_⟩
      · have h1' : j < ia.length := by simpa using h1
        have h2' : j < ib.length := by simpa using h2
        exact eqAt_V (vals_at ra h1) (vals_at rb h2) (flat_at fx (by omega)) (flat_at fy (by omega))
      · have e : eqAll xs ys = (List.range ia.toArray.size).all fun j => eqV (xs.getD j .non) (ys.getD j .non) := by
          rw [eqAll_get, hl, Nat.min_self, List.size_toArray, ← la, hl]
          simp
        rw [← e]
        exact q
    · refine SeqAt.eq_list_lengthsAt pa.isList pb.isList (by simp; omega) hu ⟨.bl _, H, I, rfl, ?_⟩
      have e : eqAll xs ys = false := by
        rw [eqAll_get]
        simp [hl]
      rw [← e]
      exact q
  · obtain ⟨ia, ra, pa, _⟩ := I.tuple ha
    obtain ⟨ib, rb, pb, _⟩ := I.tuple hb
    have la := ra.length
    have lb := rb.length
    refine SeqAt.eq_tupleAt (e := fun j => eqV (xs.getD j .non) (ys.getD j .non)) (show s.heap.IsTuple a ia.toArray from pa) (show s.heap.IsTuple b ib.toArray from pb) hu (fun j h1 h2 => ?_) ⟨.bl _, H, I, rfl, ?_⟩
    · have h1' : j < ia.length := by simpa using h1
      have h2' : j < ib.length := by simpa using h2
      exact eqAt_V (vals_at ra h1) (vals_at rb h2) (flat_at fx (by omega)) (flat_at fy (by omega))
    · have e := eqAll_get xs ys
      rw [la, lb] at e
      rw [List.size_toArray, List.size_toArray, ← e]
      exact q
theorem op_neS (hu : X.A.units < cLine) : OpR X (compareOp .NotEq) (rEqS X.K true) := by
  intro pins s σ H x y v u Q I rx ry h
  obtain ⟨a, b, xs, ys, rfl, rfl, hS, fx, fy, q⟩ := h
  cases rx
  cases ry
  rcases hS with ⟨ha, hb⟩ | ⟨ha, hb⟩
  · obtain ⟨ia, ra, pa, _⟩ := I.list ha
    obtain ⟨ib, rb, pb, _⟩ := I.list hb
    have la := ra.length
    have lb := rb.length
    by_cases hl : xs.length = ys.length
    · refine SeqAt.RcNeAt.lists (e := fun j => eqV (xs.getD j .non) (ys.getD j .non)) pa.isList pb.isList (by simp; omega) hu (fun j h1 h2 => ?_) X.prog X.w X.xe _ ⟨.bl _, H, I, rfl, ?_⟩
      · have h1' : j < ia.length := by simpa using h1
        have h2' : j < ib.length := by simpa using h2
        exact eqAt_V (vals_at ra h1) (vals_at rb h2) (flat_at fx (by omega)) (flat_at fy (by omega))
      · have e : eqAll xs ys = (List.range ia.toArray.size).all fun j => eqV (xs.getD j .non) (ys.getD j .non) := by
          rw [eqAll_get, hl, Nat.min_self, List.size_toArray, ← la, hl]
          simp
        rw [← e]
        exact q
    · refine SeqAt.RcNeAt.lists_lengths pa.isList pb.isList (by simp; omega) hu X.prog X.w X.xe _ ⟨.bl _, H, I, rfl, ?_⟩
      have e : eqAll xs ys = false := by
        rw [eqAll_get]
        simp [hl]
      rw [e] at q
      exact q
  · obtain ⟨ia, ra, pa, _⟩ := I.tuple ha
    obtain ⟨ib, rb, pb, _⟩ := I.tuple hb
    have la := ra.length
    have lb := rb.length
    refine SeqAt.RcNeAt.tuples (e := fun j => eqV (xs.getD j .non) (ys.getD j .non)) (show s.heap.IsTuple a ia.toArray from pa) (show s.heap.IsTuple b ib.toArray from pb) hu (fun j h1 h2 => ?_) X.prog X.w X.xe _ ⟨.bl _, H, I, rfl, ?_⟩
    · have h1' : j < ia.length := by simpa using h1
      have h2' : j < ib.length := by simpa using h2
      exact eqAt_V (vals_at ra h1) (vals_at rb h2) (flat_at fx (by omega)) (flat_at fy (by omega))
    · have e := eqAll_get xs ys
      rw [la, lb] at e
      rw [List.size_toArray, List.size_toArray, ← e]
      exact q
end
end L2

/-! ### a def of the text, ready to be called -/
namespace L2
open PySem PySem.Spec PyProof.Rows
def Cal (P : Program) (w : World) (K : PySem.W.Frag) (mg : Str → Option Value) (base : Heap) (k : Nat) (x : Str) (ps : List Str) (sp : Sp) : Prop :=
  ∃ (g : Addr) (gd : FuncData), FnOk P w K mg base CX0 k g gd ps sp ∧ Binds K gd ps [] ∧ PySem.W.keepIn K (.ref g) = true ∧ mg x = some (.ref g)
section
variable {P : Program} {w : World} {K : PySem.W.Frag} {mg : Str → Option Value} {base : Heap} {k j : Nat} {x : Str} {ps : List Str} {sp sp' : Sp}
theorem Cal.mono (C : Cal P w K mg base j x ps sp) (h : j ≤ k) : Cal P w K mg base k x ps sp := by
  obtain ⟨g, gd, F, b, kp, m⟩ := C
  exact ⟨g, gd, F.mono h, b, kp, m⟩
theorem Cal.imp (C : Cal P w K mg base k x ps sp) (h : ∀ vs H Q E, sp' vs H Q E → sp vs H Q E) : Cal P w K mg base k x ps sp' := by
  obtain ⟨g, gd, F, b, kp, m⟩ := C
  exact ⟨g, gd, F.imp h, b, kp, m⟩
end
section
variable {X : Cx} {k : Nat} {x : Str} {ps : List Str} {sp : Sp} {e : Expr} {es : List Expr} {t : TA} {p pos : Pos}
theorem pe_cal (C : Cal X.prog X.w X.K X.mg X.base k x ps sp) (hr : Room k X.A) (hg : Gl X x) (ha : PA X (e :: es) t) (hdb : (x == ("__debug__" : Str)) = false := by decide) (he : starEach (e :: es) X.env = (false, eval e X.env) :: starEach es X.env := by rfl)
    (hpl : (backTo pos (starEach es X.env)).any (·.1) = false := by rfl) : PE X (.Call (.Name x p) (e :: es) [] pos) (tCall sp [] E0 t) := by
  obtain ⟨g, gd, F, b, kp, m⟩ := C
  exact pe_call F hr hg m kp b .nil pass0 ha hdb he hpl
end
/-- the names of Python's own that the text calls: none of them is bound at the top -/
structure Blt (mg : Str → Option Value) : Prop where
  len : mg "len" = none
  isi : mg "isinstance" = none
  int : mg "int" = none
  bool : mg "bool" = none
  sum : mg "sum" = none
  max : mg "max" = none
  min : mg "min" = none
  range : mg "range" = none
  list : mg "list" = none
  tuple : mg "tuple" = none
  str : mg "str" = none
  zip : mg "zip" = none
  all : mg "all" = none
  reversed : mg "reversed" = none
  sorted : mg "sorted" = none
  any : mg "any" = none
  enumerate : mg "enumerate" = none
  divmod : mg "divmod" = none
  valueError : mg "ValueError" = none
  set : mg "set" = none
theorem small {n : Nat} (h : n ≤ 100000) : n < sizeLine := Nat.lt_of_le_of_lt h (by decide)
end L2

/-! ### the fragment said by its name (within a block) -/
namespace L2
open PySem PySem.Spec PyProof.Rows
theorem ix_listK {X : Cx} {K : PySem.W.Frag} (h : X.K = K := by rfl) : IxR X (rIxL K) := by
  subst h
  exact ix_list
end L2

/-! ### all(list of bools); a product of two great numbers -/
namespace L2
open PySem PySem.Spec PyProof.Rows
section
variable {X : Cx}
def rAll (K : PySem.W.Frag) : List V → Hp → VK → Prop := fun xs H Q => ∃ (p : Addr) (bs : List Bool), xs = [.ref p] ∧ SqL K H p (bs.map V.bl) ∧ Q (.bl (bs.all id)) H
theorem call_allL (hc : X.calm = true) : CallR X (.builtin "all") (rAll X.K) := by
  intro pins s σ H vs us Q I r h
  obtain ⟨p, bs, rfl, hS, q⟩ := h
  obtain ⟨u, rfl, r1⟩ := r.one
  cases r1
  obtain ⟨its, rv, pl, hz⟩ := I.list hS
  have hlen := rv.length
  rw [List.length_map] at hlen
  have hl := pl.isList
  have hlt : p < s.heap.objs.size := by obtain ⟨_, e, _⟩ := hl; exact Heap.lt_size e
  refine call_all_walk (wpAny_pyIter_list hl ?_)
  refine ⟨s.heap.objs.size, _, _, _, _, _, fun i => bs.getD i false, rfl, Walks.list (A := X.A.in1) (I.ok.hd hc) _ p (Nat.ne_of_lt hlt) its.toArray, ⟨⟨_, Heap.get?_push_size _ rfl, rfl, rfl⟩, hl.push _⟩, fun i v s2 Q2 E2 hv q2 => ?_, fun h' tk keep => ?_⟩
  · have hv' : its[i]? = some v := by simpa using hv
    have hi : i < bs.length := by
      have := (List.getElem?_eq_some_iff.mp hv').1
      omega
    obtain ⟨u, h1, h2⟩ := rv.get (i := i) (x := V.bl (bs.getD i false)) (by rw [List.getElem?_map, List.getElem?_eq_getElem hi, List.getD_eq_getElem?_getD, List.getElem?_eq_getElem hi]; rfl)
    rw [hv'] at h1
    cases h1
    cases h2
    exact wpAny_truthy_bool q2
  · have e : (List.range its.toArray.size).all (fun i => bs.getD i false) = bs.all id := by
      rw [List.size_toArray, ← hlen]
      apply Bool.eq_iff_iff.mpr
      rw [List.all_eq_true, List.all_eq_true]
      constructor
      · intro h x hx
        obtain ⟨i, hi, rfl⟩ := List.getElem_of_mem hx
        have := h i (List.mem_range.mpr hi)
        rwa [List.getD_eq_getElem?_getD, List.getElem?_eq_getElem hi] at this
      · intro h i hi
        have hi' := List.mem_range.mp hi
        rw [List.getD_eq_getElem?_getD, List.getElem?_eq_getElem hi']
        exact h _ (List.getElem_mem hi')
    rw [e]
    refine ⟨.bl _, H, I.kept (fun b o ob => keep b o (fun hm => ?_) (Heap.get?_push_of_some _ ob)), rfl, q⟩
    have lt := Heap.lt_size ob
    rw [List.mem_singleton.mp hm] at lt
    exact Nat.lt_irrefl _ lt
theorem op_mulG : OpR X (binaryOp .Mult) (rI IntMulOk fun i j => .int (i * j)) := opI fun _ _ _ _ _ _ _ hc q => mul_int q hc
end
end L2
set_option Elab.async false
set_option linter.all false
set_option maxRecDepth 100000
set_option maxHeartbeats 4000000
/-! max(xs, default = d) of a list of ints -/
namespace Mxd
open PySem PyProof.Rows
theorem args_dflt (a v : Value) : argsOk "max" ⟨[a], [(Str.ofString "default", v)]⟩ := by
  unfold argsOk
  kernel_rfl
theorem nm : (toString "max" ++ toString ".loop" : String) = "max.loop" := by decide
section
variable {prog : Program} {w : World} {A : Around} {R : Result → Shared → Prop} {it : Addr} {fp wr : List Addr} {n : Nat} {P : Nat → Value → Prop} {St : Nat → Heap → Prop} {kw : List (Str × Value)}
theorem go (W : Walks prog w A.in1 it fp wr n P St) (g : Nat → Nat → Bool) (hg : CmpOf prog w A.in1 .Gt P g) (B : Addr) (hB : B ∉ fp) :
    ∀ (d i : Nat) (z : Shared) (best : Value) (c : Nat), n = i + 1 + d → St (i + 1) z.heap → P (argBest g i) best → z.heap.get? B = some { cls := .type "list", dict := none, data := .seq #[best, best] c, slots := #[] } →
      (∀ v h2 k2, P (argBest g (n - 1)) v → (∀ b o, b ∉ wr → b ≠ B → z.heap.get? b = some o → h2.get? b = some o) → R (.ok (.ret v)) { z with heap := h2, toks := k2 }) →
      codeAny (model prog w) A (.builtin "max.loop" ⟨[.ref it, .none, .ref B], kw⟩) R z := by
  have hw : B ∉ wr := fun h => hB (W.sub _ h)
  intro d
  induction d with
  | zero =>
    intro i z best c en st pb eB fin
    refine codeAny_builtin F.entry_max_loop ?_
    rw [Around.under_plainId F.plain_max_loop _]
    show wpAny _ A.in1 (seqItems? (.ref B) >>= _) _ _ z
    refine wpAny_bind (wpAny_seqItems eB rfl ?_)
    show wpAny _ A.in1 (tryCatch (pyNext (.ref it)) _ >>= _) _ _ z
    have st' : St n z.heap := by rw [en]; exact st
    refine wpAny_bind (wpAny_tryCatch (W.done z _ _ st' fun h2 k2 keep => ?_))
    have eB2 := keep B _ hw eB
    show wpAny _ A.in1 (updateSeq B (fun _ => #[]) >>= _) _ _ _
    refine wpAny_bind ?_
    refine wpAny_updateSeq eB2 rfl (wpAny_bind (wpAny_letGo (wpAny_pure ?_)))
    have en2 : n - 1 = i := by omega
    exact fin best _ k2 (by rw [en2]; exact pb) fun b o b1 b2 e => (Heap.get?_update_other _ _ (Ne.symm b2)).trans (keep b o b1 e)
  | succ d ih =>
    intro i z best c en st pb eB fin
    refine codeAny_builtin F.entry_max_loop ?_
    rw [Around.under_plainId F.plain_max_loop _]
    show wpAny _ A.in1 (seqItems? (.ref B) >>= _) _ _ z
    refine wpAny_bind (wpAny_seqItems eB rfl ?_)
    show wpAny _ A.in1 (tryCatch (pyNext (.ref it)) _ >>= _) _ _ z
    refine wpAny_bind (wpAny_tryCatch (W.item (i + 1) z _ _ (by omega) st fun v h2 k2 pv st2 keep => ?_))
    have eB2 := keep B _ hw eB
    show wpAny _ A.in1 (tryCatch (holding [v, v] (richCompare .Gt v best >>= _)) _ >>= _) _ _ _
    refine wpAny_bind (wpAny_tryCatch (wpAny_holding (wpAny_bind (hg (i + 1) (argBest g i) v best _ _ _ pv pb ?_))))
    refine wpAny_bind (wpAny_holding (wpAny_truthy_bool (wpAny_bind (wpAny_letGo (wpAny_pure ?_)))))
    cases hb : g (i + 1) (argBest g i) with
    | true =>
      simp only [if_true]
      refine wpAny_bind (wpAny_updateSeq eB2 rfl (wpAny_bind (wpAny_letGo ?_)))
      rw [nm]
      have pa : P (argBest g (i + 1)) v := by
        unfold argBest
        rw [hb, if_pos rfl]
        exact pv
      refine wpAny_pure ⟨plainId_quiet F.plain_max_loop _, ih (i + 1) _ v _ (by omega) (W.frame _ _ _ st2 fun b b1 o e => ?_) pa (Heap.get?_update_self _ eB2 rfl) fun v3 h3 k3 p3 keep3 => ?_⟩
      · exact (Heap.get?_update_other _ _ (fun h : B = b => hB (h ▸ b1))).trans e
      · exact fin v3 h3 k3 p3 fun b o b1 b2 e => keep3 b o b1 b2 ((Heap.get?_update_other _ _ (Ne.symm b2)).trans (keep b o b1 e))
    | false =>
      simp only [Bool.false_eq_true, if_false]
      refine wpAny_bind (wpAny_letGo ?_)
      rw [nm]
      have pa : P (argBest g (i + 1)) best := by
        unfold argBest
        rw [hb, if_neg Bool.false_ne_true]
        exact pb
      refine wpAny_pure ⟨plainId_quiet F.plain_max_loop _, ih (i + 1) _ best c (by omega) st2 pa eB2 fun v3 h3 k3 p3 keep3 => ?_⟩
      exact fin v3 h3 k3 p3 fun b o b1 b2 e => keep3 b o b1 b2 (keep b o b1 e)
theorem go0 (W : Walks prog w A.in1 it fp wr n P St) (g : Nat → Nat → Bool) (hg : CmpOf prog w A.in1 .Gt P g) (B : Addr) (hB : B ∉ fp) (hn : 0 < n) {z : Shared} {c : Nat} (st : St 0 z.heap)
    (eB : z.heap.get? B = some { cls := .type "list", dict := none, data := .seq #[] c, slots := #[] })
    (fin : ∀ v h2 k2, P (argBest g (n - 1)) v → (∀ b o, b ∉ wr → b ≠ B → z.heap.get? b = some o → h2.get? b = some o) → R (.ok (.ret v)) { z with heap := h2, toks := k2 }) :
    codeAny (model prog w) A (.builtin "max.loop" ⟨[.ref it, .none, .ref B], kw⟩) R z := by
  have hw : B ∉ wr := fun h => hB (W.sub _ h)
  refine codeAny_builtin F.entry_max_loop ?_
  rw [Around.under_plainId F.plain_max_loop _]
  show wpAny _ A.in1 (seqItems? (.ref B) >>= _) _ _ z
  refine wpAny_bind (wpAny_seqItems eB rfl ?_)
  show wpAny _ A.in1 (tryCatch (pyNext (.ref it)) _ >>= _) _ _ z
  refine wpAny_bind (wpAny_tryCatch (W.item 0 z _ _ hn st fun v h2 k2 pv st2 keep => ?_))
  have eB2 := keep B _ hw eB
  show wpAny _ A.in1 (updateSeq B (fun _ => #[v, v]) >>= _) _ _ _
  refine wpAny_bind (wpAny_updateSeq eB2 rfl ?_)
  rw [nm]
  refine wpAny_pure ⟨plainId_quiet F.plain_max_loop _, go W g hg B hB (n - 1) 0 _ v _ (by omega) (W.frame _ _ _ st2 fun b b1 o e => ?_) pv (Heap.get?_update_self _ eB2 rfl) fun v3 h3 k3 p3 keep3 => ?_⟩
  · exact (Heap.get?_update_other _ _ (fun h : B = b => hB (h ▸ b1))).trans e
  · exact fin v3 h3 k3 p3 fun b o b1 b2 e => keep3 b o b1 b2 ((Heap.get?_update_other _ _ (Ne.symm b2)).trans (keep b o b1 e))
theorem none0 (W : Walks prog w A.in1 it fp wr n P St) (B : Addr) (hB : B ∉ fp) (hn : n = 0) {z : Shared} {c : Nat} {x : Str} {d : Value} (st : St 0 z.heap)
    (eB : z.heap.get? B = some { cls := .type "list", dict := none, data := .seq #[] c, slots := #[] })
    (fin : ∀ h2 k2, (∀ b o, b ∉ wr → b ≠ B → z.heap.get? b = some o → h2.get? b = some o) → R (.ok (.ret d)) { z with heap := h2, toks := k2 }) :
    codeAny (model prog w) A (.builtin "max.loop" ⟨[.ref it, .none, .ref B], [(x, d)]⟩) R z := by
  subst hn
  refine codeAny_builtin F.entry_max_loop ?_
  rw [Around.under_plainId F.plain_max_loop _]
  show wpAny _ A.in1 (seqItems? (.ref B) >>= _) _ _ z
  refine wpAny_bind (wpAny_seqItems eB rfl ?_)
  show wpAny _ A.in1 (tryCatch (pyNext (.ref it)) _ >>= _) _ _ z
  refine wpAny_bind (wpAny_tryCatch (W.done z _ _ st fun h2 k2 keep => ?_))
  show wpAny _ A.in1 (rule _ >>= _) _ _ _
  exact wpAny_bind (wpAny_rule (wpAny_pure (fin h2 k2 fun b o b1 _ e => keep b o b1 e)))
end
section
variable {prog : Program} {w : World} {A : Around} {E : Value → Shared → Prop} {s : Shared} {l : Addr} {xs : Array (Int × Tok)} {Q : Value → Shared → Prop} {d : Value}
theorem call_maxd (hh : A.handled = none) (hl : s.heap.IsList l (intItems xs))
    (h0 : xs.size = 0 → ∀ h2 k2, (∀ b o, s.heap.get? b = some o → h2.get? b = some o) → Q d { s with heap := h2, toks := k2 })
    (h1 : 0 < xs.size → ∀ v h2 k2, (intItems xs)[argBest (fun i j => decide (numAt xs i > numAt xs j)) (xs.size - 1)]? = some v → (∀ b o, s.heap.get? b = some o → h2.get? b = some o) → Q v { s with heap := h2, toks := k2 }) :
    wpAny (model prog w) A (call (.builtin "max") [.ref l] [(Str.ofString "default", d)]) Q E s := by
  refine kmk_tree F.kind_max F.plain_max F.entry_max (args_dflt _ _) ?_
  show wpAny _ A.in1 (Builtin.Builtins.bindParams "max" ["key", "default"] 0 ⟨[], [(Str.ofString "default", d)]⟩ >>= _) _ _ s
  refine wpAny_bind (wpAny_of_eq (show Builtin.Builtins.bindParams "max" ["key", "default"] 0 ⟨[], [(Str.ofString "default", d)]⟩ = pure [none, some d] from rfl) ?_)
  refine wpAny_bind (wpAny_pure (wpAny_bind (iter_intList hl fun s2 e2 st hfp hlI => ?_)))
  subst e2
  refine wpAny_bind (wpAny_newObj_type ?_)
  have W := Walks.list (prog := prog) (w := w) (A := A.in1) hh s.heap.objs.size l hlI (intItems xs)
  have hB : (s.heap.push { cls := .type "list_iterator", data := .fields #[.ref l, .int 0 0] }).objs.size ∉ [s.heap.objs.size, l] := fun hm => Nat.lt_irrefl _ (hfp _ hm)
  have st2 := W.frame _ _ _ st fun b _ o e => Heap.get?_push_of_some { cls := .type "list", dict := none, data := .seq ([] : List Value).toArray } e
  have old : ∀ {h2 : Heap}, (∀ b o, b ∉ [s.heap.objs.size] → b ≠ (s.heap.push { cls := .type "list_iterator", data := .fields #[.ref l, .int 0 0] }).objs.size →
      ((s.heap.push { cls := .type "list_iterator", data := .fields #[.ref l, .int 0 0] }).push { cls := .type "list", dict := none, data := .seq ([] : List Value).toArray }).get? b = some o → h2.get? b = some o) →
      ∀ b o, s.heap.get? b = some o → h2.get? b = some o := fun {h2} k b o e => by
    have lt := Heap.lt_size e
    refine k b o (fun hm => ?_) ?_ (Heap.get?_push_of_some _ (Heap.get?_push_of_some _ e))
    · rw [List.mem_singleton.mp hm] at lt
      exact Nat.lt_irrefl _ lt
    · rw [Heap.size_push]
      exact Nat.ne_of_lt (Nat.lt_succ_of_lt lt)
  rw [nm]
  refine wpAny_pure ⟨plainId_quiet F.plain_max_loop _, ?_⟩
  have esz : (intItems xs).size = xs.size := by simp [intItems]
  rcases Nat.eq_zero_or_pos xs.size with c | c
  · exact none0 W _ hB (esz.trans c) st2 (Heap.get?_push_size _ rfl) fun h2 k2 keep => h0 c h2 k2 (old keep)
  · refine go0 W _ (CmpOf.ints_gt (numAt xs) (fun _ _ => intItems_at)) _ hB (by omega) st2 (Heap.get?_push_size _ rfl) fun v h2 k2 pv keep => h1 c v h2 k2 ?_ (old keep)
    rw [esz] at pv
    exact pv
end
end Mxd
namespace L2
open PySem PySem.Spec PyProof.Rows
def rMaxD (K : PySem.W.Frag) : List V → List V → Hp → VK → Prop := fun xs zs H Q => ∃ (a : Addr) (ns : List Int) (i : Int), xs = [.ref a] ∧ zs = [.int i] ∧ SqL K H a (ns.map V.int) ∧ (ns = [] → Q (.int i) H) ∧ ∀ M, M ∈ ns → (∀ z ∈ ns, z ≤ M) → Q (.int M) H
section
variable {X : Cx} {e d : Expr} {t tk : TA} {p pos kp : Pos}
theorem pe_maxD (hc : X.calm = true) (hg : Gl X "max") (hm : X.mg "max" = none) (ha : PA X [e] t) (hk : PK X [⟨some "default", d, kp⟩] tk) (he : backTo pos (starEach [e] X.env) = (false, eval e X.env) :: backTo pos (starEach [] X.env) := by rfl)
    (hpl : (backTo pos (starEach [e] X.env)).any (·.1) = false := by rfl) : PE X (.Call (.Name "max" p) [e] [⟨some "default", d, kp⟩] pos) (fun σ H Q => t σ H fun vs H1 => tk σ H1 fun zs H2 => rMaxD X.K vs zs H2 Q) := by
  intro pins s σ H Q I h
  refine wpAny_Call_Name_kw (ld_blt I hg hm boot_max ?_)
  refine callWith_kw (thn (ha pos pins s σ H _ I h) fun us s1 ⟨vs, H1, I1, r1, q1⟩ => thn (hk pos pins s1 σ H1 _ I1 q1) fun ws s2 ⟨zs, H2, I2, r2, q2⟩ => ?_) he hpl
  obtain ⟨a, ns, i, rfl, rfl, hS, q0, qM⟩ := q2
  obtain ⟨u, rfl, ru⟩ := r1.one
  cases ru
  obtain ⟨u2, rfl, ru2⟩ := r2.one
  obtain ⟨t2, rfl⟩ := ru2
  show wpAny _ _ (call (.builtin "max") [.ref a] [(Str.ofString "default", .int i t2)]) _ _ s2
  obtain ⟨its, rv, pl, hz⟩ := I2.list hS
  have hi : IntsAre its ns := intsAre_of rv
  obtain ⟨xs, e1⟩ := hi.allInts.items
  have hl := pl.isList
  rw [e1] at hl
  have e2 : ns = xs.toList.map (·.1) := by rw [← hi.numsOf, ← nums_intItems, ← e1]
  refine Mxd.call_maxd (I2.ok.hd hc) hl (fun c h2 k2 keep => ?_) fun c v h2 k2 hv keep => ?_
  · refine ⟨.int i, H2, I2.kept keep, ⟨t2, rfl⟩, q0 ?_⟩
    rw [e2, Array.eq_empty_of_size_eq_zero c]
    rfl
  · obtain ⟨tv, rfl⟩ := intItems_at hv
    obtain ⟨b1, b2⟩ := argBest_gt (numAt xs) (xs.size - 1)
    refine ⟨.int _, H2, I2.kept keep, ⟨tv, rfl⟩, qM _ ?_ fun z hz => ?_⟩
    · rw [e2, numAt_eq]
      exact getD_mem (by rw [List.length_map, Array.length_toList]; omega)
    · rw [e2] at hz
      obtain ⟨j, hj, rfl⟩ := mem_getD hz
      rw [List.length_map, Array.length_toList] at hj
      rw [← numAt_eq]
      exact b2 j (by omega)
end
end L2
set_option Elab.async false
set_option linter.all false
set_option maxRecDepth 100000
set_option maxHeartbeats 4000000
/-! max(xs), min(xs) of a list of ints -/
namespace L2
open PySem PySem.Spec PyProof.Rows
section
variable {X : Cx}
def rMaxL (K : PySem.W.Frag) : List V → Hp → VK → Prop := fun xs H Q => ∃ (a : Addr) (ns : List Int), xs = [.ref a] ∧ SqL K H a (ns.map V.int) ∧ ns ≠ [] ∧ ∀ M, M ∈ ns → (∀ z ∈ ns, z ≤ M) → Q (.int M) H
def rMinL (K : PySem.W.Frag) : List V → Hp → VK → Prop := fun xs H Q => ∃ (a : Addr) (ns : List Int), xs = [.ref a] ∧ SqL K H a (ns.map V.int) ∧ ns ≠ [] ∧ ∀ M, M ∈ ns → (∀ z ∈ ns, M ≤ z) → Q (.int M) H
theorem call_maxL (hc : X.calm = true) : CallR X (.builtin "max") (rMaxL X.K) := by
  intro pins s σ H vs us Q I r h
  obtain ⟨a, ns, rfl, hS, hne, q⟩ := h
  obtain ⟨u, rfl, ru⟩ := r.one
  cases ru
  obtain ⟨its, rv, pl, hz⟩ := I.list hS
  have hi : IntsAre its ns := intsAre_of rv
  obtain ⟨xs, e1⟩ := hi.allInts.items
  have hl := pl.isList
  rw [e1] at hl
  have e2 : ns = xs.toList.map (·.1) := by rw [← hi.numsOf, ← nums_intItems, ← e1]
  have hpos : 0 < xs.size := by
    rcases Nat.eq_zero_or_pos xs.size with c | c
    · exact absurd (by rw [e2, Array.eq_empty_of_size_eq_zero c]; rfl) hne
    · exact c
  have esz : (intItems xs).size = xs.size := by simp [intItems]
  refine call_max_walk (iter_intList hl fun s2 e2' st hfp hlI => ?_)
  subst e2'
  refine ⟨_, _, _, (intItems xs).size, _, _, _, rfl, Walks.list (prog := X.prog) (w := X.w) (A := X.A.in1) (I.ok.hd hc) s.heap.objs.size a hlI (intItems xs), st, hfp, by rw [esz]; exact hpos, CmpOf.ints_gt (numAt xs) (fun _ _ => intItems_at), fun v h2 k2 hv keep => ?_⟩
  rw [esz] at hv
  obtain ⟨tv, rfl⟩ := intItems_at hv
  obtain ⟨b1, b2⟩ := argBest_gt (numAt xs) (xs.size - 1)
  have keep' : ∀ b o, s.heap.get? b = some o → h2.get? b = some o := fun b o e => keep b o (fun hm => by
    have lt := Heap.lt_size e
    rw [List.mem_singleton.mp hm] at lt
    exact Nat.lt_irrefl _ lt) (Heap.get?_push_of_some _ e)
  refine ⟨.int _, H, I.kept keep', ⟨tv, rfl⟩, q _ ?_ fun z hz => ?_⟩
  · rw [e2, numAt_eq]
    exact getD_mem (by rw [List.length_map, Array.length_toList]; omega)
  · rw [e2] at hz
    obtain ⟨j, hj, rfl⟩ := mem_getD hz
    rw [List.length_map, Array.length_toList] at hj
    rw [← numAt_eq]
    exact b2 j (by omega)
theorem call_minL (hc : X.calm = true) : CallR X (.builtin "min") (rMinL X.K) := by
  intro pins s σ H vs us Q I r h
  obtain ⟨a, ns, rfl, hS, hne, q⟩ := h
  obtain ⟨u, rfl, ru⟩ := r.one
  cases ru
  obtain ⟨its, rv, pl, hz⟩ := I.list hS
  have hi : IntsAre its ns := intsAre_of rv
  obtain ⟨xs, e1⟩ := hi.allInts.items
  have hl := pl.isList
  rw [e1] at hl
  have e2 : ns = xs.toList.map (·.1) := by rw [← hi.numsOf, ← nums_intItems, ← e1]
  have hpos : 0 < xs.size := by
    rcases Nat.eq_zero_or_pos xs.size with c | c
    · exact absurd (by rw [e2, Array.eq_empty_of_size_eq_zero c]; rfl) hne
    · exact c
  have esz : (intItems xs).size = xs.size := by simp [intItems]
  refine call_min_walk (iter_intList hl fun s2 e2' st hfp hlI => ?_)
  subst e2'
  refine ⟨_, _, _, (intItems xs).size, _, _, _, rfl, Walks.list (prog := X.prog) (w := X.w) (A := X.A.in1) (I.ok.hd hc) s.heap.objs.size a hlI (intItems xs), st, hfp, by rw [esz]; exact hpos, CmpOf.ints_lt (numAt xs) (fun _ _ => intItems_at), fun v h2 k2 hv keep => ?_⟩
  rw [esz] at hv
  obtain ⟨tv, rfl⟩ := intItems_at hv
  obtain ⟨b1, b2⟩ := argBest_lt (numAt xs) (xs.size - 1)
  have keep' : ∀ b o, s.heap.get? b = some o → h2.get? b = some o := fun b o e => keep b o (fun hm => by
    have lt := Heap.lt_size e
    rw [List.mem_singleton.mp hm] at lt
    exact Nat.lt_irrefl _ lt) (Heap.get?_push_of_some _ e)
  refine ⟨.int _, H, I.kept keep', ⟨tv, rfl⟩, q _ ?_ fun z hz => ?_⟩
  · rw [e2, numAt_eq]
    exact getD_mem (by rw [List.length_map, Array.length_toList]; omega)
  · rw [e2] at hz
    obtain ⟨j, hj, rfl⟩ := mem_getD hz
    rw [List.length_map, Array.length_toList] at hj
    rw [← numAt_eq]
    exact b2 j (by omega)
end
end L2
set_option Elab.async false
set_option linter.all false
set_option maxRecDepth 100000
set_option maxHeartbeats 4000000
/-! for a, b in zip(xs, ys) -/
namespace L2
open PySem PySem.Spec PyProof.Rows
def Itz (K : PySem.W.Frag) (l1 l2 : Addr) : It :=
  ⟨fun i H => ∃ xs ys x y, SqL K H l1 xs ∧ SqL K H l2 ys ∧ xs[i]? = some x ∧ ys[i]? = some y,
   fun i H v H' => ∃ p x y, v = .ref p ∧ H p = none ∧ H' = upd H p (.tup [x, y]) ∧ (∀ xs, SqL K H l1 xs → xs[i]? = some x) ∧ ∀ ys, SqL K H l2 ys → ys[i]? = some y,
   fun i H => ∃ xs ys, SqL K H l1 xs ∧ SqL K H l2 ys ∧ (xs.length ≤ i ∨ ys.length ≤ i)⟩
structure ZipTn (z TI TO i1 i2 l1 l2 : Addr) (i : Nat) (h : Heap) : Prop where
  zp : IsZip h z TI TO .none
  ti : IsPair h TI (.ref i1) (.ref i2)
  to : ∃ a b, IsPair h TO a b
  a1 : h.IsListIter i1 l1 i
  a2 : h.IsListIter i2 l2 i
theorem turn_zip {P : Program} {w : World} {K : PySem.W.Frag} {es : List Expr} {k : Nat} {pos : Pos} {z TI TO i1 i2 l1 l2 : Addr} (D : ZipApart z TI TO i1 i2 l1 l2) :
    Turn P w K (.Tuple es k pos) (Itz K l1 l2) [z, TI, TO, i1, i2] z (ZipTn z TI TO i1 i2 l1 l2) where
  mem := by simp
  obj := fun i h st b hb => by
    obtain ⟨a, b', e⟩ := st.to
    obtain ⟨o1, e1, c1, d1⟩ := st.a1
    obtain ⟨o2, e2, c2, d2⟩ := st.a2
    simp only [List.mem_cons, List.not_mem_nil, or_false] at hb
    rcases hb with rfl | rfl | rfl | rfl | rfl
    · exact ⟨_, st.zp, fun v q => by simp at q⟩
    · exact ⟨_, st.ti, fun v q => by simp at q⟩
    · exact ⟨_, e, fun v q => by simp at q⟩
    · exact ⟨o1, e1, fun v q => by rw [d1] at q; cases q⟩
    · exact ⟨o2, e2, fun v q => by rw [d2] at q; cases q⟩
  keep := fun i h h' st k => by
    obtain ⟨a, b', e⟩ := st.to
    exact ⟨k z (by simp) _ st.zp, k TI (by simp) _ st.ti, ⟨a, b', k TO (by simp) _ e⟩, st.a1.at fun o e => k i1 (by simp) o e, st.a2.at fun o e => k i2 (by simp) o e⟩
  item := by
    intro X hP hw hK hc i pins s σ H E I hf st hg
    subst hP hw hK
    obtain ⟨xs, ys, x, y, sq1, sq2, hx, hy⟩ := hg
    obtain ⟨t1, r1, p1, _⟩ := I.list sq1
    obtain ⟨t2, r2, p2, _⟩ := I.list sq2
    obtain ⟨u1, g1, q1⟩ := r1.get hx
    obtain ⟨u2, g2, q2⟩ := r2.get hy
    obtain ⟨a, b, e⟩ := st.to
    refine wpAny_pyNext_zip_item D st.zp st.ti e st.a1 st.a2 p1.isList p2.isList (x := u1) (y := u2) (by simpa using g1) (by simpa using g2) fun h' z1 z2 z3 z4 z5 z6 z7 => ?_
    refine ⟨_, rfl, wpAny_letOwnedTupleGo_zip z1 fun h2 y1 y2 => ?_⟩
    have zlt : z < s.heap.objs.size := Heap.lt_size st.zp
    have TOlt : TO < s.heap.objs.size := Heap.lt_size e
    have i1lt : i1 < s.heap.objs.size := by obtain ⟨o, q, _⟩ := st.a1; exact Heap.lt_size q
    have i2lt : i2 < s.heap.objs.size := by obtain ⟨o, q, _⟩ := st.a2; exact Heap.lt_size q
    have TIlt : TI < s.heap.objs.size := Heap.lt_size st.ti
    have fr : H s.heap.objs.size = none := I.fresh
    have keep : ∀ b o, b ∉ [z, TI, TO, i1, i2] → s.heap.get? b = some o → h2.get? b = some o := fun b o hb q => by
      simp only [List.mem_cons, List.not_mem_nil, or_false, not_or] at hb
      exact y2.extBut b o hb.1 (z7 b o hb.1 hb.2.2.1 hb.2.2.2.1 hb.2.2.2.2 q)
    have keepTI : h2.get? TI = some { cls := .type "tuple", data := .seq #[.ref i1, .ref i2] } := y2.extBut _ _ D.TIz (z7 _ _ D.TIz D.TITO D.TIi1 D.TIi2 st.ti)
    have newT : h2.get? s.heap.objs.size = some { cls := .type "tuple", data := .seq #[u1, u2] } := y2.extBut _ _ (Nat.ne_of_gt zlt) z5
    have fnone : ∀ b ∈ [z, TI, TO, i1, i2], upd H s.heap.objs.size (.tup [x, y]) b = none := fun b hb => by
      have hlt : b < s.heap.objs.size := by
        simp only [List.mem_cons, List.not_mem_nil, or_false] at hb
        rcases hb with rfl | rfl | rfl | rfl | rfl <;> assumption
      rw [upd_ne (Nat.ne_of_lt hlt)]
      exact (hf b hb).1
    have tn2 : ZipTn z TI TO i1 i2 l1 l2 (i + 1) h2 := ⟨y1, keepTI, ⟨u1, u2, y2.extBut _ _ D.TOz z2⟩, z3.at fun o q => y2.extBut _ _ D.i1z q, z4.at fun o q => y2.extBut _ _ D.i2z q⟩
    have I1 : Inv X pins σ (upd H s.heap.objs.size (.tup [x, y])) { s with heap := h2 } := by
      have hnotr : ∀ b u, H b = some u → b ∉ [z, TI, TO, i1, i2] := fun b u q hb => by rw [(hf b hb).1] at q; cases q
      refine I.step (g' := s.gens) (d' := s.drawn) (t' := s.toks) (ch := [z, TI, TO, i1, i2]) (fun b hb => ⟨(hf b hb).2.2.2.1, (hf b hb).2.1, (hf b hb).2.2.2.2.1, (hf b hb).2.2.2.2.2⟩) (fun b o _ _ hc q _ => keep b o hc q) (fun b o _ _ hc q _ => ⟨o.slots, keep b o hc q⟩)
        (fun b o _ q n => by rw [upd_ne (Nat.ne_of_lt (Heap.lt_size q))]; exact n) (fun b o hc q => ⟨o, keep b o hc q⟩) (fun b ts q => by rw [upd_ne (ne_of_none q fr)]; exact q) (fun b o u q => by rw [upd_ne (ne_of_none q fr)]; exact q) (fun b ps q => ⟨#[], by rw [upd_ne (ne_of_none q fr), q]; simp⟩) (fun m hm => ?_) (fun b u q => ?_) I.bare
      · obtain ⟨o, es', ep, ho, r⟩ := hm
        exact ⟨o, es', ep, keep _ o (fun hb => (hf _ hb).2.1 rfl) ho, r⟩
      · by_cases hb : b = s.heap.objs.size
        · subst hb
          rw [upd_same] at q
          cases q
          exact ⟨by show 2 ≤ sizeLine; decide, [u1, u2], .cons q1 (.cons q2 .nil), _, newT, rfl, _, rfl⟩
        · rw [upd_ne hb] at q
          exact (I.hok b u q).stay (fun c v hc qc => keep c v (hc.elim (fun e => by rw [e]; exact hnotr b u q) fun e => hnotr c _ e) qc) (fun c qc => by rw [upd_ne (ne_of_none qc fr)]; exact qc) fun c ts qc => by rw [upd_ne (ne_of_none qc fr)]; exact qc
    exact ⟨.ref s.heap.objs.size, _, I1, rfl, ⟨_, x, y, rfl, fr, rfl, fun xs' h' => by rw [I.list_inj h' sq1]; exact hx, fun ys' h' => by rw [I.list_inj h' sq2]; exact hy⟩, tn2, fnone⟩
  done := by
    intro X hP hw hK hc i pins s σ H E I hf st hg
    subst hP hw hK
    obtain ⟨xs, ys, h1, h2, hend⟩ := hg
    obtain ⟨t1, r1, p1, _⟩ := I.list h1
    obtain ⟨t2, r2, p2, _⟩ := I.list h2
    obtain ⟨a, b, e⟩ := st.to
    have n1 := r1.length
    have n2 := r2.length
    refine wpAny_pyNext_zip_end (I.ok.hd hc) D st.zp st.ti e st.a1 st.a2 p1.isList p2.isList (by simp; omega) fun h' kk => ⟨rfl, ?_⟩
    have keep : ∀ b o, b ∉ [z, TI, TO, i1, i2] → s.heap.get? b = some o → h'.get? b = some o := fun b o hb q => by
      simp only [List.mem_cons, List.not_mem_nil, or_false, not_or] at hb
      exact kk b o hb.1 hb.2.2.1 hb.2.2.2.1 hb.2.2.2.2 q
    have hnotr : ∀ b u, H b = some u → b ∉ [z, TI, TO, i1, i2] := fun b u q hb => by rw [(hf b hb).1] at q; cases q
    refine I.step (g' := s.gens) (d' := s.drawn) (t' := s.toks) (ch := [z, TI, TO, i1, i2]) (fun b hb => ⟨(hf b hb).2.2.2.1, (hf b hb).2.1, (hf b hb).2.2.2.2.1, (hf b hb).2.2.2.2.2⟩) (fun b o _ _ hc q _ => keep b o hc q) (fun b o _ _ hc q _ => ⟨o.slots, keep b o hc q⟩)
      (fun b o _ q n => n) (fun b o hc q => ⟨o, keep b o hc q⟩) (fun b ts q => q) (fun b o u q => q) (fun b ps q => ⟨#[], by rw [q]; simp⟩) (fun m hm => ?_) (fun b u q => ?_) I.bare
    · obtain ⟨o, es', ep, ho, r⟩ := hm
      exact ⟨o, es', ep, keep _ o (fun hb => (hf _ hb).2.1 rfl) ho, r⟩
    · exact (I.hok b u q).stay (fun c v hc qc => keep c v (hc.elim (fun e => by rw [e]; exact hnotr b u q) fun e => hnotr c _ e) qc) (fun c qc => qc) fun c ts qc => qc
  self := fun _ _ _ _ _ st h => wpAny_pyIter_zip st.zp h
section
variable {X : Cx} {es : List Expr} {k : Nat} {tpos : Pos}
def iZip (K : PySem.W.Frag) (ta : TA) : TI := fun σ H R => ta σ H fun vs H1 => ∃ l1 l2, vs = [.ref l1, .ref l2] ∧ (∃ xs, SqL K H1 l1 xs) ∧ (∃ ys, SqL K H1 l2 ys) ∧ R (Itz K l1 l2) H1
theorem pi_zip {a b : Expr} {ta : TA} {p pos : Pos} (hg : Gl X "zip") (hm : X.mg "zip" = none) (ha : PA X [a, b] ta) (hs : starEach [a, b] X.env = (false, eval a X.env) :: starEach [b] X.env := by rfl) (hs2 : (backTo pos (starEach [b] X.env)).any (·.1) = false := by rfl) :
    PI X (.Tuple es k tpos) (.Call (.Name "zip" p) [a, b] [] pos) (iZip X.K ta) := by
  intro pins s σ H R I h
  refine Call_ (ld_blt I hg hm boot_zip (PyProof.Rows.callWith_type1 (thn (ha pos pins s σ H _ I h) fun us s1 ⟨vs, H1, I1, r1, q1⟩ => ?_) hs hs2))
  obtain ⟨l1, l2, e, ⟨xs, h1⟩, ⟨ys, h2⟩, q⟩ := q1
  subst e
  obtain ⟨u, u', rfl, r, r'⟩ := r1.two
  cases r
  cases r'
  obtain ⟨t1, g1, p1, _⟩ := I1.list h1
  obtain ⟨t2, g2, p2, _⟩ := I1.list h2
  have lt1 : l1 < s1.heap.objs.size := by obtain ⟨_, e, _⟩ := p1.isList; exact Heap.lt_size e
  have lt2 : l2 < s1.heap.objs.size := by obtain ⟨_, e, _⟩ := p2.isList; exact Heap.lt_size e
  refine call_zip_2 p1.isList p2.isList fun h' z1 z2 z3 z4 z5 z6 z7 => ?_
  refine wpAny_pyIter_zip z1 ?_
  have I2 : Inv X pins σ H1 { s1 with heap := h' } := I1.kept (t' := s1.toks) z7
  refine ⟨_, _, _, _, H1, rfl, I2, turn_zip (zipApart_new lt1 lt2), ⟨z1, z2, ⟨_, _, z3⟩, z4, z5⟩, fun b hb => ?_, q⟩
  have hge : s1.heap.objs.size ≤ b := by
    simp only [List.mem_cons, List.not_mem_nil, or_false] at hb
    rcases hb with e | e | e | e | e <;> rw [e]
    · exact Nat.le_add_right _ _
    · exact Nat.le_add_right _ _
    · exact Nat.le_add_right _ _
    · exact Nat.le_refl _
    · exact Nat.le_add_right _ _
  exact I1.fpOk hge (I1.hok.fresh hge)
end
/-- over two lists that the body leaves as they are -/
theorem for_zip {K : PySem.W.Frag} {l1 l2 : Addr} {xs ys : List V} {g : TG} {tb : TS} {D : Ends} {σ : St} {H : Hp} (Pv : Nat → St → Hp → Prop) (n : Nat) (hn : n = min xs.length ys.length) (h0 : Pv 0 σ H) (hl : ∀ i σ H, Pv i σ H → SqL K H l1 xs ∧ SqL K H l2 ys)
    (hs : ∀ i x y p σ H, xs[i]? = some x → ys[i]? = some y → H p = none → Pv i σ H → g (.ref p) σ (upd H p (.tup [x, y])) fun σ2 H2 => tb { D with nx := Pv (i + 1), ct := Pv (i + 1), bk := D.nx } σ2 H2) (hd : ∀ σ H, Pv n σ H → D.nx σ H) :
    ∃ W : Nat → Nat → St → Hp → Prop, (∃ m, W 0 m σ H) ∧ ∀ i m σ H, W i m σ H →
      ((Itz K l1 l2).stop i H ∧ D.nx σ H) ∨ ((Itz K l1 l2).go i H ∧ ∃ N : St → Hp → Prop, (∀ σ' H', N σ' H' → ∃ m', m' < m ∧ W (i + 1) m' σ' H') ∧ ∀ x H', (Itz K l1 l2).yld i H x H' → g x σ H' fun σ2 H2 => tb { D with nx := N, ct := N, bk := D.nx } σ2 H2) := by
  refine ⟨fun i m σ H => m = n - i ∧ i ≤ n ∧ Pv i σ H, ⟨n, by simp, Nat.zero_le _, h0⟩, ?_⟩
  rintro i m σ H ⟨rfl, hi, p⟩
  obtain ⟨q1, q2⟩ := hl i σ H p
  by_cases hlt : i < n
  · have b1 : i < xs.length := by omega
    have b2 : i < ys.length := by omega
    refine .inr ⟨⟨xs, ys, xs[i], ys[i], q1, q2, by simp [b1], by simp [b2]⟩, Pv (i + 1), fun σ' H' p' => ⟨n - (i + 1), by omega, rfl, hlt, p'⟩, fun v H' y => ?_⟩
    obtain ⟨a, x', y', rfl, ha, rfl, y1, y2⟩ := y
    exact hs i x' y' a σ H (y1 xs q1) (y2 ys q2) ha p
  · have e : i = n := by omega
    subst e
    exact .inl ⟨⟨xs, ys, q1, q2, by omega⟩, hd σ H p⟩
end L2
set_option Elab.async false
set_option linter.all false
set_option maxRecDepth 100000
set_option maxHeartbeats 4000000
/-! a range as a value; list(range(a, b)) -/
namespace L2
open PySem PySem.Spec PyProof.Rows
section
variable {X : Cx}
theorem pe_rng2 {a b : Expr} {ta : TA} {p pos : Pos} (hg : Gl X "range") (hm : X.mg "range" = none) (ha : PA X [a, b] ta) (hs : starEach [a, b] X.env = (false, eval a X.env) :: starEach [b] X.env := by rfl) (hs2 : (backTo pos (starEach [b] X.env)).any (·.1) = false := by rfl) :
    PE X (.Call (.Name "range" p) [a, b] [] pos) (fun σ H Q => ta σ H fun vs H1 => ∃ i j : Int, vs = [.int i, .int j] ∧ ∀ r, H1 r = none → Q (.ref r) (upd H1 r (.rng i j))) := by
  intro pins s σ H Q I h
  refine Call_ (ld_blt I hg hm boot_range (PyProof.Rows.callWith_type1 (thn (ha pos pins s σ H _ I h) fun us s1 ⟨vs, H1, I1, r1, q1⟩ => ?_) hs hs2))
  obtain ⟨i, j, rfl, q⟩ := q1
  obtain ⟨u, u', rfl, ru, ru'⟩ := r1.two
  obtain ⟨t, rfl⟩ := ru
  obtain ⟨t', rfl⟩ := ru'
  exact call_range_2 ⟨.ref _, _, I1.laid (o := .rng i j) (fun _ _ e => Heap.get?_push_of_some _ e) (Nat.le_refl _) ⟨t, t', _, Heap.get?_push_size _ rfl⟩, rfl, q _ I1.fresh⟩
def rListR : List V → Hp → VK → Prop := fun xs H Q => ∃ (r : Addr) (i j : Int), xs = [.ref r] ∧ H r = some (.rng i j) ∧ (-(2 ^ 62) ≤ i ∧ i < 2 ^ 62 ∧ -(2 ^ 62) ≤ j ∧ j < 2 ^ 62) ∧ (j - i).toNat ≤ 100000 ∧ ∀ l, H l = none → Q (.ref l) (upd H l (.lst ((List.range (j - i).toNat).map fun (k : Nat) => V.int (i + k))))
theorem items_vals {i : Int} : ∀ (n : Nat) (its : List Value), its.length = n → (∀ (k : Nat) (v : Value), its[k]? = some v → ∃ t, v = Value.int (i + k) t) → Vals ((List.range n).map fun (k : Nat) => V.int (i + k)) its := by
  intro n
  induction n with
  | zero =>
    intro its hl _
    have : its = [] := List.eq_nil_of_length_eq_zero hl
    subst this
    exact .nil
  | succ n ih =>
    intro its hl h
    rcases List.eq_nil_or_concat its with e | ⟨S, x, e⟩
    · subst e
      simp at hl
    · have e' : its = S ++ [x] := by simpa using e
      subst e'
      have hS : S.length = n := by simpa using hl
      rw [List.range_succ, List.map_append]
      refine (ih S hS fun k v hk => h k v ?_).append (.cons ?_ .nil)
      · rw [List.getElem?_append_left (List.getElem?_eq_some_iff.mp hk).1]
        exact hk
      · obtain ⟨t, e⟩ := h n x (by rw [List.getElem?_append_right (by omega), hS]; simp)
        exact ⟨t, e⟩
theorem call_listR (hc : X.calm = true) : CallR X (.type "list") rListR := by
  intro pins s σ H vs us Q I r h
  obtain ⟨a, i, j, rfl, hr, ⟨b1, b2, b3, b4⟩, hn, q⟩ := h
  obtain ⟨u, rfl, r1⟩ := r.one
  cases r1
  obtain ⟨t1, t2, t3, e⟩ := (show ObjOk X.prog X.w H s.heap a (.rng i j) from I.hok a _ hr)
  have hsz : Builtin.Range.rangeSize i j 1 = ((j - i).toNat : Int) := rangeSize_nat i j
  refine call_list_range (I.ok.hd hc) (show IsRange s.heap a i j 1 t1 t2 t3 from e) (small_one b1 b2 b3 b4) hsz (Nat.le_trans hn (by decide)) fun h' tk acc c hk hl hit => ?_
  have fr := I.fresh
  have hv := items_vals (i := i) (j - i).toNat acc.toList (by rw [Array.length_toList]; exact hit.1) fun k v hkv => by
    obtain ⟨t, e⟩ := hit.2 k v (by simpa using hkv)
    exact ⟨t, by rw [e, Int.mul_one]⟩
  refine ⟨.ref s.heap.objs.size, _, I.laid (o := .lst ((List.range (j - i).toNat).map fun (k : Nat) => V.int (i + k))) hk (Nat.le_refl _) ⟨?_, acc.toList, c, hv, by simpa using hl⟩, rfl, q _ fr⟩
  rw [List.length_map, List.length_range]
  exact Nat.le_trans hn (by decide)
end
end L2
set_option Elab.async false
set_option linter.all false
set_option maxRecDepth 100000
set_option maxHeartbeats 4000000
/-! texts: by the list of their codes -/
namespace L2
open PySem PySem.Spec PyProof.Rows
/-- the text of these codes -/
def tx (l : List Nat) : Str := ⟨l.toArray⟩
theorem tx_length (l : List Nat) : (tx l).length = l.length := by simp [tx, PySem.Str.length]
theorem tx_cps (l : List Nat) : (tx l).cps.toList = l := by simp [tx]
theorem tx_of (x : Str) : tx x.cps.toList = x := by simp [tx]
theorem tx_app (l m : List Nat) : tx l ++ tx m = tx (l ++ m) := by
  show (⟨l.toArray ++ m.toArray⟩ : Str) = ⟨(l ++ m).toArray⟩
  rw [List.append_toArray]
theorem tx_inj {l m : List Nat} (h : tx l = tx m) : l = m := by
  have := congrArg (fun x : Str => x.cps.toList) h
  simpa [tx] using this
theorem tx_eq {l m : List Nat} : decide (V.str (tx l) = V.str (tx m)) = decide (l = m) := by
  by_cases h : l = m
  · subst h; simp
  · rw [decide_eq_false h, decide_eq_false fun z => h (tx_inj (by injection z))]
theorem eqV_tx {l m : List Nat} : eqV (.str (tx l)) (.str (tx m)) = decide (l = m) := by
  by_cases h : l = m
  · subst h; simp [eqV]
  · have : ¬ tx l = tx m := fun z => h (tx_inj z)
    simp [eqV, h, this]
/-! ### slices -/
def cutN (l : List Nat) (lo hi : Option Int) : List Nat := (l.drop (HT.sIx l.length 0 lo)).take (HT.sIx l.length l.length hi - HT.sIx l.length 0 lo)
theorem pickN (xs : Array Nat) (i k : Nat) : ((List.range k).map fun (m : Nat) => i + m).filterMap (fun (j : Nat) => xs[j]?) = (xs.toList.drop i).take k := by
  induction k with
  | zero => simp
  | succ k ih =>
    rw [List.range_succ, List.map_append, List.filterMap_append, ih, List.take_add_one]
    congr 1
    rw [List.getElem?_drop]
    simp
    cases h : xs[i + k]? <;> simp [h]
theorem clip_is (v : Int) (n d : Nat) : max 0 (min (if v < 0 then v + (n : Int) else v) (n : Int)) = ((HT.sIx n d (some v) : Nat) : Int) := by
  rw [← HT.clip_eq v n d]
  split <;> omega
theorem ix_is (lo hi : Option Int) (n : Nat) : Builtin.Str.strSliceIndices lo hi 1 n = (List.range (HT.sIx n n hi - HT.sIx n 0 lo)).map (fun (m : Nat) => HT.sIx n 0 lo + m) := by
  rw [← PySem.sliceRange_one]
  unfold Builtin.Str.strSliceIndices
  have e1 : (match lo with | none => (0 : Int) | some i => max 0 (min (if i < 0 then i + (n : Int) else i) (n : Int))) = ((HT.sIx n 0 lo : Nat) : Int) := by
    cases lo with
    | none => rfl
    | some v => exact clip_is v n 0
  have e2 : (match hi with | none => (n : Int) | some i => max 0 (min (if i < 0 then i + (n : Int) else i) (n : Int))) = ((HT.sIx n n hi : Nat) : Int) := by
    cases hi with
    | none => rfl
    | some v => exact clip_is v n n
  rw [← e1, ← e2]
  cases lo <;> cases hi <;> rfl
theorem slice_is (x : Str) (lo hi : Option Int) : Txt.slice x lo hi = tx (cutN x.cps.toList lo hi) := by
  have hl : x.cps.toList.length = x.length := by simp [PySem.Str.length]
  have e : (Builtin.Str.strSliceIndices lo hi 1 x.length).filterMap (x.cps[·]?) = cutN x.cps.toList lo hi := by
    rw [ix_is, pickN]
    unfold cutN
    rw [hl]
  unfold Txt.slice
  split
  · rename_i h
    have h2 : (Builtin.Str.strSliceIndices lo hi 1 x.length).length = x.length := by simpa using h
    rw [ix_is, List.length_map, List.length_range] at h2
    have b1 := HT.sIx_le x.length x.length (Nat.le_refl _) hi
    unfold cutN
    rw [hl, h2]
    rcases Nat.eq_zero_or_pos x.length with z | z
    · have : x.cps.toList = [] := List.eq_nil_of_length_eq_zero (by omega)
      rw [this]
      simp
      rw [← tx_of x, this]
    · rw [show HT.sIx x.length 0 lo = 0 by omega, List.drop_zero, List.take_of_length_le (by omega), tx_of]
  · show (⟨_⟩ : Str) = tx _
    unfold tx
    rw [← e]
section
variable {X : Cx}
def rSlS : V → Option Int → Option Int → Hp → VK → Prop := fun x lo hi H Q => ∃ l : List Nat, x = .str (tx l) ∧ l.length ≤ sizeLine ∧ Q (.str (tx (cutN l lo hi))) H
theorem sl_str : SlR X rSlS := by
  intro pins s σ H x v vl vu lo hi sl Q I rx hs pl pu h
  obtain ⟨l, rfl, hz, q⟩ := h
  obtain ⟨t, rfl⟩ := rx
  have fin : ∀ t' k, EP X pins σ Q (.str (Txt.slice (tx l) lo hi) t') { s with toks := k } := fun t' k => ⟨.str _, H, I.tok k, ⟨t', rfl⟩, by rw [slice_is, tx_cps]; exact q⟩
  have hz' : (tx l).length ≤ sizeLine := by rw [tx_length]; exact hz
  refine ⟨"str", _, F.slot_str_getitem.lookup, typeIs_str _ _ _, ?_⟩
  cases pl with
  | none =>
    cases pu with
    | none => exact wpAny_getItem_str_slice (l := none) (u := none) (st := none) hs rfl (post_val_or_str ⟨Nat.le_trans (Txt.slice_le (tx l) _ _) hz', fin⟩)
    | int j uj => exact wpAny_getItem_str_slice (l := none) (u := some (j, uj)) (st := none) hs rfl (post_val_or_str ⟨Nat.le_trans (Txt.slice_le (tx l) _ _) hz', fin⟩)
  | int i ui =>
    cases pu with
    | none => exact wpAny_getItem_str_slice (l := some (i, ui)) (u := none) (st := none) hs rfl (post_val_or_str ⟨Nat.le_trans (Txt.slice_le (tx l) _ _) hz', fin⟩)
    | int j uj => exact wpAny_getItem_str_slice (l := some (i, ui)) (u := some (j, uj)) (st := none) hs rfl (post_val_or_str ⟨Nat.le_trans (Txt.slice_le (tx l) _ _) hz', fin⟩)
/-! ### an item, + -/
def rIxTx : R2 := fun x y H Q => ∃ (l : List Nat) (i : Int) (c : Nat), x = .str (tx l) ∧ y = .int i ∧ l.length ≤ sizeLine ∧ atI l i = some c ∧ Q (.str (tx [c])) H
theorem ix_tx : IxR X rIxTx := by
  intro value slice pins s σ H x y v u Q I rx ry h hs
  obtain ⟨l, i, c, rfl, rfl, hz, ha, q⟩ := h
  exact ix_str value slice pins s σ H _ _ v u Q I rx ry ⟨tx l, i, c, rfl, rfl, by rw [tx_length]; exact hz, by rw [tx_cps]; exact ha, q⟩ hs
def rAddTx : R2 := fun x y H Q => ∃ l m : List Nat, x = .str (tx l) ∧ y = .str (tx m) ∧ l.length + m.length ≤ sizeLine ∧ Q (.str (tx (l ++ m))) H
theorem op_addTx : OpR X (binaryOp .Add) rAddTx := by
  intro pins s σ H x y v u Q I rx ry h
  obtain ⟨l, m, rfl, rfl, hz, q⟩ := h
  exact op_add_str pins s σ H _ _ v u Q I rx ry ⟨tx l, tx m, rfl, rfl, by rw [tx_length, tx_length]; exact hz, by rw [tx_app]; exact q⟩
/-! ### methods -/
theorem strsAre_of {ls : List (List Nat)} : ∀ {us : List Value}, Vals (ls.map fun l => V.str (tx l)) us → StrsAre us (ls.map tx) := by
  induction ls with
  | nil => intro us r; cases r; exact .nil
  | cons l ls ih =>
    intro us r
    cases r with
    | cons r1 r2 =>
      obtain ⟨t, rfl⟩ := r1
      exact .cons _ t (ih r2)
theorem join_is : ∀ ls : List (List Nat), PySem.Str.join (tx []) (ls.map tx) = tx ls.flatten
  | [] => rfl
  | l :: ls => by
    show PySem.Str.join ⟨#[]⟩ (tx l :: ls.map tx) = _
    rw [join_nil_cons, List.flatten_cons, ← tx_app, ← join_is ls]
    rfl
theorem sum_tx : ∀ ls : List (List Nat), ((ls.map tx).map (·.length)).sum = ls.flatten.length
  | [] => rfl
  | l :: ls => by
    have := sum_tx ls
    simp only [List.map_cons, List.sum_cons, List.flatten_cons, List.length_append, tx_length]
    rw [this]
def rJoin (K : PySem.W.Frag) : V → List V → Hp → VK → Prop := fun x vs H Q => ∃ (p : Addr) (ls : List (List Nat)), x = .str (tx []) ∧ vs = [.ref p] ∧ SqL K H p (ls.map fun l => V.str (tx l)) ∧ ls.flatten.length ≤ 1000000 ∧ Q (.str (tx ls.flatten)) H
theorem mt_join : MtM X "str.join" (rJoin X.K) := by
  intro pins s σ H x vs v us Q I rx rv h
  obtain ⟨p, ls, rfl, rfl, hS, hz, q⟩ := h
  obtain ⟨t, rfl⟩ := rx
  obtain ⟨u, rfl, ru⟩ := rv.one
  cases ru
  obtain ⟨its, r, pl, _⟩ := I.list hS
  refine join_list pl.isList (by simpa using strsAre_of r) (by rw [sum_tx, tx_length, List.length_nil, Nat.mul_zero, Nat.add_zero]; exact Nat.le_trans hz (by decide)) fun t' k => ⟨.str (tx ls.flatten), H, I.tok k, ⟨t', ?_⟩, q⟩
  have e : Txt.join (tx []) (ls.map tx) = tx ls.flatten := by
    have z := join_plain_closes (tx []) (ls.map tx)
    rw [← join_is]
    exact eq_of_beq z
  rw [e]
def rFind : V → List V → Hp → VK → Prop := fun x vs H Q => ∃ z y, x = .str z ∧ vs = [.str y] ∧ Q (.int (Txt.find z y)) H
theorem mt_find : MtM X "str.find" rFind := by
  intro pins s σ H x vs v us Q I rx rv h
  obtain ⟨z, y, rfl, rfl, q⟩ := h
  obtain ⟨t, rfl⟩ := rx
  obtain ⟨u, rfl, ru⟩ := rv.one
  obtain ⟨t', rfl⟩ := ru
  exact SC.find ⟨.int _, H, I.tok _, ⟨_, rfl⟩, q⟩
def rCount : V → List V → Hp → VK → Prop := fun x vs H Q => ∃ z y, x = .str z ∧ vs = [.str y] ∧ Q (.int (Txt.count z y)) H
theorem mt_count : MtM X "str.count" rCount := by
  intro pins s σ H x vs v us Q I rx rv h
  obtain ⟨z, y, rfl, rfl, q⟩ := h
  obtain ⟨t, rfl⟩ := rx
  obtain ⟨u, rfl, ru⟩ := rv.one
  obtain ⟨t', rfl⟩ := ru
  exact SC.count ⟨.int _, H, I.tok _, ⟨_, rfl⟩, q⟩
def rStarts : V → List V → Hp → VK → Prop := fun x vs H Q => ∃ l m : List Nat, x = .str (tx l) ∧ vs = [.str (tx m)] ∧ Q (.bl (decide (m <+: l))) H
theorem starts_is (l m : List Nat) : Txt.startswith (tx l) (tx m) = decide (m <+: l) := by
  unfold Txt.startswith Builtin.Str.subAt
  rw [tx_length, tx_length, Nat.zero_add]
  have e : (tx l).cps.extract 0 m.length = (l.take m.length).toArray := by simp [tx]
  rw [e]
  by_cases h : m <+: l
  · rw [decide_eq_true h, decide_eq_true h.length_le]
    have := (List.prefix_iff_eq_take.mp h)
    simp [tx, ← this]
  · rw [decide_eq_false h]
    by_cases hl : m.length ≤ l.length
    · rw [decide_eq_true hl]
      have : ¬ l.take m.length = m := fun z => h (List.prefix_iff_eq_take.mpr z.symm)
      simp [tx, this]
    · rw [decide_eq_false hl]
      rfl
theorem mt_starts : MtM X "str.startswith" rStarts := by
  intro pins s σ H x vs v us Q I rx rv h
  obtain ⟨l, m, rfl, rfl, q⟩ := h
  obtain ⟨t, rfl⟩ := rx
  obtain ⟨u, rfl, ru⟩ := rv.one
  obtain ⟨t', rfl⟩ := ru
  exact SC.startswith ⟨.bl _, H, I, rfl, by rw [starts_is]; exact q⟩
end
/-! ### for c in text -/
def Its (l : List Nat) : It := ⟨fun i _ => i < l.length, fun i H x H' => H' = H ∧ ∃ c, l[i]? = some c ∧ x = .str (tx [c]), fun i _ => l.length ≤ i⟩
theorem turn_str {P : Program} {w : World} {K : PySem.W.Frag} {tg : Expr} {l : List Nat} {ty : String} {t : Tok} (it : Addr) (hty : ty = "str_ascii_iterator" ∨ ty = "str_iterator") : Turn P w K tg (Its l) [it] it (fun i h => h.IsStrIter it ty (tx l) t i) := by
  have wk : ∀ A : Around, A.handled = none → Walks P w A it [it] [it] (tx l).cps.size (SignAt (tx l)) (fun i h => h.IsStrIter it ty (tx l) t i) := fun A hA => by
    rcases hty with e | e
    · subst e; exact Walks.strAscii hA it (tx l) t
    · subst e; exact Walks.strWide hA it (tx l) t
  have hsz : (tx l).cps.size = l.length := by simp [tx]
  have nin : ["enumerate", "zip", "dict_itemiterator", "dict_reverseitemiterator", "odict_iterator", "itertools.zip_longest", "itertools.pairwise"].contains ty = false := by rcases hty with e | e <;> subst e <;> decide
  exact {
    mem := by simp
    obj := fun i h st b hb => by
      have e : b = it := by simpa using hb
      subst e
      obtain ⟨o, e, c, d⟩ := st
      exact ⟨o, e, fun v z => by rw [d] at z; cases z⟩
    keep := fun i h h' st k => by
      obtain ⟨o, e, r⟩ := st
      exact ⟨o, k it (by simp) o e, r⟩
    item := by
      intro X hP hw hK hc i pins s σ H E I hf st hg
      subst hP hw hK
      obtain ⟨f0, f1, f2, f3, f4, f5⟩ := hf it (by simp)
      refine (wk X.A (I.ok.hd hc)).item i s _ _ (by rw [hsz]; exact hg) st fun v h' tk hv st' kk => ?_
      obtain ⟨c, u, hcu, rfl⟩ := hv
      have I1 : Inv X pins σ H { s with heap := h', toks := tk } := I.turned (fun b o hb e => kk b o (by simpa using hb) e) f0 f1 f3 f4 f5
      obtain ⟨o, e, oc, od⟩ := id st'
      refine ⟨_, rfl, go_of (s := { s with heap := h', toks := tk }) e oc od nin ⟨.str (tx [c]), H, I1, ⟨u, rfl⟩, ⟨rfl, c, by simpa [tx] using hcu, rfl⟩, st', fun b hb => (hf b hb).1⟩⟩
    done := by
      intro X hP hw hK hc i pins s σ H E I hf st hg
      subst hP hw hK
      obtain ⟨f0, f1, f2, f3, f4, f5⟩ := hf it (by simp)
      have hi : l.length ≤ i := hg
      rcases hty with e | e
      · subst e
        exact wpAny_pyNext_ascii_end (I.ok.hd hc) st (by simp [tx]; omega) fun h' eb => ⟨rfl, I.turned (t' := s.toks) (fun b o hb e => eb b o hb e) f0 f1 f3 f4 f5⟩
      · subst e
        exact wpAny_pyNext_wide_end (I.ok.hd hc) st (by simp [tx]; omega) fun h' eb => ⟨rfl, I.turned (t' := s.toks) (fun b o hb e => eb b o hb e) f0 f1 f3 f4 f5⟩
    self := fun A i s Q E st h => by
      rcases hty with e | e
      · subst e; exact wpAny_pyIter_striter_ascii st h
      · subst e; exact wpAny_pyIter_striter_wide st h }
section
variable {X : Cx} {tg : Expr}
def iStr (tl : TE) : TI := fun σ H R => tl σ H fun x H1 => ∃ l, x = .str (tx l) ∧ R (Its l) H1
theorem pi_str {e : Expr} {tl : TE} (hl : PE X e tl) : PI X tg e (iStr tl) := by
  intro pins s σ H R I h
  refine thn (hl pins s σ H _ I h) fun v s1 ⟨x, H1, I1, r1, q1⟩ => ?_
  obtain ⟨l, rfl, q⟩ := q1
  obtain ⟨t, rfl⟩ := r1
  refine wpAny_pyIter_strU ?_
  have hty : strIterType (tx l) = "str_ascii_iterator" ∨ strIterType (tx l) = "str_iterator" := by
    unfold strIterType
    split
    · exact .inl rfl
    · exact .inr rfl
  refine ⟨s1.heap.objs.size, [s1.heap.objs.size], _, _, H1, rfl, I1.kept (t' := s1.toks) fun b o e => Heap.get?_push_of_some _ e, turn_str (t := t) _ hty, ⟨_, Heap.get?_push_size _ rfl, rfl, rfl⟩, fun b hb => ?_, q⟩
  have e : b = s1.heap.objs.size := by simpa using hb
  subst e
  exact I1.fpOk (Nat.le_refl _) (I1.hok.fresh (Nat.le_refl _))
end
theorem for_str {l : List Nat} {g : TG} {tb : TS} {D : Ends} {σ : St} {H : Hp} (Pv : Nat → St → Hp → Prop) (h0 : Pv 0 σ H)
    (hs : ∀ (i c : Nat) σ H, l[i]? = some c → Pv i σ H → g (.str (tx [c])) σ H fun σ2 H2 => tb { D with nx := Pv (i + 1), ct := Pv (i + 1), bk := D.nx } σ2 H2) (hd : ∀ σ H, Pv l.length σ H → D.nx σ H) :
    ∃ W : Nat → Nat → St → Hp → Prop, (∃ m, W 0 m σ H) ∧ ∀ i m σ H, W i m σ H →
      ((Its l).stop i H ∧ D.nx σ H) ∨ ((Its l).go i H ∧ ∃ N : St → Hp → Prop, (∀ σ' H', N σ' H' → ∃ m', m' < m ∧ W (i + 1) m' σ' H') ∧ ∀ x H', (Its l).yld i H x H' → g x σ H' fun σ2 H2 => tb { D with nx := N, ct := N, bk := D.nx } σ2 H2) := by
  refine ⟨fun i m σ H => m = l.length - i ∧ i ≤ l.length ∧ Pv i σ H, ⟨l.length, by simp, Nat.zero_le _, h0⟩, ?_⟩
  rintro i m σ H ⟨rfl, hi, p⟩
  by_cases hlt : i < l.length
  · refine .inr ⟨hlt, Pv (i + 1), fun σ' H' p' => ⟨l.length - (i + 1), by omega, rfl, hlt, p'⟩, fun x H' y => ?_⟩
    obtain ⟨e, c, hc, rfl⟩ := y
    subst e
    exact hs i c σ _ hc p
  · have e : i = l.length := by omega
    subst e
    exact .inl ⟨Nat.le_refl _, hd σ H p⟩
end L2
set_option Elab.async false
set_option linter.all false
set_option maxRecDepth 100000
/-! range(a, b) of whole numbers of any size; comprehensions over texts -/
namespace L2
open PySem PySem.Spec PyProof.Rows
theorem turn_long {P : Program} {w : World} {K : PySem.W.Frag} {tg : Expr} (it : Addr) (lo : Int) (n : Nat) : Turn P w K tg (Itr lo n) [it] it (fun i h => IsLongIter h it (lo + (i : Nat) * 1) ((n : Int) - (i : Nat)) 1) where
  mem := by simp
  obj := fun i h st b hb => by
    have e : b = it := by simpa using hb
    subst e
    exact ⟨_, st, fun v z => by
      have z' : Data.fields _ = Data.cell v := z
      cases z'⟩
  keep := fun i h h' st k => k it (by simp) _ st
  item := by
    intro X hP hw hK hc i pins s σ H E I hf st hg
    subst hP hw hK
    obtain ⟨f0, f1, f2, f3, f4, f5⟩ := hf it (by simp)
    have W := Walks.longrange (prog := X.prog) (w := X.w) (I.ok.hd hc) it lo 1 n
    refine W.item i s _ _ hg st fun v h' tk hv st' kk => ?_
    obtain ⟨t, rfl⟩ := hv
    have I1 : Inv X pins σ H { s with heap := h', toks := tk } := I.turned (fun b o hb e => kk b o (by simpa using hb) e) f0 f1 f3 f4 f5
    refine ⟨_, rfl, go_of (s := { s with heap := h', toks := tk }) (n := "longrange_iterator") st' rfl rfl (by decide) ⟨.int (lo + i), H, I1, ⟨t, ?_⟩, ⟨rfl, rfl⟩, st', fun b hb => (hf b hb).1⟩⟩
    rw [Int.mul_one]
  done := by
    intro X hP hw hK hc i pins s σ H E I hf st hg
    subst hP hw hK
    obtain ⟨f0, f1, f2, f3, f4, f5⟩ := hf it (by simp)
    exact wpAny_pyNext_long_end (I.ok.hd hc) st (by have : n ≤ i := hg; omega) fun h' eb => ⟨rfl, I.turned (t' := s.toks) (fun b o hb e => eb b o hb e) f0 f1 f3 f4 f5⟩
  self := fun _ _ _ _ _ st h => wpAny_pyIter_longiter st h
section
variable {X : Cx} {tg : Expr}
theorem range_itB {pins : List (Addr × Obj)} {σ : St} {H : Hp} {s : Shared} {R : It → Hp → Prop} {E : Value → Shared → Prop} {lo hi : Int} {t u v : Tok} {tk : Nat} (I : Inv X pins σ H s)
    (q : R (Itr lo (hi - lo).toNat) H) : wpAny (model X.prog X.w) X.A (pyIter (.ref s.heap.objs.size)) (PIE X pins σ tg R) E { s with heap := s.heap.push { cls := .type "range", data := .fields #[.int lo t, .int hi u, .int 1 v] }, toks := tk } := by
  have I1 : Inv X pins σ H { s with heap := s.heap.push { cls := .type "range", data := .fields #[.int lo t, .int hi u, .int 1 v] }, toks := tk } := I.kept fun b o e => Heap.get?_push_of_some _ e
  have e1 : lo + ((0 : Nat) : Int) * 1 = lo := by simp
  have e2 : (((hi - lo).toNat : Nat) : Int) - ((0 : Nat) : Int) = Builtin.Range.rangeSize lo hi 1 := by rw [rangeSize_one]; split <;> omega
  cases hsm : Builtin.Range.small lo hi 1 with
  | true =>
    refine wpAny_pyIter_range (IsRange.new ..) hsm ?_
    refine ⟨(s.heap.push { cls := .type "range", data := .fields #[.int lo t, .int hi u, .int 1 v] }).objs.size, [(s.heap.push { cls := .type "range", data := .fields #[.int lo t, .int hi u, .int 1 v] }).objs.size], _, _, H, rfl,
      I1.kept (t' := tk) fun b o e => Heap.get?_push_of_some _ e, turn_range _ lo (hi - lo).toNat, ?_, fun b hb => ?_, q⟩
    · show IsRangeIter _ _ (lo + ((0 : Nat) : Int) * 1) ((((hi - lo).toNat : Nat) : Int) - ((0 : Nat) : Int)) 1
      rw [e1, e2]
      exact Heap.get?_push_size _ rfl
    · have e : b = (s.heap.push { cls := .type "range", data := .fields #[.int lo t, .int hi u, .int 1 v] }).objs.size := by simpa using hb
      subst e
      exact I1.fpOk (Nat.le_refl _) (I1.hok.fresh (Nat.le_refl _))
  | false =>
    refine wpAny_pyIter_longrange (IsRange.new ..) hsm ?_
    refine ⟨(s.heap.push { cls := .type "range", data := .fields #[.int lo t, .int hi u, .int 1 v] }).objs.size, [(s.heap.push { cls := .type "range", data := .fields #[.int lo t, .int hi u, .int 1 v] }).objs.size], _, _, H, rfl,
      I1.kept (t' := tk) fun b o e => Heap.get?_push_of_some _ e, turn_long _ lo (hi - lo).toNat, ?_, fun b hb => ?_, q⟩
    · show IsLongIter _ _ (lo + ((0 : Nat) : Int) * 1) ((((hi - lo).toNat : Nat) : Int) - ((0 : Nat) : Int)) 1
      rw [e1, e2]
      exact Heap.get?_push_size _ rfl
    · have e : b = (s.heap.push { cls := .type "range", data := .fields #[.int lo t, .int hi u, .int 1 v] }).objs.size := by simpa using hb
      subst e
      exact I1.fpOk (Nat.le_refl _) (I1.hok.fresh (Nat.le_refl _))
def iRngB (ta : TA) : TI := fun σ H R => ta σ H fun vs H1 => ∃ i j : Int, vs = [.int i, .int j] ∧ R (Itr i (j - i).toNat) H1
theorem pi_rangeB {a b : Expr} {ta : TA} {p pos : Pos} (hg : Gl X "range") (hm : X.mg "range" = none) (ha : PA X [a, b] ta) (hs : starEach [a, b] X.env = [(false, eval a X.env), (false, eval b X.env)] := by rfl) (hs2 : starEach [b] X.env = [(false, eval b X.env)] := by rfl) :
    PI X tg (.Call (.Name "range" p) [a, b] [] pos) (iRngB ta) := by
  intro pins s σ H R I h
  refine Call_ (ld_blt I hg hm boot_range (PyProof.Rows.callWith_type1 (thn (ha pos pins s σ H _ I h) fun us s1 ⟨vs, H1, I1, r1, q1⟩ => ?_) (by rw [hs, hs2]) (by rw [hs2]; rfl)))
  obtain ⟨i, j, e, q⟩ := q1
  subst e
  cases r1 with
  | cons r rr =>
    cases rr with
    | cons r' rr =>
      cases rr
      obtain ⟨t, rfl⟩ := r
      obtain ⟨t', rfl⟩ := r'
      exact call_range_2 (range_itB I1 q)
end
/-- over a text -/
theorem comp_str {l : List Nat} {f : Nat → V} {p : Nat → Bool} {ns : List Nat} {tt : TT} {te : TE} {σ : St} {H1 : Hp} {Q : VK} (hz : l.length ≤ sizeLine)
    (htest : ∀ (i c : Nat) H' (R : Bool → Hp → Prop), l[i]? = some c → Same H1 H' → (∀ H'', Same H' H'' → R (p i) H'') → tt (slotsC ns σ (some (.str (tx [c])))) H' R)
    (helt : ∀ (i c : Nat) H' (R : VK), l[i]? = some c → p i = true → Same H1 H' → (∀ H'', Same H' H'' → R (f i) H'') → te (slotsC ns σ (some (.str (tx [c])))) H' R)
    (q : ∀ D H', H1 D = none → Same H1 H' → H' D = some (.lst (resC l.length p f)) → Q (.ref D) H') :
    CompOk (Its l) ns tt te σ H1 Q := by
  have get : ∀ i, i < l.length → l[i]? = some (l.getD i 0) := fun i hi => by rw [List.getD_eq_getElem?_getD, List.getElem?_eq_getElem hi]; rfl
  refine comp_go (x := fun i => .str (tx [l.getD i 0])) (f := f) (p := p) hz (fun _ _ => Nat.le_refl _) (fun _ _ hi _ => hi) (fun i H' v H'' hi h y => ⟨y.1, ?_⟩)
    (fun i H' R hi h k => htest i _ H' R (get i hi) h k) (fun i H' R hi hp h k => helt i _ H' R (get i hi) hp h k) q
  obtain ⟨c, hc, rfl⟩ := y.2
  rw [get i hi] at hc
  rw [Option.some.inj hc]
end L2
set_option linter.all false
namespace Tw
/-! ### marks -/
def mk : Nat → Int
  | 0 => 1
  | 1 => 2
  | n + 2 => mk (n + 1) + mk n
theorem mk_step (n : Nat) : mk (n + 2) = mk (n + 1) + mk n := by rw [mk]
theorem mk_pos2 : ∀ n : Nat, 1 ≤ mk n ∧ 1 ≤ mk (n + 1) ∧ mk n < mk (n + 1)
  | 0 => by decide
  | n + 1 => by
    have h := mk_pos2 n
    have e := mk_step n
    refine ⟨h.2.1, ?_, ?_⟩ <;> (show _ ; rw [show n + 1 + 1 = n + 2 from rfl, e]; omega)
theorem mk_pos (n : Nat) : 1 ≤ mk n := (mk_pos2 n).1
theorem mk_lt (n : Nat) : mk n < mk (n + 1) := (mk_pos2 n).2.2
theorem mk_mono {a b : Nat} (h : a ≤ b) : mk a ≤ mk b := by
  induction b with
  | zero => have : a = 0 := by omega
            subst this; exact Int.le_refl _
  | succ b ih =>
    rcases Nat.lt_or_ge b a with hb | hb
    · have : a = b + 1 := by omega
      subst this; exact Int.le_refl _
    · have := ih hb
      have := mk_lt b
      omega
theorem mk_gt (n : Nat) : (n : Int) < mk n := by
  induction n with
  | zero => decide
  | succ n ih =>
    have := mk_lt n
    omega
def ms (n : Nat) : List Int := (List.range n).map mk
theorem ms_length (n : Nat) : (ms n).length = n := by simp [ms]
theorem ms_get {n i : Nat} (h : i < n) : (ms n)[i]? = some (mk i) := by simp [ms, h]
theorem ms_succ (n : Nat) : ms (n + 1) = ms n ++ [mk n] := by simp [ms, List.range_succ]
theorem ms_two : ms 2 = [1, 2] := by decide
theorem ms_more (n : Nat) : ms (n + 2) ++ [mk (n + 1) + mk n] = ms (n + 2 + 1) := by rw [ms_succ (n + 2), mk_step]
theorem ms_take {m n : Nat} (h : m ≤ n) : (ms n).take m = ms m := by
  unfold ms
  rw [← List.map_take, List.take_range, Nat.min_eq_left h]
/-! ### rows -/
def wth (R : List Nat) : Int := (R.map mk).sum
theorem wth_nil : wth [] = 0 := rfl
theorem wth_cons (x : Nat) (R : List Nat) : wth (x :: R) = mk x + wth R := by simp [wth]
theorem wth_app (R S : List Nat) : wth (R ++ S) = wth R + wth S := by simp [wth]
theorem wth_snoc (x : Nat) (R : List Nat) : wth (R ++ [x]) = wth R + mk x := by simp [wth]
theorem wth_nn (R : List Nat) : 0 ≤ wth R := by
  induction R with
  | nil => exact Int.le_refl _
  | cons x R ih => rw [wth_cons]; have := mk_pos x; omega
def TW (R : List Nat) : Prop := R.Pairwise (fun a b => a + 2 ≤ b)
theorem TW_nil : TW [] := List.Pairwise.nil
theorem TW_cons {x : Nat} {R : List Nat} : TW (x :: R) ↔ (∀ y ∈ R, x + 2 ≤ y) ∧ TW R := List.pairwise_cons
theorem TW_snoc {x : Nat} {R : List Nat} : TW (R ++ [x]) ↔ TW R ∧ ∀ y ∈ R, y + 2 ≤ x := by
  unfold TW
  rw [List.pairwise_append]
  constructor
  · rintro ⟨h1, _, h3⟩
    exact ⟨h1, fun y hy => h3 y hy x (by simp)⟩
  · rintro ⟨h1, h2⟩
    exact ⟨h1, List.pairwise_singleton _ _, fun a ha b hb => by
      have e : b = x := by simpa using hb
      subst e
      exact h2 a ha⟩
theorem snoc_cases (R : List Nat) : R = [] ∨ ∃ S x, R = S ++ [x] := by
  rcases List.eq_nil_or_concat R with h | ⟨S, x, h⟩
  · exact .inl h
  · exact .inr ⟨S, x, by simpa using h⟩
/-- a twinless row of places below n comes to less than mark n -/
theorem wth_lt : ∀ (k : Nat) (R : List Nat) (n : Nat), R.length ≤ k → TW R → (∀ x ∈ R, x < n) → wth R < mk n
  | 0, R, n, hl, _, _ => by
    have : R = [] := List.eq_nil_of_length_eq_zero (by omega)
    subst this
    have := mk_pos n
    rw [wth_nil]; omega
  | k + 1, R, n, hl, ht, hb => by
    rcases snoc_cases R with rfl | ⟨S, m, rfl⟩
    · have := mk_pos n
      rw [wth_nil]; omega
    · obtain ⟨hs, hg⟩ := TW_snoc.mp ht
      have hm : m < n := hb m (by simp)
      have hl' : S.length ≤ k := by simp at hl; omega
      rw [wth_snoc]
      cases m with
      | zero =>
        have : S = [] := by
          cases S with
          | nil => rfl
          | cons y S => have := hg y (by simp); omega
        subst this
        rw [wth_nil]
        have h1 : mk 1 ≤ mk n := mk_mono (by omega)
        have h2 : mk 1 = 2 := rfl
        have h3 : mk 0 = 1 := rfl
        omega
      | succ m =>
        have ih := wth_lt k S m hl' hs (fun x hx => by have := hg x hx; omega)
        have h1 : mk (m + 2) ≤ mk n := mk_mono (by omega)
        have h2 := mk_step m
        omega
theorem wth_below {R : List Nat} {n : Nat} (ht : TW R) (hb : ∀ x ∈ R, x < n) : wth R < mk n := wth_lt R.length R n (Nat.le_refl _) ht hb
/-- the greatest marks first -/
def gr : Nat → Int → List Nat
  | 0, _ => []
  | n + 1, r => if mk n ≤ r then gr n (r - mk n) ++ [n] else gr n r
theorem gr_pos {n : Nat} {r : Int} (h : mk n ≤ r) : gr (n + 1) r = gr n (r - mk n) ++ [n] := by rw [gr, if_pos h]
theorem gr_neg {n : Nat} {r : Int} (h : ¬ mk n ≤ r) : gr (n + 1) r = gr n r := by rw [gr, if_neg h]
theorem gr_lt : ∀ (n : Nat) (r : Int), ∀ x ∈ gr n r, x < n
  | 0, r, x, h => by simp [gr] at h
  | n + 1, r, x, h => by
    by_cases c : mk n ≤ r
    · rw [gr_pos c] at h
      rcases List.mem_append.mp h with h | h
      · have := gr_lt n _ x h; omega
      · have : x = n := by simpa using h
        omega
    · rw [gr_neg c] at h
      have := gr_lt n _ x h; omega
theorem gr_le {n m : Nat} {r : Int} (h : r < mk n) (hm : n ≤ m) : gr m r = gr n r := by
  induction m with
  | zero => have : n = 0 := by omega
            subst this; rfl
  | succ m ih =>
    rcases Nat.lt_or_ge m n with hb | hb
    · have : n = m + 1 := by omega
      subst this; rfl
    · have := mk_mono hb
      rw [gr_neg (by omega), ih hb]
theorem gr_ok : ∀ (n : Nat) (r : Int), 0 ≤ r → r < mk n → TW (gr n r) ∧ wth (gr n r) = r
  | 0, r, h0, h => by
    have : r = 0 := by have : mk 0 = 1 := rfl
                       omega
    subst this
    exact ⟨TW_nil, rfl⟩
  | n + 1, r, h0, h => by
    by_cases c : mk n ≤ r
    · rw [gr_pos c]
      cases n with
      | zero =>
        have h1 : mk 1 = 2 := rfl
        have h2 : mk 0 = 1 := rfl
        have : r = 1 := by have : mk (0 + 1) = 2 := rfl
                           omega
        subst this
        have e : gr 0 (1 - mk 0) = [] := rfl
        rw [e]
        exact ⟨List.pairwise_singleton _ _, rfl⟩
      | succ n =>
        have e := mk_step n
        have hr : r - mk (n + 1) < mk n := by
          have : mk (n + 1 + 1) = mk (n + 2) := rfl
          omega
        have e2 := gr_le (n := n) (m := n + 1) hr (by omega)
        obtain ⟨t, q⟩ := gr_ok n (r - mk (n + 1)) (by omega) hr
        rw [e2]
        refine ⟨TW_snoc.mpr ⟨t, fun y hy => ?_⟩, by rw [wth_snoc, q]; omega⟩
        have := gr_lt n _ y hy
        omega
    · rw [gr_neg c]
      exact gr_ok n r h0 (by omega)
theorem gr_one : ∀ (n : Nat) (R : List Nat), TW R → (∀ x ∈ R, x < n) → gr n (wth R) = R
  | 0, R, _, hb => by
    cases R with
    | nil => rfl
    | cons x R => have := hb x (by simp); omega
  | n + 1, R, ht, hb => by
    by_cases c : n ∈ R
    · rcases snoc_cases R with rfl | ⟨S, m, rfl⟩
      · simp at c
      · obtain ⟨hs, hg⟩ := TW_snoc.mp ht
        have em : m = n := by
          rcases List.mem_append.mp c with c | c
          · have := hg n c
            have := hb m (by simp)
            omega
          · have : n = m := by simpa using c
            omega
        subst em
        have hw := wth_nn S
        rw [wth_snoc, gr_pos (by omega), show wth S + mk m - mk m = wth S by omega, gr_one m S hs (fun x hx => by have := hg x hx; omega)]
    · have hb' : ∀ x ∈ R, x < n := fun x hx => by
        have h1 := hb x hx
        have h2 : x ≠ n := fun e => c (e ▸ hx)
        omega
      have := wth_below ht hb'
      rw [gr_neg (by omega), gr_one n R ht hb']
/-- the twinless row of a number -/
def zk (r : Int) : List Nat := gr r.toNat r
theorem lt_mk_toNat {r : Int} (h0 : 0 ≤ r) : r < mk r.toNat := by have := mk_gt r.toNat; omega
theorem gr_zk {n : Nat} {r : Int} (h0 : 0 ≤ r) (h : r < mk n) : gr n r = zk r := by
  unfold zk
  rcases Nat.le_total n r.toNat with c | c
  · exact (gr_le h c).symm
  · exact gr_le (lt_mk_toNat h0) c
theorem zk_tw {r : Int} (h0 : 0 ≤ r) : TW (zk r) := (gr_ok _ r h0 (lt_mk_toNat h0)).1
theorem zk_wth {r : Int} (h0 : 0 ≤ r) : wth (zk r) = r := (gr_ok _ r h0 (lt_mk_toNat h0)).2
theorem zk_lt {r : Int} {n : Nat} (h0 : 0 ≤ r) (h : r < mk n) : ∀ x ∈ zk r, x < n := by
  rw [← gr_zk h0 h]; exact gr_lt n r
theorem lt_of_all {R : List Nat} : ∃ n, ∀ x ∈ R, x < n := by
  induction R with
  | nil => exact ⟨0, fun _ h => nomatch h⟩
  | cons y R ih =>
    obtain ⟨n, h⟩ := ih
    refine ⟨max n (y + 1), fun x hx => ?_⟩
    rcases List.mem_cons.mp hx with e | hx
    · omega
    · have := h x hx; omega
theorem zk_one {R : List Nat} (h : TW R) : zk (wth R) = R := by
  obtain ⟨n, hn⟩ := lt_of_all (R := R)
  rw [← gr_zk (wth_nn R) (wth_below h hn)]
  exact gr_one n R h hn
theorem zk_ne {r : Int} (h : 1 ≤ r) : zk r ≠ [] := fun e => by
  have := zk_wth (r := r) (by omega)
  rw [e, wth_nil] at this
  omega
theorem zk_zero : zk 0 = [] := rfl
/-! ### one more -/
def up (s : Nat) (R : List Nat) : List Nat := R.map (· + s)
theorem up_cons (s x : Nat) (R : List Nat) : up s (x :: R) = (x + s) :: up s R := rfl
theorem up_tw {s : Nat} {R : List Nat} (h : TW R) : TW (up s R) := by
  unfold up TW
  rw [List.pairwise_map]
  exact List.Pairwise.imp (fun h => by omega) h
theorem carry : ∀ (R : List Nat) (j : Nat), TW R → (∀ x ∈ R, j + 1 ≤ x) → ∃ y S, TW (y :: S) ∧ wth (y :: S) = wth R + mk j ∧ wth (up 1 (y :: S)) = wth (up 1 R) + mk (j + 1) ∧ j ≤ y ∧ y % 2 = j % 2
  | [], j, _, _ => ⟨j, [], List.pairwise_singleton _ _, by rw [wth_cons]; omega, by rw [up_cons, wth_cons]; show mk (j + 1) + 0 = 0 + mk (j + 1); omega, Nat.le_refl _, rfl⟩
  | x :: T, j, ht, hb => by
    obtain ⟨hg, ht'⟩ := TW_cons.mp ht
    have hx := hb x (by simp)
    by_cases c : x = j + 1
    · subst c
      obtain ⟨y, S, h1, h2, h3, h4, h5⟩ := carry T (j + 2) ht' (fun z hz => by have := hg z hz; omega)
      refine ⟨y, S, h1, ?_, ?_, by omega, by omega⟩
      · rw [h2, wth_cons, mk_step]; omega
      · rw [h3, up_cons, wth_cons, show j + 2 + 1 = (j + 1) + 2 from rfl, mk_step]; show _ = mk (j + 1 + 1) + _ + _; omega
    · refine ⟨j, x :: T, TW_cons.mpr ⟨fun z hz => ?_, ht⟩, by rw [wth_cons]; omega, by rw [up_cons, wth_cons]; omega, Nat.le_refl _, rfl⟩
      rcases List.mem_cons.mp hz with e | hz
      · omega
      · have := hg z hz; omega
/-- the least place -/
def hd (R : List Nat) : Nat := R.headD 0
/-- S: the worth one place up -/
def sh (r : Int) : Int := wth (up 1 (zk r))
theorem zk_shape (r : Int) (h0 : 0 ≤ r) : (∀ x ∈ zk r, 1 ≤ x) ∨ ∃ T, zk r = 0 :: T ∧ (∀ x ∈ T, 2 ≤ x) ∧ TW T := by
  have t := zk_tw h0
  cases e : zk r with
  | nil => exact .inl fun _ h => nomatch h
  | cons x T =>
    rw [e] at t
    obtain ⟨hg, ht⟩ := TW_cons.mp t
    cases x with
    | zero => exact .inr ⟨T, rfl, fun y hy => by have := hg y hy; omega, ht⟩
    | succ x =>
      refine .inl fun y hy => ?_
      rcases List.mem_cons.mp hy with e | hy
      · omega
      · have := hg y hy; omega
theorem next_low {r : Int} (h0 : 0 ≤ r) (h : ∀ x ∈ zk r, 1 ≤ x) : hd (zk (r + 1)) % 2 = 0 ∧ sh (r + 1) = sh r + 2 := by
  obtain ⟨y, S, h1, h2, h3, h4, h5⟩ := carry (zk r) 0 (zk_tw h0) h
  have e : zk (r + 1) = y :: S := by
    rw [← zk_one h1, h2, zk_wth h0]; rfl
  unfold sh
  rw [e]
  exact ⟨by show y % 2 = 0; omega, by rw [h3]; rfl⟩
theorem next_high {r : Int} {T : List Nat} (h0 : 0 ≤ r) (e0 : zk r = 0 :: T) (hb : ∀ x ∈ T, 2 ≤ x) (ht : TW T) : hd (zk (r + 1)) % 2 = 1 ∧ sh (r + 1) = sh r + 1 := by
  obtain ⟨y, S, h1, h2, h3, h4, h5⟩ := carry T 1 ht hb
  have hw := zk_wth h0
  rw [e0, wth_cons] at hw
  have m0 : mk 0 = 1 := rfl
  have m1 : mk 1 = 2 := rfl
  have m2 : mk 2 = 3 := rfl
  have e : zk (r + 1) = y :: S := by
    rw [← zk_one h1, h2, show wth T + mk 1 = r + 1 by omega]
  unfold sh
  rw [e, e0]
  refine ⟨by show y % 2 = 1; omega, ?_⟩
  rw [h3, up_cons, wth_cons]
  show _ + mk 2 = mk 1 + _ + 1
  omega
theorem sh_step {r : Int} (h0 : 0 ≤ r) : sh (r + 1) = sh r + 1 ∨ sh (r + 1) = sh r + 2 := by
  rcases zk_shape r h0 with h | ⟨T, e, hb, ht⟩
  · exact .inr (next_low h0 h).2
  · exact .inl (next_high h0 e hb ht).2
theorem wth_up2 (R : List Nat) : wth (up 2 R) = wth (up 1 R) + wth R := by
  induction R with
  | nil => rfl
  | cons x R ih =>
    rw [up_cons, up_cons, wth_cons, wth_cons, wth_cons, ih, mk_step]; omega
/-! ### low and high -/
def lowN (c : Int) : Int := sh (c - 1) + 1
def highN (c : Int) : Int := lowN c + c
theorem zk_low {c : Int} (h : 1 ≤ c) : zk (lowN c - 1) = up 1 (zk (c - 1)) := by
  unfold lowN sh
  rw [show wth (up 1 (zk (c - 1))) + 1 - 1 = wth (up 1 (zk (c - 1))) by omega, zk_one (up_tw (zk_tw (by omega)))]
theorem zk_high {c : Int} (h : 1 ≤ c) : zk (highN c - 1) = 0 :: up 2 (zk (c - 1)) := by
  have t : TW (0 :: up 2 (zk (c - 1))) := TW_cons.mpr ⟨fun y hy => by
    obtain ⟨z, _, e⟩ := List.mem_map.mp hy
    omega, up_tw (zk_tw (by omega))⟩
  have e : wth (0 :: up 2 (zk (c - 1))) = highN c - 1 := by
    have m0 : mk 0 = 1 := rfl
    have q := zk_wth (r := c - 1) (by omega)
    rw [wth_cons, wth_up2, q, m0]
    unfold highN lowN sh
    omega
  rw [← e, zk_one t]
theorem sh_nn (r : Int) : 0 ≤ sh r := wth_nn _
theorem lowN_pos (c : Int) : 1 ≤ lowN c := by unfold lowN; have := sh_nn (c - 1); omega
/-- the row of a low number begins at an even place, that of a high one at an odd one -/
theorem low_even {c : Int} (h : 1 ≤ c) : hd (zk (lowN c)) % 2 = 0 := by
  have p := lowN_pos c
  have q := zk_low h
  have := (next_low (r := lowN c - 1) (by omega) (by
    rw [q]; intro x hx
    obtain ⟨z, _, e⟩ := List.mem_map.mp hx
    omega)).1
  rwa [show lowN c - 1 + 1 = lowN c by omega] at this
theorem high_odd {c : Int} (h : 1 ≤ c) : hd (zk (highN c)) % 2 = 1 := by
  have p : 1 ≤ highN c := by unfold highN; have := lowN_pos c; omega
  have q := zk_high h
  have := (next_high (r := highN c - 1) (by omega) q (by
    intro x hx
    obtain ⟨z, _, e⟩ := List.mem_map.mp hx
    omega) (up_tw (zk_tw (by omega)))).1
  rwa [show highN c - 1 + 1 = highN c by omega] at this
/-- places moved down -/
def dn (s : Nat) (R : List Nat) : List Nat := R.map (· - s)
theorem up_dn {s : Nat} : ∀ {R : List Nat}, (∀ x ∈ R, s ≤ x) → up s (dn s R) = R
  | [], _ => rfl
  | x :: R, h => by
    have hx := h x (by simp)
    show (x - s + s) :: up s (dn s R) = x :: R
    rw [up_dn fun y hy => h y (by simp [hy]), Nat.sub_add_cancel hx]
theorem dn_up (s : Nat) : ∀ (R : List Nat), dn s (up s R) = R
  | [] => rfl
  | x :: R => by
    show (x + s - s) :: dn s (up s R) = x :: R
    rw [dn_up s R, Nat.add_sub_cancel]
theorem dn_tw {s : Nat} {R : List Nat} (h : TW R) (hb : ∀ x ∈ R, s ≤ x) : TW (dn s R) := by
  have e : TW (up s (dn s R)) := by rw [up_dn hb]; exact h
  unfold TW up at e
  rw [List.pairwise_map] at e
  exact List.Pairwise.imp (fun h => by omega) e
/-- of a number whose row begins even: the low one of its count -/
theorem even_low {n : Int} (h : 1 ≤ n) (he : hd (zk n) % 2 = 0) : (∀ x ∈ zk (n - 1), 1 ≤ x) ∧ lowN (wth (dn 1 (zk (n - 1))) + 1) = n ∧ 1 ≤ wth (dn 1 (zk (n - 1))) + 1 := by
  rcases zk_shape (n - 1) (by omega) with hb | ⟨T, e, hb, ht⟩
  · refine ⟨hb, ?_, by have := wth_nn (dn 1 (zk (n - 1))); omega⟩
    unfold lowN sh
    rw [show wth (dn 1 (zk (n - 1))) + 1 - 1 = wth (dn 1 (zk (n - 1))) by omega, zk_one (dn_tw (zk_tw (by omega)) hb), up_dn hb, zk_wth (by omega)]
    omega
  · have := (next_high (r := n - 1) (by omega) e hb ht).1
    rw [show n - 1 + 1 = n by omega] at this
    omega
theorem odd_high {n : Int} (h : 1 ≤ n) (ho : ¬ hd (zk n) % 2 = 0) : ∃ T, zk (n - 1) = 0 :: T ∧ (∀ x ∈ T, 2 ≤ x) ∧ highN (wth (dn 2 T) + 1) = n ∧ 1 ≤ wth (dn 2 T) + 1 := by
  rcases zk_shape (n - 1) (by omega) with hb | ⟨T, e, hb, ht⟩
  · have := (next_low (r := n - 1) (by omega) hb).1
    rw [show n - 1 + 1 = n by omega] at this
    omega
  · refine ⟨T, e, hb, ?_, by have := wth_nn (dn 2 T); omega⟩
    have q := zk_wth (r := n - 1) (by omega)
    rw [e, wth_cons] at q
    have m0 : mk 0 = 1 := rfl
    have z := wth_up2 (dn 2 T)
    rw [up_dn hb] at z
    unfold highN lowN sh
    rw [show wth (dn 2 T) + 1 - 1 = wth (dn 2 T) by omega, zk_one (dn_tw ht hb)]
    omega
theorem low_step {c : Int} (h : 1 ≤ c) : lowN (c + 1) = lowN c + 1 ∨ lowN (c + 1) = lowN c + 2 := by
  unfold lowN
  have := sh_step (r := c - 1) (by omega)
  rw [show c - 1 + 1 = c by omega] at this
  rw [show c + 1 - 1 = c by omega]
  omega
theorem low_mono {a b : Int} (ha : 1 ≤ a) (h : a < b) : lowN a < lowN b := by
  have : ∀ k : Nat, lowN a < lowN (a + 1 + (k : Nat)) := by
    intro k
    induction k with
    | zero => have := low_step ha
              show lowN a < lowN (a + 1 + 0)
              rw [Int.add_zero]; omega
    | succ k ih =>
      have := low_step (c := a + 1 + (k : Nat)) (by omega)
      have e : a + 1 + ((k + 1 : Nat) : Int) = a + 1 + (k : Int) + 1 := by omega
      rw [e]; omega
  have q := this (b - a - 1).toNat
  rwa [show a + 1 + ((b - a - 1).toNat : Int) = b by omega] at q
theorem high_mono {a b : Int} (ha : 1 ≤ a) (h : a < b) : highN a < highN b := by
  have := low_mono ha h
  unfold highN; omega
/-! ### sizes -/
def fi : Nat → Int → Int → Int
  | 0, a, _ => a
  | n + 1, a, b => fi n b (b + a)
theorem fi_eq : ∀ (n k : Nat), fi n (mk k) (mk (k + 1)) = mk (k + n)
  | 0, k => rfl
  | n + 1, k => by
    have e := fi_eq n (k + 1)
    rw [fi, ← mk_step, show k + (n + 1) = k + 1 + n by omega]
    exact e
theorem mk_fi (n : Nat) : mk n = fi n 1 2 := by
  have e := fi_eq n 0
  rw [show 0 + n = n by omega] at e
  exact e.symm
theorem mk_double (n : Nat) : 2 * mk n ≤ mk (n + 2) := by
  rw [mk_step]
  have := mk_lt n
  omega
theorem mk_pow : ∀ k : Nat, (2 : Int) ^ k ≤ mk (2 * k)
  | 0 => by decide
  | k + 1 => by
    have h := mk_pow k
    have d := mk_double (2 * k)
    rw [show 2 * (k + 1) = 2 * k + 2 by omega, Int.pow_succ]
    omega
theorem mk_half {n : Nat} : mk (n + 1) ≤ 2 * mk n := by
  cases n with
  | zero => decide
  | succ n =>
    rw [mk_step]
    have := mk_lt n
    omega
theorem mk_ten (n : Nat) : 116 * mk (n + 1) ≤ mk (n + 11) := by
  have hp := mk_pos (n + 11)
  have h0 := mk_half (n := n)
  have e1 := mk_step n
  have e2 := mk_step (n + 1)
  have e3 := mk_step (n + 2)
  have e4 := mk_step (n + 3)
  have e5 := mk_step (n + 4)
  have e6 := mk_step (n + 5)
  have e7 := mk_step (n + 6)
  have e8 := mk_step (n + 7)
  have e9 := mk_step (n + 8)
  have e10 := mk_step (n + 9)
  simp only [Nat.add_assoc, Nat.reduceAdd] at *
  omega
theorem mk_tens : ∀ k : Nat, (116 : Int) ^ k ≤ mk (10 * k + 1)
  | 0 => by decide
  | k + 1 => by
    have h := mk_tens k
    have d := mk_ten (10 * k)
    rw [show 10 * (k + 1) + 1 = 10 * k + 11 by omega, Int.pow_succ]
    omega
theorem big80 : (10 : Int) ^ 80 < mk 391 := by
  have h := mk_tens 39
  have c : (10 : Int) ^ 80 < 116 ^ 39 := by decide +kernel
  exact Int.lt_of_lt_of_le c h
theorem big100 : (10 : Int) ^ 100 < mk 501 := by
  have h := mk_tens 50
  have c : (10 : Int) ^ 100 < 116 ^ 50 := by decide +kernel
  exact Int.lt_of_lt_of_le c h
/-! ### rows as whole numbers -/
def rz (R : List Nat) : List Int := R.map fun (k : Nat) => (k : Int)
theorem rz_length (R : List Nat) : (rz R).length = R.length := by simp [rz]
theorem rz_app (R S : List Nat) : rz (R ++ S) = rz R ++ rz S := by simp [rz]
theorem rz_rev (R : List Nat) : (rz R).reverse = rz R.reverse := by simp [rz]
theorem rz_up (s : Nat) (R : List Nat) : rz (up s R) = (rz R).map (· + (s : Int)) := by
  unfold rz up
  rw [List.map_map, List.map_map]
  apply List.map_congr_left
  intro x _
  show ((x + s : Nat) : Int) = (x : Int) + s
  omega
theorem rz_dn {s : Nat} {R : List Nat} (h : ∀ x ∈ R, s ≤ x) : rz (dn s R) = (rz R).map (· + (-(s : Int))) := by
  unfold rz dn
  rw [List.map_map, List.map_map]
  apply List.map_congr_left
  intro x hx
  have := h x hx
  show ((x - s : Nat) : Int) = (x : Int) + (-(s : Int))
  omega
def Asc (R : List Nat) : Prop := R.Pairwise (· < ·)
theorem TW.asc {R : List Nat} (h : TW R) : Asc R := List.Pairwise.imp (fun h => by omega) h
theorem Asc.last {S : List Nat} {x : Nat} (h : Asc (S ++ [x])) : ∀ y ∈ S ++ [x], y ≤ x := fun y hy => by
  rcases List.mem_append.mp hy with q | q
  · have := (List.pairwise_append.mp h).2.2 y q x (by simp)
    omega
  · have : y = x := by simpa using q
    omega
theorem tw_len : ∀ (k : Nat) (R : List Nat) (n : Nat), R.length ≤ k → Asc R → (∀ x ∈ R, x < n) → R.length ≤ n
  | 0, R, n, hl, _, _ => by omega
  | k + 1, R, n, hl, ht, hb => by
    rcases snoc_cases R with rfl | ⟨S, m, rfl⟩
    · simp
    · have hm : m < n := hb m (by simp)
      have hs : Asc S := (List.pairwise_append.mp ht).1
      have hl' : S.length ≤ k := by simp at hl; omega
      have := tw_len k S m hl' hs (fun x hx => (List.pairwise_append.mp ht).2.2 x hx m (by simp))
      simp
      omega
theorem asc_len {R : List Nat} {n : Nat} (h : Asc R) (hb : ∀ x ∈ R, x < n) : R.length ≤ n := tw_len R.length R n (Nat.le_refl _) h hb
theorem zk_len {r : Int} {n : Nat} (h0 : 0 ≤ r) (h : r < mk n) : (zk r).length ≤ n := asc_len (zk_tw h0).asc (zk_lt h0 h)
theorem up1_le : ∀ R : List Nat, wth R ≤ wth (up 1 R) ∧ wth (up 1 R) ≤ 2 * wth R
  | [] => by decide
  | x :: R => by
    have ih := up1_le R
    have h1 := mk_lt x
    have h2 := mk_half (n := x)
    rw [up_cons, wth_cons, wth_cons]
    omega
theorem low_le {c : Int} (h : 1 ≤ c) : c ≤ lowN c ∧ lowN c ≤ 2 * c := by
  have b := up1_le (zk (c - 1))
  have e := zk_wth (r := c - 1) (by omega)
  unfold lowN sh
  omega
theorem low_inj {a b : Int} (ha : 1 ≤ a) (hb : 1 ≤ b) (h : lowN a = lowN b) : a = b := by
  rcases Int.lt_trichotomy a b with c | c | c
  · have := low_mono ha c; omega
  · exact c
  · have := low_mono hb c; omega
theorem high_inj {a b : Int} (ha : 1 ≤ a) (hb : 1 ≤ b) (h : highN a = highN b) : a = b := by
  rcases Int.lt_trichotomy a b with c | c | c
  · have := high_mono ha c; omega
  · exact c
  · have := high_mono hb c; omega
/-- the count that is told -/
def cnt (n : Int) : Int := if hd (zk n) % 2 = 0 then wth (dn 1 (zk (n - 1))) + 1 else wth (dn 2 (zk (n - 1)).tail) + 1
theorem cnt_even {n : Int} (h : 1 ≤ n) (he : hd (zk n) % 2 = 0) : lowN (cnt n) = n ∧ 1 ≤ cnt n := by
  unfold cnt
  rw [if_pos he]
  exact (even_low h he).2
theorem cnt_odd {n : Int} (h : 1 ≤ n) (ho : ¬ hd (zk n) % 2 = 0) : highN (cnt n) = n ∧ 1 ≤ cnt n := by
  obtain ⟨T, e, _, q⟩ := odd_high h ho
  unfold cnt
  rw [if_neg ho, e]
  exact q
theorem cnt_le {n : Int} (h : 1 ≤ n) : 1 ≤ cnt n ∧ cnt n ≤ n := by
  by_cases he : hd (zk n) % 2 = 0
  · obtain ⟨q, p⟩ := cnt_even h he
    have := low_le p
    omega
  · obtain ⟨q, p⟩ := cnt_odd h he
    have := low_le p
    unfold highN at q
    omega
theorem cnt_low {c : Int} (h : 1 ≤ c) : cnt (lowN c) = c := by
  obtain ⟨q, p⟩ := cnt_even (n := lowN c) (lowN_pos c) (low_even h)
  exact low_inj p h q
theorem highN_pos {c : Int} (h : 1 ≤ c) : 1 ≤ highN c := by
  have := lowN_pos c
  unfold highN
  omega
theorem cnt_high {c : Int} (h : 1 ≤ c) : cnt (highN c) = c := by
  have ho := high_odd h
  obtain ⟨q, p⟩ := cnt_odd (n := highN c) (highN_pos h) (by omega)
  exact high_inj p h q
end Tw
set_option linter.all false
/-! the endless word -/
namespace Tw
/-- the sign at k: 97 a, 98 b -/
def sg (k : Int) : Nat := if 0 ∈ zk k then 98 else 97
def pc (k : Int) (n : Nat) : List Nat := (List.range n).map fun (i : Nat) => sg (k + i)
theorem pc_length (k : Int) (n : Nat) : (pc k n).length = n := by simp [pc]
theorem pc_succ (k : Int) (n : Nat) : pc k (n + 1) = pc k n ++ [sg (k + n)] := by simp [pc, List.range_succ]
theorem pc_take {k : Int} {m n : Nat} (h : m ≤ n) : (pc k n).take m = pc k m := by
  unfold pc
  rw [← List.map_take, List.take_range, Nat.min_eq_left h]
theorem pc_get {k : Int} {n i : Nat} (h : i < n) : (pc k n)[i]? = some (sg (k + i)) := by simp [pc, h]
theorem sg_ab (k : Int) : sg k = 97 ∨ sg k = 98 := by unfold sg; split <;> simp
theorem pc_ab {k : Int} {n c : Nat} (h : c ∈ pc k n) : c = 97 ∨ c = 98 := by
  obtain ⟨i, _, rfl⟩ := List.mem_map.mp h
  exact sg_ab _
def grow (l : List Nat) : List Nat := l.flatMap fun c => if c = 97 then [97, 98] else [97]
theorem grow_app (l m : List Nat) : grow (l ++ m) = grow l ++ grow m := by simp [grow, List.flatMap_append]
theorem zero_mem_low {r : Int} (h0 : 0 ≤ r) (h : ∀ x ∈ zk r, 1 ≤ x) : ¬ 0 ∈ zk r := fun z => by have := h 0 z; omega
theorem sg_a_iff {r : Int} (h0 : 0 ≤ r) : sg r = 97 ↔ ∀ x ∈ zk r, 1 ≤ x := by
  unfold sg
  constructor
  · intro h x hx
    rcases Nat.eq_zero_or_pos x with z | z
    · subst z
      rw [if_pos hx] at h
      cases h
    · exact z
  · intro h
    rw [if_neg (zero_mem_low h0 h)]
theorem sh_zero : sh 0 = 0 := rfl
/-- how far the word grows: the beginning of n signs grows to one of sh n signs -/
theorem sg_sh {r : Int} (h0 : 0 ≤ r) : sg (sh r) = 97 := by
  have e : zk (sh r) = up 1 (zk r) := by unfold sh; exact zk_one (up_tw (zk_tw h0))
  rw [sg_a_iff (sh_nn r), e]
  intro x hx
  obtain ⟨y, _, rfl⟩ := List.mem_map.mp hx
  omega
theorem sg_sh1 {r : Int} (h0 : 0 ≤ r) (ha : sg r = 97) : sg (sh r + 1) = 98 := by
  have hb := (sg_a_iff h0).mp ha
  have t : TW (0 :: up 1 (zk r)) := TW_cons.mpr ⟨fun y hy => by
    obtain ⟨z, hz, rfl⟩ := List.mem_map.mp hy
    have := hb z hz
    omega, up_tw (zk_tw h0)⟩
  have e : zk (sh r + 1) = 0 :: up 1 (zk r) := by
    have w : wth (0 :: up 1 (zk r)) = sh r + 1 := by rw [wth_cons]; unfold sh; show 1 + _ = _; omega
    rw [← w, zk_one t]
  unfold sg
  rw [e, if_pos (by simp)]
theorem sh_a {r : Int} (h0 : 0 ≤ r) (ha : sg r = 97) : sh (r + 1) = sh r + 2 := (next_low h0 ((sg_a_iff h0).mp ha)).2
theorem sh_b {r : Int} (h0 : 0 ≤ r) (hb : sg r = 98) : sh (r + 1) = sh r + 1 := by
  rcases zk_shape r h0 with h | ⟨T, e, hb', ht⟩
  · have := (sg_a_iff h0).mpr h
    omega
  · exact (next_high h0 e hb' ht).2
theorem grow_pc (n : Nat) : grow (pc 0 n) = pc 0 (sh (n : Int)).toNat := by
  induction n with
  | zero => rfl
  | succ n ih =>
    have h0 : (0 : Int) ≤ (n : Int) := by omega
    have hs := sh_nn (n : Int)
    rw [pc_succ, grow_app, ih, Int.zero_add]
    have en : ((n + 1 : Nat) : Int) = (n : Int) + 1 := by omega
    have es : ((sh (n : Int)).toNat : Int) = sh n := by omega
    have a1 := sg_sh h0
    rcases sg_ab (n : Int) with h | h
    · have e2 := sh_a h0 h
      have b1 := sg_sh1 h0 h
      rw [en, e2, show (sh (n : Int) + 2).toNat = (sh (n : Int)).toNat + 1 + 1 by omega, pc_succ, pc_succ, h]
      rw [show (0 : Int) + (((sh (n : Int)).toNat : Nat) : Int) = sh n by omega, show (0 : Int) + (((sh (n : Int)).toNat + 1 : Nat) : Int) = sh n + 1 by omega, a1, b1]
      simp [grow]
    · have e2 := sh_b h0 h
      rw [en, e2, show (sh (n : Int) + 1).toNat = (sh (n : Int)).toNat + 1 by omega, pc_succ, h]
      rw [show (0 : Int) + (((sh (n : Int)).toNat : Nat) : Int) = sh n by omega, a1]
      simp [grow]
/-! counts of signs ahead -/
theorem cnt_ahead (n : Nat) : ((pc 0 n).count 97 : Int) = sh n - n ∧ ((pc 0 n).count 98 : Int) = 2 * n - sh n := by
  induction n with
  | zero => exact ⟨rfl, rfl⟩
  | succ n ih =>
    have h0 : (0 : Int) ≤ (n : Int) := by omega
    have en : ((n + 1 : Nat) : Int) = (n : Int) + 1 := by omega
    rw [pc_succ, List.count_append, List.count_append, Int.zero_add, en]
    rcases sg_ab (n : Int) with h | h
    · rw [sh_a h0 h, h]
      have e1 : List.count 97 [97] = 1 := by decide
      have e2 : List.count 98 [97] = 0 := by decide
      rw [e1, e2]
      omega
    · rw [sh_b h0 h, h]
      have e1 : List.count 97 [98] = 0 := by decide
      have e2 : List.count 98 [98] = 1 := by decide
      rw [e1, e2]
      omega
/-- where the c-th a, and the c-th b stands -/
theorem low_sign {c : Int} (h : 1 ≤ c) : sg (lowN c - 1) = 97 ∧ sh (lowN c - 1) - (lowN c - 1) = c - 1 := by
  have p := lowN_pos c
  have q := zk_low h
  refine ⟨(sg_a_iff (by omega)).mpr ?_, ?_⟩
  · rw [q]
    intro x hx
    obtain ⟨y, _, rfl⟩ := List.mem_map.mp hx
    omega
  · have e : sh (lowN c - 1) = wth (up 1 (up 1 (zk (c - 1)))) := by unfold sh; rw [q]
    have u : up 1 (up 1 (zk (c - 1))) = up 2 (zk (c - 1)) := by unfold up; rw [List.map_map]; rfl
    have w := wth_up2 (zk (c - 1))
    have z := zk_wth (r := c - 1) (by omega)
    have l : lowN c - 1 = wth (up 1 (zk (c - 1))) := by unfold lowN sh; omega
    rw [e, u, w, z]
    omega
theorem wth_up3 (R : List Nat) : wth (up 1 (up 2 R)) = wth (up 2 R) + wth (up 1 R) := by
  induction R with
  | nil => rfl
  | cons x R ih =>
    rw [up_cons, up_cons, up_cons, wth_cons, wth_cons, wth_cons, ih]
    have := mk_step (x + 1)
    show mk (x + 2 + 1) + _ = _
    rw [show x + 2 + 1 = x + 1 + 2 by omega, this]
    show mk (x + 1 + 1) + _ + _ = mk (x + 2) + _ + _
    rw [show x + 1 + 1 = x + 2 by omega]
    omega
theorem high_sign {c : Int} (h : 1 ≤ c) : sg (highN c - 1) = 98 ∧ 2 * (highN c - 1) - sh (highN c - 1) = c - 1 := by
  have p := highN_pos h
  have q := zk_high h
  refine ⟨by unfold sg; rw [q, if_pos (by simp)], ?_⟩
  have e : sh (highN c - 1) = 2 + (wth (up 2 (zk (c - 1))) + wth (up 1 (zk (c - 1)))) := by
    unfold sh
    rw [q, up_cons, wth_cons, wth_up3]
    rfl
  have w := wth_up2 (zk (c - 1))
  have z := zk_wth (r := c - 1) (by omega)
  have l : highN c - 1 = wth (up 1 (zk (c - 1))) + c := by unfold highN lowN sh; omega
  rw [e, w, z]
  omega
/-- the place of a sign by its count -/
theorem place_a {k : Int} (h0 : 0 ≤ k) (h : sg k = 97) : lowN (sh k - k + 1) = k + 1 := by
  have he := (next_low h0 ((sg_a_iff h0).mp h)).1
  obtain ⟨q, p⟩ := cnt_even (n := k + 1) (by omega) he
  have e := (low_sign p).2
  rw [q, show k + 1 - 1 = k by omega] at e
  rw [e, show cnt (k + 1) - 1 + 1 = cnt (k + 1) by omega, q]
theorem place_b {k : Int} (h0 : 0 ≤ k) (h : sg k = 98) : highN (2 * k - sh k + 1) = k + 1 := by
  have ho : ¬ hd (zk (k + 1)) % 2 = 0 := by
    rcases zk_shape k h0 with hb | ⟨T, e, hb', ht⟩
    · have := (sg_a_iff h0).mpr hb
      omega
    · have := (next_high h0 e hb' ht).1
      omega
  obtain ⟨q, p⟩ := cnt_odd (n := k + 1) (by omega) ho
  have e := (high_sign p).2
  rw [q, show k + 1 - 1 = k by omega] at e
  rw [e, show cnt (k + 1) - 1 + 1 = cnt (k + 1) by omega, q]
theorem sh_b1 {r : Int} (h0 : 0 ≤ r) : r ≤ sh r ∧ sh r ≤ 2 * r := by
  have b := up1_le (zk r)
  have e := zk_wth h0
  unfold sh
  omega
end Tw
set_option linter.all false
/-! pieces of the endless word: each short one stands early -/
namespace Tw
def growN : Nat → List Nat → List Nat
  | 0, l => l
  | J + 1, l => grow (growN J l)
theorem growN_app : ∀ (J : Nat) (l m : List Nat), growN J (l ++ m) = growN J l ++ growN J m
  | 0, _, _ => rfl
  | J + 1, l, m => by rw [growN, growN, growN, growN_app J, grow_app]
theorem growN_pc : ∀ (J n : Nat), growN J (pc 0 n) = pc 0 (growN J (pc 0 n)).length
  | 0, n => by rw [growN, pc_length]
  | J + 1, n => by
    have ih := growN_pc J n
    generalize (growN J (pc 0 n)).length = m at ih
    rw [growN, ih, grow_pc, pc_length]
theorem pc_add (k : Int) (m n : Nat) : pc k (m + n) = pc k m ++ pc (k + m) n := by
  induction n with
  | zero => simp [pc]
  | succ n ih =>
    rw [← Nat.add_assoc, pc_succ, ih, pc_succ, List.append_assoc]
    rw [Int.natCast_add, ← Int.add_assoc]
/-- where the block of the j-th sign begins -/
def blk (J j : Nat) : Nat := (growN J (pc 0 j)).length
theorem blk_zero (J : Nat) : blk J 0 = 0 := by
  unfold blk
  have h : ∀ J, growN J (pc 0 0) = [] := fun J => by
    induction J with
    | zero => rfl
    | succ J ih => rw [growN, ih]; rfl
  rw [h]; rfl
theorem blk_succ (J j : Nat) : growN J (pc 0 (j + 1)) = growN J (pc 0 j) ++ growN J [sg j] := by rw [pc_succ, growN_app, Int.zero_add]
theorem blk_pc (J j : Nat) : pc (blk J j) (growN J [sg j]).length = growN J [sg j] := by
  have h1 := growN_pc J (j + 1)
  rw [blk_succ, List.length_append, pc_add, ← growN_pc J j] at h1
  have h2 := List.append_cancel_left h1
  rw [Int.zero_add] at h2
  exact h2.symm
theorem blk_next (J j : Nat) : blk J (j + 1) = blk J j + (growN J [sg j]).length := by
  unfold blk
  rw [blk_succ, List.length_append]
theorem blk_at {J : Nat} (hpos : ∀ j : Nat, 1 ≤ (growN J [sg (j : Int)]).length) : ∀ k : Nat, ∃ j, blk J j ≤ k ∧ k < blk J (j + 1)
  | 0 => ⟨0, by rw [blk_zero]; exact Nat.le_refl _, by rw [blk_next, blk_zero]; have := hpos 0; omega⟩
  | k + 1 => by
    obtain ⟨j, h1, h2⟩ := blk_at hpos k
    by_cases h : k + 1 < blk J (j + 1)
    · exact ⟨j, by omega, h⟩
    · exact ⟨j + 1, by omega, by rw [blk_next J (j + 1)]; have := hpos (j + 1); omega⟩
theorem blk_two (J j : Nat) : pc (blk J j) ((growN J [sg j]).length + (growN J [sg ((j : Int) + 1)]).length) = growN J [sg j] ++ growN J [sg ((j : Int) + 1)] := by
  have h := blk_pc J (j + 1)
  have e : ((j + 1 : Nat) : Int) = (j : Int) + 1 := by omega
  rw [e] at h
  rw [pc_add, blk_pc, show ((blk J j : Nat) : Int) + ((growN J [sg j]).length : Nat) = ((blk J (j + 1) : Nat) : Int) by rw [blk_next]; omega, h]
theorem pc_sub {k : Int} {o n L : Nat} (h : o + n ≤ L) : pc (k + o) n = ((pc k L).drop o).take n := by
  obtain ⟨r, rfl⟩ : ∃ r, L = o + (n + r) := ⟨L - o - n, by omega⟩
  rw [pc_add, List.drop_left' (pc_length k o), pc_add, List.take_left' (pc_length _ n)]
/-- the same pair of signs, the same piece -/
theorem blk_same {J i j o n : Nat} (h1 : sg i = sg j) (h2 : sg ((i : Int) + 1) = sg ((j : Int) + 1)) (ho : o + n ≤ (growN J [sg j]).length + (growN J [sg ((j : Int) + 1)]).length) :
    pc ((blk J j : Int) + o) n = pc ((blk J i : Int) + o) n := by
  have ho' : o + n ≤ (growN J [sg i]).length + (growN J [sg ((i : Int) + 1)]).length := by rw [h1, h2]; exact ho
  rw [pc_sub ho, pc_sub ho', blk_two, blk_two, h1, h2]
theorem next_sg {j : Int} (h0 : 0 ≤ j) (h : sg j = 98) : sg (j + 1) = 97 := by
  rcases zk_shape j h0 with hs | ⟨T, e, hb, ht⟩
  · rw [(sg_a_iff h0).mpr hs] at h; cases h
  · rw [sg_a_iff (by omega)]
    have hh := (next_high h0 e hb ht).1
    have htw := zk_tw (r := j + 1) (by omega)
    intro x hx
    rcases Nat.eq_zero_or_pos x with z | z
    · exfalso
      subst z
      cases e1 : zk (j + 1) with
      | nil => rw [e1] at hx; cases hx
      | cons y R =>
        rw [e1] at hx hh htw
        have hy : y % 2 = 1 := hh
        rcases List.mem_cons.mp hx with e2 | e2
        · omega
        · have := (TW_cons.mp htw).1 0 e2
          omega
    · exact z
theorem len9a : (growN 9 [97]).length = 89 := by decide +kernel
theorem len9b : (growN 9 [98]).length = 55 := by decide +kernel
theorem sg012 : sg 0 = 97 ∧ sg 1 = 98 ∧ sg 2 = 97 ∧ sg 3 = 97 := by decide +kernel
theorem blk9 : blk 9 0 = 0 ∧ blk 9 1 = 89 ∧ blk 9 2 = 144 := by decide +kernel
/-- each piece of at most 55 signs stands from a place below 233 on -/
theorem early {k : Int} {n : Nat} (h0 : 0 ≤ k) (hn : n ≤ 55) : ∃ e : Nat, e < 233 ∧ pc k n = pc (e : Int) n := by
  obtain ⟨K, rfl⟩ : ∃ K : Nat, k = (K : Int) := ⟨k.toNat, by omega⟩
  have hlen : ∀ c, c = 97 ∨ c = 98 → 55 ≤ (growN 9 [c]).length ∧ (growN 9 [c]).length ≤ 89 := fun c hc => by
    rcases hc with e | e
    · rw [e, len9a]; omega
    · rw [e, len9b]; omega
  obtain ⟨j, h1, h2⟩ := blk_at (J := 9) (fun j => by have := hlen _ (sg_ab j); omega) K
  rw [blk_next] at h2
  obtain ⟨l1, l2⟩ := hlen _ (sg_ab j)
  obtain ⟨l3, l4⟩ := hlen _ (sg_ab ((j : Int) + 1))
  obtain ⟨o, ho⟩ : ∃ o, K = blk 9 j + o := ⟨K - blk 9 j, by omega⟩
  obtain ⟨s0, s1, s2, s3⟩ := sg012
  obtain ⟨b0, b1, b2⟩ := blk9
  have hK : ((K : Nat) : Int) = ((blk 9 j : Nat) : Int) + ((o : Nat) : Int) := by omega
  have fin : ∀ i : Nat, sg (i : Int) = sg j → sg ((i : Int) + 1) = sg ((j : Int) + 1) → blk 9 i ≤ 144 → ∃ e : Nat, e < 233 ∧ pc (K : Int) n = pc (e : Int) n := fun i e1 e2 e3 => by
    refine ⟨blk 9 i + o, by omega, ?_⟩
    rw [hK, blk_same e1 e2 (by omega), Int.natCast_add]
  rcases sg_ab j with a | a <;> rcases sg_ab ((j : Int) + 1) with b | b
  · exact fin 2 (by rw [a]; exact s2) (by rw [b]; exact s3) (by omega)
  · exact fin 0 (by rw [a]; exact s0) (by rw [b]; exact s1) (by omega)
  · exact fin 1 (by rw [a]; exact s1) (by rw [b]; exact s2) (by omega)
  · rw [next_sg (by omega) a] at b; cases b
end Tw
namespace Tw
theorem growN_comm : ∀ (J : Nat) (l : List Nat), growN J (grow l) = grow (growN J l)
  | 0, _ => rfl
  | J + 1, l => by rw [growN, growN, growN_comm J]
theorem growN_fib (i : Nat) : growN (i + 2) [97] = growN (i + 1) [97] ++ growN i [97] := by
  have e1 : growN (i + 2) [97] = growN i (grow (grow [97])) := by rw [growN_comm, growN_comm]; rfl
  have e2 : growN (i + 1) [97] = growN i (grow [97]) := by rw [growN_comm]; rfl
  rw [e1, e2, ← growN_app]
  rfl
theorem pc01 : pc 0 1 = [97] := by decide +kernel
theorem growN_word (i : Nat) : growN i [97] = pc 0 (growN i [97]).length := by
  have h := growN_pc i 1
  rw [pc01] at h
  exact h
theorem glen : ∀ i, i < 13 → (growN i [97]).length ≤ 377 ∧ ((growN i [97]).length < 300 ↔ i < 12) := by decide +kernel
theorem glen13 : ∀ i, i < 14 → (growN i [97]).length ≤ 610 := by decide +kernel
theorem word300 : (growN 12 [97]).take 300 = pc 0 300 := by
  have e : (growN 12 [97]).length = 377 := by decide +kernel
  rw [growN_word 12, e, pc_take (by decide)]
def stands (l : List Nat) (k : Nat) : Prop := pc (k : Int) l.length = l
theorem stands_win {l : List Nat} {k : Nat} (h : k + l.length ≤ 300) : stands l k ↔ ((pc 0 300).drop k).take l.length = l := by
  unfold stands
  rw [← pc_sub (k := 0) h, Int.zero_add]
theorem stands_none {l : List Nat} (hl : l.length ≤ 41) (h : ∀ i, i + l.length ≤ 300 → ¬ ((pc 0 300).drop i).take l.length = l) : ∀ k, ¬ stands l k := fun k hk => by
  obtain ⟨e, e1, e2⟩ := early (k := (k : Int)) (n := l.length) (by omega) (by omega)
  refine h e (by omega) ((stands_win (by omega)).mp ?_)
  unfold stands
  rw [← e2]
  exact hk
end Tw
set_option linter.all false
set_option maxRecDepth 100000
/-! each text once; all pieces of a length -/
namespace Tw
theorem snoc_ind {α : Type} {P : List α → Prop} (h0 : P []) (h1 : ∀ l x, P l → P (l ++ [x])) : ∀ l, P l := fun l => by
  have : ∀ (n : Nat) (l : List α), l.length = n → P l := fun n => by
    induction n with
    | zero => intro l hl; rw [List.eq_nil_of_length_eq_zero hl]; exact h0
    | succ n ih =>
      intro l hl
      have hne : l ≠ [] := fun e => by rw [e] at hl; simp at hl
      rw [← List.dropLast_concat_getLast hne]
      exact h1 _ _ (ih _ (by rw [List.length_dropLast, hl]; rfl))
  exact this _ l rfl
def dd {α : Type} [DecidableEq α] (ls : List α) : List α := ls.foldl (fun acc x => if x ∈ acc then acc else acc ++ [x]) []
section
variable {α : Type} [DecidableEq α]
theorem dd_nil : dd ([] : List α) = [] := rfl
theorem dd_snoc (ls : List α) (x : α) : dd (ls ++ [x]) = if x ∈ dd ls then dd ls else dd ls ++ [x] := by
  unfold dd
  rw [List.foldl_append]
  rfl
theorem dd_len (ls : List α) : (dd ls).length ≤ ls.length := by
  refine snoc_ind (P := fun ls : List α => (dd ls).length ≤ ls.length) (Nat.le_refl _) (fun ls x ih => ?_) ls
  rw [dd_snoc]
  split
  · simp; omega
  · simp; omega
theorem dd_mem (ls : List α) (x : α) : x ∈ dd ls ↔ x ∈ ls := by
  refine snoc_ind (P := fun ls : List α => ∀ x, x ∈ dd ls ↔ x ∈ ls) (fun _ => Iff.rfl) (fun ls y ih x => ?_) ls x
  rw [dd_snoc]
  by_cases h : y ∈ dd ls
  · rw [if_pos h, List.mem_append, ih x]
    constructor
    · exact .inl
    · rintro (z | z)
      · exact z
      · have e : x = y := by simpa using z
        rw [e]
        exact (ih y).mp h
  · rw [if_neg h, List.mem_append, List.mem_append, ih x]
theorem dd_nodup (ls : List α) : (dd ls).Nodup := by
  refine snoc_ind (P := fun ls : List α => (dd ls).Nodup) List.nodup_nil (fun ls y ih => ?_) ls
  rw [dd_snoc]
  by_cases h : y ∈ dd ls
  · rw [if_pos h]; exact ih
  · rw [if_neg h]
    refine List.nodup_append.mpr ⟨ih, by simp, fun a ha b hb e => h ?_⟩
    have e2 : b = y := by simpa using hb
    rw [← e2, ← e]
    exact ha
/-- as many, all in it: all of it -/
theorem all_of_len : ∀ {D F : List α}, D.Nodup → (∀ x ∈ D, x ∈ F) → F.length ≤ D.length → ∀ x ∈ F, x ∈ D
  | [], F, _, _, hl, x, hx => by
    have : F = [] := List.eq_nil_of_length_eq_zero (by simpa using hl)
    rw [this] at hx; cases hx
  | d :: D, F, hn, hs, hl, x, hx => by
    by_cases e : x = d
    · rw [e]; exact List.mem_cons_self
    · have hd : d ∈ F := hs d List.mem_cons_self
      have hn' := List.nodup_cons.mp hn
      have ih := all_of_len (D := D) (F := F.erase d) hn'.2 (fun y hy => by
        have hyd : y ≠ d := fun z => hn'.1 (z ▸ hy)
        exact (List.mem_erase_of_ne hyd).mpr (hs y (List.mem_cons_of_mem _ hy))) (by rw [List.length_erase_of_mem hd]; simp at hl; omega) x ((List.mem_erase_of_ne e).mpr hx)
      exact List.mem_cons_of_mem _ ih
/-- no more than it -/
theorem len_of_all {D F : List α} (hn : D.Nodup) (hs : ∀ x ∈ D, x ∈ F) : D.length ≤ F.length := by
  induction D generalizing F with
  | nil => simp
  | cons d D ih =>
    have hd : d ∈ F := hs d List.mem_cons_self
    have hn' := List.nodup_cons.mp hn
    have := ih (F := F.erase d) hn'.2 fun y hy => by
      have hyd : y ≠ d := fun z => hn'.1 (z ▸ hy)
      exact (List.mem_erase_of_ne hyd).mpr (hs y (List.mem_cons_of_mem _ hy))
    rw [List.length_erase_of_mem hd] at this
    have hpos : 0 < F.length := List.length_pos_of_mem hd
    simp
    omega
end
/-! ### the word's first signs as one number, the sign of place k at bit k -/
def enc : List Nat → Nat
  | [] => 0
  | c :: t => (if c = 98 then 1 else 0) + 2 * enc t
theorem enc_inj : ∀ {l m : List Nat}, l.length = m.length → (∀ c ∈ l, c = 97 ∨ c = 98) → (∀ c ∈ m, c = 97 ∨ c = 98) → enc l = enc m → l = m
  | [], [], _, _, _, _ => rfl
  | [], _ :: _, h, _, _, _ => by simp at h
  | _ :: _, [], h, _, _, _ => by simp at h
  | c :: l, d :: m, h, hl, hm, e => by
    have ec := hl c List.mem_cons_self
    have ed := hm d List.mem_cons_self
    unfold enc at e
    have hcd : c = d := by
      rcases ec with rfl | rfl <;> rcases ed with rfl | rfl <;> simp at e ⊢ <;> omega
    subst hcd
    have e2 : enc l = enc m := by omega
    rw [enc_inj (by simpa using h) (fun x hx => hl x (List.mem_cons_of_mem _ hx)) (fun x hx => hm x (List.mem_cons_of_mem _ hx)) e2]
theorem enc_lt : ∀ l : List Nat, enc l < 2 ^ l.length
  | [] => by simp [enc]
  | c :: l => by
    have := enc_lt l
    unfold enc
    rw [List.length_cons, Nat.pow_succ]
    split <;> omega
theorem enc_drop : ∀ (k : Nat) (l : List Nat), enc (l.drop k) = enc l / 2 ^ k
  | 0, l => by simp
  | k + 1, [] => by simp [enc]
  | k + 1, c :: l => by
    rw [List.drop_succ_cons, enc_drop k l, Nat.pow_succ]
    show _ = ((if c = 98 then 1 else 0) + 2 * enc l) / (2 ^ k * 2)
    rw [Nat.mul_comm (2 ^ k) 2, ← Nat.div_div_eq_div_mul]
    congr 1
    split <;> omega
theorem enc_take : ∀ (n : Nat) (l : List Nat), enc (l.take n) = enc l % 2 ^ n
  | 0, l => by simp [enc, Nat.mod_one]
  | n + 1, [] => by simp [enc]
  | n + 1, c :: l => by
    rw [List.take_succ_cons]
    show (if c = 98 then 1 else 0) + 2 * enc (l.take n) = ((if c = 98 then 1 else 0) + 2 * enc l) % 2 ^ (n + 1)
    rw [enc_take n l, Nat.pow_succ, Nat.mul_comm (2 ^ n) 2, Nat.mod_mul]
    split
    · rw [show (1 + 2 * enc l) % 2 = 1 by omega, show (1 + 2 * enc l) / 2 = enc l by omega]
    · rw [show (0 + 2 * enc l) % 2 = 0 by omega, show (0 + 2 * enc l) / 2 = enc l by omega]
def W300 : Nat := 99289712380754342526305692812454492255123548747815487377471343777800565745779212489801182400378386256693910196818
theorem W300_is : enc (growN 12 [97]) = W300 := by decide +kernel
/-- the pieces of n signs from the places below 233 on -/
def win (n k : Nat) : Nat := W300 / 2 ^ k % 2 ^ n
theorem win_is {n k : Nat} (h : k + n ≤ 377) : win n k = enc (pc (k : Int) n) := by
  have e : growN 12 [97] = pc 0 377 := by
    have := growN_word 12
    have hl : (growN 12 [97]).length = 377 := by decide +kernel
    rw [hl] at this
    exact this
  have hs := pc_sub (k := 0) (o := k) (n := n) (L := 377) h
  rw [Int.zero_add] at hs
  unfold win
  rw [← W300_is, e, hs, enc_take, enc_drop]
/-! ### n + 1 pieces of n signs -/
theorem dd_map {α β : Type} [DecidableEq α] [DecidableEq β] (f : α → β) (ls : List α) (hf : ∀ x ∈ ls, ∀ y ∈ ls, f x = f y → x = y) : dd (ls.map f) = (dd ls).map f := by
  refine snoc_ind (P := fun ls : List α => (∀ x ∈ ls, ∀ y ∈ ls, f x = f y → x = y) → dd (ls.map f) = (dd ls).map f) (fun _ => rfl) (fun ls x ih hf => ?_) ls hf
  have ih := ih fun a ha b hb => hf a (List.mem_append_left _ ha) b (List.mem_append_left _ hb)
  rw [List.map_append, List.map_singleton, dd_snoc, dd_snoc, ih]
  by_cases h : x ∈ dd ls
  · rw [if_pos h, if_pos (List.mem_map_of_mem h)]
  · rw [if_neg h, if_neg fun z => ?_, List.map_append, List.map_singleton]
    obtain ⟨y, hy, e⟩ := List.mem_map.mp z
    have := hf y (List.mem_append_left _ ((dd_mem ls y).mp hy)) x (List.mem_append_right _ (by simp)) e
    exact h (this ▸ hy)
theorem cnt41 : (List.range 42).all (fun n => (dd ((List.range 233).map (win n))).length == n + 1) = true := by decide +kernel
def facs (n : Nat) : List (List Nat) := dd ((List.range 233).map fun (k : Nat) => pc (k : Int) n)
theorem facs_len {n : Nat} (h : n ≤ 41) : (facs n).length = n + 1 := by
  have hc := List.all_eq_true.mp cnt41 n (List.mem_range.mpr (by omega))
  have hc' : (dd ((List.range 233).map (win n))).length = n + 1 := by simpa using hc
  have e : (List.range 233).map (win n) = ((List.range 233).map fun (k : Nat) => pc (k : Int) n).map enc := by
    rw [List.map_map]
    apply List.map_congr_left
    intro k hk
    exact win_is (by have := List.mem_range.mp hk; omega)
  rw [e, dd_map enc _ fun x hx y hy he => ?_, List.length_map] at hc'
  · exact hc'
  · obtain ⟨a, _, rfl⟩ := List.mem_map.mp hx
    obtain ⟨b, _, rfl⟩ := List.mem_map.mp hy
    exact enc_inj (by rw [pc_length, pc_length]) (fun c h => pc_ab h) (fun c h => pc_ab h) he
theorem facs_all {n : Nat} {k : Int} (h : n ≤ 41) (hk : 0 ≤ k) : pc k n ∈ facs n := by
  obtain ⟨e, e1, e2⟩ := early (k := k) (n := n) hk (by omega)
  rw [e2]
  exact (dd_mem _ _).mpr (List.mem_map.mpr ⟨e, List.mem_range.mpr e1, rfl⟩)
theorem facs_some {n : Nat} {l : List Nat} (h : l ∈ facs n) : ∃ k : Nat, k < 233 ∧ l = pc (k : Int) n := by
  obtain ⟨k, hk, e⟩ := List.mem_map.mp ((dd_mem _ _).mp h)
  exact ⟨k, List.mem_range.mp hk, e.symm⟩
def winL (t : List Nat) (n : Nat) : List (List Nat) := (List.range (t.length + 1 - n)).map fun k => (t.drop k).take n
theorem winL_pc {L n : Nat} : winL (pc 0 L) n = (List.range (L + 1 - n)).map fun (k : Nat) => pc (k : Int) n := by
  unfold winL
  rw [pc_length]
  apply List.map_congr_left
  intro k hk
  have hk' := List.mem_range.mp hk
  have := pc_sub (k := 0) (o := k) (n := n) (L := L) (by omega)
  rw [Int.zero_add] at this
  exact this.symm
theorem win_sub {L n : Nat} (h : n ≤ 41) : ∀ x ∈ dd (winL (pc 0 L) n), x ∈ facs n := fun x hx => by
  rw [dd_mem, winL_pc] at hx
  obtain ⟨k, _, rfl⟩ := List.mem_map.mp hx
  exact facs_all h (by omega)
/-- n + 1 pieces are all of them -/
theorem full {L n : Nat} (h : n ≤ 41) (hc : n + 1 ≤ (dd (winL (pc 0 L) n)).length) {k : Int} (hk : 0 ≤ k) : ∃ j : Nat, j + n ≤ L ∧ pc (j : Int) n = pc k n := by
  have := all_of_len (dd_nodup _) (win_sub h) (by rw [facs_len h]; exact hc) _ (facs_all h hk)
  rw [dd_mem, winL_pc] at this
  obtain ⟨j, hj, e⟩ := List.mem_map.mp this
  exact ⟨j, by have := List.mem_range.mp hj; omega, e⟩
theorem facs_full {L n : Nat} (h : n ≤ 41) (hc : n + 1 ≤ (dd (winL (pc 0 L) n)).length) (x : List Nat) : x ∈ dd (winL (pc 0 L) n) ↔ x ∈ facs n :=
  ⟨fun hx => win_sub h x hx, fun hx => all_of_len (dd_nodup _) (win_sub h) (by rw [facs_len h]; exact hc) x hx⟩
theorem enough {L n : Nat} (h : n ≤ 41) (hL : 233 + n ≤ L) : n + 1 ≤ (dd (winL (pc 0 L) n)).length := by
  rw [← facs_len h]
  refine len_of_all (dd_nodup _) fun x hx => ?_
  obtain ⟨k, hk, rfl⟩ := facs_some hx
  rw [dd_mem, winL_pc]
  exact List.mem_map.mpr ⟨k, List.mem_range.mpr (by omega), rfl⟩
end Tw
set_option linter.all false
set_option maxRecDepth 100000
/-! the pieces of a length, rising; how many signs a they have -/
namespace Tw
def srt (n : Nat) : List (List Nat) := (facs n).mergeSort fun a b => decide (a ≤ b)
theorem srt_perm (n : Nat) : (srt n).Perm (facs n) := List.mergeSort_perm _ _
theorem srt_pair (n : Nat) : (srt n).Pairwise (· ≤ ·) := by
  have := List.pairwise_mergeSort (le := fun a b : List Nat => decide (a ≤ b)) (fun a b c h1 h2 => by
    have h1' : a ≤ b := of_decide_eq_true h1
    have h2' : b ≤ c := of_decide_eq_true h2
    exact decide_eq_true (List.le_trans h1' h2')) (fun a b => by
    rcases List.le_total a b with h | h
    · rw [decide_eq_true h]; rfl
    · rw [decide_eq_true h]; simp) (facs n)
  exact List.Pairwise.imp (fun h => of_decide_eq_true h) this
theorem srt_one {n : Nat} {ls : List (List Nat)} (hp : ls.Perm (facs n)) (hs : ls.Pairwise (· ≤ ·)) : ls = srt n :=
  List.Perm.eq_of_pairwise (le := fun a b : List Nat => a ≤ b) (fun a b _ _ h1 h2 => List.le_antisymm h1 h2) hs (srt_pair n) (hp.trans (srt_perm n).symm)
theorem srt_len {n : Nat} (h : n ≤ 41) : (srt n).length = n + 1 := by rw [(srt_perm n).length_eq, facs_len h]
theorem srt_mem {n : Nat} {x : List Nat} : x ∈ srt n ↔ x ∈ facs n := (srt_perm n).mem_iff
theorem facs_nodup (n : Nat) : (facs n).Nodup := dd_nodup _
theorem srt_nodup (n : Nat) : (srt n).Nodup := (srt_perm n).nodup_iff.mpr (facs_nodup n)
theorem srt_rise {n i : Nat} {x y : List Nat} (hx : (srt n)[i]? = some x) (hy : (srt n)[i + 1]? = some y) : x < y := by
  obtain ⟨a1, b1⟩ := List.getElem?_eq_some_iff.mp hx
  obtain ⟨a2, b2⟩ := List.getElem?_eq_some_iff.mp hy
  have h1 := List.pairwise_iff_getElem.mp (srt_pair n) i (i + 1) a1 a2 (by omega)
  rw [b1, b2] at h1
  have hne : x ≠ y := fun e => by
    have := (List.nodup_iff_pairwise_ne.mp (srt_nodup n))
    have h3 := List.pairwise_iff_getElem.mp this i (i + 1) a1 a2 (by omega)
    exact h3 (by rw [b1, b2, e])
  exact Std.lt_of_le_of_ne h1 hne
theorem facs_piece {n : Nat} {x : List Nat} (h : x ∈ facs n) : x.length = n ∧ (∀ c ∈ x, c = 97 ∨ c = 98) ∧ ∃ k : Nat, x = pc (k : Int) n := by
  obtain ⟨k, _, rfl⟩ := facs_some h
  exact ⟨pc_length _ _, fun c hc => pc_ab hc, k, rfl⟩
def pop : Nat → Nat → Nat
  | 0, _ => 0
  | f + 1, x => x % 2 + pop f (x / 2)
theorem pop_enc : ∀ l : List Nat, pop l.length (enc l) = l.count 98
  | [] => rfl
  | c :: l => by
    have ih := pop_enc l
    show enc (c :: l) % 2 + pop l.length (enc (c :: l) / 2) = (c :: l).count 98
    have e : enc (c :: l) = (if c = 98 then 1 else 0) + 2 * enc l := rfl
    by_cases h : c = 98
    · rw [e, if_pos h, show (1 + 2 * enc l) % 2 = 1 by omega, show (1 + 2 * enc l) / 2 = enc l by omega, ih, h]
      simp
      omega
    · rw [e, if_neg h, show (0 + 2 * enc l) % 2 = 0 by omega, show (0 + 2 * enc l) / 2 = enc l by omega, ih]
      rw [List.count_cons_of_ne h]
      omega
def lows : List Nat := (List.range 42).map fun n => ((List.range 233).map fun k => pop n (win n k)).foldl min 1000
theorem bal41 : (List.range 42).all (fun n => (List.range 233).all fun k => decide (lows.getD n 0 ≤ pop n (win n k)) && decide (pop n (win n k) ≤ lows.getD n 0 + 1)) = true := by decide +kernel
theorem ab_count : ∀ {l : List Nat}, (∀ c ∈ l, c = 97 ∨ c = 98) → l.count 97 + l.count 98 = l.length
  | [], _ => rfl
  | c :: l, h => by
    have ih := ab_count (l := l) fun d hd => h d (List.mem_cons_of_mem _ hd)
    rcases h c List.mem_cons_self with e | e
    · rw [e, List.count_cons_self, List.count_cons_of_ne (by decide), List.length_cons]; omega
    · rw [e, List.count_cons_self, List.count_cons_of_ne (by decide), List.length_cons]; omega
/-- of no two are the counts of a more than one apart -/
theorem bal {n : Nat} (h : n ≤ 41) : ∃ lo, ∀ x ∈ facs n, lo ≤ x.count 97 + 1 ∧ x.count 97 ≤ lo := by
  refine ⟨n - lows.getD n 0, fun x hx => ?_⟩
  obtain ⟨k, hk, rfl⟩ := facs_some hx
  have h1 := List.all_eq_true.mp bal41 n (List.mem_range.mpr (by omega))
  have h2 := List.all_eq_true.mp h1 k (List.mem_range.mpr hk)
  rw [Bool.and_eq_true] at h2
  have h3 : lows.getD n 0 ≤ pop n (win n k) := of_decide_eq_true h2.1
  have h4 : pop n (win n k) ≤ lows.getD n 0 + 1 := of_decide_eq_true h2.2
  have e := pop_enc (pc (k : Int) n)
  rw [pc_length, ← win_is (by omega)] at e
  have hc := ab_count (l := pc (k : Int) n) fun c hc => pc_ab hc
  rw [pc_length] at hc
  omega
end Tw
set_option Elab.async false
set_option linter.all false
set_option maxRecDepth 100000
set_option maxHeartbeats 4000000
/-! a set of texts with what its table is, so that it can be walked -/
namespace L2
open PySem PyProof.Rows Tw
abbrev BT (w : World) : Bool := w.params.followText "set-order"
def SetU (P : Program) (w : World) (h : Heap) (a : Addr) (ds : List Str) : Prop :=
  ∃ o es ep t, h.get? a = some o ∧ o.ExactSet ∧ o.data = .set es ep t ∧ ElemsOf (PySem.strKind P w) es.toList ∧ (es.toList.map fun e => strOf e.2).Perm ds ∧ es.size < scanBound ∧ t.fits es.size = true ∧ t.led = (!BT w) ∧ (1 ≤ es.size → t.plain = false)
theorem standIn_led (t : SetTable) (n : Nat) : (t.standIn n).led = t.led ∧ (t.standIn n).plain = false := ⟨rfl, rfl⟩
theorem orStandIn_led (t : SetTable) (n : Nat) : (t.orStandIn n).led = t.led := by
  unfold SetTable.orStandIn
  split <;> rfl
theorem put_led (t : SetTable) (j : Nat) : (t.put j).1.led = t.led := rfl
theorem layNew_led (t : SetTable) (es : Array (Int × Value)) (h : Int) (x : Value) : (layNew t es h x).2.1.led = t.led := by
  unfold layNew
  split
  · rename_i slot wd _
    exact (orStandIn_led _ _).trans (put_led t slot)
  · rfl
theorem relayAll_tab (t : SetTable) (es : Array (Int × Value)) (wanted : Nat) : (relayAll t es wanted).2.1.led = t.led ∧ (t.plain = false → (relayAll t es wanted).2.1.plain = false) := by
  unfold relayAll
  split
  · rename_i t' order he
    have hled : t'.led = t.led ∧ t'.plain = t.plain := by
      unfold SetTable.relaid SetTable.laid at he
      cases hl : SetTable.layClean (SetTable.sizeAbove wanted - 1) (es.map (·.1)) with
      | none => rw [hl] at he; cases he
      | some ow =>
        rw [hl] at he
        cases he
        exact ⟨rfl, rfl⟩
    dsimp only
    split
    · exact ⟨hled.1, fun z => hled.2.trans z⟩
    · exact ⟨rfl, fun _ => rfl⟩
  · exact ⟨rfl, fun _ => rfl⟩
section
variable {P : Program} {w : World} {A : Around} {E : Value → Shared → Prop} {s : Shared}
theorem SetU.at {h h' : Heap} {a : Addr} {ds : List Str} (hS : SetU P w h a ds) (k : ∀ o, h.get? a = some o → h'.get? a = some o) : SetU P w h' a ds := by
  obtain ⟨o, es, ep, t, ho, r⟩ := hS
  exact ⟨o, es, ep, t, k o ho, r⟩
theorem SetU.len {h : Heap} {a : Addr} {ds : List Str} (hS : SetU P w h a ds) : ∃ o es ep t, h.get? a = some o ∧ o.ExactSet ∧ o.data = .set es ep t ∧ t.fits es.size = true ∧ es.size < scanBound ∧ es.size = ds.length := by
  obtain ⟨o, es, ep, t, ho, hex, hd, hel, hp, hb, hf, _⟩ := hS
  exact ⟨o, es, ep, t, ho, hex, hd, hf, hb, by have := hp.length_eq; rw [List.length_map, Array.length_toList] at this; exact this⟩
theorem elem_str {l : List (Int × Value)} (h : ElemsOf (PySem.strKind P w) l) : ∀ e ∈ l, ∃ x t, e.2 = .str x t := fun e he => by
  obtain ⟨⟨k, hk, _⟩, _⟩ := h e he
  obtain ⟨t, ht⟩ := Value.isStrOf_shape (x := k) (v := e.2) hk
  exact ⟨k, t, ht⟩
theorem is_str (x y : Str) (t : Tok) : (PySem.strKind P w).is x (.str y t) = decide (x = y) := KeyKind.is_eq_decide (PySem.strKind_is P w y t) x
theorem mem_of_find {l : List (Int × Value)} (h : ElemsOf (PySem.strKind P w) l) (x : Str) : x ∈ (l.map fun e => strOf e.2) ↔ ∃ e ∈ l, (PySem.strKind P w).is x e.2 = true := by
  constructor
  · intro hx
    obtain ⟨e, he, hq⟩ := List.mem_map.mp hx
    obtain ⟨y, t, hy⟩ := elem_str h e he
    refine ⟨e, he, ?_⟩
    rw [hy] at hq ⊢
    rw [is_str]
    exact decide_eq_true hq.symm
  · rintro ⟨e, he, hq⟩
    obtain ⟨y, t, hy⟩ := elem_str h e he
    refine List.mem_map.mpr ⟨e, he, ?_⟩
    rw [hy] at hq ⊢
    rw [is_str] at hq
    exact (of_decide_eq_true hq).symm
theorem store_u {a : Addr} {o : Obj} {es : Array (Int × Value)} {ep : Nat} {t : SetTable} (ho : s.heap.get? a = some o) (hex : o.ExactSet) (hd : o.data = .set es ep t) {es' : Array (Int × Value)} {t' : SetTable} {ds : List Str} (hel : ElemsOf (PySem.strKind P w) es'.toList)
    (hp : (es'.toList.map fun e => strOf e.2).Perm ds) (hb : es'.size < scanBound) (hf : t'.fits es'.size = true) (hl : t'.led = (!BT w)) (hq : t'.plain = false) :
    (s.heap.update a (Obj.putSet es' t')).get? a = some { o with data := .set es' (ep + 1) t' } ∧ SetU P w (s.heap.update a (Obj.putSet es' t')) a ds := by
  have hg : (s.heap.update a (Obj.putSet es' t')).get? a = some { o with data := .set es' (ep + 1) t' } := by
    have := Heap.get?_update_self (Obj.putSet es' t') ho (by rw [putSet_of es' t' hd]; rfl)
    rw [putSet_of es' t' hd] at this
    exact this
  exact ⟨hg, _, es', ep + 1, t', hg, hex, rfl, hel, hp, hb, hf, hl, fun _ => hq⟩
theorem add_tail_u {g : Bool → Sem Unit} (hg : ∀ (b : Bool) (s1 : Shared) (Q' : Unit → Shared → Prop), Q' () s1 → wpAny (model P w) A (g b) Q' E s1) {a : Addr} {o : Obj} {es : Array (Int × Value)} {ep : Nat} {t : SetTable} (ho : s.heap.get? a = some o) (hex : o.ExactSet) (hd : o.data = .set es ep t)
    {es1 : Array (Int × Value)} {t2 : SetTable} {ds : List Str} (hel1 : ElemsOf (PySem.strKind P w) es1.toList) (hp1 : (es1.toList.map fun e => strOf e.2).Perm ds) (hb1 : es1.size < scanBound) (hf2 : t2.fits es1.size = true) (hl2 : t2.led = (!BT w)) (hq2 : t2.plain = false) {wd : Bool} {R : Option Bool → Shared → Prop}
    (h : ∀ h', Heap.SameBut a s.heap h' → SetU P w h' a ds → R (some true) { s with heap := h' }) :
    wpAny (model P w) A (do
        storeSet a es1 t2
        if (!wd && t2.tooFull) = true then do
            g (relayAll t2 es1 (SetTable.grown es1.size)).2.2
            storeSet a (relayAll t2 es1 (SetTable.grown es1.size)).1 (relayAll t2 es1 (SetTable.grown es1.size)).2.1
            pure (some true)
          else pure (some true)) R E s := by
  refine (wpAny_bind (wpAny_storeSet_of ho hd ?_ (fits_of_scanBound hb1)))
  obtain ⟨ho1, gS1⟩ := store_u (P := P) (w := w) ho hex hd hel1 hp1 hb1 hf2 hl2 hq2
  have sb1 := Heap.SameBut.update s.heap a (Obj.putSet es1 t2)
  split
  · have hp := relayAll_perm t2 es1 (SetTable.grown es1.size)
    have hfr := relayAll_fits t2 es1 (SetTable.grown es1.size)
    obtain ⟨rl, rp⟩ := relayAll_tab t2 es1 (SetTable.grown es1.size)
    generalize hR : relayAll t2 es1 (SetTable.grown es1.size) = Rl at hp hfr rl rp ⊢
    obtain ⟨es2, t3, gave2⟩ := Rl
    dsimp only at hp hfr rl rp ⊢
    have sz : es2.size = es1.size := by rw [← Array.length_toList, hp.length_eq, Array.length_toList]
    have hb2 : es2.size < scanBound := by rw [sz]; exact hb1
    refine wpAny_bind (hg _ _ _ (wpAny_bind (wpAny_storeSet_of ho1 rfl ?_ (fits_of_scanBound hb2))))
    obtain ⟨_, gS2⟩ := store_u (s := { s with heap := s.heap.update a (Obj.putSet es1 t2) }) (P := P) (w := w) ho1 hex rfl (hel1.perm hp) ((hp.map fun e => strOf e.2).trans hp1) hb2 hfr (rl.trans hl2) (rp hq2)
    exact wpAny_pure (h _ (sb1.trans (Heap.SameBut.update _ a _)) gS2)
  · exact wpAny_pure (h _ sb1 gS1)
theorem add_u {a : Addr} {ds : List Str} {x : Str} {tk : Tok} {Q : Bool → Shared → Prop} (hS : SetU P w s.heap a ds) (hroom : ds.length + 1 < scanBound)
    (h : ∀ (b : Bool) h', Heap.SameBut a s.heap h' → SetU P w h' a (if x ∈ ds then ds else ds ++ [x]) → Q b { s with heap := h' }) :
    wpAny (model P w) A (setAddHashed a (.str x tk) ((PySem.strKind P w).hash x)) Q E s := by
  obtain ⟨o, es, ep, t, ho, hex, hd, hel, hp, hb, hf, hl, hq⟩ := id hS
  have hkey : (PySem.strKind P w).is x (.str x tk) = true := PySem.strKind_is _ _ _ _
  have hn : es.size = ds.length := by have := hp.length_eq; rw [List.length_map, Array.length_toList] at this; exact this
  unfold setAddHashed setAddHashedIn
  refine (wpAny_holding (wpAny_bind (wpAny_setState_of ho hd hf ?_)))
  dsimp only
  rw [byScan_of (x := Value.str x tk) rfl hb hel]
  simp only [↓reduceIte]
  unfold setAddByScan
  refine wpAny_bind (wpAny_bind (wpAny_rule (wpAny_bind (wpAny_setScan_of hkey ho hd hf hel ?_))))
  cases hr : List.findIdx? (fun e => (PySem.strKind P w).is x e.2) es.toList with
  | some j =>
    dsimp only
    obtain ⟨hj, pj, _⟩ := List.findIdx?_eq_some_iff_getElem.mp hr
    have hm : x ∈ ds := hp.mem_iff.mp ((mem_of_find hel x).mpr ⟨es.toList[j], List.getElem_mem hj, pj⟩)
    refine wpAny_pure (wpAny_pure ?_)
    have e : s = { s with heap := s.heap } := by cases s; rfl
    have := h false s.heap (Heap.SameBut.refl a s.heap) (by rw [if_pos hm]; exact hS)
    rw [e]
    exact this
  | none =>
    dsimp only
    have hm : ¬ x ∈ ds := fun z => by
      obtain ⟨e, he, pe⟩ := (mem_of_find hel x).mp (hp.mem_iff.mpr z)
      have := List.findIdx?_eq_none_iff.mp hr e he
      rw [pe] at this
      exact Bool.noConfusion this
    rw [if_neg hm] at h
    have gw : ∀ (b : Bool) {s1 : Shared} {Q' : Unit → Shared → Prop}, Q' () s1 → wpAny (model P w) A (match b with | true => rule "set.scan.the-table-gave-way" | false => pure ()) Q' E s1 := fun b s1 Q' hq => by
      cases b <;> first | exact wpAny_pure hq | exact wpAny_rule hq
    have perm := layNew_perm t es ((PySem.strKind P w).hash x) (.str x tk)
    have fits := layNew_fits t es ((PySem.strKind P w).hash x) (.str x tk)
    have tl := layNew_led t es ((PySem.strKind P w).hash x) (.str x tk)
    generalize hL : layNew t es ((PySem.strKind P w).hash x) (.str x tk) = L at perm fits tl ⊢
    obtain ⟨es1, t1, wd, gave⟩ := L
    dsimp only at perm fits tl ⊢
    rw [Array.toList_push] at perm
    have hel1 : ElemsOf (PySem.strKind P w) es1.toList := (hel.push hkey rfl).perm perm
    have hp1 : (es1.toList.map fun e => strOf e.2).Perm (ds ++ [x]) := by
      have := perm.map fun e => strOf e.2
      rw [List.map_append] at this
      exact this.trans (hp.append_right _)
    have hb1 : es1.size < scanBound := by rw [← Array.length_toList, perm.length_eq, List.length_append, Array.length_toList, hn]; exact hroom
    refine (wpAny_bind (gw _ ?_))
    split
    · refine wpAny_bind ?_
      rw [hashByValue_scannable 8 (x := Value.str x tk) rfl]
      refine wpAny_pure ?_
      show wpAny _ _ (_ >>= _) _ _ _
      refine (add_tail_u (t2 := { t1 with plain := false }) ?_ ho hex hd hel1 hp1 hb1 (SetTable.fits_plain_off fits) (tl.trans hl) rfl fun h' sb g => wpAny_pure (h true h' sb g))
      exact fun b s1 Q' hq => by cases b <;> first | exact wpAny_pure hq | exact wpAny_rule hq
    · rename_i npl
      refine wpAny_bind (wpAny_pure ?_)
      simp only [↓reduceIte]
      refine (add_tail_u ?_ ho hex hd hel1 hp1 hb1 fits (tl.trans hl) (Bool.eq_false_iff.mpr npl) fun h' sb g => wpAny_pure (h true h' sb g))
      exact fun b s1 Q' hq => by cases b <;> first | exact wpAny_pure hq | exact wpAny_rule hq
end
end L2
set_option Elab.async false
set_option linter.all false
set_option maxRecDepth 100000
set_option maxHeartbeats 4000000
/-! a set of texts walked -/
namespace L2
open PySem PyProof.Rows Tw
theorem si_owner : Manifest.owners.lookup (String.ofList ['r', 'o', 't', 'a', 'r', 'e', 't', 'i', '_', 't', 'e', 's'].reverse) = some Manifest.sig_set_iterator := by kernel_rfl
theorem si_next : Slot "set_iterator" "__next__" "set_iterator.__next__" :=
  .of (owner := "set_iterator") (n := "__next__") (by rw [typeLookup_type, builtinLookup_eq_fast]; kernel_rfl) (by decide +kernel) (by decide +kernel) (by decide +kernel) (by first | exact .inl (by decide +kernel) | exact .inr (by decide +kernel)) (by rw [isSubtype_type]; kernel_rfl)
theorem si_iter : Slot "set_iterator" "__iter__" "set_iterator.__iter__" :=
  .of (owner := "set_iterator") (n := "__iter__") (by rw [typeLookup_type, builtinLookup_eq_fast]; kernel_rfl) (by decide +kernel) (by decide +kernel) (by decide +kernel) (by first | exact .inl (by decide +kernel) | exact .inr (by decide +kernel)) (by rw [isSubtype_type]; kernel_rfl)
theorem si_args_next (a : Value) : argsOk "set_iterator.__next__" ⟨[a], []⟩ := by
  unfold argsOk; rw [signature?_of (id := "set_iterator.__next__") (n := ['_', '_', 't', 'x', 'e', 'n', '_', '_']) (o := ['r', 'o', 't', 'a', 'r', 'e', 't', 'i', '_', 't', 'e', 's']) (by kernel_rfl) si_owner]; kernel_rfl
theorem si_args_iter (a : Value) : argsOk "set_iterator.__iter__" ⟨[a], []⟩ := by
  unfold argsOk; rw [signature?_of (id := "set_iterator.__iter__") (n := ['_', '_', 'r', 'e', 't', 'i', '_', '_']) (o := ['r', 'o', 't', 'a', 'r', 'e', 't', 'i', '_', 't', 'e', 's']) (by kernel_rfl) si_owner]; kernel_rfl
theorem si_entry_next : entryFor table "set_iterator.__next__" = some Builtin.«set_iterator.__next__» := entryFor_of_tree (by kernel_rfl)
theorem si_entry_iter : entryFor table "set_iterator.__iter__" = some Builtin.«dict_keyiterator.__iter__» :=
  entryFor_alias (id' := "dict_keyiterator.__iter__") (by kernel_rfl) (by first | rfl | decide +kernel | (unfold String.splitOn; simp +decide [String.splitOnAux])) (by decide +kernel) (by kernel_rfl)
theorem set_entry_iter : entryFor table "set.__iter__" = some Builtin.«frozenset.__iter__» :=
  entryFor_alias (id' := "frozenset.__iter__") (by kernel_rfl) (by first | rfl | decide +kernel | (unfold String.splitOn; simp +decide [String.splitOnAux])) (by decide +kernel) (by kernel_rfl)
abbrev IsSI (h : Heap) (it : Addr) (first : Value) (i : Nat) (a : Addr) (n ep : Nat) : Prop := h.get? it = some { cls := .type "set_iterator", dict := none, data := .fields #[first, rawInt (i : Int), .ref a, rawInt (n : Int), rawInt (ep : Int)], slots := #[] }
def SetIs (h : Heap) (a : Addr) (es : Array (Int × Value)) (ep : Nat) (t : SetTable) : Prop := (∃ o, h.get? a = some o ∧ o.data = .set es ep t) ∧ t.fits es.size = true
section
variable {P : Program} {w : World} {A : Around} {E : Value → Shared → Prop} {s : Shared} {it a : Addr} {es : Array (Int × Value)} {ep n i : Nat} {t : SetTable}
theorem SetIs.at {h h' : Heap} (hS : SetIs h a es ep t) (k : ∀ o, h.get? a = some o → h'.get? a = some o) : SetIs h' a es ep t := by
  obtain ⟨⟨o, ho, hd⟩, hf⟩ := hS
  exact ⟨⟨o, k o ho, hd⟩, hf⟩
theorem by_text {Q : Bool → Shared → Prop} (h : Q (BT w) s) : wpAny (model P w) A setsByText Q E s := by
  unfold setsByText
  exact wpAny_bind (wpAny_askSetting (wpAny_pure h))
theorem state_is {Q : (Array (Int × Value) × Nat × SetTable) → Shared → Prop} (hS : SetIs s.heap a es ep t) (h : Q (es, ep, t) s) : wpAny (model P w) A (setState a) Q E s := by
  obtain ⟨⟨o, ho, hd⟩, hf⟩ := hS
  exact wpAny_setState_of ho hd hf h
theorem entries_is {Q : Array (Int × Value) → Shared → Prop} (hS : SetIs s.heap a es ep t) (h : Q es s) : wpAny (model P w) A (setEntries a) Q E s := by
  unfold setEntries
  exact wpAny_bind (state_is hS (wpAny_pure h))
/-- by the world's own order -/
theorem next_text {slot : Nat} {Q : Option (Value × Nat) → Shared → Prop} (hb : BT w = true) (hS : SetIs s.heap a es ep t) (h : Q (((pickOrder (w.params.setOrder a ep) es)[i]?).map fun e => (e.2, slot)) s) : wpAny (model P w) A (setNext a slot i ep) Q E s := by
  unfold setNext
  refine wpAny_bind (state_is hS ?_)
  refine wpAny_bind (by_text ?_)
  rw [hb]
  show wpAny _ _ (if (ep != ep) = true then _ else _) _ _ _
  rw [if_neg (by simp)]
  unfold setWalk
  refine wpAny_bind (wpAny_bind (state_is hS (wpAny_bind (by_text ?_))))
  rw [hb]
  exact wpAny_bind (wpAny_askSetting (wpAny_pure (wpAny_pure h)))
/-- none or one in it -/
theorem next_one {slot : Nat} {Q : Option (Value × Nat) → Shared → Prop} (hb : BT w = false) (hl : t.led = true) (h1 : es.size ≤ 1) (hS : SetIs s.heap a es ep t)
    (h : Q (match es[SetTable.below t.place slot]?, t.place[SetTable.below t.place slot]? with | some (_, x), some j => some (x, j + 1) | _, _ => none) s) : wpAny (model P w) A (setNext a slot i ep) Q E s := by
  unfold setNext
  refine wpAny_bind (state_is hS ?_)
  refine wpAny_bind (by_text ?_)
  rw [hb]
  show wpAny _ _ (if (!t.plain && decide (es.size > 1)) = true then _ else _) _ _ _
  rw [decide_eq_false (by omega : ¬ es.size > 1), Bool.and_false, if_neg Bool.false_ne_true]
  refine wpAny_bind ?_
  show wpAny _ _ (if (!t.led && !es.isEmpty) = true then _ else _) _ _ _
  rw [hl, Bool.not_true, Bool.false_and, if_neg Bool.false_ne_true]
  exact wpAny_pure (wpAny_pure h)
theorem next_drawn {x : Value} {hx : Int} {pl : Nat} {Q : Value → Shared → Prop} (hS : SetIs s.heap a es ep t) (he : es[pl]? = some (hx, x)) (h : Q x s) : wpAny (model P w) A (setNextDrawn a pl ep) Q E s := by
  unfold setNextDrawn
  refine wpAny_bind (state_is hS ?_)
  show wpAny _ _ (if (ep != ep) = true then _ else _) _ _ _
  rw [if_neg (by simp), he]
  exact wpAny_pure h
theorem si_item_int {slot slot' : Nat} {x : Value} {Q : Option Value → Shared → Prop} (hit : IsSI s.heap it (rawInt (slot : Int)) i a n ep) (hS : SetIs s.heap a es ep t) (hn : es.size = n)
    (hN : ∀ (E' : Value → Shared → Prop) (Q' : Option (Value × Nat) → Shared → Prop), Q' (some (x, slot')) s → wpAny (model P w) A.in1 (setNext a slot i ep) Q' E' s)
    (hQ : ∀ h', IsSI h' it (rawInt (slot' : Int)) (i + 1) a n ep → Heap.SameBut it s.heap h' → Q (some x) { s with heap := h' }) : wpAny (model P w) A (pyNext (.ref it)) Q E s := by
  have hT : s.TypeIs (.ref it) "set_iterator" := ⟨_, hit, rfl⟩
  unfold pyNext
  refine wpAny_bind (wpAny_attempt (wpAny_callSpecial?_slot (name := Str.ofString "__next__") hT si_next (wpAny_call_entry si_next hT si_entry_next ?_ (si_args_next _))))
  show wpAny _ _ (fieldsOf (.ref it) >>= _) _ _ s
  refine wpAny_bind (wpAny_fieldsOf hit rfl ?_)
  show wpAny _ _ (setEntries a >>= _) _ _ s
  refine wpAny_bind (entries_is hS ?_)
  show wpAny _ _ (if ((es.size : Int) != (n : Int)) = true then _ else _) _ _ s
  rw [hn, if_neg (by simp)]
  show wpAny _ _ (setNext a slot i ep >>= _) _ _ s
  refine wpAny_bind (hN _ _ ?_)
  show wpAny _ _ (setField (.ref it) 0 (rawInt (slot' : Int)) >>= _) _ _ s
  refine wpAny_bind (wpAny_setField_rec hit (by simp) fun h1 hit1 sb1 => ?_)
  show wpAny _ _ (setField (.ref it) 1 (rawInt ((i : Int) + 1)) >>= _) _ _ _
  refine wpAny_bind (wpAny_setField_rec (s := { s with heap := h1 }) hit1 (by simp) fun h2 hit2 sb2 => ?_)
  have hit3 : IsSI h2 it (rawInt (slot' : Int)) (i + 1) a n ep := by
    show h2.get? it = some { cls := .type "set_iterator", dict := none, data := .fields #[rawInt (slot' : Int), rawInt ((i : Int) + 1), .ref a, rawInt (n : Int), rawInt (ep : Int)], slots := #[] }
    simpa using hit2
  exact wpAny_pure ⟨_, rfl, wpAny_pure (hQ h2 hit3 (sb1.trans sb2))⟩
theorem stop_exc {Q : Fin → Shared → Prop} {E' : Value → Shared → Prop} (hh : A.handled = none) (h : ∀ h' e, (∀ b o, s.heap.get? b = some o → h'.get? b = some o) → (∃ o, h'.get? e = some o ∧ o.cls = .type "StopIteration") → E' (.ref e) { s with heap := h' }) :
    wpAny (model P w) A (do let e ← newExc (.type "StopIteration") []; raiseNew e : Sem Fin) Q E' s := by
  refine wpAny_bind ?_
  simp only [newExc, newTuple]
  refine wpAny_bind (wpAny_newObj_type ?_ (by size_fits))
  refine wpAny_bind (m := firstArgMember _ _) (wpAny_of_eq (a := Value.none) (by first | rfl | (simp only [firstArgMember]; rfl)) ?_)
  refine wpAny_newObj_type ?_ (by size_fits)
  simp only [raiseNew]
  refine wpAny_bind (wpAny_bind (wpAny_handled ?_))
  rw [hh]
  refine (wpAny_pure (wpAny_throw ?_))
  exact h _ _ (fun b o e => Heap.get?_push_of_some _ (Heap.get?_push_of_some _ e)) ⟨_, Heap.get?_push_size _ rfl, rfl⟩
theorem si_end_int {slot : Nat} {Q : Option Value → Shared → Prop} (hh : A.handled = none) (hit : IsSI s.heap it (rawInt (slot : Int)) i a n ep) (hS : SetIs s.heap a es ep t) (hn : es.size = n)
    (hN : ∀ (E' : Value → Shared → Prop) (Q' : Option (Value × Nat) → Shared → Prop), Q' none s → wpAny (model P w) A.in1 (setNext a slot i ep) Q' E' s)
    (hQ : ∀ h', (∀ b o, b ≠ it → s.heap.get? b = some o → h'.get? b = some o) → Q none { s with heap := h' }) : wpAny (model P w) A (pyNext (.ref it)) Q E s := by
  have hT : s.TypeIs (.ref it) "set_iterator" := ⟨_, hit, rfl⟩
  unfold pyNext
  refine wpAny_bind (wpAny_attempt (wpAny_callSpecial?_slot (name := Str.ofString "__next__") hT si_next (wpAny_call_entry si_next hT si_entry_next ?_ (si_args_next _))))
  show wpAny _ _ (fieldsOf (.ref it) >>= _) _ _ s
  refine wpAny_bind (wpAny_fieldsOf hit rfl ?_)
  show wpAny _ _ (setEntries a >>= _) _ _ s
  refine wpAny_bind (entries_is hS ?_)
  show wpAny _ _ (if ((es.size : Int) != (n : Int)) = true then _ else _) _ _ s
  rw [hn, if_neg (by simp)]
  show wpAny _ _ (setNext a slot i ep >>= _) _ _ s
  refine wpAny_bind (hN _ _ ?_)
  show wpAny _ _ (setField (.ref it) 2 Value.none >>= _) _ _ s
  refine wpAny_bind (wpAny_setField_rec hit (by simp) fun h1 hit1 sb1 => ?_)
  refine (stop_exc (s := { s with heap := h1 }) (A := A.in1) hh fun h2 e k2 he => ?_)
  obtain ⟨o, ho, hc⟩ := he
  refine wpAny_bind (wpAny_isInstance (T := "StopIteration") (b := true) ⟨o, ho, hc⟩ isSubtype_stop ?_)
  exact wpAny_pure (hQ h2 fun b o hb q => k2 b o ((sb1.2 b hb).trans q))
/-- by a drawn order, laid as a tuple at T -/
theorem si_item_tup {T : Addr} {pls : List Nat} {pl : Nat} {hx : Int} {x : Value} {Q : Option Value → Shared → Prop} (hit : IsSI s.heap it (.ref T) i a n ep) (hS : SetIs s.heap a es ep t) (hn : es.size = n)
    (hTup : s.heap.get? T = some { cls := .type "tuple", data := .seq (pls.map fun (k : Nat) => rawInt (k : Int)).toArray }) (hp : pls[i]? = some pl) (he : es[pl]? = some (hx, x))
    (hQ : ∀ h', IsSI h' it (.ref T) (i + 1) a n ep → Heap.SameBut it s.heap h' → Q (some x) { s with heap := h' }) : wpAny (model P w) A (pyNext (.ref it)) Q E s := by
  have hT : s.TypeIs (.ref it) "set_iterator" := ⟨_, hit, rfl⟩
  unfold pyNext
  refine wpAny_bind (wpAny_attempt (wpAny_callSpecial?_slot (name := Str.ofString "__next__") hT si_next (wpAny_call_entry si_next hT si_entry_next ?_ (si_args_next _))))
  show wpAny _ _ (fieldsOf (.ref it) >>= _) _ _ s
  refine wpAny_bind (wpAny_fieldsOf hit rfl ?_)
  show wpAny _ _ (setEntries a >>= _) _ _ s
  refine wpAny_bind (entries_is hS ?_)
  show wpAny _ _ (if ((es.size : Int) != (n : Int)) = true then _ else _) _ _ s
  rw [hn, if_neg (by simp)]
  show wpAny _ _ (seqItems? (.ref T) >>= _) _ _ s
  refine wpAny_bind (wpAny_seqItems hTup rfl ?_)
  have hget : ((pls.map fun (k : Nat) => rawInt (k : Int)).toArray)[(i : Int).toNat]? = some (rawInt (pl : Int)) := by
    rw [show (i : Int).toNat = i from rfl]
    simp [hp]
  show wpAny _ _ (match ((pls.map fun (k : Nat) => rawInt (k : Int)).toArray)[(i : Int).toNat]? with | some (.int place _) => _ | some _ => _ | none => _) _ _ s
  rw [hget]
  show wpAny _ _ (setNextDrawn a pl ep >>= _) _ _ s
  refine wpAny_bind (next_drawn hS he ?_)
  show wpAny _ _ (setField (.ref it) 1 (rawInt ((i : Int) + 1)) >>= _) _ _ s
  refine wpAny_bind (wpAny_setField_rec hit (by simp) fun h2 hit2 sb2 => ?_)
  have hit3 : IsSI h2 it (.ref T) (i + 1) a n ep := by
    show h2.get? it = some { cls := .type "set_iterator", dict := none, data := .fields #[.ref T, rawInt ((i : Int) + 1), .ref a, rawInt (n : Int), rawInt (ep : Int)], slots := #[] }
    simpa using hit2
  exact wpAny_pure ⟨_, rfl, wpAny_pure (hQ h2 hit3 sb2)⟩
theorem si_end_tup {T : Addr} {pls : List Nat} {Q : Option Value → Shared → Prop} (hh : A.handled = none) (hit : IsSI s.heap it (.ref T) i a n ep) (hS : SetIs s.heap a es ep t) (hn : es.size = n)
    (hTup : s.heap.get? T = some { cls := .type "tuple", data := .seq (pls.map fun (k : Nat) => rawInt (k : Int)).toArray }) (hp : pls[i]? = none)
    (hQ : ∀ h', (∀ b o, b ≠ it → s.heap.get? b = some o → h'.get? b = some o) → Q none { s with heap := h' }) : wpAny (model P w) A (pyNext (.ref it)) Q E s := by
  have hT : s.TypeIs (.ref it) "set_iterator" := ⟨_, hit, rfl⟩
  unfold pyNext
  refine wpAny_bind (wpAny_attempt (wpAny_callSpecial?_slot (name := Str.ofString "__next__") hT si_next (wpAny_call_entry si_next hT si_entry_next ?_ (si_args_next _))))
  show wpAny _ _ (fieldsOf (.ref it) >>= _) _ _ s
  refine wpAny_bind (wpAny_fieldsOf hit rfl ?_)
  show wpAny _ _ (setEntries a >>= _) _ _ s
  refine wpAny_bind (entries_is hS ?_)
  show wpAny _ _ (if ((es.size : Int) != (n : Int)) = true then _ else _) _ _ s
  rw [hn, if_neg (by simp)]
  show wpAny _ _ (seqItems? (.ref T) >>= _) _ _ s
  refine wpAny_bind (wpAny_seqItems hTup rfl ?_)
  have hget : ((pls.map fun (k : Nat) => rawInt (k : Int)).toArray)[(i : Int).toNat]? = none := by
    rw [show (i : Int).toNat = i from rfl]
    have : pls.length ≤ i := by rwa [List.getElem?_eq_none_iff] at hp
    simp [this]
  show wpAny _ _ (match ((pls.map fun (k : Nat) => rawInt (k : Int)).toArray)[(i : Int).toNat]? with | some (.int place _) => _ | some _ => _ | none => _) _ _ s
  rw [hget]
  show wpAny _ _ (setField (.ref it) 0 (rawInt 0) >>= _) _ _ s
  refine wpAny_bind (wpAny_setField_rec hit (by simp) fun h1 hit1 sb1 => ?_)
  show wpAny _ _ (setField (.ref it) 2 Value.none >>= _) _ _ _
  refine wpAny_bind (wpAny_setField_rec (s := { s with heap := h1 }) hit1 (by simp) fun h2 hit2 sb2 => ?_)
  refine (stop_exc (s := { s with heap := h2 }) (A := A.in1) hh fun h3 e k3 he => ?_)
  obtain ⟨o, ho, hc⟩ := he
  refine wpAny_bind (wpAny_isInstance (T := "StopIteration") (b := true) ⟨o, ho, hc⟩ isSubtype_stop ?_)
  exact wpAny_pure (hQ h3 fun b o hb q => k3 b o ((sb2.2 b hb).trans ((sb1.2 b hb).trans q)))
theorem si_self {first : Value} {Q : Value → Shared → Prop} (hit : IsSI s.heap it first i a n ep) (h : Q (.ref it) s) : wpAny (model P w) A (pyIter (.ref it)) Q E s := by
  have hT : s.TypeIs (.ref it) "set_iterator" := ⟨_, hit, rfl⟩
  refine wpAny_pyIter_slot hT si_iter (wpAny_call_entry si_iter hT si_entry_iter ?_ (si_args_iter _))
  show wpAny _ _ (ret (.ref it)) _ _ s
  exact wpAny_pure ⟨_, rfl, "set_iterator", _, hT, si_next.lookup, h⟩
/-! ### orders -/
theorem erase_perm {α : Type} : ∀ (l : List α) (k : Nat) (h : k < l.length), (l[k] :: l.eraseIdx k).Perm l
  | [], k, h => by simp at h
  | x :: l, 0, h => List.Perm.refl _
  | x :: l, k + 1, h => by
    have hk : k < l.length := by simpa using h
    have ih := erase_perm l k hk
    show (l[k] :: x :: l.eraseIdx k).Perm (x :: l)
    exact (List.Perm.swap x l[k] (l.eraseIdx k)).trans (List.Perm.cons x ih)
theorem pick_go {α : Type} (next : Nat → Nat) : ∀ (fuel k : Nat) (left : List α) (out : Array α), left.length = fuel → (pickOrder.go next fuel k left out).toList.Perm (out.toList ++ left)
  | 0, k, left, out, h => by
    have e : left = [] := List.eq_nil_of_length_eq_zero h
    subst e
    unfold pickOrder.go
    rw [List.append_nil]
  | fuel + 1, k, left, out, h => by
    unfold pickOrder.go
    have hlt : next k % left.length < left.length := Nat.mod_lt _ (by omega)
    rw [List.getElem?_eq_getElem hlt]
    dsimp only
    have ih := pick_go next fuel (k + 1) (left.eraseIdx (next k % left.length)) (out.push left[next k % left.length]) (by rw [List.length_eraseIdx_of_lt hlt]; omega)
    refine ih.trans ?_
    rw [Array.toList_push, List.append_assoc]
    exact List.Perm.append_left _ (erase_perm left _ hlt)
theorem pick_perm {α : Type} (next : Nat → Nat) (xs : Array α) : (pickOrder next xs).toList.Perm xs.toList := by
  unfold pickOrder
  have := pick_go next xs.size 0 xs.toList #[] (by simp)
  simpa using this
theorem wpAny_draw {M : Model} {src : Source} {m : Nat} {Q : Nat → Shared → Prop} (hm : m ≠ 0) (h : ∀ k, k < m → ∀ d, Q k { s with drawn := d }) : wpAny M A (choose src m) Q E s := fun _ _ _ => ⟨hm, h _ (Nat.mod_lt _ (Nat.pos_of_ne_zero hm)) _⟩
theorem draw_order {α : Type} : ∀ (m : Nat) (xs : List α) (s : Shared) (Q : List α → Shared → Prop), xs.length = m → (∀ ys d, ys.Perm xs → Q ys { s with drawn := d }) → wpAny (model P w) A (drawOrder m xs) Q E s
  | 0, xs, s, Q, hl, h => by
    have e : xs = [] := List.eq_nil_of_length_eq_zero hl
    subst e
    have : s = { s with drawn := s.drawn } := by cases s; rfl
    rw [this]
    exact wpAny_pure (h [] s.drawn (List.Perm.refl _))
  | m + 1, [], s, Q, hl, h => by simp at hl
  | m + 1, x :: xs, s, Q, hl, h => by
    unfold drawOrder
    refine wpAny_bind (wpAny_draw (by simp) fun k hk d => ?_)
    have hk' : k < (x :: xs).length := hk
    rw [List.getElem?_eq_getElem hk']
    refine wpAny_bind (draw_order m ((x :: xs).eraseIdx k) { s with drawn := d } _ (by rw [List.length_eraseIdx_of_lt hk']; omega) fun ys d2 hp => ?_)
    refine wpAny_pure (h _ d2 ?_)
    exact (List.Perm.cons _ hp).trans (erase_perm _ k hk')
end
/-! ### the walk -/
/-- the iterator at it walks vs -/
def SiSt (P : Program) (w : World) (it a : Addr) (es : Array (Int × Value)) (ep : Nat) (t : SetTable) (M : Nat) (T : Addr) (pls : List Nat) (i : Nat) (s : Shared) : Prop :=
  SetIs s.heap a es ep t ∧ match M with
  | 0 => IsSI s.heap it (rawInt ((0 : Nat) : Int)) i a es.size ep
  | 1 => IsSI s.heap it (rawInt (((if i = 0 then 0 else t.place.getD 0 0 + 1) : Nat) : Int)) i a es.size ep
  | _ => IsSI s.heap it (.ref T) i a es.size ep ∧ s.heap.get? T = some { cls := .type "tuple", data := .seq (pls.map fun (k : Nat) => rawInt (k : Int)).toArray }
theorem below_one (p j : Nat) : SetTable.below #[p] j = if p < j then 1 else 0 := by
  unfold SetTable.below SetTable.below.go
  by_cases h : p < j
  · simp [h, SetTable.below.go]
  · simp [h, SetTable.below.go]
end L2
set_option Elab.async false
set_option linter.all false
set_option maxRecDepth 100000
set_option maxHeartbeats 4000000
/-! sorted(a set of texts) -/
namespace L2
open PySem PyProof.Rows Tw
section
variable {P : Program} {w : World} {it a T : Addr} {es : Array (Int × Value)} {ep : Nat} {t : SetTable} {pls : List Nat}
theorem sist_frame {M i : Nat} {s : Shared} {h' : Heap} {tk : Nat} (hst : SiSt P w it a es ep t M T pls i s) (k : ∀ b ∈ [it, a, T], ∀ o, s.heap.get? b = some o → h'.get? b = some o) : SiSt P w it a es ep t M T pls i { s with heap := h', toks := tk } := by
  obtain ⟨hS, hm⟩ := hst
  refine ⟨hS.at fun o e => k a (by simp) o e, ?_⟩
  match M, hm with
  | 0, hm => exact k it (by simp) _ hm
  | 1, hm => exact k it (by simp) _ hm
  | M + 2, hm => exact ⟨k it (by simp) _ hm.1, k T (by simp) _ hm.2⟩
theorem sist_turn {M i j : Nat} {s : Shared} {h' : Heap} (hst : SiSt P w it a es ep t M T pls i s) (sb : Heap.SameBut it s.heap h') (ha : a ≠ it) : SetIs h' a es ep t := hst.1.at fun o e => (sb.2 a ha).trans e
theorem moved_turn {s : Shared} {h' : Heap} (sb : ∀ b o, b ≠ it → s.heap.get? b = some o → h'.get? b = some o) : Moved [it] (fun g g' => g' = g) s { s with heap := h' } :=
  ⟨fun b o hb e => sb b o (fun z => hb (by simp [z])) e, rfl, rfl, rfl, Nat.le_refl _⟩
theorem walks_set {M : Nat} {vs : List Value} (ha : a ≠ it) (hTi : T ≠ it) (hlen : vs.length = es.size)
    (hitem : ∀ (A : Around), A.handled = none → ∀ (i : Nat) (s : Shared) (x : Value) (Q : Option Value → Shared → Prop) (E : Value → Shared → Prop), vs[i]? = some x → SiSt P w it a es ep t M T pls i s → (∀ h', SiSt P w it a es ep t M T pls (i + 1) { s with heap := h' } → Heap.SameBut it s.heap h' → Q (some x) { s with heap := h' }) → wpAny (model P w) A (pyNext (.ref it)) Q E s)
    (hend : ∀ (A : Around), A.handled = none → ∀ (s : Shared) (Q : Option Value → Shared → Prop) (E : Value → Shared → Prop), SiSt P w it a es ep t M T pls vs.length s → (∀ h', (∀ b o, b ≠ it → s.heap.get? b = some o → h'.get? b = some o) → Q none { s with heap := h' }) → wpAny (model P w) A (pyNext (.ref it)) Q E s)
    (A : Around) (hA : A.handled = none) : WalksS P w A it [it, a, T] [it] (fun g g' => g' = g) vs.length (fun i v => vs[i]? = some v) (SiSt P w it a es ep t M T pls) where
  sub := fun b hb => by
    have : b = it := by simpa using hb
    rw [this]; simp
  grefl := fun _ => rfl
  gtrans := fun _ _ _ h1 h2 => h2.trans h1
  frame := fun i s h' tk hst _ k => sist_frame hst k
  item := fun i s Q E hi hst hQ => hitem A hA i s vs[i] Q E (List.getElem?_eq_getElem hi) hst fun h' st' sb => hQ _ _ (List.getElem?_eq_getElem hi) st' (moved_turn fun b o hb e => (sb.2 b hb).trans e)
  done := fun s Q E hst hQ => hend A hA s Q E hst fun h' k => hQ _ (moved_turn k)
  self := fun i s Q E hst h => by
    obtain ⟨hS, hm⟩ := hst
    match M, hm with
    | 0, hm => exact si_self hm h
    | 1, hm => exact si_self hm h
    | M + 2, hm => exact si_self hm.1 h
/-- the three ways -/
theorem walk_text (hb : BT w = true) (ha : a ≠ it) (hTi : T ≠ it) (A : Around) (hA : A.handled = none) :
    WalksS P w A it [it, a, T] [it] (fun g g' => g' = g) ((pickOrder (w.params.setOrder a ep) es).toList.map (·.2)).length (fun i v => ((pickOrder (w.params.setOrder a ep) es).toList.map (·.2))[i]? = some v) (SiSt P w it a es ep t 0 T pls) := by
  have hl : ((pickOrder (w.params.setOrder a ep) es).toList.map (·.2)).length = es.size := by rw [List.length_map, (pick_perm _ es).length_eq, Array.length_toList]
  refine walks_set ha hTi hl (fun A hA i s x Q E hx hst hQ => ?_) (fun A hA s Q E hst hQ => ?_) A hA
  · obtain ⟨e, he, rfl⟩ : ∃ e, (pickOrder (w.params.setOrder a ep) es)[i]? = some e ∧ e.2 = x := by
      rw [List.getElem?_map] at hx
      cases q : (pickOrder (w.params.setOrder a ep) es).toList[i]? with
      | none => rw [q] at hx; cases hx
      | some e => rw [q] at hx; exact ⟨e, by rw [← Array.getElem?_toList]; exact q, Option.some.inj hx⟩
    refine si_item_int (slot := 0) (slot' := 0) hst.2 hst.1 rfl (fun E' Q' q => next_text hb hst.1 (by rw [he]; exact q)) fun h' hit sb => hQ h' ⟨sist_turn (j := 0) hst sb ha, hit⟩ sb
  · refine si_end_int (slot := 0) hA hst.2 hst.1 rfl (fun E' Q' q => next_text hb hst.1 ?_) hQ
    have : (pickOrder (w.params.setOrder a ep) es)[((pickOrder (w.params.setOrder a ep) es).toList.map (·.2)).length]? = none := by
      rw [← Array.getElem?_toList, List.length_map]
      exact List.getElem?_eq_none_iff.mpr (Nat.le_refl _)
    rw [this]
    exact q
theorem walk_one (hb : BT w = false) (hl : t.led = true) (h1 : es.size ≤ 1) (hf : t.fits es.size = true) (ha : a ≠ it) (hTi : T ≠ it) (A : Around) (hA : A.handled = none) :
    WalksS P w A it [it, a, T] [it] (fun g g' => g' = g) (es.toList.map (·.2)).length (fun i v => (es.toList.map (·.2))[i]? = some v) (SiSt P w it a es ep t 1 T pls) := by
  have hlen : (es.toList.map (·.2)).length = es.size := by rw [List.length_map, Array.length_toList]
  have hpl : t.place.size = es.size := by
    unfold SetTable.fits at hf
    simp only [Bool.and_eq_true, beq_iff_eq] at hf
    exact hf.1
  refine walks_set ha hTi hlen (fun A hA i s x Q E hx hst hQ => ?_) (fun A hA s Q E hst hQ => ?_) A hA
  · have hi : i < es.size := by rw [← hlen]; exact (List.getElem?_eq_some_iff.mp hx).1
    have hi0 : i = 0 := by omega
    subst hi0
    obtain ⟨p, hp⟩ : ∃ p, t.place = #[p] := by
      have : t.place.size = 1 := by omega
      exact Array.size_eq_one_iff.mp this
    obtain ⟨e, he, rfl⟩ : ∃ e, es[0]? = some e ∧ e.2 = x := by
      rw [List.getElem?_map] at hx
      cases q : es.toList[0]? with
      | none => rw [q] at hx; cases hx
      | some e => rw [q] at hx; exact ⟨e, by rw [← Array.getElem?_toList]; exact q, Option.some.inj hx⟩
    have hst2 : IsSI s.heap it (rawInt ((0 : Nat) : Int)) 0 a es.size ep := hst.2
    refine si_item_int (slot := 0) (slot' := p + 1) hst2 hst.1 rfl (fun E' Q' q => next_one hb hl h1 hst.1 ?_) fun h' hit sb => hQ h' ⟨sist_turn (j := 0) hst sb ha, ?_⟩ sb
    · rw [hp, below_one, if_neg (by omega), he]
      exact q
    · show IsSI h' it (rawInt ((((if (0 + 1 : Nat) = 0 then 0 else t.place.getD 0 0 + 1) : Nat)) : Int)) 1 a es.size ep
      rw [hp]
      exact hit
  · rw [hlen] at hst
    by_cases h0 : es.size = 0
    · have hst2 : IsSI s.heap it (rawInt ((0 : Nat) : Int)) es.size a es.size ep := by
        have := hst.2
        rw [h0] at this ⊢
        exact this
      refine si_end_int (slot := 0) hA hst2 hst.1 rfl (fun E' Q' q => next_one hb hl h1 hst.1 ?_) hQ
      have : es[SetTable.below t.place 0]? = none := by rw [Array.getElem?_eq_none_iff]; omega
      rw [this]
      exact q
    · obtain ⟨p, hp⟩ : ∃ p, t.place = #[p] := by
        have : t.place.size = 1 := by omega
        exact Array.size_eq_one_iff.mp this
      have h11 : es.size = 1 := by omega
      have hst2 : IsSI s.heap it (rawInt (((p + 1 : Nat)) : Int)) es.size a es.size ep := by
        have : IsSI s.heap it (rawInt ((((if es.size = 0 then 0 else t.place.getD 0 0 + 1) : Nat)) : Int)) es.size a es.size ep := hst.2
        rw [if_neg h0, hp] at this
        exact this
      refine si_end_int (slot := p + 1) hA hst2 hst.1 rfl (fun E' Q' q => next_one hb hl h1 hst.1 ?_) hQ
      have : es[SetTable.below t.place (p + 1)]? = none := by rw [hp, below_one, if_pos (by omega), Array.getElem?_eq_none_iff]; omega
      rw [this]
      exact q
theorem walk_drawn (hp : pls.Perm (List.range es.size)) (ha : a ≠ it) (hTi : T ≠ it) (A : Around) (hA : A.handled = none) :
    WalksS P w A it [it, a, T] [it] (fun g g' => g' = g) (pls.map fun k => ((es[k]?).getD (0, .none)).2).length (fun i v => (pls.map fun k => ((es[k]?).getD (0, .none)).2)[i]? = some v) (SiSt P w it a es ep t 2 T pls) := by
  have hlen : (pls.map fun k => ((es[k]?).getD (0, .none)).2).length = es.size := by rw [List.length_map, hp.length_eq, List.length_range]
  refine walks_set ha hTi hlen (fun A hA i s x Q E hx hst hQ => ?_) (fun A hA s Q E hst hQ => ?_) A hA
  · obtain ⟨pl, hpl, rfl⟩ : ∃ pl, pls[i]? = some pl ∧ ((es[pl]?).getD (0, .none)).2 = x := by
      rw [List.getElem?_map] at hx
      cases q : pls[i]? with
      | none => rw [q] at hx; cases hx
      | some pl => rw [q] at hx; exact ⟨pl, rfl, Option.some.inj hx⟩
    have hlt : pl < es.size := List.mem_range.mp (hp.mem_iff.mp (List.mem_of_getElem? hpl))
    have he : es[pl]? = some (es[pl].1, ((es[pl]?).getD (0, .none)).2) := by rw [Array.getElem?_eq_getElem hlt]; rfl
    obtain ⟨h1, h2⟩ := (show IsSI s.heap it (.ref T) i a es.size ep ∧ s.heap.get? T = some { cls := .type "tuple", data := .seq (pls.map fun (k : Nat) => rawInt (k : Int)).toArray } from hst.2)
    exact si_item_tup h1 hst.1 rfl h2 hpl he fun h' hit sb => hQ h' ⟨sist_turn (j := 0) hst sb ha, hit, (sb.2 T hTi).trans h2⟩ sb
  · rw [hlen] at hst
    obtain ⟨h1, h2⟩ := (show IsSI s.heap it (.ref T) es.size a es.size ep ∧ s.heap.get? T = some { cls := .type "tuple", data := .seq (pls.map fun (k : Nat) => rawInt (k : Int)).toArray } from hst.2)
    exact si_end_tup hA h1 hst.1 rfl h2 (by rw [List.getElem?_eq_none_iff, hp.length_eq, List.length_range]; exact Nat.le_refl _) hQ
end
section
variable {P : Program} {w : World} {A : Around} {E : Value → Shared → Prop} {s : Shared} {a : Addr}
theorem push_sz (h : Heap) (o : Obj) : (h.push o).objs.size = h.objs.size + 1 := Heap.size_push ..
theorem push_gt (h : Heap) (o : Obj) : h.objs.size < (h.push o).objs.size := by rw [push_sz]; exact Nat.lt_succ_self _
theorem push_lt {h : Heap} {b : Nat} (o : Obj) (hb : b < h.objs.size) : b < (h.push o).objs.size := by rw [push_sz]; exact Nat.lt_succ_of_lt hb
theorem push_le (h : Heap) (o : Obj) : (h.push o).objs.size ≤ h.objs.size + 2 := by rw [push_sz]; exact Nat.le_succ _
theorem push_le2 (h : Heap) (o u : Obj) : ((h.push o).push u).objs.size ≤ h.objs.size + 2 := by rw [push_sz, push_sz]; exact Nat.le_refl _
theorem val_strs {l : List (Int × Value)} {vs : List Value} {ds : List Str} (hel : ElemsOf (PySem.strKind P w) l) (hp : vs.Perm (l.map (·.2))) (hd : (l.map fun e => strOf e.2).Perm ds) : ∃ ss, StrsAre vs ss ∧ ss.Perm ds := by
  refine ⟨vs.map strOf, strsAre_map vs fun v hv => ?_, ?_⟩
  · obtain ⟨e, he, rfl⟩ := List.mem_map.mp (hp.mem_iff.mp hv)
    exact elem_str hel e he
  · have h1 := hp.map strOf
    rw [List.map_map] at h1
    exact h1.trans hd
theorem iter_set {ds : List Str} {Q : Value → Shared → Prop} (hU : SetU P w s.heap a ds)
    (h : ∀ (h' : Heap) (d : Drawn) (it T : Addr) (M : Nat) (es : Array (Int × Value)) (ep : Nat) (t : SetTable) (pls : List Nat) (vs : List Value) (ss : List Str), (∀ b o, s.heap.get? b = some o → h'.get? b = some o) → s.heap.objs.size ≤ it → (T = a ∨ s.heap.objs.size ≤ T) → StrsAre vs ss → ss.Perm ds →
      (∀ A' : Around, A'.handled = none → WalksS P w A' it [it, a, T] [it] (fun g g' => g' = g) vs.length (fun i v => vs[i]? = some v) (SiSt P w it a es ep t M T pls)) → SiSt P w it a es ep t M T pls 0 { s with heap := h', drawn := d } → Q (.ref it) { s with heap := h', drawn := d }) :
    wpAny (model P w) A (pyIter (.ref a)) Q E s := by
  obtain ⟨o, es, ep, t, ho, hex, hd, hel, hp, hb, hf, hl, hq⟩ := hU
  have hS : SetIs s.heap a es ep t := ⟨⟨o, ho, hd⟩, hf⟩
  have hT : s.TypeIs (.ref a) "set" := ⟨o, ho, hex.1⟩
  have alt : a < s.heap.objs.size := Heap.lt_size ho
  refine wpAny_pyIter_slot hT F.slot_set_iter (wpAny_call_entry F.slot_set_iter hT set_entry_iter ?_ (F.args_set_iter_1 _))
  show wpAny _ _ (Builtin.Frozenset.sizeOf a >>= _) _ _ s
  unfold Builtin.Frozenset.sizeOf
  refine wpAny_bind (wpAny_bind (entries_is hS (wpAny_pure ?_)))
  show wpAny _ _ (setDrawn a >>= _) _ _ s
  unfold setDrawn
  refine wpAny_bind (wpAny_bind (state_is hS (wpAny_bind (by_text (wpAny_pure ?_)))))
  show wpAny _ _ (if (!BT w && (!t.plain && decide (es.size > 1))) = true then _ else _) _ _ s
  by_cases hdr : (!BT w && (!t.plain && decide (es.size > 1))) = true
  · rw [if_pos hdr]
    refine wpAny_bind (draw_order es.size (List.range es.size) s _ (List.length_range) fun pls d hpl => ?_)
    have hpsz : pls.length ≤ sizeLine := by rw [hpl.length_eq, List.length_range]; exact fits_of_scanBound hb
    refine wpAny_bind (wpAny_newTuple ?_ (by rw [List.length_map]; exact hpsz))
    have hS1 : SetIs (s.heap.push { cls := .type "tuple", data := .seq (pls.map fun (k : Nat) => rawInt (k : Int)).toArray }) a es ep t := hS.at fun o e => Heap.get?_push_of_some _ e
    show wpAny _ _ (setEpoch a >>= _) _ _ _
    unfold setEpoch
    refine wpAny_bind (wpAny_bind (state_is (s := { s with heap := s.heap.push { cls := .type "tuple", data := .seq (pls.map fun (k : Nat) => rawInt (k : Int)).toArray }, drawn := d }) hS1 (wpAny_pure ?_)))
    refine wpAny_bind (wpAny_newObj_type ?_ (by size_fits))
    refine wpAny_pure ⟨_, rfl, "set_iterator", _, ⟨_, Heap.get?_push_size _ rfl, rfl⟩, si_next.lookup, ?_⟩
    have hz : (s.heap.push { cls := .type "tuple", data := .seq (pls.map fun (k : Nat) => rawInt (k : Int)).toArray }).objs.size = s.heap.objs.size + 1 := Heap.size_push ..
    obtain ⟨ss, hss, hsp⟩ := val_strs (vs := pls.map fun k => ((es[k]?).getD (0, .none)).2) hel (by
      have h1 := hpl.map fun k => ((es[k]?).getD (0, .none)).2
      refine h1.trans ?_
      have : (List.range es.size).map (fun k => ((es[k]?).getD (0, .none)).2) = es.toList.map (·.2) := by
        apply List.ext_getElem?
        intro i
        rw [List.getElem?_map, List.getElem?_map]
        by_cases z : i < es.size
        · rw [List.getElem?_range z, Array.getElem?_toList, Array.getElem?_eq_getElem z]
          show some ((es[i]?.getD (0, .none)).2) = _
          rw [Array.getElem?_eq_getElem z]
          rfl
        · have z1 : (List.range es.size)[i]? = none := by rw [List.getElem?_eq_none_iff, List.length_range]; omega
          have z2 : es.toList[i]? = none := by rw [List.getElem?_eq_none_iff, Array.length_toList]; omega
          rw [z1, z2]; rfl
      rw [this]) hp
    refine h _ d _ s.heap.objs.size 2 es ep t pls _ ss (fun b o e => Heap.get?_push_of_some _ (Heap.get?_push_of_some _ e)) (Nat.le_of_lt (push_gt _ _)) (.inr (Nat.le_refl _)) hss hsp (fun A' hA' => walk_drawn hpl (Nat.ne_of_lt (push_lt _ alt)) (Nat.ne_of_lt (push_gt _ _)) A' hA') ⟨hS1.at fun o e => Heap.get?_push_of_some _ e, Heap.get?_push_size _ rfl, Heap.get?_push_of_some _ (Heap.get?_push_size _ rfl)⟩
  · rw [if_neg hdr]
    refine wpAny_bind (wpAny_pure ?_)
    show wpAny _ _ (setEpoch a >>= _) _ _ _
    unfold setEpoch
    refine wpAny_bind (wpAny_bind (state_is hS (wpAny_pure ?_)))
    refine wpAny_bind (wpAny_newObj_type ?_ (by size_fits))
    refine wpAny_pure ⟨_, rfl, "set_iterator", _, ⟨_, Heap.get?_push_size _ rfl, rfl⟩, si_next.lookup, ?_⟩
    have es0 : s = { s with heap := s.heap, drawn := s.drawn } := by cases s; rfl
    have hne : a ≠ s.heap.objs.size := Nat.ne_of_lt alt
    have hsz : ∀ o : Obj, (s.heap.push o).objs.size = s.heap.objs.size + 1 := fun o => Heap.size_push ..
    cases hbt : BT w with
    | true =>
      obtain ⟨ss, hss, hsp⟩ := val_strs (vs := (pickOrder (w.params.setOrder a ep) es).toList.map (·.2)) hel ((pick_perm _ es).map _) hp
      exact h _ s.drawn _ a 0 es ep t [] _ ss (fun b o e => Heap.get?_push_of_some _ e) (Nat.le_refl _) (.inl rfl) hss hsp (fun A' hA' => walk_text hbt hne hne A' hA') ⟨hS.at fun o e => Heap.get?_push_of_some _ e, Heap.get?_push_size _ rfl⟩
    | false =>
      have h1 : es.size ≤ 1 := by
        rcases Nat.lt_or_ge 1 es.size with z | z
        · exfalso
          apply hdr
          rw [hbt, hq (by omega), decide_eq_true z]
          rfl
        · exact z
      have hled : t.led = true := by rw [hl, hbt]; rfl
      obtain ⟨ss, hss, hsp⟩ := val_strs (vs := es.toList.map (·.2)) hel (List.Perm.refl _) hp
      exact h _ s.drawn _ a 1 es ep t [] _ ss (fun b o e => Heap.get?_push_of_some _ e) (Nat.le_refl _) (.inl rfl) hss hsp (fun A' hA' => walk_one hbt hled h1 hf hne hne A' hA') ⟨hS.at fun o e => Heap.get?_push_of_some _ e, Heap.get?_push_size _ rfl⟩
end
end L2
set_option Elab.async false
set_option linter.all false
set_option maxRecDepth 100000
set_option maxHeartbeats 4000000
/-! sorted(a set of texts), the call -/
namespace L2
open PySem PyProof.Rows Tw
theorem split_set_len : splitId "set.__len__" = some ("set", "__len__") := by kernel_rfl
section
variable {P : Program} {w : World} {A : Around} {E : Value → Shared → Prop} {s : Shared} {a : Addr}
theorem hint_set {Q : Bool → Shared → Prop} (hT : s.TypeIs (.ref a) "set") (h : Q false s) : wpAny (model P w) A (Builtin.List.listLengthHint (.ref a)) Q E s := by
  unfold Builtin.List.listLengthHint
  refine wpAny_bind (wpAny_specialOf hT F.slot_set_len.lookup ?_)
  dsimp only
  rw [split_set_len]
  dsimp only
  refine wpAny_bind (wpAny_isInstance hT sub_set_self ?_)
  simp only [Bool.not_true, Bool.false_eq_true, if_false]
  show wpAny _ _ (if _ = true then (typeOf (.ref a) >>= _) else _) _ _ _
  rw [if_pos (by decide +kernel)]
  refine wpAny_bind (wpAny_typeOf hT ?_)
  exact wpAny_pure h
theorem collect_set {ds : List Str} {Q : List Value → Shared → Prop} (hh : A.handled = none) (hU : SetU P w s.heap a ds) (hz : ds.length ≤ sizeLine)
    (h : ∀ (h' : Heap) (d : Drawn) (tk : Nat) (vs : List Value) (ss : List Str), (∀ b o, s.heap.get? b = some o → h'.get? b = some o) → s.heap.objs.size ≤ h'.objs.size → StrsAre vs ss → ss.Perm ds → Q vs { s with heap := h', drawn := d, toks := tk }) :
    wpAny (model P w) A (collect (.ref a)) Q E s := by
  obtain ⟨o, _, _, _, ho, hex, _⟩ := id hU
  have alt : a < s.heap.objs.size := Heap.lt_size ho
  unfold collect
  refine (wpAny_bind (wpAny_runValue (codeAny_builtin F.entry_proto_collect ?_)))
  rw [Around.under_plainId F.plain_proto_collect _]
  show wpAny _ A.in1 (newList [] >>= fun l => again (.builtin "list.__iadd__" ⟨[l, .ref a], []⟩)) _ _ s
  refine (wpAny_bind (wpAny_newObj_type ?_))
  refine (wpAny_pure ⟨plainId_quiet F.plain_list_iadd _, codeAny_builtin F.entry_list_iadd ?_⟩)
  rw [Around.under_plainId F.plain_list_iadd _]
  have hU1 : SetU P w (s.heap.push { cls := .type "list", data := .seq ([] : List Value).toArray }) a ds := hU.at fun o e => Heap.get?_push_of_some _ e
  have hT1 : Shared.TypeIs { s with heap := s.heap.push { cls := .type "list", data := .seq ([] : List Value).toArray } } (.ref a) "set" := ⟨o, Heap.get?_push_of_some _ ho, hex.1⟩
  show wpAny _ A.in1 (Builtin.List.listExtendWith (.ref s.heap.objs.size) (.ref a) (.ref s.heap.objs.size)) _ _ _
  unfold Builtin.List.listExtendWith
  refine (wpAny_bind (wpAny_typeOf hT1 ?_))
  have e1 : Builtin.List.listSameRef (.ref s.heap.objs.size) (.ref a) = false := by
    have : (s.heap.objs.size == a) = false := by simpa using Nat.ne_of_gt alt
    simpa [Builtin.List.listSameRef] using Nat.ne_of_gt alt
  have e2 : (Value.type "set" == Value.type "list") = false := by decide
  have e3 : (Value.type "set" == Value.type "tuple") = false := by decide
  simp only [e1, e2, e3, Bool.or_false, Bool.false_eq_true, if_false]
  refine (wpAny_bind (iter_set (s := { s with heap := s.heap.push { cls := .type "list", data := .seq ([] : List Value).toArray } }) hU1 fun h' d it T M es ep t pls vs ss keep hit hTT hss hsp Wk st0 => ?_))
  have hT2 : Shared.TypeIs { s with heap := h', drawn := d } (.ref a) "set" := ⟨o, keep _ _ (Heap.get?_push_of_some _ ho), hex.1⟩
  refine wpAny_bind (wpAny_holding (hint_set hT2 ?_))
  show wpAny _ A.in1 (if _ = true then (rule "list.extend.makes-room" >>= fun _ => Builtin.List.listTouch (.ref s.heap.objs.size) >>= fun _ => again (.builtin "list.extend.loop" ⟨[.ref s.heap.objs.size, .ref it, .ref s.heap.objs.size], []⟩)) else _) _ _ _
  rw [if_pos (by decide +kernel)]
  refine (wpAny_bind (wpAny_rule ?_))
  have gS : h'.get? s.heap.objs.size = some { cls := .type "list", data := .seq ([] : List Value).toArray } := keep _ _ (Heap.get?_push_size _ rfl)
  refine wpAny_bind ?_
  show wpAny _ A.in1 (updateSeq s.heap.objs.size (·.push .none) >>= fun _ => updateSeq s.heap.objs.size (·.pop)) _ _ _
  refine (wpAny_bind (wpAny_updateSeq gS rfl ?_))
  have gS2 := Heap.get?_update_self (Obj.mapSeq (·.push Value.none)) gS rfl
  refine (wpAny_updateSeq gS2 rfl ?_)
  have gS3 := Heap.get?_update_self (Obj.mapSeq (·.pop)) gS2 rfl
  have oth : ∀ b o, b ≠ s.heap.objs.size → h'.get? b = some o → ((h'.update s.heap.objs.size (Obj.mapSeq (·.push Value.none))).update s.heap.objs.size (Obj.mapSeq (·.pop))).get? b = some o :=
    fun b o hb e => (Heap.get?_update_other _ _ (Ne.symm hb)).trans ((Heap.get?_update_other _ _ (Ne.symm hb)).trans e)
  have hit' : s.heap.objs.size < it := Nat.lt_of_lt_of_le (push_gt s.heap _) hit
  have nSf : s.heap.objs.size ∉ [it, a, T] := fun z => by
    simp only [List.mem_cons, List.not_mem_nil, or_false] at z
    rcases z with z | z | z
    · exact Nat.ne_of_lt hit' z
    · exact Nat.ne_of_gt alt z
    · rcases hTT with y | y
      · exact Nat.ne_of_gt alt (z.trans y)
      · exact Nat.ne_of_lt (Nat.lt_of_lt_of_le (push_gt s.heap _) y) z
  have hlv : vs.length ≤ sizeLine := by
    have h1 := hss.strs
    have : vs.length = ss.length := by rw [← h1, List.length_map]
    rw [this, hsp.length_eq]
    exact hz
  refine (wpAny_pure ⟨plainId_quiet F.plain_extend_loop _, codeAny_extend_loopS (Wk A.in1 hh) hlv _ nSf _ vs.length 0 _ _ _ rfl (Nat.zero_le _) ((Wk A.in1 hh).frame 0 ({ s with heap := h', drawn := d } : Shared) _ s.toks st0 (Nat.le_refl _) fun b hb o e => oth b o (fun z => nSf (z ▸ hb)) e) gS3 (ItemsOf.nil _) fun s' acc' c' mv gS' hacc => ?_⟩)
  show wpAny _ A (load s.heap.objs.size >>= _) _ _ s'
  refine wpAny_bind (wpAny_load gS' ?_)
  have hav : acc'.toList = vs := by
    apply List.ext_getElem?
    intro i
    by_cases z : i < acc'.size
    · rw [Array.getElem?_toList, Array.getElem?_eq_getElem z]
      exact (hacc.2 i _ (Array.getElem?_eq_getElem z)).symm
    · have z1 : acc'.toList[i]? = none := by rw [List.getElem?_eq_none_iff, Array.length_toList]; omega
      have z2 : vs[i]? = none := by rw [List.getElem?_eq_none_iff]; have := hacc.1; omega
      rw [z1, z2]
  show wpAny _ _ (pure acc'.toList) _ _ _
  rw [hav]
  obtain ⟨h2, g2, d2, tk2, os2⟩ := s'
  have eg : g2 = s.gens := mv.gens
  have ed : d2 = d := mv.drawn
  have eo : os2 = s.os := mv.os
  subst eg ed eo
  refine wpAny_pure (h h2 _ tk2 vs ss (fun b o e => ?_) (Nat.le_of_lt (Heap.lt_size gS')) hss hsp)
  have lt : b < s.heap.objs.size := Heap.lt_size e
  refine mv.heap b o ?_ (oth b o (Nat.ne_of_lt lt) (keep _ _ (Heap.get?_push_of_some _ e)))
  intro z
  simp only [List.mem_cons, List.not_mem_nil, or_false] at z
  rcases z with z | z
  · exact Nat.ne_of_lt lt z
  · exact Nat.ne_of_lt (Nat.lt_trans lt hit') z
theorem sorted_set {ds : List Str} {Q : Value → Shared → Prop} (hh : A.handled = none) (hU : SetU P w s.heap a ds) (h64 : ds.length < 64)
    (h : ∀ (h' : Heap) (d : Drawn) (tk : Nat) (r : Addr) (out : List Value) (e : Nat) (ss : List Str), (∀ b o, s.heap.get? b = some o → h'.get? b = some o) → s.heap.objs.size ≤ r → h'.get? r = some (seqObj "list" out.toArray e) → StrsAre out ss → ss.Perm ds → sortedS ss = true → Q (.ref r) { s with heap := h', drawn := d, toks := tk }) :
    wpAny (model P w) A (call (.builtin "sorted") [.ref a]) Q E s := by
  refine (Calls.call_function_entry kind_sorted plain_sorted entry_sorted (args_sorted1 _) ?_)
  unfold Builtin.«sorted»
  refine (wpAny_bind (m := checkCount "sorted" 1 1 _) (wpAny_pure ?_))
  refine (wpAny_bind (collect_set hh hU (Nat.le_trans (Nat.le_of_lt h64) (by decide)) fun h1 d tk vs ss keep big hss hsp => ?_))
  have hlv : vs.length = ds.length := by
    have h1 := hss.strs
    rw [← hsp.length_eq, ← h1, List.length_map]
  refine (wpAny_bind (wpAny_newList ?_ (by rw [hlv]; exact Nat.le_trans (Nat.le_of_lt h64) (by decide))))
  have gL : (h1.push (seqObj "list" vs.toArray 0)).get? h1.objs.size = some (seqObj "list" vs.toArray 0) := Heap.get?_push_size _ rfl
  refine (wpAny_bind (wpAny_holding (wpAny_call_entry slot_list_sort ⟨_, gL, rfl⟩ entry_list_sort (list_sort_treeK strKind_oneLt (s := { s with heap := h1.push (seqObj "list" vs.toArray 0), drawn := d, toks := tk }) gL hss.keysOf (fun v1 v2 rest e => keyKind_strs (by rw [← e]; exact hss)) (by rw [hlv]; exact h64) fun st' a1 a2 => ⟨_, rfl, ?_⟩) (args_list_sort _))))
  obtain ⟨ss', b1, b2, b3⟩ := sorted_out_str hss a1 a2
  refine wpAny_pure ⟨_, rfl, ?_⟩
  have old : ∀ b o, s.heap.get? b = some o → (sortedHeap (h1.push (seqObj "list" vs.toArray 0)) h1.objs.size vs ((arrOf st').map (·.2))).get? b = some o := fun b o e => by
    have lt : b < h1.objs.size := Heap.lt_size (keep b o e)
    rw [sortedHeap_old (Nat.ne_of_lt lt) (push_lt _ lt)]
    exact Heap.get?_push_of_some _ (keep b o e)
  obtain ⟨e, he⟩ := sortedHeap_at (out := (arrOf st').map (·.2)) gL
  exact h _ d tk _ ((arrOf st').map (·.2)).toList e ss' old big (by rw [Array.toArray_toList]; exact he) b1 (b2.trans hsp) b3
end
end L2
set_option Elab.async false
set_option linter.all false
set_option maxRecDepth 100000
set_option maxHeartbeats 4000000
/-! set(a list of texts), with its table -/
namespace L2
open PySem PyProof.Rows Tw
section
variable {P : Program} {w : World} {A : Around} {R : Result → Shared → Prop} {I : Addr} {fp wr : List Addr} {G : Array GenState → Array GenState → Prop} {n : Nat} {PV : Nat → Value → Prop} {St : Nat → Shared → Prop}
theorem set_loopU (Wk : WalksS P w A.in1 I fp wr G n PV St) (S : Addr) (hSf : S ∉ fp) (val : Nat → Str) (hval : ∀ i v, PV i v → ∃ t, v = .str (val i) t) (hb : n + 1 < scanBound) :
    ∀ (k i : Nat) (s : Shared), n - i = k → i ≤ n → St i s → SetU P w s.heap S (dd ((List.range i).map val)) →
      (∀ s', Moved (S :: wr) G s s' → SetU P w s'.heap S (dd ((List.range n).map val)) → R (.ok (.ret .none)) s') →
      codeAny (model P w) A (.builtin "set.update.loop" ⟨[.ref S, .ref I], []⟩) R s := by
  have nw : S ∉ wr := fun h => hSf (Wk.sub _ h)
  have sb : ∀ b ∈ wr, b ∈ S :: wr := fun b hb => List.mem_cons_of_mem _ hb
  intro k
  induction k with
  | zero =>
    intro i s hk hi hst gS hR
    obtain rfl : i = n := by omega
    refine (codeAny_builtin F.entry_set_update_loop ?_)
    rw [Around.under_plainId F.plain_set_update_loop _]
    show wpAny _ A.in1 (pyNext (.ref I) >>= _) _ _ s
    refine wpAny_bind (Wk.done s _ _ hst fun s' mv => ?_)
    exact wpAny_pure (hR s' (mv.mono sb) (SetU.at gS fun o e => mv.heap S o nw e))
  | succ k ih =>
    intro i s hk hi hst gS hR
    have lt : i < n := by omega
    refine (codeAny_builtin F.entry_set_update_loop ?_)
    rw [Around.under_plainId F.plain_set_update_loop _]
    show wpAny _ A.in1 (pyNext (.ref I) >>= _) _ _ s
    refine wpAny_bind (Wk.item i s _ _ lt hst fun v s' hP hst' mv => ?_)
    obtain ⟨t, rfl⟩ := hval i v hP
    have gS' : SetU P w s'.heap S (dd ((List.range i).map val)) := SetU.at gS fun o e => mv.heap S o nw e
    show wpAny _ A.in1 (holding [Value.str (val i) t] (setAdd S (.str (val i) t)) >>= _) _ _ s'
    refine wpAny_bind (wpAny_holding ?_)
    unfold setAdd
    refine wpAny_holding (wpAny_bind ((PySem.strKind P w).pyHash (k := val i) (PySem.strKind_is _ _ _ _) ?_))
    have room : (dd ((List.range i).map val)).length + 1 < scanBound := by
      have := dd_len ((List.range i).map val)
      rw [List.length_map, List.length_range] at this
      omega
    refine add_u (s := { s' with toks := s'.toks + 1 }) gS' room fun _ h' hsb gi0 => ?_
    have gi : SetU P w h' S (dd ((List.range (i + 1)).map val)) := by
      rw [List.range_succ, List.map_append, List.map_singleton, dd_snoc]
      exact gi0
    refine wpAny_pure ⟨plainId_quiet F.plain_set_update_loop _, ih (i + 1) _ (by omega) lt (Wk.frame _ s' _ _ hst' (Nat.le_succ _) fun b hb o e => ?_) gi fun s2 mv2 g3 => ?_⟩
    · rw [hsb.2 b (fun h : b = S => hSf (h ▸ hb))]; exact e
    · refine hR s2 (Moved.trans Wk.gtrans ((mv.mono sb).then_heap (Nat.le_succ _) fun b o hb e => ?_) mv2) g3
      rw [hsb.2 b (fun h : b = S => hb (h ▸ List.mem_cons_self))]; exact e
end
theorem code_set_newU {P : Program} {w : World} {A : Around} {E : Value → Shared → Prop} {s : Shared} (a : Value) {Q₁ : Value → Shared → Prop}
    (h : Q₁ (.ref s.heap.objs.size) { s with heap := s.heap.push { cls := .type "set", dict := none, data := .set #[] 0 (.fresh 0 0 (!BT w)) } }) :
    codeAny (model P w) A (.call (.builtin "set.__new__") ⟨[.type "set", a], []⟩) (wants Q₁ E) s := by
  refine (codeAny_of_tree ?_)
  show wpAny _ A.in1 (do checkBuiltinCall "set.__new__" ⟨[.type "set", a], []⟩; again (.builtin "set.__new__" ⟨[.type "set", a], []⟩) : Sem Fin) _ _ s
  refine (wpAny_bind (wpAny_of_eq (F.newCall_set_1 a) (wpAny_pure ⟨plainId_quiet F.plain_set_new _, codeAny_builtin F.entry_set_new ?_⟩)))
  rw [Around.under_plainId F.plain_set_new _]
  unfold Builtin.«set.__new__» Builtin.Frozenset.newClass
  have ssub := sub_set_self
  obtain ⟨hp, g, d, tk, os⟩ := s
  dsimp only
  wp_walk
  refine (wpAny_askSetting (wpAny_pure ?_))
  dsimp only
  simp only [newObj]
  refine (wpAny_bind (wpAny_alloc (wpAny_pure ?_)))
  exact (wpAny_pure h)
section
variable {P : Program} {w : World} {A : Around} {E : Value → Shared → Prop} {s : Shared}
theorem call_setU {l : Addr} {its : List Value} {ss : List Str} {Q : Value → Shared → Prop} (hh : A.handled = none) (hL : s.heap.IsList l its.toArray) (hi : StrsAre its ss) (hb : its.length + 1 < scanBound)
    (h : ∀ (h' : Heap) (tk : Nat), SetU P w h' s.heap.objs.size (dd ss) → (∀ b o, b < s.heap.objs.size → s.heap.get? b = some o → h'.get? b = some o) → Q (.ref s.heap.objs.size) { s with heap := h', toks := tk }) :
    wpAny (model P w) A (call (.type "set") [.ref l]) Q E s := by
  obtain ⟨c, tl, mro⟩ := F.called_set.mro
  have made := F.called_set.made
  have csub := F.called_set.sub
  refine (wpAny_call (codeAny_of_tree ?_))
  show wpAny _ _ (callAny (.type "set") _) _ _ _
  refine (wpAny_pure ⟨Code.quiet_builtin _ (by decide +kernel), codeAny_builtin F.entry_type_call ?_⟩)
  rw [Around.under_plain (weight_type_call_type "set" [.ref l] []) rfl]
  have n1 := F.called_set.notType
  have n2 := F.called_set.canCreate
  have n3 := F.typeCall_set_1 (.ref l)
  repeat (any_goals (first | assumption | wp_step))
  obtain ⟨ld, hld⟩ : ∃ ld, ld = (!BT w) := ⟨_, rfl⟩
  refine codeAny_mono (code_set_newU (.ref l) (E := E) (Q₁ := fun obj s1 => obj = .ref s.heap.objs.size ∧ s1 = { s with heap := s.heap.push { cls := .type "set", dict := none, data := .set #[] 0 (.fresh 0 0 ld) } }) (by rw [hld]; exact ⟨rfl, rfl⟩)) fun r s1 hr => ?_
  cases r with
  | error e => exact hr
  | ok fl =>
    cases fl with
    | ret obj =>
      obtain ⟨rfl, rfl⟩ := hr
      have gS : (s.heap.push { cls := .type "set", dict := none, data := .set #[] 0 (.fresh 0 0 ld) }).get? s.heap.objs.size = some { cls := .type "set", dict := none, data := .set #[] 0 (.fresh 0 0 ld) } := Heap.get?_push_size _ rfl
      have gT : Shared.TypeIs { s with heap := s.heap.push { cls := .type "set", dict := none, data := .set #[] 0 (.fresh 0 0 ld) } } (.ref s.heap.objs.size) "set" := ⟨_, gS, rfl⟩
      have li := F.called_set.init.lookup
      have bi := F.called_set.init.bind (.ref s.heap.objs.size)
      repeat (any_goals (first | assumption | wp_step))
      refine codeAny_mono (codeAny_call_builtin (R := wants (fun r s2 => r = .none ∧ ∃ h' tk, s2 = { s with heap := h', toks := tk } ∧ SetU P w h' s.heap.objs.size (dd ss) ∧
          (∀ b o, b < s.heap.objs.size → s.heap.get? b = some o → h'.get? b = some o)) E) F.called_set.init.plain F.entry_set_init (check_set_init_1 gT ?_)) fun r2 s2 hr2 => ?_
      · obtain ⟨ol, gol, cl, nl, dl⟩ := hL
        obtain ⟨ocls, odict, odata, oslots⟩ := ol
        simp only at cl dl
        subst cl; subst dl
        have gol' : (s.heap.push { cls := .type "set", dict := none, data := .set #[] 0 (.fresh 0 0 ld) }).get? l = some { cls := .type "list", dict := odict, data := .seq its.toArray nl, slots := oslots } := Heap.get?_push_of_some _ gol
        have s1 := F.sub_list_set
        have s2 := F.sub_list_frozenset
        have ne : (Value.type "list" == Value.type "dict") = false := by decide
        have gl1 : (s.heap.push { cls := .type "set", dict := none, data := .set #[] 0 (.fresh 0 0 ld) }).IsList l its.toArray := ⟨_, gol', rfl, nl, rfl⟩
        unfold Builtin.«set.__init__» noKeywords Builtin.Frozenset.updateFrom
        generalize hPI : pyIter = PI
        wp_walk
        subst hPI
        refine wpAny_pyIter_list gl1 ?_
        refine (wpAny_bind (wpAny_runValue ?_))
        have ltl : l < s.heap.objs.size := Heap.lt_size gol
        have h3 : A.in1.in1.in1.handled = none := by simp [hh]
        have neI : l ≠ (s.heap.push { cls := .type "set", dict := none, data := .set #[] 0 (.fresh 0 0 ld) }).objs.size := by
          rw [Heap.size_push]; exact Nat.ne_of_lt (Nat.lt_succ_of_lt ltl)
        have nSf : s.heap.objs.size ∉ [(s.heap.push { cls := .type "set", dict := none, data := .set #[] 0 (.fresh 0 0 ld) }).objs.size, l] := by
          rw [Heap.size_push]; simp only [List.mem_cons, List.mem_singleton, List.not_mem_nil, or_false, not_or]
          exact (⟨Nat.ne_of_lt (Nat.lt_succ_self _), Nat.ne_of_gt ltl⟩)
        have lens : its.length = ss.length := by
          have := hi.strs
          rw [← this, List.length_map]
        have gval : ∀ (i : Nat) (v : Value), its.toArray[i]? = some v → ∃ t, v = .str (ss.getD i ⟨#[]⟩) t := fun i v hv => by
          have hv' : its[i]? = some v := by simpa using hv
          obtain ⟨x, t, rfl⟩ := hi.all v (List.mem_of_getElem? hv')
          refine ⟨t, ?_⟩
          have e : ss[i]? = some x := by rw [← hi.strs, List.getElem?_map, hv']; rfl
          rw [List.getD_eq_getElem?_getD, e]
          rfl
        have eall : (List.range its.toArray.size).map (fun i => ss.getD i ⟨#[]⟩) = ss := by
          apply List.ext_getElem?
          intro i
          rw [List.getElem?_map, List.size_toArray, lens]
          by_cases z : i < ss.length
          · rw [List.getElem?_range z, List.getElem?_eq_getElem z]
            show some (ss.getD i ⟨#[]⟩) = _
            rw [List.getD_eq_getElem?_getD, List.getElem?_eq_getElem z]
            rfl
          · have z1 : (List.range ss.length)[i]? = none := by rw [List.getElem?_eq_none_iff, List.length_range]; omega
            have z2 : ss[i]? = none := by rw [List.getElem?_eq_none_iff]; omega
            rw [z1, z2]; rfl
        refine set_loopU (P := P) (w := w) ((Walks.list h3 _ l neI its.toArray).toS) s.heap.objs.size nSf (fun i => ss.getD i ⟨#[]⟩) gval (by rw [List.size_toArray]; exact hb) (its.toArray.size - 0) 0 _ (by omega) (Nat.zero_le _)
          ⟨⟨_, Heap.get?_push_size _ rfl, rfl, rfl⟩, (gl1.push _)⟩ ?g0 ?gR
        case g0 =>
          have gg : ((s.heap.push { cls := .type "set", dict := none, data := .set #[] 0 (.fresh 0 0 ld) }).push { cls := .type "list_iterator", data := .fields #[.ref l, .int 0 0] }).get? s.heap.objs.size
              = some { cls := .type "set", dict := none, data := .set #[] 0 (.fresh 0 0 ld) } := Heap.get?_push_of_some _ gS
          exact ⟨_, #[], 0, .fresh 0 0 ld, gg, ⟨rfl, rfl, rfl⟩, rfl, (fun e he => nomatch he), List.Perm.refl _, (by decide), rfl, hld, fun z => absurd z (by decide)⟩
        case gR =>
          intro s' hm gS'
          obtain ⟨h', g', d', tk', os'⟩ := s'
          have eg : g' = s.gens := hm.gens
          have ed : d' = s.drawn := hm.drawn
          have eo : os' = s.os := hm.os
          subst eg; subst ed; subst eo
          rw [eall] at gS'
          show wpAny _ _ _ _ _ _
          refine wpAny_pure ?_
          show wpAny _ _ (ret Value.none) _ _ _
          refine wpAny_pure ⟨rfl, h', tk', rfl, gS', fun b o hb e => ?_⟩
          have b1 : b ≠ s.heap.objs.size := Nat.ne_of_lt hb
          have b2 : b ≠ (s.heap.push { cls := .type "set", dict := none, data := .set #[] 0 (.fresh 0 0 ld) }).objs.size := by
            rw [Heap.size_push]; exact Nat.ne_of_lt (Nat.lt_succ_of_lt hb)
          exact hm.heap b o (by simp only [List.mem_cons, List.mem_singleton, List.not_mem_nil, or_false, not_or]; exact ⟨b1, b2⟩) (Heap.get?_push_of_some _ (Heap.get?_push_of_some _ e))
      · cases r2 with
        | error e => exact hr2
        | ok fl2 =>
          cases fl2 with
          | ret r =>
            obtain ⟨rfl, h', tk, rfl, gS', hk'⟩ := hr2
            repeat (any_goals (first | assumption | wp_step))
            exact h _ _ gS' hk'
          | _ => exact hr2.elim
    | _ => exact hr.elim
theorem call_lenU {a : Addr} {ds : List Str} {Q : Value → Shared → Prop} (gS : SetU P w s.heap a ds) (h : ∀ (t k : Nat), Q (.int (ds.length : Nat) t) { s with toks := k }) : wpAny (model P w) A (call (.builtin "len") [.ref a]) Q E s := by
  obtain ⟨o, es, ep, t, ho, hex, hd, hf, hb, hn⟩ := gS.len
  have hfit : (es.size : Int) < 2 ^ 63 := by
    have : es.size < 4096 := hb
    omega
  refine call_len_set ho hex hd hf hfit ?_
  rw [hn]
  exact h _ _
end
end L2
set_option Elab.async false
set_option linter.all false
set_option maxRecDepth 100000
set_option maxHeartbeats 4000000
/-! set(texts), len and sorted of it, by the rules; texts compared -/
namespace L2
open PySem PySem.Spec PyProof.Rows Tw
theorem rising_pair : ∀ (r : List Str) (p : Str), risingS p r = true → ((p :: r).map fun x => x.cps.toList).Pairwise (· ≤ ·)
  | [], p, _ => by simp
  | x :: r, p, h => by
    unfold risingS at h
    rw [Bool.and_eq_true, Bool.not_eq_true'] at h
    have ih := rising_pair r x h.2
    have hpx : p.cps.toList ≤ x.cps.toList := by
      have h1 := h.1
      rw [ltCps_eq] at h1
      exact List.not_lt.mp (of_decide_eq_false h1)
    rw [List.map_cons, List.pairwise_cons]
    refine ⟨fun y hy => ?_, ih⟩
    rw [List.map_cons, List.pairwise_cons] at ih
    rw [List.map_cons] at hy
    rcases List.mem_cons.mp hy with z | z
    · rw [z]; exact hpx
    · exact List.le_trans hpx (ih.1 y z)
theorem sorted_pair {ss : List Str} (h : sortedS ss = true) : (ss.map fun x => x.cps.toList).Pairwise (· ≤ ·) := by
  cases ss with
  | nil => exact List.Pairwise.nil
  | cons p r => exact rising_pair r p h
theorem vals_strs : ∀ {vs : List Value} {ss : List Str}, StrsAre vs ss → Vals (ss.map V.str) vs
  | _, _, .nil => .nil
  | _, _, .cons y t h => .cons ⟨t, rfl⟩ (vals_strs h)
section
variable {X : Cx}
def SetO (P : Program) (w : World) (d : Addr) (ds : List (List Nat)) : HO := HO.ext fun h => SetU P w h d (ds.map tx)
def rSet (P : Program) (w : World) (K : PySem.W.Frag) : List V → Hp → VK → Prop := fun xs H Q => ∃ (a : Addr) (ls : List (List Nat)), xs = [.ref a] ∧ SqL K H a (ls.map fun l => V.str (tx l)) ∧ ls.length + 1 < 4096 ∧ ∀ d, H d = none → Q (.ref d) (upd H d (SetO P w d (dd ls)))
theorem call_setL (hc : X.calm = true) : CallR X (.type "set") (rSet X.prog X.w X.K) := by
  intro pins s σ H xs us Q I r h
  obtain ⟨a, ls, rfl, hS, hb, q⟩ := h
  obtain ⟨u, rfl, ru⟩ := vals1 r
  cases ru
  obtain ⟨its, rv, pl, hz⟩ := I.list hS
  have hlen : its.length = ls.length := by rw [← rv.length, List.length_map]
  refine call_setU (I.ok.hd hc) pl.isList (strsAre_of rv) (by rw [hlen]; exact hb) fun h' tk g k => ?_
  rw [dd_map tx ls fun x _ y _ e => tx_inj e] at g
  obtain ⟨o, es, ep, t, ho, r2⟩ := id g
  exact ⟨.ref s.heap.objs.size, _, I.laid (o := SetO X.prog X.w s.heap.objs.size (dd ls)) (t' := tk) (fun b u e => k b u (Heap.lt_size e) e) (Nat.le_refl _) (show SetU X.prog X.w h' s.heap.objs.size ((dd ls).map tx) ∧ _ ∧ _ from ⟨g, ⟨o, ho⟩, fun h1 h2 g1 kk => SetU.at g1 kk⟩), rfl, q _ I.fresh⟩
theorem call_lenS : CallR X (.builtin "len") (fun xs H Q => ∃ d ds, xs = [.ref d] ∧ H d = some (SetO X.prog X.w d ds) ∧ Q (.int ((ds.length : Nat) : Int)) H) := by
  intro pins s σ H xs us Q I r h
  obtain ⟨d, ds, rfl, hd, q⟩ := h
  obtain ⟨u, rfl, ru⟩ := vals1 r
  cases ru
  have g : SetU X.prog X.w s.heap d (ds.map tx) := (I.hok d _ hd).1
  refine call_lenU g fun t k => ⟨.int _, H, I.tok _, ⟨t, ?_⟩, q⟩
  rw [List.length_map]
def rSorted (P : Program) (w : World) : List V → Hp → VK → Prop := fun xs H Q => ∃ d ds, xs = [.ref d] ∧ H d = some (SetO P w d ds) ∧ ds.length < 64 ∧ ∀ (r : Addr) (ls : List (List Nat)), H r = none → ls.Perm ds → ls.Pairwise (· ≤ ·) → Q (.ref r) (upd H r (.lst (ls.map fun l => V.str (tx l))))
theorem call_sortedS (hc : X.calm = true) : CallR X (.builtin "sorted") (rSorted X.prog X.w) := by
  intro pins s σ H xs us Q I r h
  obtain ⟨d, ds, rfl, hd, h64, q⟩ := h
  obtain ⟨u, rfl, ru⟩ := vals1 r
  cases ru
  have g : SetU X.prog X.w s.heap d (ds.map tx) := (I.hok d _ hd).1
  refine sorted_set (I.ok.hd hc) g (by rw [List.length_map]; exact h64) fun h' dr tk r out e ss keep big hr hss hsp hsort => ?_
  have hperm : (ss.map fun x => x.cps.toList).Perm ds := by
    have := hsp.map fun x => x.cps.toList
    rw [List.map_map] at this
    have e : ds.map ((fun x : Str => x.cps.toList) ∘ tx) = ds := by
      have : ((fun x : Str => x.cps.toList) ∘ tx) = id := by
        funext l
        exact tx_cps l
      rw [this, List.map_id]
    rw [e] at this
    exact this
  have hvals : Vals ((ss.map fun x => x.cps.toList).map fun l => V.str (tx l)) out := by
    have := vals_strs hss
    rw [List.map_map]
    have e : ((fun l => V.str (tx l)) ∘ fun x : Str => x.cps.toList) = V.str := by
      funext x
      show V.str (tx x.cps.toList) = V.str x
      rw [tx_of]
    rw [e]
    exact this
  have hlen : (ss.map fun x => x.cps.toList).length = ds.length := hperm.length_eq
  have I1 := I.laid (o := .lst ((ss.map fun x => x.cps.toList).map fun l => V.str (tx l))) (t' := tk) keep big ⟨by rw [List.length_map, hlen]; exact Nat.le_trans (Nat.le_of_lt h64) (by decide), out, e, hvals, hr⟩
  have I2 : Inv X pins σ (upd H r (.lst ((ss.map fun x => x.cps.toList).map fun l => V.str (tx l)))) { s with heap := h', drawn := dr, toks := tk } := ⟨I1.ok, I1.os, I1.bare, I1.base, I1.loc, I1.cell, I1.free, I1.freeC, I1.pin, I1.hok, I1.len⟩
  exact ⟨.ref r, _, I2, rfl, q r _ (I.hok.fresh big) hperm (sorted_pair hsort)⟩
theorem op_ge_str : OpR X (compareOp .GtE) (fun x y H Q => ∃ i j : List Nat, x = .str (tx i) ∧ y = .str (tx j) ∧ Q (.bl (!decide (i < j))) H) := by
  intro pins s σ H x y v u Q I rx ry h
  obtain ⟨i, j, rfl, rfl, q⟩ := h
  obtain ⟨t, rfl⟩ := rx
  obtain ⟨t', rfl⟩ := ry
  refine P.ge_str (fin_bl I ?_ rfl)
  rw [tx_cps, tx_cps]
  exact q
end
theorem pe_bmK {X : Cx} {K : PySem.W.Frag} {o e : Expr} {es : List Expr} {to : TE} {t : TA} {name : Str} {apos cpos : Pos} {T id : String} {r : V → List V → Hp → VK → Prop} (pa : PlainAttrs T) (slot : Slot T name id) (hty : typeOf (.builtin id) = pure (.type "method_descriptor")) (hm : MtR X id r) (ho : PE X o to) (ha : PA X (e :: es) t)
    (hK : X.K = K := by rfl) (hbase : attributeBase o name X.env (eval o X.env) = eval o X.env := by rfl)
    (hfew : ((backTo cpos (starEach (e :: es) X.env)).all (fun x => !x.1) && (backToKw cpos (keywordEach [] X.env)).all (fun x => x.1.isSome)
      && decide ((e :: es).length + ([] : List Keyword).length + (if ([] : List Keyword).isEmpty then 0 else 1) < 30)) = true := by rfl)
    (hline : (apos.endLine == cpos.line) = true := by rfl) (hs : starEach (e :: es) X.env = (false, eval e X.env) :: starEach es X.env := by rfl) (hplain : (backTo cpos (starEach es X.env)).any (·.1) = false := by rfl) :
    PE X (.Call (.Attribute o name apos) (e :: es) [] cpos) (tBM K T r to t) := by
  subst hK
  exact pe_bm pa slot hty hm ho ha hbase hfew hline hs hplain
end L2
set_option Elab.async false
set_option linter.all false
set_option maxRecDepth 100000
set_option maxHeartbeats 4000000
/-! where a text stands first in another; how often a sign stands in it -/
namespace L2
open PySem PySem.StrLaws PySem.Builtin PySem.Builtin.Str
def Hit (s sub : Str) (hi i : Nat) : Prop := i + sub.length ≤ hi ∧ subAt s sub i = true
theorem occ_full (s sub : Str) (hi : Nat) : ∀ (l : List Nat) (a : Array Nat) (f : Nat), 1 ≤ a.size → (forIn l (a, f) (occBody s sub hi 1)).run.fst = a
  | [], a, f, _ => rfl
  | x :: l, a, f, h => by
    rw [List.forIn_cons]
    unfold occBody
    rw [if_neg (fun z => by have : a.size < 1 := z.1.1.1; omega)]
    exact occ_full s sub hi l a f h
theorem occ_first (s sub : Str) (hi : Nat) : ∀ (n lo free : Nat), free ≤ lo →
    ((forIn (List.range' lo n) ((#[] : Array Nat), free) (occBody s sub hi 1)).run.fst = #[] ∧ ∀ i, lo ≤ i → i < lo + n → ¬ Hit s sub hi i) ∨
    ∃ i, lo ≤ i ∧ i < lo + n ∧ Hit s sub hi i ∧ (∀ i', lo ≤ i' → i' < i → ¬ Hit s sub hi i') ∧ (forIn (List.range' lo n) ((#[] : Array Nat), free) (occBody s sub hi 1)).run.fst = #[i]
  | 0, lo, free, h => .inl ⟨rfl, fun i a b => by omega⟩
  | n + 1, lo, free, h => by
    rw [List.range'_succ, List.forIn_cons]
    by_cases hc : Hit s sub hi lo
    · refine .inr ⟨lo, Nat.le_refl _, by omega, hc, fun i' a b => by omega, ?_⟩
      have e : occBody s sub hi 1 lo ((#[] : Array Nat), free) = pure (ForInStep.yield (#[lo], lo + sub.length)) := by
        unfold occBody
        rw [if_pos ⟨⟨⟨by simp, h⟩, hc.1⟩, hc.2⟩]
        rfl
      rw [e]
      exact occ_full s sub hi _ _ _ (by simp)
    · have e : occBody s sub hi 1 lo ((#[] : Array Nat), free) = pure (ForInStep.yield (#[], free)) := by
        unfold occBody
        rw [if_neg fun z => hc ⟨z.1.2, z.2⟩]
      rw [e]
      rcases occ_first s sub hi n (lo + 1) free (by omega) with ⟨a, b⟩ | ⟨i, a, b, c, d, f⟩
      · refine .inl ⟨a, fun i i1 i2 => ?_⟩
        rcases Nat.eq_or_lt_of_le i1 with z | z
        · rw [← z]; exact hc
        · exact b i z (by omega)
      · refine .inr ⟨i, by omega, by omega, c, fun i' i1 i2 => ?_, f⟩
        rcases Nat.eq_or_lt_of_le i1 with z | z
        · rw [← z]; exact hc
        · exact d i' z i2
theorem hit_tx (l m : List Nat) (i : Nat) : Hit (tx l) (tx m) l.length i ↔ i + m.length ≤ l.length ∧ (l.drop i).take m.length = m := by
  unfold Hit
  rw [subAt_eq, tx_length, tx_cps, tx_cps, beq_iff_eq]
theorem find_is (l m : List Nat) : (Txt.find (tx l) (tx m) = -1 ∧ ∀ i, i + m.length ≤ l.length → ¬ (l.drop i).take m.length = m) ∨
    ∃ i : Nat, Txt.find (tx l) (tx m) = (i : Int) ∧ i + m.length ≤ l.length ∧ (l.drop i).take m.length = m ∧ ∀ i', i' < i → ¬ (l.drop i').take m.length = m := by
  unfold Txt.find
  rw [occ_eq, tx_length, Nat.sub_zero]
  rcases occ_first (tx l) (tx m) l.length (l.length + 1) 0 0 (Nat.le_refl _) with ⟨a, b⟩ | ⟨i, a, b, c, d, f⟩
  · refine .inl ⟨by rw [a], fun i hi z => b i (Nat.zero_le _) (by omega) ((hit_tx l m i).mpr ⟨hi, z⟩)⟩
  · have c' := (hit_tx l m i).mp c
    refine .inr ⟨i, by rw [f], c'.1, c'.2, fun i' hi z => d i' (Nat.zero_le _) hi ((hit_tx l m i').mpr ⟨by omega, z⟩)⟩
/-- one sign, counted -/
theorem occ_all (s sub : Str) (hi lim : Nat) (h1 : sub.length = 1) : ∀ (n lo : Nat) (a : Array Nat) (free : Nat), free ≤ lo → a.size + n ≤ lim →
    (forIn (List.range' lo n) (a, free) (occBody s sub hi lim)).run.fst.size = a.size + ((List.range' lo n).filter fun i => decide (i + 1 ≤ hi) && subAt s sub i).length
  | 0, lo, a, free, h, hs => rfl
  | n + 1, lo, a, free, h, hs => by
    rw [List.range'_succ, List.forIn_cons, List.filter_cons]
    by_cases hc : lo + 1 ≤ hi ∧ subAt s sub lo = true
    · have e : occBody s sub hi lim lo (a, free) = pure (ForInStep.yield (a.push lo, lo + sub.length)) := by
        unfold occBody
        rw [if_pos ⟨⟨⟨by show a.size < lim; omega, h⟩, by rw [h1]; exact hc.1⟩, hc.2⟩]
      rw [e, decide_eq_true hc.1, hc.2]
      have ih := occ_all s sub hi lim h1 n (lo + 1) (a.push lo) (lo + sub.length) (by omega) (by rw [Array.size_push]; omega)
      rw [Array.size_push] at ih
      refine ih.trans ?_
      simp
      omega
    · have e : occBody s sub hi lim lo (a, free) = pure (ForInStep.yield (a, free)) := by
        unfold occBody
        rw [if_neg fun z => hc ⟨by have := z.1.2; rw [h1] at this; exact this, z.2⟩]
      have f : (decide (lo + 1 ≤ hi) && subAt s sub lo) = false := by
        rw [Bool.and_eq_false_iff]
        by_cases z : lo + 1 ≤ hi
        · exact .inr (Bool.eq_false_iff.mpr fun y => hc ⟨z, y⟩)
        · exact .inl (decide_eq_false z)
      rw [e, f, if_neg Bool.false_ne_true]
      exact occ_all s sub hi lim h1 n (lo + 1) a free (by omega) (by omega)
theorem range_count (l : List Nat) (c : Nat) : ((List.range l.length).filter fun i => decide (l[i]? = some c)).length = l.count c := by
  induction l with
  | nil => rfl
  | cons x l ih =>
    rw [List.length_cons, List.range_succ_eq_map, List.filter_cons, List.filter_map, List.count_cons, ← ih]
    by_cases h : x = c
    · subst h
      simp [Function.comp_def]
    · simp [Function.comp_def, h]
theorem count_is (l : List Nat) (c : Nat) : Txt.count (tx l) (tx [c]) = ((l.count c : Nat) : Int) := by
  unfold Txt.count
  rw [occ_eq, tx_length, Nat.sub_zero, Array.length_toList, occ_all (tx l) (tx [c]) l.length (l.length + 1) rfl (l.length + 1) 0 #[] 0 (Nat.le_refl _) (by simp)]
  rw [← range_count, ← List.range_eq_range', List.range_succ, List.filter_append]
  have e1 : ([l.length].filter fun i => decide (i + 1 ≤ l.length) && subAt (tx l) (tx [c]) i) = [] := by
    rw [List.filter_cons, decide_eq_false (by omega)]
    rfl
  rw [e1, List.append_nil]
  have e2 : (List.range l.length).filter (fun i => decide (i + 1 ≤ l.length) && subAt (tx l) (tx [c]) i) = (List.range l.length).filter fun i => decide (l[i]? = some c) := by
    apply List.filter_congr
    intro i hi
    have hi' := List.mem_range.mp hi
    rw [decide_eq_true (by omega), Bool.true_and, subAt_eq, tx_cps, tx_cps, tx_length]
    have := take1_drop (l := l) (c := c) (i := i)
    by_cases z : l[i]? = some c
    · rw [decide_eq_true z]; exact this.mpr z
    · rw [decide_eq_false z]; exact Bool.eq_false_iff.mpr fun y => z (this.mp y)
  rw [e2]
  simp
end L2
set_option Elab.async false
set_option linter.all false
set_option maxRecDepth 100000
set_option maxHeartbeats 4000000
namespace L2
open PySem PySem.Spec PyProof.Rows
section
variable {κ : Type} [DecidableEq κ]
def valV (kvs : List (κ × V)) (k : κ) : Option V := (kvs.find? fun kv => decide (kv.1 = k)).map (·.2)
/-- in its place, or at the end -/
def putK (kvs : List (κ × V)) (k : κ) (v : V) : List (κ × V) :=
  if (kvs.any fun kv => decide (kv.1 = k)) = true then kvs.map (fun kv => if kv.1 = k then (kv.1, v) else kv) else kvs ++ [(k, v)]
def dropK (kvs : List (κ × V)) (k : κ) : List (κ × V) := kvs.filter fun kv => decide (kv.1 ≠ k)

theorem valV_nil {k : κ} : valV ([] : List (κ × V)) k = none := rfl
theorem valV_pos {p : κ × V} {r : List (κ × V)} {k : κ} (e : p.1 = k) : valV (p :: r) k = some p.2 := by simp [valV, List.find?_cons, e]
theorem valV_neg {p : κ × V} {r : List (κ × V)} {k : κ} (e : ¬ p.1 = k) : valV (p :: r) k = valV r k := by simp [valV, List.find?_cons, e]
theorem valV_any (k : κ) : ∀ kvs : List (κ × V), (kvs.any fun kv => decide (kv.1 = k)) = (valV kvs k).isSome
  | [] => rfl
  | p :: r => by
    rw [List.any_cons]
    by_cases e : p.1 = k
    · simp only [valV_pos e, decide_eq_true e, Bool.true_or, Option.isSome_some]
    · rw [valV_neg e, decide_eq_false e, Bool.false_or]; exact valV_any k r
theorem valV_map (k j : κ) (y : V) : ∀ kvs : List (κ × V), valV (kvs.map fun kv => if kv.1 = k then (kv.1, y) else kv) j = (valV kvs j).map fun x => if j = k then y else x
  | [] => rfl
  | p :: r => by
    have ih := valV_map k j y r
    rw [List.map_cons]
    by_cases h : p.1 = k
    · rw [if_pos h]
      by_cases e : p.1 = j
      · rw [valV_pos (p := (p.1, y)) e, valV_pos e, Option.map_some, if_pos (e.symm.trans h)]
      · rw [valV_neg (p := (p.1, y)) e, valV_neg e, ih]
    · rw [if_neg h]
      by_cases e : p.1 = j
      · rw [valV_pos (p := p) e, valV_pos e, Option.map_some, if_neg (fun z => h (e.trans z))]
      · rw [valV_neg (p := p) e, valV_neg e, ih]
theorem valV_snoc (k j : κ) (y : V) : ∀ kvs : List (κ × V), valV kvs k = none → valV (kvs ++ [(k, y)]) j = if j = k then some y else valV kvs j
  | [], _ => by
    by_cases e : k = j
    · rw [if_pos e.symm]; exact valV_pos (p := (k, y)) e
    · rw [if_neg (fun z => e z.symm)]; exact valV_neg (p := (k, y)) e
  | p :: r, hn => by
    rw [List.cons_append]
    have hk : ¬ p.1 = k := fun z => by rw [valV_pos z] at hn; cases hn
    rw [valV_neg hk] at hn
    have ih := valV_snoc k j y r hn
    by_cases e : p.1 = j
    · rw [valV_pos e, valV_pos e, if_neg (fun z => hk (e.trans z))]
    · rw [valV_neg e, valV_neg e, ih]
theorem valV_put (kvs : List (κ × V)) (k j : κ) (y : V) : valV (putK kvs k y) j = if j = k then some y else valV kvs j := by
  unfold putK
  by_cases a : (kvs.any fun kv => decide (kv.1 = k)) = true
  · rw [if_pos a, valV_map]
    rw [valV_any] at a
    by_cases e : j = k
    · obtain ⟨x, hx⟩ := Option.isSome_iff_exists.mp a
      rw [if_pos e, e, hx, Option.map_some, if_pos rfl]
    · rw [if_neg e]
      cases valV kvs j with
      | none => rfl
      | some x => rw [Option.map_some, if_neg e]
  · rw [if_neg a]
    refine valV_snoc k j y kvs ?_
    rw [valV_any] at a
    cases q : valV kvs k with
    | none => rfl
    | some x => rw [q] at a; exact (a rfl).elim
theorem length_putK (kvs : List (κ × V)) (k : κ) (v : V) : (putK kvs k v).length ≤ kvs.length + 1 := by
  unfold putK
  split
  · rw [List.length_map]; omega
  · rw [List.length_append, List.length_cons, List.length_nil]; omega
theorem putK_new {kvs : List (κ × V)} {k : κ} (v : V) (h : valV kvs k = none) : putK kvs k v = kvs ++ [(k, v)] := by
  unfold putK
  rw [valV_any, h]
  exact if_neg (by decide)

theorem RelO.isSome_eq {o : Option V} {u : Option Value} (r : RelO o u) : o.isSome = u.isSome := by
  cases o with
  | none => cases u with
    | none => rfl
    | some _ => exact (show False from r).elim
  | some _ => cases u with
    | none => exact (show False from r).elim
    | some _ => rfl
theorem RelO.getD {o : Option V} {u : Option Value} {d : V} {d' : Value} (r : RelO o u) (rd : RelV d d') : RelV (o.getD d) (u.getD d') := by
  cases o with
  | none => cases u with
    | none => exact rd
    | some _ => exact (show False from r).elim
  | some _ => cases u with
    | none => exact (show False from r).elim
    | some _ => exact r

/-- raw tables of the same keys -/
theorem KV.val {kvs : List (κ × V)} {vs : List (κ × Value)} (r : KV kvs vs) (k : κ) : RelO (valV kvs k) (valueAt vs k) := by
  unfold KV at r
  induction r with
  | nil => exact True.intro
  | @cons p q ps qs h t ih =>
    obtain ⟨h1, h2⟩ := h
    by_cases e : p.1 = k
    · have e' : q.1 = k := h1.symm.trans e
      have b : valueAt (q :: qs) k = some q.2 := by simp [valueAt, List.find?_cons, e']
      rw [valV_pos e, b]; exact h2
    · have e' : ¬ q.1 = k := fun z => e (h1.trans z)
      have b : valueAt (q :: qs) k = valueAt qs k := by simp [valueAt, List.find?_cons, e']
      rw [valV_neg e, b]; exact ih
theorem KV.any {kvs : List (κ × V)} {vs : List (κ × Value)} (r : KV kvs vs) (k : κ) : (kvs.any fun kv => decide (kv.1 = k)) = vs.any fun kv => decide (kv.1 = k) := by
  unfold KV at r
  induction r with
  | nil => rfl
  | cons h t ih => rw [List.any_cons, List.any_cons, ih, h.1]
theorem KV.repl {kvs : List (κ × V)} {vs : List (κ × Value)} (r : KV kvs vs) (k : κ) {y : V} {u : Value} (ry : RelV y u) :
    KV (kvs.map fun kv => if kv.1 = k then (kv.1, y) else kv) (vs.map fun kv => if kv.1 = k then (kv.1, u) else kv) := by
  unfold KV at r ⊢
  induction r with
  | nil => exact .nil
  | @cons p q ps qs h t ih =>
    rw [List.map_cons, List.map_cons]
    refine .cons ?_ ih
    obtain ⟨h1, h2⟩ := h
    by_cases e : p.1 = k
    · rw [if_pos e, if_pos (h1.symm.trans e)]; exact ⟨h1, ry⟩
    · rw [if_neg e, if_neg (fun z => e (h1.trans z))]; exact ⟨h1, h2⟩
theorem KV.put {kvs : List (κ × V)} {vs : List (κ × Value)} (r : KV kvs vs) (k : κ) {y : V} {u : Value} (ry : RelV y u) : KV (putK kvs k y) (stored vs k u) := by
  unfold putK stored
  rw [r.any k]
  by_cases e : (vs.any fun kv => decide (kv.1 = k)) = true
  · rw [if_pos e, if_pos e]; exact r.repl k ry
  · rw [if_neg e, if_neg e]; exact Paired.snoc r ⟨rfl, ry⟩
theorem KV.drop {kvs : List (κ × V)} {vs : List (κ × Value)} (r : KV kvs vs) (k : κ) : KV (dropK kvs k) (without vs k) := by
  unfold KV at r ⊢
  unfold dropK without
  induction r with
  | nil => exact .nil
  | @cons p q ps qs h t ih =>
    obtain ⟨h1, h2⟩ := h
    rw [List.filter_cons, List.filter_cons]
    by_cases e : p.1 = k
    · have a : ¬ decide (p.1 ≠ k) = true := by simp [e]
      have b : ¬ decide (q.1 ≠ k) = true := by simp [h1.symm.trans e]
      rw [if_neg a, if_neg b]; exact ih
    · have e' : ¬ q.1 = k := fun z => e (h1.trans z)
      have a : decide (p.1 ≠ k) = true := by simp [e]
      have b : decide (q.1 ≠ k) = true := by simp [e']
      rw [if_pos a, if_pos b]; exact .cons ⟨h1, h2⟩ ih
theorem KV.keys {kvs : List (κ × V)} {vs : List (κ × Value)} (r : KV kvs vs) : kvs.map (·.1) = vs.map (·.1) := by
  unfold KV at r
  induction r with
  | nil => rfl
  | cons h t ih => rw [List.map_cons, List.map_cons, ih, h.1]
theorem KV.length {kvs : List (κ × V)} {vs : List (κ × Value)} (r : KV kvs vs) : kvs.length = vs.length := Paired.length r
theorem dropK_le (kvs : List (κ × V)) (k : κ) : (dropK kvs k).length ≤ kvs.length := List.length_filter_le _ _
end


/-! ### a tracked dict, its keys ints and texts or tuples of these -/
theorem kV_is {P : Program} {w : World} {k : Key} {u : Value} (r : RelV (kV k) u) : (mixKind P w).is k u = true := by
  cases k with
  | inl i => obtain ⟨t, e⟩ := (show ∃ t, u = Value.int i t from r); subst e; exact mixKind_int P w i t
  | inr x => obtain ⟨t, e⟩ := (show ∃ t, u = Value.str x t from r); subst e; exact mixKind_str P w x t
theorem kV_inj {a b : Key} (e : kV a = kV b) : a = b := by
  cases a with
  | inl i => cases b with
    | inl j => have e' : V.int i = V.int j := e; injection e' with e'; rw [e']
    | inr y => exact nomatch (show V.int i = V.str y from e)
  | inr x => cases b with
    | inl j => exact nomatch (show V.str x = V.int j from e)
    | inr y => have e' : V.str x = V.str y := e; injection e' with e'; rw [e']
theorem kVs_inj : ∀ {a b : List Key}, a.map kV = b.map kV → a = b
  | [], [], _ => rfl
  | [], _ :: _, e => by simp at e
  | _ :: _, [], e => by simp at e
  | x :: xs, y :: ys, e => by
    rw [List.map_cons, List.map_cons] at e
    injection e with e1 e2
    rw [kV_inj e1, kVs_inj e2]
theorem items_are {P : Program} {w : World} : ∀ {ks : List Key} {us : List Value}, Vals (ks.map kV) us → ItemsAre (mixKind P w) ks us
  | [], _, r => by rw [List.map_nil] at r; cases r; exact .nil
  | k :: ks, _, r => by
    rw [List.map_cons] at r
    cases r with
    | cons h t => exact .cons (kV_is h) (items_are t)

/-- raw entries of a dict with tuple keys -/
abbrev KT (H : Hp) : List (List Key × V) → List (List Key × Addr × Value) → Prop := Paired fun p q => p.1 = q.1 ∧ H q.2.1 = some (.tup (p.1.map kV)) ∧ RelV p.2 q.2.2
theorem KT.val {H : Hp} {kvs : List (List Key × V)} {xs : List (List Key × Addr × Value)} (r : KT H kvs xs) (k : List Key) : RelO (valV kvs k) ((atKey xs k).map (·.2)) := by
  induction r with
  | nil => exact True.intro
  | @cons p q ps qs h t ih =>
    obtain ⟨h1, _, h2⟩ := h
    by_cases e : p.1 = k
    · have e' : q.1 = k := h1.symm.trans e
      have b : atKey (q :: qs) k = some q.2 := by simp [atKey, List.find?_cons, e']
      rw [valV_pos e, b]; exact h2
    · have e' : ¬ q.1 = k := fun z => e (h1.trans z)
      have b : atKey (q :: qs) k = atKey qs k := by simp [atKey, List.find?_cons, e']
      rw [valV_neg e, b]; exact ih
theorem KT.repl {H : Hp} {kvs : List (List Key × V)} {xs : List (List Key × Addr × Value)} (r : KT H kvs xs) (k : List Key) {y : V} {u : Value} (ry : RelV y u) :
    KT H (kvs.map fun kv => if kv.1 = k then (kv.1, y) else kv) (xs.map (putAt k u)) := by
  induction r with
  | nil => exact .nil
  | @cons p q ps qs h t ih =>
    rw [List.map_cons, List.map_cons]
    refine .cons ?_ ih
    obtain ⟨h1, h2, h3⟩ := h
    unfold putAt
    by_cases e : p.1 = k
    · rw [if_pos e, if_pos (h1.symm.trans e)]; exact ⟨h1, h2, ry⟩
    · rw [if_neg e, if_neg (fun z => e (h1.trans z))]; exact ⟨h1, h2, h3⟩
theorem KT.put {H : Hp} {kvs : List (List Key × V)} {xs : List (List Key × Addr × Value)} (r : KT H kvs xs) (k : List Key) {b : Addr} {y : V} {u : Value} (hb : H b = some (.tup (k.map kV))) (ry : RelV y u) :
    KT H (putK kvs k y) (storedH xs k b u) := by
  have e : (kvs.any fun kv => decide (kv.1 = k)) = (atKey xs k).isSome := by
    rw [valV_any, (r.val k).isSome_eq, Option.isSome_map]
  unfold putK storedH
  rw [e]
  by_cases q : (atKey xs k).isSome = true
  · rw [if_pos q, if_pos q]; exact r.repl k ry
  · rw [if_neg q, if_neg q]; exact Paired.snoc r ⟨rfl, hb, ry⟩
theorem KT.keeps {H H' : Hp} {kvs : List (List Key × V)} {xs : List (List Key × Addr × Value)} (r : KT H kvs xs) (ht : ∀ b ys, H b = some (.tup ys) → H' b = some (.tup ys)) : KT H' kvs xs :=
  Paired.mapP r fun _ _ z => ⟨z.1, ht _ _ z.2.1, z.2.2⟩

section
variable {P : Program} {w : World} {H : Hp} {h : Heap} {a : Addr}
theorem rd_of {u : HO} (ok : HOk P w H h) (e : Rd H a u) : ObjOk P w H h a u := e.ok ok
theorem dk_rd {kvs : List (Key × V)} (ok : HOk P w H h) (e : Rd H a (.dK kvs)) : kvs.length ≤ sizeLine ∧ (a == sysModules) = false ∧ ∃ vs, KV kvs vs ∧ h.DictOf (mixKind P w) a vs :=
  show ObjOk P w H h a (.dK kvs) from rd_of ok e
theorem dk_of {kvs : List (Key × V)} (ok : HOk P w H h) (e : H a = some (.dK kvs)) : kvs.length ≤ sizeLine ∧ (a == sysModules) = false ∧ ∃ vs, KV kvs vs ∧ h.DictOf (mixKind P w) a vs := dk_rd ok (.inl e)
/-- a tracked tuple of ints and texts is a key -/
theorem key_of {ks : List Key} (ok : HOk P w H h) (e : H a = some (.tup (ks.map kV))) : (tupleKind (mixKind P w)).is h ks a := by
  obtain ⟨_, its, r, o, h1, h2, n, h3⟩ := (show ObjOk P w H h a (.tup (ks.map kV)) from ok a _ e)
  exact ⟨o, its.toArray, n, h1, h2, h3, by simpa using items_are r⟩
theorem dt_rd {kvs : List (List Key × V)} (ok : HOk P w H h) (e : Rd H a (.dT kvs)) : kvs.length ≤ sizeLine ∧ (a == sysModules) = false ∧
    ∃ xs, KT H kvs xs ∧ h.DictOfH (tupleKind (mixKind P w)) a xs := by
  obtain ⟨z, y, xs, r, o, es, ep, h1, h2, h3, h4, h5⟩ := (show ObjOk P w H h a (.dT kvs) from rd_of ok e)
  refine ⟨z, y, xs, r, o, es, ep, h1, h2, h3, h4, fun x hx => ?_, h5⟩
  have all : ∀ {l : List (List Key × V)} {m : List (List Key × Addr × Value)}, KT H l m → ∀ x ∈ m, (tupleKind (mixKind P w)).is h x.1 x.2.1 := by
    intro l m q
    induction q with
    | nil => intro x hx; exact nomatch hx
    | @cons p q ps qs hq t ih =>
      intro x hx
      rcases List.mem_cons.mp hx with e | hx
      · subst e
        exact key_of ok (by rw [← hq.1]; exact hq.2.1)
      · exact ih x hx
  exact all r x hx
theorem dt_of {kvs : List (List Key × V)} (ok : HOk P w H h) (e : H a = some (.dT kvs)) : kvs.length ≤ sizeLine ∧ (a == sysModules) = false ∧
    ∃ xs, KT H kvs xs ∧ h.DictOfH (tupleKind (mixKind P w)) a xs := dt_rd ok (.inl e)
end

/-- what the dict at a holds at the key y -/
def DGet (H : Hp) (a : Addr) (y : V) (r : Option V) : Prop :=
  (∃ kvs k, Rd H a (.dK kvs) ∧ y = kV k ∧ r = valV kvs k) ∨ ∃ kvs k b, Rd H a (.dT kvs) ∧ y = .ref b ∧ H b = some (.tup (k.map kV)) ∧ r = valV kvs k
/-- the heap behind a[y] = v -/
def DPut (H : Hp) (a : Addr) (y v : V) (H' : Hp) : Prop :=
  (∃ kvs k, H a = some (.dK kvs) ∧ y = kV k ∧ kvs.length < sizeLine ∧ H' = upd H a (.dK (putK kvs k v))) ∨
  ∃ kvs k b, H a = some (.dT kvs) ∧ y = .ref b ∧ H b = some (.tup (k.map kV)) ∧ kvs.length < sizeLine ∧ H' = upd H a (.dT (putK kvs k v))
theorem DGet.k {H : Hp} {a : Addr} {kvs : List (Key × V)} {k : Key} (e : H a = some (.dK kvs)) : DGet H a (kV k) (valV kvs k) := .inl ⟨kvs, k, .inl e, rfl, rfl⟩
theorem DGet.t {H : Hp} {a b : Addr} {kvs : List (List Key × V)} {k : List Key} (e : H a = some (.dT kvs)) (eb : H b = some (.tup (k.map kV))) : DGet H a (.ref b) (valV kvs k) := .inr ⟨kvs, k, b, .inl e, rfl, eb, rfl⟩
theorem DPut.k {H : Hp} {a : Addr} {kvs : List (Key × V)} {k : Key} {v : V} (e : H a = some (.dK kvs)) (hl : kvs.length < sizeLine) : DPut H a (kV k) v (upd H a (.dK (putK kvs k v))) := .inl ⟨kvs, k, e, rfl, hl, rfl⟩
theorem DPut.t {H : Hp} {a b : Addr} {kvs : List (List Key × V)} {k : List Key} {v : V} (e : H a = some (.dT kvs)) (eb : H b = some (.tup (k.map kV))) (hl : kvs.length < sizeLine) :
    DPut H a (.ref b) v (upd H a (.dT (putK kvs k v))) := .inr ⟨kvs, k, b, e, rfl, eb, hl, rfl⟩


section
variable {X : Cx} {pins : List (Addr × Obj)} {σ : St} {H : Hp} {s : Shared} {a : Addr} {y v : V} {u r : Value} {o : Option V} {A : Around} {E : Value → Shared → Prop}

theorem Inv.big (I : Inv X pins σ H s) : sysModules < s.heap.objs.size := by
  have h : mainGlobals < s.heap.objs.size := (I.mod.glob.keeps I.bk).lt
  exact Nat.lt_trans (by decide) h

/-- d[y], there -/
theorem d_getItem {Q : Value → Shared → Prop} (hu : A.units + 1 < cLine) (I : Inv X pins σ H s) (g : DGet H a y (some v)) (ry : RelV y u) (h : ∀ w' s', Inv X pins σ H s' → RelV v w' → Q w' s') :
    wpAny (model X.prog X.w) A (getItem (.ref a) u) Q E s := by
  rcases g with ⟨kvs, k, e, ey, l⟩ | ⟨kvs, k, b, e, ey, eb, l⟩
  · subst ey
    obtain ⟨z, hd, vs, rel, dd⟩ := dk_rd I.hok e
    obtain ⟨w', hw, rw'⟩ := RelO.some_of (v := v) (o := valueAt vs k) (by rw [l]; exact rel.val k)
    exact wpAny_getItem_of (kV_is ry) dd.mapOf hw (h w' _ (I.tok _) rw')
  · subst ey
    cases (show u = Value.ref b from ry)
    obtain ⟨z, hd, xs, rel, dd⟩ := dt_rd I.hok e
    obtain ⟨w', hw, rw'⟩ := RelO.some_of (v := v) (o := (atKey xs k).map (·.2)) (by rw [l]; exact rel.val k)
    obtain ⟨p, hp, hp2⟩ := Option.map_eq_some_iff.mp hw
    refine wpAny_getItem_heap (tupleKind_room_in1 hu) (key_of I.hok eb) dd hp ?_
    rw [hp2]
    exact h w' _ (I.tok _) rw'
/-- y in d -/
theorem d_in {Q : Value → Shared → Prop} (hu : A.units + 1 < cLine) (I : Inv X pins σ H s) (g : DGet H a y o) (ry : RelV y u) (h : ∀ s', Inv X pins σ H s' → Q (.bool o.isSome) s') :
    wpAny (model X.prog X.w) A (compareOp .In u (.ref a)) Q E s := by
  rcases g with ⟨kvs, k, e, ey, l⟩ | ⟨kvs, k, b, e, ey, eb, l⟩
  · subst ey
    obtain ⟨z, hd, vs, rel, dd⟩ := dk_rd I.hok e
    refine wpAny_in_of (kV_is ry) hd dd.mapOf ?_
    rw [← (rel.val k).isSome_eq, ← l]
    exact h _ (I.tok _)
  · subst ey
    cases (show u = Value.ref b from ry)
    obtain ⟨z, hd, xs, rel, dd⟩ := dt_rd I.hok e
    refine wpAny_in_heap (tupleKind_room_in1 hu) (key_of I.hok eb) hd dd ?_
    have q := (rel.val k).isSome_eq
    rw [Option.isSome_map] at q
    rw [← q, ← l]
    exact h _ (I.tok _)
theorem d_notIn {Q : Value → Shared → Prop} (hu : A.units + 1 < cLine) (I : Inv X pins σ H s) (g : DGet H a y o) (ry : RelV y u) (h : ∀ s', Inv X pins σ H s' → Q (.bool (!o.isSome)) s') :
    wpAny (model X.prog X.w) A (compareOp .NotIn u (.ref a)) Q E s := by
  rcases g with ⟨kvs, k, e, ey, l⟩ | ⟨kvs, k, b, e, ey, eb, l⟩
  · subst ey
    obtain ⟨z, hd, vs, rel, dd⟩ := dk_rd I.hok e
    refine wpAny_notIn_of (kV_is ry) hd dd.mapOf ?_
    rw [← (rel.val k).isSome_eq, ← l]
    exact h _ (I.tok _)
  · subst ey
    cases (show u = Value.ref b from ry)
    obtain ⟨z, hd, xs, rel, dd⟩ := dt_rd I.hok e
    refine wpAny_notIn_heap (tupleKind_room_in1 hu) (key_of I.hok eb) hd dd ?_
    have q := (rel.val k).isSome_eq
    rw [Option.isSome_map] at q
    rw [← q, ← l]
    exact h _ (I.tok _)
/-- a dict's object is replaced -/
theorem d_write {h' : Heap} {t' : Nat} {ob : HO} (I : Inv X pins σ H s) (mu : Mut (H a)) (hs : Heap.SameBut a s.heap h') (he : ∃ q, h'.get? a = some q) (new : ObjOk X.prog X.w (upd H a ob) h' a ob) :
    Inv X pins σ (upd H a ob) { s with heap := h', toks := t' } :=
  I.write (x := a) (e := a) mu (.inl rfl) (fun b q hb z => (hs.2 b hb).trans z) he new
theorem dk_new {P : Program} {w : World} {H' : Hp} {h' : Heap} {kvs : List (Key × V)} {vs : List (Key × Value)} (z : kvs.length ≤ sizeLine) (hd : (a == sysModules) = false) (rel : KV kvs vs) (dd : h'.DictOf (mixKind P w) a vs) :
    ObjOk P w H' h' a (.dK kvs) := ⟨z, hd, vs, rel, dd⟩
/-- d[y] = v -/
theorem d_setItem {H' : Hp} {Q : Unit → Shared → Prop} (hu : A.units + 1 < cLine) (I : Inv X pins σ H s) (g : DPut H a y v H') (ry : RelV y u) (rv : RelV v r) (h : ∀ s', Inv X pins σ H' s' → Q () s') :
    wpAny (model X.prog X.w) A (setItem (.ref a) u r) Q E s := by
  rcases g with ⟨kvs, k, e, ey, l, eH⟩ | ⟨kvs, k, b, e, ey, eb, l, eH⟩
  · subst ey eH
    obtain ⟨z, hd, vs, rel, dd⟩ := dk_of I.hok e
    have hz : vs.length ≤ sizeLine := by rw [← rel.length]; exact z
    have hl : (putK kvs k v).length ≤ sizeLine := by have := length_putK kvs k v; omega
    refine wpAny_setItem_pairs (hsz := hz) (kV_is ry) dd fun h' dd' hs => h _ ?_
    have he : ∃ q, h'.get? a = some q := let ⟨q, _, _, hq, _⟩ := dd'; ⟨q, hq⟩
    exact d_write I (by rw [e]; exact True.intro) hs he (dk_new hl hd (rel.put k rv) dd')
  · subst ey eH
    cases (show u = Value.ref b from ry)
    obtain ⟨z, hd, xs, rel, dd⟩ := dt_of I.hok e
    have hz : xs.length ≤ sizeLine := by rw [← Paired.length rel]; exact z
    have hl : (putK kvs k v).length ≤ sizeLine := by have := length_putK kvs k v; omega
    refine wpAny_setItem_heap (hsz := hz) (tupleKind_room_in1 hu) (key_of I.hok eb) dd fun h' dd' hs => h _ ?_
    obtain ⟨q, es, ep, hq, h2, h3, h4, _, h5⟩ := dd'
    refine d_write I (by rw [e]; exact True.intro) hs ⟨q, hq⟩ ⟨hl, hd, _, (rel.put k eb rv).keeps fun c ys ec => ?_, q, es, ep, hq, h2, h3, h4, h5⟩
    rw [upd_ne (ne_of ec e (fun z => nomatch z))]
    exact ec
end

def NoSl (i : Expr) : Prop := ∀ ov iv, subscripted i false ov iv = operate [ov, iv] (getItem ov iv)
theorem subD_of {prog : Program} {w : World} {A : Around} {E : Value → Shared → Prop} {s : Shared} {env : Env} {value slice : Expr} {pos : Pos} {T id : String} {Q : Value → Shared → Prop}
    (hl : typeLookup (.type T) "__getitem__" = pure (some (.builtin id))) (hs : NoSl slice)
    (h : wpAny (model prog w) A (eval value env) (fun o s₁ => wpAny (model prog w) A (eval slice env) (fun i s₂ => s₂.TypeIs o T ∧ wpAny (model prog w) A (getItem o i) Q E s₂) E s₁) E s) :
    wpAny (model prog w) A (eval (.Subscript value slice pos) env) Q E s := by
  refine Subscript_ (wpAny_mono h (fun o s₁ h₁ => wpAny_mono h₁ (fun i s₂ h₂ => ?_) fun _ _ x => x) fun _ _ x => x)
  obtain ⟨hT, h₂⟩ := h₂
  unfold subscriptTail
  refine wpAny_bind ?_
  rw [getitemInPython_of_ne hT.not_modules]
  refine wpAny_bind (wpAny_specialOf hT hl ?_)
  have fin : wpAny (model prog w) A (subscripted slice false o i) (fun r s₃ => wpAny (model prog w) A (letTemporaryGo value o r >>= fun _ => pure r) Q E s₃) E s₂ := by
    rw [hs o i]
    exact wpAny_operating (wpAny_mono h₂ (fun r s₃ h₃ => wpAny_bind (wpAny_letTemporaryGo (wpAny_pure h₃))) fun _ _ x => x)
  first
    | exact wpAny_pure (wpAny_bind fin)
    | exact wpAny_bind (wpAny_pure (wpAny_bind fin))
    | exact wpAny_bind fin

theorem dict_typeIs {X : Cx} {pins : List (Addr × Obj)} {σ : St} {H : Hp} {s : Shared} {a : Addr} {y : V} {o : Option V} (I : Inv X pins σ H s) (g : DGet H a y o) : s.TypeIs (.ref a) "dict" := by
  rcases g with ⟨kvs, k, e, _, _⟩ | ⟨kvs, k, b, e, _, _, _⟩
  · obtain ⟨_, _, vs, _, dd⟩ := dk_rd I.hok e
    exact dd.typeIs
  · obtain ⟨_, _, xs, _, dd⟩ := dt_rd I.hok e
    exact dd.typeIs
theorem dict_noDict {X : Cx} {pins : List (Addr × Obj)} {σ : St} {H : Hp} {s : Shared} {a : Addr} {y : V} {o : Option V} (I : Inv X pins σ H s) (g : DGet H a y o) :
    ∀ b, Value.ref a = .ref b → ∃ ob, s.heap.get? b = some ob ∧ ob.dict = none := fun b q => by
  cases q
  rcases g with ⟨kvs, k, e, _, _⟩ | ⟨kvs, k, b, e, _, _, _⟩
  · obtain ⟨_, _, vs, _, ob, _, _, h1, h2, _⟩ := dk_rd I.hok e
    exact ⟨ob, h1, h2.2.1⟩
  · obtain ⟨_, _, xs, _, ob, _, _, h1, h2, _⟩ := dt_rd I.hok e
    exact ⟨ob, h1, h2.2.1⟩

/-- d[y] -/
def tDGet (td ty : TE) : TE := fun σ H Q => td σ H fun x H1 => ty σ H1 fun y H2 => ∃ a v, x = .ref a ∧ DGet H2 a y (some v) ∧ Q v H2
/-- y in d, y not in d -/
def tDIn (ty td : TE) : TE := fun σ H Q => ty σ H fun y H1 => td σ H1 fun x H2 => ∃ a o, x = .ref a ∧ DGet H2 a y o ∧ Q (.bl o.isSome) H2
def tDNotIn (ty td : TE) : TE := fun σ H Q => ty σ H fun y H1 => td σ H1 fun x H2 => ∃ a o, x = .ref a ∧ DGet H2 a y o ∧ Q (.bl (!o.isSome)) H2
/-- d[y] = v -/
def sDPut (td ty tv : TE) : TS := fun D σ H => tv σ H fun v H1 => td σ H1 fun x H2 => ty σ H2 fun y H3 => ∃ a H4, x = .ref a ∧ DPut H3 a y v H4 ∧ D.nx σ H4
section
variable {X : Cx} {o i e value : Expr} {pos pos' tpos : Pos} {td ty tv : TE}
theorem pe_dget (hu : X.A.units + 1 < cLine) (ho : PE X o td) (hi : PE X i ty) (hs : NoSl i) : PE X (.Subscript o i pos) (tDGet td ty) := by
  intro pins s σ H Q I h
  refine subD_of PySem.F.slot_dict_getitem.lookup hs (thn (ho pins s σ H _ I h) fun u s1 ⟨x, H1, I1, rx, q1⟩ => thn (hi pins s1 σ H1 _ I1 q1) fun iv s2 ⟨y, H2, I2, ry, a, v, ex, g, q2⟩ => ?_)
  subst ex
  obtain rfl : u = Value.ref a := rx
  exact ⟨dict_typeIs I2 g, d_getItem hu I2 g ry fun w' s3 I3 rw' => ⟨v, H2, I3, rw', q2⟩⟩
theorem pc_din (hu : X.A.units + 1 < cLine) (hi : PE X i ty) (ho : PE X o td) : PC X .In i o (tDIn ty td) := by
  intro pins s σ H Q I h
  refine thn (hi pins s σ H _ I h) fun iv s1 ⟨y, H1, I1, ry, q1⟩ => thn (ho pins s1 σ H1 _ I1 q1) fun u s2 ⟨x, H2, I2, rx, a, ov, ex, g, q2⟩ => ?_
  subst ex
  obtain rfl : u = Value.ref a := rx
  exact d_in hu I2 g ry fun s3 I3 => ⟨.bl ov.isSome, H2, I3, rfl, q2⟩
theorem pc_dnotin (hu : X.A.units + 1 < cLine) (hi : PE X i ty) (ho : PE X o td) : PC X .NotIn i o (tDNotIn ty td) := by
  intro pins s σ H Q I h
  refine thn (hi pins s σ H _ I h) fun iv s1 ⟨y, H1, I1, ry, q1⟩ => thn (ho pins s1 σ H1 _ I1 q1) fun u s2 ⟨x, H2, I2, rx, a, ov, ex, g, q2⟩ => ?_
  subst ex
  obtain rfl : u = Value.ref a := rx
  exact d_notIn hu I2 g ry fun s3 I3 => ⟨.bl (!ov.isSome), H2, I3, rfl, q2⟩
theorem ps_dput (hu : X.A.units + 1 < cLine) (ho : PE X o td) (hi : PE X i ty) (hv : PE X value tv) (hs : swapsWith value (some (.Subscript o i pos')) pos.line X.env = pure false) :
    PS X (.Assign [.Subscript o i pos'] value pos) (sDPut td ty tv) := by
  intro pins s σ H D I h
  refine wpAny_Assign_Subscript (thn (hv pins s σ H _ I h) fun r s1 ⟨v, H1, I1, rv, q1⟩ => thn (ho pins s1 σ H1 _ I1 q1) fun u s2 ⟨x, H2, I2, rx, q2⟩ => thn (hi pins s2 σ H2 _ I2 q2) fun iv s3 ⟨y, H3, I3, ry, a, H4, ex, g, q3⟩ => ?_) hs
  subst ex
  obtain rfl : u = Value.ref a := rx
  exact d_setItem hu I3 g ry rv fun s4 I4 => ⟨σ, H4, I4, q3⟩
end
theorem dk_empty {P : Program} {w : World} {H : Hp} (h : Heap) (hb : sysModules < h.objs.size) : ObjOk P w H (h.push { cls := .type "dict", data := .dict #[] }) h.objs.size (.dK []) :=
  ⟨Nat.zero_le _, beq_eq_false_iff_ne.mpr (Ne.symm (Nat.ne_of_lt hb)), [], .nil, Heap.DictOf.new h⟩
theorem dt_empty {P : Program} {w : World} {H : Hp} (h : Heap) (hb : sysModules < h.objs.size) : ObjOk P w H (h.push { cls := .type "dict", data := .dict #[] }) h.objs.size (.dT []) :=
  ⟨Nat.zero_le _, beq_eq_false_iff_ne.mpr (Ne.symm (Nat.ne_of_lt hb)), [], .nil, _, #[], 0, Heap.get?_push_size _ rfl, ⟨rfl, rfl, rfl⟩, rfl, rfl, List.nodup_nil⟩
/-- {}, to be a dict of the kind that is wanted -/
def tDNewK : TE := fun _ H Q => ∀ p, H p = none → Q (.ref p) (upd H p (.dK []))
def tDNewT : TE := fun _ H Q => ∀ p, H p = none → Q (.ref p) (upd H p (.dT []))
section
variable {X : Cx} {pos : Pos}
theorem pe_dnewK : PE X (.Dict [] [] pos) tDNewK := fun pins s σ H Q I h =>
  wpAny_Dict_empty ⟨.ref s.heap.objs.size, _, I.laid (a := s.heap.objs.size) (o := .dK []) (t' := s.toks) (fun _ _ q => Heap.get?_push_of_some _ q) (Nat.le_refl _) (dk_empty s.heap I.big), rfl, h _ (I.hok.fresh (Nat.le_refl _))⟩
end
end L2
set_option linter.all false
set_option maxRecDepth 100000
/-! pieces read backward; the one that goes on with either sign -/
namespace Tw
def bit (c : Nat) : Nat := if c = 98 then 1 else 0
theorem enc_snoc : ∀ (l : List Nat) (c : Nat), enc (l ++ [c]) = enc l + 2 ^ l.length * bit c
  | [], c => by show (if c = 98 then 1 else 0) + 2 * 0 = 0 + 2 ^ 0 * bit c; unfold bit; split <;> rfl
  | d :: l, c => by
    show (if d = 98 then 1 else 0) + 2 * enc (l ++ [c]) = ((if d = 98 then 1 else 0) + 2 * enc l) + 2 ^ (l.length + 1) * bit c
    rw [enc_snoc l c, Nat.pow_succ, Nat.mul_add, ← Nat.mul_assoc, Nat.mul_comm 2 (2 ^ l.length)]
    omega
def revB : Nat → Nat → Nat
  | 0, _ => 0
  | n + 1, x => 2 ^ n * (x % 2) + revB n (x / 2)
theorem enc_rev : ∀ l : List Nat, enc l.reverse = revB l.length (enc l)
  | [] => rfl
  | c :: l => by
    have ih := enc_rev l
    rw [List.reverse_cons, enc_snoc, List.length_reverse, ih]
    show _ = 2 ^ l.length * (((if c = 98 then 1 else 0) + 2 * enc l) % 2) + revB l.length (((if c = 98 then 1 else 0) + 2 * enc l) / 2)
    unfold bit
    split
    · rw [show (1 + 2 * enc l) % 2 = 1 by omega, show (1 + 2 * enc l) / 2 = enc l by omega]; omega
    · rw [show (0 + 2 * enc l) % 2 = 0 by omega, show (0 + 2 * enc l) / 2 = enc l by omega]; omega
def facB (n : Nat) : List Nat := dd ((List.range 233).map (win n))
theorem facB_is {n : Nat} (h : n ≤ 41) : facB n = (facs n).map enc := by
  have e : (List.range 233).map (win n) = ((List.range 233).map fun (k : Nat) => pc (k : Int) n).map enc := by
    rw [List.map_map]
    apply List.map_congr_left
    intro k hk
    exact win_is (by have := List.mem_range.mp hk; omega)
  unfold facB
  rw [e, dd_map enc _ fun x hx y hy he => ?_]
  · rfl
  · obtain ⟨a, _, rfl⟩ := List.mem_map.mp hx
    obtain ⟨b, _, rfl⟩ := List.mem_map.mp hy
    exact enc_inj (by rw [pc_length, pc_length]) (fun c h => pc_ab h) (fun c h => pc_ab h) he
theorem facB_mem {n : Nat} (h : n ≤ 41) {x : List Nat} (hl : x.length = n) (ha : ∀ c ∈ x, c = 97 ∨ c = 98) : enc x ∈ facB n ↔ x ∈ facs n := by
  rw [facB_is h, List.mem_map]
  constructor
  · rintro ⟨y, hy, e⟩
    obtain ⟨yl, yab, _⟩ := facs_piece hy
    rw [← enc_inj (yl.trans hl.symm) yab ha e]
    exact hy
  · exact fun hx => ⟨x, hx, rfl⟩
def okFork (n : Nat) (F G : List Nat) : Bool := F.all fun x => F.contains (revB n x) && ((G.contains x || G.contains (x + 2 ^ n)) && ((G.contains x && G.contains (x + 2 ^ n)) == (x == revB n (win n 0))))
theorem fork40 : (List.range 41).all (fun n => okFork n (facB n) (facB (n + 1))) = true := by decide +kernel
theorem fork_at {n : Nat} (h : n ≤ 40) {x : List Nat} (hx : x ∈ facs n) : x.reverse ∈ facs n ∧ (x ++ [97] ∈ facs (n + 1) ∨ x ++ [98] ∈ facs (n + 1)) ∧ ((x ++ [97] ∈ facs (n + 1) ∧ x ++ [98] ∈ facs (n + 1)) ↔ x = (pc 0 n).reverse) := by
  obtain ⟨xl, xab, _⟩ := facs_piece hx
  have h1 := List.all_eq_true.mp fork40 n (List.mem_range.mpr (by omega))
  have h2 := List.all_eq_true.mp h1 (enc x) ((facB_mem (by omega) xl xab).mpr hx)
  rw [Bool.and_eq_true, Bool.and_eq_true] at h2
  obtain ⟨h3, h4, h5⟩ := h2
  have abr : ∀ c ∈ x.reverse, c = 97 ∨ c = 98 := fun c hc => xab c (List.mem_reverse.mp hc)
  have ab1 : ∀ d, (d = 97 ∨ d = 98) → ∀ c ∈ x ++ [d], c = 97 ∨ c = 98 := fun d hd c hc => by
    rcases List.mem_append.mp hc with z | z
    · exact xab c z
    · have : c = d := by simpa using z
      rw [this]; exact hd
  have eA : ((facB (n + 1)).contains (enc x) = true) ↔ x ++ [97] ∈ facs (n + 1) := by
    have e : enc (x ++ [97]) = enc x := by rw [enc_snoc]; show _ + _ * 0 = _; rw [Nat.mul_zero, Nat.add_zero]
    rw [← e, List.contains_iff_mem]
    exact facB_mem (by omega) (by rw [List.length_append, xl]; rfl) (ab1 97 (.inl rfl))
  have eB : ((facB (n + 1)).contains (enc x + 2 ^ n) = true) ↔ x ++ [98] ∈ facs (n + 1) := by
    have e : enc (x ++ [98]) = enc x + 2 ^ n := by rw [enc_snoc, xl]; show _ + _ * 1 = _; rw [Nat.mul_one]
    rw [← e, List.contains_iff_mem]
    exact facB_mem (by omega) (by rw [List.length_append, xl]; rfl) (ab1 98 (.inr rfl))
  refine ⟨?_, ?_, ?_⟩
  · refine (facB_mem (by omega) (by rw [List.length_reverse, xl]) abr).mp ?_
    rw [enc_rev, xl]
    exact List.contains_iff_mem.mp h3
  · rw [Bool.or_eq_true, eA, eB] at h4
    exact h4
  · have e0 : enc (pc 0 n).reverse = revB n (win n 0) := by
      rw [enc_rev, pc_length]
      have := win_is (n := n) (k := 0) (by omega)
      rw [this]
      rfl
    have h6 : ((facB (n + 1)).contains (enc x) && (facB (n + 1)).contains (enc x + 2 ^ n)) = (enc x == revB n (win n 0)) := eq_of_beq h5
    rw [← eA, ← eB, ← Bool.and_eq_true, h6, beq_iff_eq, ← e0]
    constructor
    · exact fun e => enc_inj (by rw [List.length_reverse, pc_length, xl]) xab (fun c hc => pc_ab (List.mem_reverse.mp hc)) e
    · exact fun e => by rw [e]
def fk (n : Nat) : List Nat := (pc 0 n).reverse
theorem fk_mem {n : Nat} (h : n ≤ 40) : fk n ∈ srt n := srt_mem.mpr (fork_at h (facs_all (by omega) (Int.le_refl 0))).1
theorem fk_len (n : Nat) : (fk n).length = n := by unfold fk; rw [List.length_reverse, pc_length]
theorem only_fk {n : Nat} (h : n ≤ 40) : (srt n).filter (· == fk n) = [fk n] := by
  rw [List.filter_beq, List.Nodup.count (srt_nodup n), if_pos (fk_mem h)]
  rfl
end Tw
set_option Elab.async false
set_option linter.all false
set_option maxRecDepth 100000
set_option maxHeartbeats 4000000
/-! reversed(a text), walked and joined -/
namespace L2
open PySem PyProof.Rows Tw
theorem rv_owner : Manifest.owners.lookup (String.ofList ['d', 'e', 's', 'r', 'e', 'v', 'e', 'r'].reverse) = some Manifest.sig_reversed := by kernel_rfl
theorem rv_next : Slot "reversed" "__next__" "reversed.__next__" :=
  .of (owner := "reversed") (n := "__next__") (by rw [typeLookup_type, builtinLookup_eq_fast]; kernel_rfl) (by decide +kernel) (by decide +kernel) (by decide +kernel) (by first | exact .inl (by decide +kernel) | exact .inr (by decide +kernel)) (by rw [isSubtype_type]; kernel_rfl)
theorem rv_iter : Slot "reversed" "__iter__" "reversed.__iter__" :=
  .of (owner := "reversed") (n := "__iter__") (by rw [typeLookup_type, builtinLookup_eq_fast]; kernel_rfl) (by decide +kernel) (by decide +kernel) (by decide +kernel) (by first | exact .inl (by decide +kernel) | exact .inr (by decide +kernel)) (by rw [isSubtype_type]; kernel_rfl)
theorem rv_hint : Slot "reversed" "__length_hint__" "reversed.__length_hint__" :=
  .of (owner := "reversed") (n := "__length_hint__") (by rw [typeLookup_type, builtinLookup_eq_fast]; kernel_rfl) (by decide +kernel) (by decide +kernel) (by decide +kernel) (by first | exact .inl (by decide +kernel) | exact .inr (by decide +kernel)) (by rw [isSubtype_type]; kernel_rfl)
theorem rv_init : Slot "reversed" "__init__" "object.__init__" :=
  .of (owner := "object") (n := "__init__") (by rw [typeLookup_type, builtinLookup_eq_fast]; kernel_rfl) (by decide +kernel) (by decide +kernel) (by decide +kernel) (by first | exact .inl (by decide +kernel) | exact .inr (by decide +kernel)) (by rw [isSubtype_type]; kernel_rfl)
theorem rv_args_next (a : Value) : argsOk "reversed.__next__" ⟨[a], []⟩ := by
  unfold argsOk; rw [signature?_of (id := "reversed.__next__") (n := ['_', '_', 't', 'x', 'e', 'n', '_', '_']) (o := ['d', 'e', 's', 'r', 'e', 'v', 'e', 'r']) (by kernel_rfl) rv_owner]; kernel_rfl
theorem rv_args_iter (a : Value) : argsOk "reversed.__iter__" ⟨[a], []⟩ := by
  unfold argsOk; rw [signature?_of (id := "reversed.__iter__") (n := ['_', '_', 'r', 'e', 't', 'i', '_', '_']) (o := ['d', 'e', 's', 'r', 'e', 'v', 'e', 'r']) (by kernel_rfl) rv_owner]; kernel_rfl
theorem rv_args_hint (a : Value) : argsOk "reversed.__length_hint__" ⟨[a], []⟩ := by
  unfold argsOk; rw [signature?_of (id := "reversed.__length_hint__") (n := ['_', '_', 't', 'n', 'i', 'h', '_', 'h', 't', 'g', 'n', 'e', 'l', '_', '_']) (o := ['d', 'e', 's', 'r', 'e', 'v', 'e', 'r']) (by kernel_rfl) rv_owner]; kernel_rfl
theorem rv_entry_next : entryFor table "reversed.__next__" = some Builtin.«reversed.__next__» := entryFor_of_tree (by kernel_rfl)
theorem rv_entry_hint : entryFor table "reversed.__length_hint__" = some Builtin.«reversed.__length_hint__» := entryFor_of_tree (by kernel_rfl)
theorem rv_entry_iter : entryFor table "reversed.__iter__" = some Builtin.«dict_keyiterator.__iter__» :=
  entryFor_alias (id' := "dict_keyiterator.__iter__") (by kernel_rfl) (by first | rfl | decide +kernel | (unfold String.splitOn; simp +decide [String.splitOnAux])) (by decide +kernel) (by kernel_rfl)
theorem rv_called : TypeCalled "reversed" "reversed.__new__" "object.__init__" := ⟨by decide +kernel, by decide +kernel, ⟨_, _, F.mro_reversed⟩, F.made_reversed, by decide +kernel, F.sub_reversed_self, rv_init⟩
theorem str_no_rev : typeLookup (.type "str") "__reversed__" = pure none := by rw [typeLookup_type, builtinLookup_eq_fast]; kernel_rfl
theorem str_item : typeLookup (.type "str") "__getitem__" = pure (some (.builtin "str.__getitem__")) := by rw [typeLookup_type, builtinLookup_eq_fast]; kernel_rfl
theorem sub_str_dict : isSubtype (.type "str") (.type "dict") = pure false := by rw [isSubtype_type]; kernel_rfl
theorem rv_no_len : typeLookup (.type "reversed") "__len__" = pure none := by rw [typeLookup_type, builtinLookup_eq_fast]; kernel_rfl
theorem rv_split : splitId "reversed.__length_hint__" = some ("reversed", "__length_hint__") := by kernel_rfl
abbrev IsRv (h : Heap) (it : Addr) (v : Value) (i : Int) : Prop := h.get? it = some { cls := .type "reversed", dict := none, data := .fields #[v, rawInt i], slots := #[] }
section
variable {P : Program} {w : World} {A : Around} {E : Value → Shared → Prop} {s : Shared} {x : Str} {t : Tok} {it : Addr}
theorem rv_meets (x : Str) (t : Tok) (hx : (x.length : Int) < 2 ^ 63) :
    Meets (Builtin.«reversed.__new__» ⟨[.type "reversed", .str x t], []⟩) (fun _ R s => ∀ tk, R (.ok (.ret (.ref s.heap.objs.size))) { s with heap := s.heap.push { cls := .type "reversed", data := .fields #[.str x t, rawInt ((x.length : Int) - 1)] }, toks := tk }) :=
  .of_wp fun prog w A R s h => by
    unfold Builtin.«reversed.__new__»
    refine wpAny_bind (wpAny_of_eq (newClass_reversed _) ?_)
    try dsimp only
    refine wpAny_bind (wpAny_of_eq (a := ()) (by first | rfl | kernel_rfl) ?_)
    refine wpAny_bind (wpAny_of_eq (a := ()) (by first | rfl | kernel_rfl) ?_)
    try dsimp only
    refine wpAny_bind (wpAny_specialOf (typeIs_str s x t) str_no_rev ?_)
    try dsimp only
    refine wpAny_bind ?_
    show wpAny _ _ (isInstance (.str x t) (.type "dict") >>= _) _ _ s
    refine wpAny_bind (wpAny_isInstance (typeIs_str s x t) sub_str_dict ?_)
    show wpAny _ _ (specialOf (.str x t) "__getitem__" >>= _) _ _ s
    refine wpAny_bind (wpAny_specialOf (typeIs_str s x t) str_item ?_)
    show wpAny _ _ (if _ = true then pure true else _) _ _ s
    rw [if_pos (by decide +kernel)]
    refine wpAny_pure ?_
    show wpAny _ _ (call (.builtin "len") [.str x t] >>= _) _ _ s
    refine wpAny_bind (len_str (by omega) ?_)
    refine wpAny_bind (wpAny_of_eq (a := some (x.length : Int)) rfl ?_)
    show wpAny _ _ (newObj (.type "reversed") (.fields #[.str x t, rawInt ((x.length : Int) - 1)]) >>= _) _ _ _
    refine wpAny_bind (wpAny_newObj_type ?_ (by size_fits))
    exact wpAny_pure ⟨_, rfl, h _⟩
theorem call_reversed_str {Q : Value → Shared → Prop} (hx : (x.length : Int) < 2 ^ 63) (h : ∀ tk, Q (.ref s.heap.objs.size) { s with heap := s.heap.push { cls := .type "reversed", data := .fields #[.str x t, rawInt ((x.length : Int) - 1)] }, toks := tk }) :
    wpAny (model P w) A (call (.type "reversed") [.str x t]) Q E s :=
  callType_new rv_called (by decide) (F.typeCall_reversed_1 _) (F.newCall_reversed_1 _) (fun obj => F.args_object_init_2 obj _) F.entry_reversed_new (rv_meets x t hx) fun tk => ⟨⟨_, Heap.get?_push_size _ rfl, rfl⟩, h tk⟩
theorem rv_item {i : Nat} {c : Nat} {Q : Option Value → Shared → Prop} (hit : IsRv s.heap it (.str x t) (i : Int)) (hi : i < x.length) (hs : x.length < 2 ^ 60) (hc : x.cps[i]? = some c)
    (hQ : ∀ h' tk tk', IsRv h' it (.str x t) ((i : Int) - 1) → Heap.SameBut it s.heap h' → s.toks ≤ tk → Q (some (.str ⟨#[c]⟩ tk')) { s with heap := h', toks := tk }) : wpAny (model P w) A (pyNext (.ref it)) Q E s := by
  have hT : s.TypeIs (.ref it) "reversed" := ⟨_, hit, rfl⟩
  unfold pyNext
  refine wpAny_bind (wpAny_attempt (wpAny_callSpecial?_slot (name := Str.ofString "__next__") hT rv_next (wpAny_call_entry rv_next hT rv_entry_next ?_ (rv_args_next _))))
  show wpAny _ _ (field (.ref it) 0 >>= _) _ _ s
  refine wpAny_bind (wpAny_field hit rfl (x := .str x t) rfl ?_)
  show wpAny _ _ (field (.ref it) 1 >>= _) _ _ s
  refine wpAny_bind (wpAny_field hit rfl (x := rawInt (i : Int)) rfl ?_)
  show wpAny _ _ (if ((i : Int) < 0) then _ else _) _ _ s
  rw [if_neg (by omega)]
  refine wpAny_bind (wpAny_specialOf (typeIs_str s x t) str_item ?_)
  show wpAny _ _ (mkInt (i : Int) >>= _) _ _ s
  refine wpAny_bind (wpAny_mkInt ?_)
  refine wpAny_bind (wpAny_attempt (getItem_str (by
    rw [Bool.or_eq_false_iff]
    exact ⟨decide_eq_false (by omega), decide_eq_false (by omega)⟩) (c := c) ?_ ?_))
  · have hsi : seqIndex? (i : Int) x.length = some i := by
      unfold seqIndex?
      simp
      omega
    rw [hsi]
    exact hc
  show wpAny _ _ (field (.ref it) 1 >>= _) _ _ _
  refine wpAny_bind (wpAny_field hit rfl (x := rawInt (i : Int)) rfl ?_)
  show wpAny _ _ (setField (.ref it) 1 (rawInt ((i : Int) - 1)) >>= _) _ _ _
  refine wpAny_bind (wpAny_setField_rec (s := { s with toks := s.toks + 1 + 1 }) hit (by simp) fun h2 hit2 sb2 => ?_)
  exact wpAny_pure ⟨_, rfl, wpAny_pure (hQ h2 _ _ (by simpa using hit2) sb2 (by show s.toks ≤ s.toks + 1 + 1; omega))⟩
theorem stop_excA {α : Type} {Q : α → Shared → Prop} {E' : Value → Shared → Prop} (hh : A.handled = none) (h : ∀ h' e, (∀ b o, s.heap.get? b = some o → h'.get? b = some o) → (∃ o, h'.get? e = some o ∧ o.cls = .type "StopIteration") → E' (.ref e) { s with heap := h' }) :
    wpAny (model P w) A (do let e ← newExc (.type "StopIteration") []; raiseNew e : Sem α) Q E' s := by
  refine wpAny_bind ?_
  simp only [newExc, newTuple]
  refine wpAny_bind (wpAny_newObj_type ?_ (by size_fits))
  refine wpAny_bind (m := firstArgMember _ _) (wpAny_of_eq (a := Value.none) (by first | rfl | (simp only [firstArgMember]; rfl)) ?_)
  refine wpAny_newObj_type ?_ (by size_fits)
  simp only [raiseNew]
  refine wpAny_bind (wpAny_bind (wpAny_handled ?_))
  rw [hh]
  refine (wpAny_pure (wpAny_throw ?_))
  exact h _ _ (fun b o e => Heap.get?_push_of_some _ (Heap.get?_push_of_some _ e)) ⟨_, Heap.get?_push_size _ rfl, rfl⟩
theorem rv_end {v : Value} {Q : Option Value → Shared → Prop} (hh : A.handled = none) (hit : IsRv s.heap it v (-1)) (hQ : ∀ h', (∀ b o, b ≠ it → s.heap.get? b = some o → h'.get? b = some o) → Q none { s with heap := h' }) : wpAny (model P w) A (pyNext (.ref it)) Q E s := by
  have hT : s.TypeIs (.ref it) "reversed" := ⟨_, hit, rfl⟩
  unfold pyNext
  refine wpAny_bind (wpAny_attempt (wpAny_callSpecial?_slot (name := Str.ofString "__next__") hT rv_next (wpAny_call_entry rv_next hT rv_entry_next ?_ (rv_args_next _))))
  show wpAny _ _ (field (.ref it) 0 >>= _) _ _ s
  refine wpAny_bind (wpAny_field hit rfl (x := v) rfl ?_)
  show wpAny _ _ (field (.ref it) 1 >>= _) _ _ s
  refine wpAny_bind (wpAny_field hit rfl (x := rawInt (-1)) rfl ?_)
  show wpAny _ _ (if ((-1 : Int) < 0) then _ else _) _ _ s
  rw [if_pos (by omega)]
  refine wpAny_bind (wpAny_rule ?_)
  refine wpAny_bind ?_
  show wpAny _ _ (setField (.ref it) 1 (rawInt (-1)) >>= fun _ => setField (.ref it) 0 .none) _ _ s
  refine wpAny_bind (wpAny_setField_rec hit (by simp) fun h1 hit1 sb1 => ?_)
  refine wpAny_setField_rec (s := { s with heap := h1 }) hit1 (by simp) fun h2 hit2 sb2 => ?_
  refine wpAny_bind ?_
  show wpAny _ _ (newExc (.type "StopIteration") [] >>= fun e => raiseNew e) _ _ _
  refine (stop_excA (s := { s with heap := h2 }) (A := A.in1) hh fun h3 e k3 he => ?_)
  obtain ⟨o, ho, hc⟩ := he
  refine wpAny_bind (wpAny_isInstance (T := "StopIteration") (b := true) ⟨o, ho, hc⟩ isSubtype_stop ?_)
  exact wpAny_pure (hQ h3 fun b o hb q => k3 b o ((sb2.2 b hb).trans ((sb1.2 b hb).trans q)))
theorem rv_self {v : Value} {i : Int} {Q : Value → Shared → Prop} (hit : IsRv s.heap it v i) (h : Q (.ref it) s) : wpAny (model P w) A (pyIter (.ref it)) Q E s := by
  have hT : s.TypeIs (.ref it) "reversed" := ⟨_, hit, rfl⟩
  refine wpAny_pyIter_slot hT rv_iter (wpAny_call_entry rv_iter hT rv_entry_iter ?_ (rv_args_iter _))
  show wpAny _ _ (ret (.ref it)) _ _ s
  exact wpAny_pure ⟨_, rfl, "reversed", _, hT, rv_next.lookup, h⟩
/-- the walk from the last sign to the first -/
theorem walk_rev {n : Nat} (hn : x.length = n) (hs : n < 2 ^ 60) (A : Around) (hA : A.handled = none) :
    WalksS P w A it [it] [it] (fun g g' => g' = g) n (fun k v => ∃ c tk, x.cps[n - 1 - k]? = some c ∧ v = .str ⟨#[c]⟩ tk) (fun k s => IsRv s.heap it (.str x t) ((n : Int) - 1 - (k : Int))) where
  sub := fun b hb => hb
  grefl := fun _ => rfl
  gtrans := fun _ _ _ h1 h2 => h2.trans h1
  frame := fun i s h' tk hst _ k => k it (by simp) _ hst
  item := fun i s Q E hi hst hQ => by
    obtain ⟨j, hj⟩ : ∃ j : Nat, (n : Int) - 1 - (i : Int) = (j : Int) := ⟨n - 1 - i, by omega⟩
    have hj2 : j = n - 1 - i := by omega
    have hst' : IsRv s.heap it (.str x t) (j : Int) := by rw [← hj]; exact hst
    have hlt : j < x.length := by omega
    obtain ⟨c, hc⟩ : ∃ c, x.cps[j]? = some c := ⟨x.cps[j], Array.getElem?_eq_getElem hlt⟩
    refine rv_item hst' hlt (by omega) hc fun h' tk tk' hit sb htk => ?_
    refine hQ _ _ ⟨c, tk', by rw [← hj2]; exact hc, rfl⟩ ?_ ⟨fun b o hb e => (sb.2 b (fun z => hb (by simp [z]))).trans e, rfl, rfl, rfl, htk⟩
    show IsRv h' it (.str x t) ((n : Int) - 1 - ((i + 1 : Nat) : Int))
    rw [show (n : Int) - 1 - ((i + 1 : Nat) : Int) = (j : Int) - 1 by omega]
    exact hit
  done := fun s Q E hst hQ => by
    have hst' : IsRv s.heap it (.str x t) (-1) := by
      have : IsRv s.heap it (.str x t) ((n : Int) - 1 - (n : Int)) := hst
      rw [show (n : Int) - 1 - (n : Int) = -1 by omega] at this
      exact this
    refine rv_end hA hst' fun h' k => hQ _ (moved_turn k)
  self := fun i s Q E hst h => rv_self hst h
theorem hint_rev {Q : Bool → Shared → Prop} (hx : x.length < 2 ^ 20) (hit : IsRv s.heap it (.str x t) ((x.length : Int) - 1)) (h : ∀ (b : Bool) tk, s.toks ≤ tk → Q b { s with toks := tk }) : wpAny (model P w) A (Builtin.List.listLengthHint (.ref it)) Q E s := by
  have hT : s.TypeIs (.ref it) "reversed" := ⟨_, hit, rfl⟩
  unfold Builtin.List.listLengthHint
  refine wpAny_bind (wpAny_specialOf hT rv_no_len ?_)
  show wpAny _ _ (specialOf (.ref it) "__length_hint__" >>= _) _ _ s
  refine wpAny_bind (wpAny_specialOf hT rv_hint.lookup ?_)
  dsimp only
  rw [rv_split]
  dsimp only
  refine wpAny_bind (wpAny_isInstance hT F.sub_reversed_self ?_)
  simp only [Bool.not_true, Bool.false_eq_true, if_false]
  show wpAny _ _ (if _ = true then _ else (rule "list.length-hint.hint" >>= _)) _ _ _
  rw [if_neg (by decide +kernel)]
  refine wpAny_bind (wpAny_rule ?_)
  refine wpAny_bind (wpAny_of_eq (rv_hint.bind (.ref it)) ?_)
  refine wpAny_bind (wpAny_attempt (wpAny_call_entry rv_hint hT rv_entry_hint ?_ (rv_args_hint _)))
  show wpAny _ _ (field (.ref it) 0 >>= _) _ _ s
  refine wpAny_bind (wpAny_field hit rfl (x := .str x t) rfl ?_)
  show wpAny _ _ (if (Value.str x t == Value.none) = true then _ else _) _ _ s
  rw [if_neg (by simp)]
  show wpAny _ _ (call (.builtin "len") [.str x t] >>= _) _ _ s
  refine wpAny_bind (len_str (by omega) ?_)
  refine wpAny_bind (wpAny_of_eq (a := some (x.length : Int)) rfl ?_)
  refine wpAny_bind (wpAny_field hit rfl (x := rawInt ((x.length : Int) - 1)) rfl ?_)
  show wpAny _ _ (if ((x.length : Int) < (x.length : Int) - 1 + 1) then _ else _) _ _ _
  rw [if_neg (by omega)]
  show wpAny _ _ (mkInt ((x.length : Int) - 1 + 1) >>= _) _ _ _
  refine wpAny_bind (wpAny_mkInt (wpAny_pure ⟨_, rfl, ?_⟩))
  refine wpAny_bind (wpAny_of_eq (a := some ((x.length : Int) - 1 + 1)) rfl ?_)
  dsimp only
  have f1 : Builtin.List.listFitsIndex ((x.length : Int) - 1 + 1) = true := by
    unfold Builtin.List.listFitsIndex
    simp
    omega
  have f2 : Builtin.List.listTooLong ((x.length : Int) - 1 + 1).toNat = false := by
    unfold Builtin.List.listTooLong
    have : sizeLine = 16777216 := sizeLine_eq
    simp
    omega
  rw [f1, Bool.not_true, if_neg Bool.false_ne_true, if_neg (by omega), f2, if_neg Bool.false_ne_true]
  exact wpAny_pure (h _ _ (by omega))
theorem collect_rev {Q : List Value → Shared → Prop} (hh : A.handled = none) (hx : x.length < 2 ^ 20) (hit : IsRv s.heap it (.str x t) ((x.length : Int) - 1))
    (h : ∀ (h' : Heap) (tk : Nat) (vs : List Value) (ss : List Str), (∀ b o, b ≠ it → s.heap.get? b = some o → h'.get? b = some o) → StrsAre vs ss → ss = x.cps.toList.reverse.map (fun c => (⟨#[c]⟩ : Str)) → Q vs { s with heap := h', toks := tk }) :
    wpAny (model P w) A (collect (.ref it)) Q E s := by
  have ilt : it < s.heap.objs.size := Heap.lt_size hit
  have hs60 : x.length < 2 ^ 60 := by omega
  unfold collect
  refine (wpAny_bind (wpAny_runValue (codeAny_builtin F.entry_proto_collect ?_)))
  rw [Around.under_plainId F.plain_proto_collect _]
  show wpAny _ A.in1 (newList [] >>= fun l => again (.builtin "list.__iadd__" ⟨[l, .ref it], []⟩)) _ _ s
  refine (wpAny_bind (wpAny_newObj_type ?_))
  refine (wpAny_pure ⟨plainId_quiet F.plain_list_iadd _, codeAny_builtin F.entry_list_iadd ?_⟩)
  rw [Around.under_plainId F.plain_list_iadd _]
  have hit1 : IsRv (s.heap.push { cls := .type "list", data := .seq ([] : List Value).toArray }) it (.str x t) ((x.length : Int) - 1) := Heap.get?_push_of_some _ hit
  have hT1 : Shared.TypeIs { s with heap := s.heap.push { cls := .type "list", data := .seq ([] : List Value).toArray } } (.ref it) "reversed" := ⟨_, hit1, rfl⟩
  show wpAny _ A.in1 (Builtin.List.listExtendWith (.ref s.heap.objs.size) (.ref it) (.ref s.heap.objs.size)) _ _ _
  unfold Builtin.List.listExtendWith
  refine (wpAny_bind (wpAny_typeOf hT1 ?_))
  have e1 : Builtin.List.listSameRef (.ref s.heap.objs.size) (.ref it) = false := by simpa [Builtin.List.listSameRef] using Nat.ne_of_gt ilt
  have e2 : (Value.type "reversed" == Value.type "list") = false := by decide
  have e3 : (Value.type "reversed" == Value.type "tuple") = false := by decide
  simp only [e1, e2, e3, Bool.or_false, Bool.false_eq_true, if_false]
  refine (wpAny_bind (rv_self (s := { s with heap := s.heap.push { cls := .type "list", data := .seq ([] : List Value).toArray } }) hit1 ?_))
  refine wpAny_bind (wpAny_holding (hint_rev (s := { s with heap := s.heap.push { cls := .type "list", data := .seq ([] : List Value).toArray } }) hx hit1 fun b tk htk => ?_))
  have gS : (s.heap.push { cls := .type "list", data := .seq ([] : List Value).toArray }).get? s.heap.objs.size = some { cls := .type "list", data := .seq ([] : List Value).toArray } := Heap.get?_push_size _ rfl
  have nSf : s.heap.objs.size ∉ [it] := fun z => by
    have : s.heap.objs.size = it := by simpa using z
    exact Nat.ne_of_gt ilt this
  have Wk := fun A' hA' => walk_rev (P := P) (w := w) (it := it) (x := x) (t := t) (n := x.length) rfl hs60 A' hA'
  have fin : ∀ (h2 : Heap) (c2 : Nat), h2.get? s.heap.objs.size = some { cls := .type "list", dict := none, data := .seq #[] c2, slots := #[] } → (∀ b o, b ≠ s.heap.objs.size → (s.heap.push { cls := .type "list", data := .seq ([] : List Value).toArray }).get? b = some o → h2.get? b = some o) →
      codeAny (model P w) A (.builtin "list.extend.loop" ⟨[.ref s.heap.objs.size, .ref it, .ref s.heap.objs.size], []⟩) (fun r s' => match r with
        | .ok (.ret v) => wpAny (model P w) A (match v with
          | .ref a => do
            let o ← load a
            match o.data with
            | .seq xs _ => pure xs.toList
            | _ => unsupported "internal:collect"
          | _ => unsupported "internal:collect") Q E s'
        | .ok _ => False
        | .error e => E e s') { s with heap := h2, toks := tk } := fun h2 c2 g2 oth => by
    refine codeAny_extend_loopS (Wk A.in1 hh) (Nat.le_trans (Nat.le_of_lt hx) (by decide)) _ nSf _ x.length 0 _ _ _ rfl (Nat.zero_le _) (oth it _ (Nat.ne_of_lt ilt) (by
      show IsRv (s.heap.push { cls := .type "list", data := .seq ([] : List Value).toArray }) it (.str x t) ((x.length : Int) - 1 - ((0 : Nat) : Int))
      rw [show (x.length : Int) - 1 - ((0 : Nat) : Int) = (x.length : Int) - 1 by omega]
      exact hit1)) g2 (ItemsOf.nil _) fun s' acc' c' mv gS' hacc => ?_
    show wpAny _ A (load s.heap.objs.size >>= _) _ _ s'
    refine wpAny_bind (wpAny_load gS' ?_)
    show wpAny _ _ (pure acc'.toList) _ _ _
    obtain ⟨h3, g3, d3, tk3, os3⟩ := s'
    have eg : g3 = s.gens := mv.gens
    have ed : d3 = s.drawn := mv.drawn
    have eo : os3 = s.os := mv.os
    subst eg ed eo
    refine wpAny_pure (h h3 tk3 acc'.toList (x.cps.toList.reverse.map fun c => (⟨#[c]⟩ : Str)) (fun b o hb e => ?_) ?_ rfl)
    · have lt : b < s.heap.objs.size := Heap.lt_size e
      refine mv.heap b o ?_ (oth b o (Nat.ne_of_lt lt) (Heap.get?_push_of_some _ e))
      intro z
      simp only [List.mem_cons, List.not_mem_nil, or_false] at z
      rcases z with z | z
      · exact Nat.ne_of_lt lt z
      · exact hb z
    · have hall : ∀ v ∈ acc'.toList, ∃ y u, v = Value.str y u := fun v hv => by
        obtain ⟨i, hi, rfl⟩ := List.mem_iff_getElem.mp hv
        obtain ⟨c, tk', _, e⟩ := hacc.2 i _ (by rw [← Array.getElem?_toList]; exact List.getElem?_eq_getElem hi)
        exact ⟨_, _, e⟩
      have hst := strsAre_map acc'.toList hall
      have e : acc'.toList.map strOf = x.cps.toList.reverse.map fun c => (⟨#[c]⟩ : Str) := by
        apply List.ext_getElem?
        intro i
        rw [List.getElem?_map, List.getElem?_map]
        have hl : x.cps.toList.length = x.length := by simp [PySem.Str.length]
        by_cases z : i < x.length
        · have hi : i < acc'.size := by rw [hacc.1]; exact z
          obtain ⟨c, tk', hc, ev⟩ := hacc.2 i _ (Array.getElem?_eq_getElem hi)
          rw [Array.getElem?_toList, Array.getElem?_eq_getElem hi, ev, List.getElem?_reverse (by rw [hl]; exact z), hl]
          rw [← Array.getElem?_toList] at hc
          rw [hc]
          rfl
        · have z1 : acc'.toList[i]? = none := by rw [List.getElem?_eq_none_iff, Array.length_toList, hacc.1]; omega
          have z2 : x.cps.toList.reverse[i]? = none := by rw [List.getElem?_eq_none_iff, List.length_reverse, hl]; omega
          rw [z1, z2]; rfl
      rw [e] at hst
      exact hst
  show wpAny _ A.in1 (if (b || _) = true then (rule "list.extend.makes-room" >>= fun _ => Builtin.List.listTouch (.ref s.heap.objs.size) >>= fun _ => again (.builtin "list.extend.loop" ⟨[.ref s.heap.objs.size, .ref it, .ref s.heap.objs.size], []⟩)) else again (.builtin "list.extend.loop" ⟨[.ref s.heap.objs.size, .ref it, .ref s.heap.objs.size], []⟩)) _ _ _
  split
  · refine (wpAny_bind (wpAny_rule ?_))
    refine wpAny_bind ?_
    show wpAny _ A.in1 (updateSeq s.heap.objs.size (·.push .none) >>= fun _ => updateSeq s.heap.objs.size (·.pop)) _ _ _
    refine (wpAny_bind (wpAny_updateSeq gS rfl ?_))
    have gS2 := Heap.get?_update_self (Obj.mapSeq (·.push Value.none)) gS rfl
    refine (wpAny_updateSeq gS2 rfl ?_)
    have gS3 := Heap.get?_update_self (Obj.mapSeq (·.pop)) gS2 rfl
    refine (wpAny_pure ⟨plainId_quiet F.plain_extend_loop _, fin _ _ gS3 fun b o hb e => ?_⟩)
    exact (Heap.get?_update_other _ _ (Ne.symm hb)).trans ((Heap.get?_update_other _ _ (Ne.symm hb)).trans e)
  · exact (wpAny_pure ⟨plainId_quiet F.plain_extend_loop _, fin _ _ gS fun b o _ e => e⟩)
end
end L2
set_option Elab.async false
set_option linter.all false
set_option maxRecDepth 100000
set_option maxHeartbeats 4000000
/-! "".join(reversed(text)) -/
namespace L2
open PySem PySem.Spec PyProof.Rows Tw
theorem flat_one (l : List Nat) : (l.map fun c => [c]).flatten = l := by
  induction l with
  | nil => rfl
  | cons c l ih => rw [List.map_cons, List.flatten_cons, ih]; rfl
theorem strs_values {vs : List Value} {ss : List Str} (h : StrsAre vs ss) : ∃ l : List (Str × Tok), strValues l = vs ∧ l.map (·.1) = ss := by
  induction h with
  | nil => exact ⟨[], rfl, rfl⟩
  | cons y t _ ih =>
    obtain ⟨l, h1, h2⟩ := ih
    exact ⟨(y, t) :: l, by rw [← h1]; rfl, by rw [← h2]; rfl⟩
theorem join_rev {P : Program} {w : World} {A : Around} {E : Value → Shared → Prop} {s : Shared} {l : List Nat} {t t0 : Tok} {it : Addr} {Q : Value → Shared → Prop} (hh : A.handled = none) (hx : l.length < 2 ^ 20) (hit : IsRv s.heap it (.str (tx l) t) ((l.length : Int) - 1))
    (h : ∀ (h' : Heap) (tk : Nat) (t' : Tok), (∀ b o, b ≠ it → s.heap.get? b = some o → h'.get? b = some o) → Q (.str (tx l.reverse) t') { s with heap := h', toks := tk }) :
    wpAny (model P w) A (call (.builtin "str.join") [.str (tx []) t0, .ref it]) Q E s := by
  have hT : s.TypeIs (.ref it) "reversed" := ⟨_, hit, rfl⟩
  have hit' : IsRv s.heap it (.str (tx l) t) (((tx l).length : Int) - 1) := by rw [tx_length]; exact hit
  refine (wpAny_call (codeAny_call_builtin F.slot_str_join.plain F.entry_str_join (F.slot_str_join.check _ _ _ _ _ _ _ _ (typeIs_str _ _ _) (F.args_str_join_2 _ _) ?_)))
  rw [join_tree_other]
  refine (wpAny_bind (wpAny_typeOf hT ?_))
  show wpAny _ A.in1 ((pyIter (.ref it)).tryCatch _ >>= fun it => collect it >>= fun items => joinTail (tx []) items) _ _ s
  refine (wpAny_bind (wpAny_tryCatch (rv_self hit ?_)))
  refine (wpAny_bind (collect_rev (A := A.in1) hh (by rw [tx_length]; exact hx) hit' fun h' tk vs ss keep hss ess => ?_))
  obtain ⟨vl, e1, e2⟩ := strs_values hss
  rw [← e1]
  have e3 : ss = (l.reverse.map fun c => [c]).map tx := by
    rw [ess, tx_cps, List.map_map]
    rfl
  have hfit : Builtin.Str.tooLong ((vl.map (·.1)).toArray.foldl (· + ·.length + (tx []).length) 0) = false := by
    rw [StrLaws.joinTotal, e2, e3, sum_tx, flat_one, List.length_reverse, tx_length, List.length_nil, Nat.mul_zero, Nat.add_zero]
    unfold Builtin.Str.tooLong
    have : sizeLine = 16777216 := sizeLine_eq
    exact decide_eq_false (by omega)
  have g : Gives (joinTail (tx []) (strValues vl)) (joinMade (tx []) vl) := by
    have g0 := gives_joinTail (tx []) vl hfit
    cases vl with
    | nil => exact g0
    | cons p r => cases r with
      | nil => exact g0
      | cons q r' => exact g0
  refine g P w A (wants Q E) { s with heap := h', toks := tk } (post_join vl ⟨joinFit_length hfit, fun t' k => ?_⟩)
  have e4 : Txt.join (tx []) (vl.map (·.1)) = tx l.reverse := by
    rw [e2, e3]
    have z := join_plain_closes (tx []) ((l.reverse.map fun c => [c]).map tx)
    rw [← flat_one l.reverse, ← join_is, flat_one]
    exact eq_of_beq z
  rw [e4]
  exact h h' k t' keep
section
variable {X : Cx}
def RvO (it : Addr) (l : List Nat) : HO := HO.ext fun h => ∃ t, IsRv h it (.str (tx l) t) ((l.length : Int) - 1)
def rRevT (n0 : Nat) : List V → Hp → VK → Prop := fun xs H Q => ∃ l : List Nat, xs = [.str (tx l)] ∧ l.length < 2 ^ 20 ∧ ∀ it, H it = none → n0 ≤ it → Q (.ref it) (upd H it (RvO it l))
theorem call_revT : CallR X (.type "reversed") (rRevT X.s₀.heap.objs.size) := by
  intro pins s σ H xs us Q I r h
  obtain ⟨l, rfl, hl, q⟩ := h
  obtain ⟨u, rfl, ru⟩ := vals1 r
  obtain ⟨t, rfl⟩ := ru
  refine call_reversed_str (by rw [tx_length]; omega) fun tk => ?_
  have g : IsRv (s.heap.push { cls := .type "reversed", data := .fields #[.str (tx l) t, rawInt (((tx l).length : Int) - 1)] }) s.heap.objs.size (.str (tx l) t) ((l.length : Int) - 1) := by
    have := Heap.get?_push_size s.heap (o := { cls := .type "reversed", data := .fields #[.str (tx l) t, rawInt (((tx l).length : Int) - 1)] }) rfl
    rw [tx_length] at this ⊢
    exact this
  exact ⟨.ref s.heap.objs.size, _, I.laid (o := RvO s.heap.objs.size l) (t' := tk) (fun b u e => Heap.get?_push_of_some _ e) (Nat.le_refl _) ⟨⟨t, g⟩, ⟨_, g⟩, fun h1 h2 ⟨t', g1⟩ kk => ⟨t', kk _ g1⟩⟩, rfl, q _ I.fresh I.sz⟩
def rJoinRev (n0 : Nat) : V → List V → Hp → VK → Prop := fun x vs H Q => ∃ (it : Addr) (l : List Nat) (H0 : Hp), x = .str (tx []) ∧ vs = [.ref it] ∧ H = upd H0 it (RvO it l) ∧ H0 it = none ∧ n0 ≤ it ∧ l.length < 2 ^ 20 ∧ Q (.str (tx l.reverse)) H0
theorem mt_joinRev (hc : X.calm = true) : MtM X "str.join" (rJoinRev X.s₀.heap.objs.size) := by
  intro pins s σ H x vs v us Q I rx rv h
  obtain ⟨it, l, H0, rfl, rfl, rfl, h0, hn, hl, q⟩ := h
  obtain ⟨t, rfl⟩ := rx
  obtain ⟨u, rfl, ru⟩ := rv.one
  cases ru
  obtain ⟨⟨t1, g1⟩, _⟩ := I.hok it _ upd_same
  refine join_rev (I.ok.hd hc) hl g1 fun h' tk t' keep => ⟨.str (tx l.reverse), H0, ?_, ⟨t', rfl⟩, q⟩
  have sm : (upd H0 it (RvO it l)) it = some (RvO it l) := upd_same
  have ne : ∀ b, (upd H0 it (RvO it l)) b = none → b ≠ it := fun b e z => by rw [z, sm] at e; cases e
  have down : ∀ b, b ≠ it → (upd H0 it (RvO it l)) b = H0 b := fun b z => upd_ne z
  have nL := ne _ I.free
  refine I.step (g' := s.gens) (d' := s.drawn) (ch := [it]) (fun b hb => ?_) (fun b o _ _ hc e _ => keep b o (fun z => hc (by simp [z])) e) (fun b o _ _ hc e _ => ⟨o.slots, keep b o (fun z => hc (by simp [z])) e⟩) (fun b o hc _ n => by rw [← down b (fun z => hc (by simp [z]))]; exact n)
    (fun b o hc e => ⟨o, keep b o (fun z => hc (by simp [z])) e⟩) (fun b xs e => ?_) (fun b o u e => ?_) (fun b ps e => ?_) (fun m hm => ?_) (fun b u e => ?_) I.bare
  · have e : b = it := by simpa using hb
    subst e
    exact ⟨.inr hn, fun z => nL z.symm, fun x c e => ne c (I.freeC x c e), fun p hp => ne _ (I.pin p hp).2.1⟩
  · by_cases z : b = it
    · rw [z, sm] at e; cases e
    · rw [down b z] at e; exact e
  · by_cases z : b = it
    · rw [z, sm] at e; cases e
    · rw [down b z] at e; exact e
  · by_cases z : b = it
    · rw [z, sm] at e; cases e
    · rw [down b z] at e; exact ⟨#[], by rw [e]; simp⟩
  · obtain ⟨o, es, ep, ho, r⟩ := hm
    exact ⟨o, es, ep, keep _ o nL ho, r⟩
  · have nb : b ≠ it := fun z => by rw [z, h0] at e; cases e
    refine (I.hok b u ((down b nb).trans e)).stay (fun c v hc q => keep c v ?_ q) (fun c q => ?_) fun c xs q => ?_
    · rcases hc with z | z
      · rw [z]; exact nb
      · intro y; rw [y, sm] at z; cases z
    · have nc : c ≠ it := fun z => by rw [z, sm] at q; cases q
      rw [down c nc] at q; exact q
    · have nc : c ≠ it := fun z => by rw [z, sm] at q; cases q
      rw [down c nc] at q; exact q
end
end L2
set_option Elab.async false
set_option linter.all false
set_option maxRecDepth 100000
set_option maxHeartbeats 4000000
namespace My
/-! ### promises of the defs, and what their readings want -/
open PySem L2 Tw
def spMarksTo : Sp := fun vs H Q _ => ∃ p : Nat, vs = [.int (p : Int)] ∧ p ≤ 2000 ∧ ∀ (r : Addr) (H' : Hp), Same H H' → H' r = some (.lst ((ms (max 2 (p + 1))).map V.int)) → Q (.ref r) H'
def spMarkAt : Sp := fun vs H Q _ => ∃ p : Nat, vs = [.int (p : Int)] ∧ p ≤ 2000 ∧ ∀ H' : Hp, Same H H' → Q (.int (mk p)) H'
def spCell (K : PySem.W.Frag) : Sp := fun vs H Q _ => ∃ (a : Addr) (ns : List Int) (k : Int), vs = [.ref a, .int k] ∧ SqL K H a (ns.map V.int) ∧ 0 ≤ k ∧ ∀ v : Int, Q (.int v) H
def spWhole : Sp := fun vs H Q _ => ∃ i : Int, vs = [.int i] ∧ Q (.bl true) H
def spLMarks : Sp := fun vs H Q _ => ∃ p : Nat, vs = [.int (p : Int)] ∧ p ≤ 2000 ∧ ∀ (r : Addr) (H' : Hp), Same H H' → H' r = some (.lst ((ms p).map V.int)) → Q (.ref r) H'
def spLaw (K : PySem.W.Frag) : Sp := fun vs H Q _ => ∃ (a : Addr) (ns : List Int), vs = [.ref a] ∧ SqL K H a (ns.map V.int) ∧ ns.length ≤ 63 ∧ ∀ H', Q (.bl true) H'
theorem at_neg {xs : List V} {j : Nat} {v : V} {i : Int} (h : xs[j]? = some v) (e : i + xs.length = j) (hi : i < 0) : atI xs i = some v := by
  have hj : j < xs.length := (List.getElem?_eq_some_iff.mp h).1
  unfold atI ixN
  rw [if_neg (by omega), if_pos (by omega), show (i + (xs.length : Int)).toNat = j by omega]
  exact h
theorem at_m1 (j : Nat) : atI ((ms (j + 2)).map V.int) (-1) = some (.int (mk (j + 1))) :=
  at_neg (j := j + 1) (by rw [List.getElem?_map, ms_get (by omega)]; rfl) (by rw [List.length_map, ms_length]; omega) (by omega)
theorem at_m2 (j : Nat) : atI ((ms (j + 2)).map V.int) (-2) = some (.int (mk j)) :=
  at_neg (j := j) (by rw [List.getElem?_map, ms_get (by omega)]; rfl) (by rw [List.length_map, ms_length]; omega) (by omega)
theorem at_ints {ns : List Int} {k : Int} (h0 : 0 ≤ k) (h : k < (ns.length : Int)) : ∃ v : Int, atI (ns.map V.int) k = some (.int v) := by
  have hk : k.toNat < ns.length := by omega
  have ek : k = ((k.toNat : Nat) : Int) := by omega
  have q : atI (ns.map V.int) ((k.toNat : Nat) : Int) = some (.int ns[k.toNat]) := atI_nat (by rw [List.getElem?_map, List.getElem?_eq_getElem hk]; rfl)
  rw [← ek] at q
  exact ⟨_, q⟩
theorem cut_to {xs : List V} {p : Nat} : cutV xs none (some (p : Int)) = xs.take p := by
  unfold cutV
  rw [HT.sIx_none, HT.sIx_nat, List.drop_zero, Nat.sub_zero]
  rcases Nat.le_total p xs.length with h | h
  · rw [Nat.min_eq_left h]
  · rw [Nat.min_eq_right h, List.take_of_length_le (Nat.le_refl _), List.take_of_length_le h]
theorem cut_ms {p n : Nat} (h : p ≤ n) : cutV ((ms n).map V.int) none (some (p : Int)) = (ms p).map V.int := by
  rw [cut_to, ← List.map_take, ms_take h]
theorem kit_int_int {K : PySem.W.Frag} : PySem.W.kitOne K (.type "int") (.type "int") = some true := by rfl
theorem kit_int_bool {K : PySem.W.Frag} : PySem.W.kitOne K (.type "int") (.type "bool") = some false := by
  unfold PySem.W.kitOne
  with_unfolding_all rfl
def spWorth (K : PySem.W.Frag) : Sp := fun vs H Q _ => ∃ (a : Addr) (R : List Nat), vs = [.ref a] ∧ SqL K H a ((rz R).map V.int) ∧ (∀ x ∈ R, x ≤ 1900) ∧ R.length ≤ 5000 ∧ ∀ H' : Hp, Same H H' → Q (.int (wth R)) H'
def spWorthOf (K : PySem.W.Frag) : Sp := fun vs H Q _ => ∃ (a : Addr) (R : List Nat), vs = [.ref a] ∧ SqL K H a ((rz R).map V.int) ∧ Asc R ∧ (∀ x ∈ R, x ≤ 1900) ∧ R.length ≤ 5000 ∧ ∀ H' : Hp, Same H H' → Q (.int (wth R)) H'
def spRow : Sp := fun vs H Q _ => ∃ n : Int, vs = [.int n] ∧ 0 ≤ n ∧ n < mk 1000 ∧ ∀ (r : Addr) (H' : Hp), Same H H' → H r = none → H' r = some (.lst ((rz (zk n)).map V.int)) → Q (.ref r) H'
theorem row_get {R : List Nat} {i : Nat} {v : V} (h : ((rz R).map V.int)[i]? = some v) : ∃ k : Nat, R[i]? = some k ∧ v = .int (k : Int) := by
  unfold rz at h
  rw [List.getElem?_map, List.getElem?_map] at h
  cases e : R[i]? with
  | none => rw [e] at h; cases h
  | some k =>
    rw [e] at h
    exact ⟨k, rfl, (Option.some.inj h).symm⟩
theorem row_put {R : List Nat} {i k : Nat} (h : R[i]? = some k) : ((rz R).map V.int)[i]? = some (.int (k : Int)) := by
  unfold rz
  rw [List.getElem?_map, List.getElem?_map, h]
  rfl
theorem row_len (R : List Nat) : ((rz R).map V.int).length = R.length := by rw [List.length_map, rz_length]
theorem ms_at {n k : Nat} (h : k < n) : atI ((ms n).map V.int) ((k : Nat) : Int) = some (.int (mk k)) := atI_nat (by rw [List.getElem?_map, ms_get h]; rfl)
theorem marks_res (R : List Nat) : resC ((rz R).map V.int).length (fun _ => true) (fun i => V.int (mk (R.getD i 0))) = (R.map mk).map V.int := by
  rw [resC_all, row_len, List.map_map]
  refine range_map_get R _ _ fun i x h => ?_
  rw [List.getD_eq_getElem?_getD, h]
  rfl
theorem len_ok {n : Nat} (h : n ≤ 100000) : n ≤ sizeLine := Nat.le_of_lt (small h)
def spMoved (K : PySem.W.Frag) : Sp := fun vs H Q _ => ∃ (a : Addr) (ns : List Int) (z : Int), vs = [.ref a, .int z] ∧ SqL K H a (ns.map V.int) ∧ ns.length ≤ 5000 ∧ ∀ (r : Addr) (H' : Hp), Same H H' → H' r = some (.lst ((ns.map (· + z)).map V.int)) → Q (.ref r) H'
def spLow : Sp := fun vs H Q _ => ∃ c : Int, vs = [.int c] ∧ 1 ≤ c ∧ c - 1 < mk 900 ∧ ∀ H' : Hp, Same H H' → Q (.int (lowN c)) H'
def spHigh : Sp := fun vs H Q _ => ∃ c : Int, vs = [.int c] ∧ 1 ≤ c ∧ c - 1 < mk 900 ∧ ∀ H' : Hp, Same H H' → Q (.int (highN c)) H'
def kw_ (n : Int) : Str := if hd (zk n) % 2 = 0 then "low" else "high"
def spKind : Sp := fun vs H Q _ => ∃ n : Int, vs = [.int n] ∧ 1 ≤ n ∧ n < mk 900 ∧ ∀ (t : Addr) (H' : Hp), Same H H' → H' t = some (.tup [.str (kw_ n), .int (cnt n)]) → Q (.ref t) H'
def spNumber (K : PySem.W.Frag) : Sp := fun vs H Q _ => ∃ (a : Addr) (ns : List Int) (k b : Int), vs = [.ref a, .int k, .int b] ∧ SqL K H a (ns.map V.int) ∧ 0 ≤ k ∧ 40 ≤ b ∧ ∀ (v : Int) (H' : Hp), Same H H' → 0 ≤ v → v < b → Q (.int v) H'
theorem moved_res (ns : List Int) (z : Int) : resC (ns.map V.int).length (fun _ => true) (fun i => V.int (ns.getD i 0 + z)) = (ns.map (· + z)).map V.int := by
  rw [resC_all, List.length_map, List.map_map]
  refine range_map_get ns _ _ fun i x h => ?_
  rw [List.getD_eq_getElem?_getD, h]
  rfl
theorem int_get {ns : List Int} {i : Nat} {v : V} (h : (ns.map V.int)[i]? = some v) : ∃ k : Int, ns[i]? = some k ∧ v = .int k := by
  rw [List.getElem?_map] at h
  cases e : ns[i]? with
  | none => rw [e] at h; cases h
  | some k =>
    rw [e] at h
    exact ⟨k, rfl, (Option.some.inj h).symm⟩
theorem zk_b {r : Int} {n : Nat} (h0 : 0 ≤ r) (h : r < mk n) (hn : n ≤ 1001) : (∀ x ∈ zk r, x ≤ 1000) ∧ (zk r).length ≤ 1001 := ⟨fun x hx => by have := zk_lt h0 h x hx; omega, Nat.le_trans (zk_len h0 h) hn⟩
theorem up_b {R : List Nat} {s m : Nat} (h : ∀ x ∈ R, x ≤ m) : ∀ x ∈ up s R, x ≤ m + s := fun x hx => by
  obtain ⟨y, hy, rfl⟩ := List.mem_map.mp hx
  have := h y hy
  omega
theorem dn_b {R : List Nat} {s m : Nat} (h : ∀ x ∈ R, x ≤ m) : ∀ x ∈ dn s R, x ≤ m := fun x hx => by
  obtain ⟨y, hy, rfl⟩ := List.mem_map.mp hx
  have := h y hy
  omega
theorem up_len (s : Nat) (R : List Nat) : (up s R).length = R.length := List.length_map _
theorem dn_len (s : Nat) (R : List Nat) : (dn s R).length = R.length := List.length_map _
theorem mk_le9 {c : Int} (h : c < mk 900) : c < mk 1000 := Int.lt_of_lt_of_le h (mk_mono (by decide))
theorem row_hd {R : List Nat} (h : R ≠ []) : atI ((rz R).map V.int) 0 = some (.int ((hd R : Nat) : Int)) := by
  cases R with
  | nil => exact absurd rfl h
  | cons x R => exact atI_nat (j := 0) rfl
theorem cut_from1 (xs : List V) : cutV xs (some 1) none = xs.tail := by
  have e : HT.sIx xs.length 0 (some ((1 : Nat) : Int)) = min 1 xs.length := HT.sIx_nat _ _ _
  have e' : HT.sIx xs.length 0 (some (1 : Int)) = min 1 xs.length := e
  unfold cutV
  rw [e', HT.sIx_none]
  cases xs with
  | nil => rfl
  | cons x xs =>
    have : min 1 (x :: xs).length = 1 := by simp
    rw [this]
    simp
/-! ### stage 2: promises said by what they mean -/
def spSignAt : Sp := fun vs H Q _ => ∃ k : Int, vs = [.int k] ∧ 0 ≤ k ∧ k < mk 900 ∧ ∀ H' : Hp, Same H H' → Q (.str (tx [sg k])) H'
def spPieceAt : Sp := fun vs H Q _ => ∃ (k : Int) (n : Nat), vs = [.int k, .int (n : Int)] ∧ 0 ≤ k ∧ k < mk 800 ∧ n ≤ 1000 ∧ ∀ H' : Hp, Same H H' → Q (.str (tx (pc k n))) H'
def spCounts : Sp := fun vs H Q _ => ∃ n : Int, vs = [.int n] ∧ 0 ≤ n ∧ n < mk 900 ∧ ∀ (t : Addr) (H' : Hp), Same H H' → H' t = some (.tup [.int (sh n - n), .int (2 * n - sh n)]) → Q (.ref t) H'
def spGrown : Sp := fun vs H Q _ => ∃ l : List Nat, vs = [.str (tx l)] ∧ (∀ c ∈ l, c = 97 ∨ c = 98) ∧ l.length ≤ 1000 ∧ ∀ H' : Hp, Same H H' → Q (.str (tx (grow l))) H'
theorem lit_a : ("a" : Str) = tx [97] := by decide +kernel
theorem lit_b : ("b" : Str) = tx [98] := by decide +kernel
theorem lit_ab : ("ab" : Str) = tx [97, 98] := by decide +kernel
theorem lit_ : ("" : Str) = tx [] := by decide +kernel
theorem kit_str {K : PySem.W.Frag} : PySem.W.kitOne K (.type "str") (.type "str") = some true := by rfl
theorem op_in_seqK {X : Cx} {K : PySem.W.Frag} (h : X.K = K := by rfl) : OpR X (compareOp .In) (rIn K false) := by
  subst h
  exact op_in_seq
theorem flat_ints (ns : List Int) : (ns.map V.int).all flatV = true := by
  rw [List.all_map, List.all_eq_true]
  exact fun _ _ => rfl
theorem in_row (R : List Nat) (k : Nat) : inV (.int (k : Int)) ((rz R).map V.int) = decide (k ∈ R) := by
  unfold inV rz
  rw [List.map_map, List.any_map]
  by_cases h : k ∈ R
  · rw [decide_eq_true h, List.any_eq_true]
    exact ⟨k, h, by simp [eqV]⟩
  · rw [decide_eq_false h, List.any_eq_false]
    intro x hx
    have : ¬ (x : Int) = (k : Int) := fun z => h (by have : x = k := by omega
                                                     exact this ▸ hx)
    simp [eqV, this]
theorem in_zero (R : List Nat) : inV (.int 0) ((rz R).map V.int) = decide (0 ∈ R) := in_row R 0
theorem big61 : (10 : Int) ^ 61 < mk 800 := by
  have h := big100
  have h2 : mk 501 ≤ mk 800 := mk_mono (by decide)
  have c : (10 : Int) ^ 61 < 10 ^ 100 := by decide +kernel
  omega
theorem mk89 : mk 800 ≤ mk 900 := mk_mono (by decide)
theorem mk810 : mk 800 ≤ mk 1000 := mk_mono (by decide)
theorem mk910 : mk 900 ≤ mk 1000 := mk_mono (by decide)
theorem pc_res (k : Int) (n : Nat) : resC n (fun _ => true) (fun i => V.str (tx [sg (k + i)])) = ((pc k n).map fun c => [c]).map fun l => V.str (tx l) := by
  unfold pc
  rw [resC_all, List.map_map, List.map_map]
  rfl
theorem flat_single (l : List Nat) : (l.map fun c => [c]).flatten = l := by
  induction l with
  | nil => rfl
  | cons c l ih => rw [List.map_cons, List.flatten_cons, ih]; rfl
/-! ### the text by places -/
def top (i : Nat) : Stmt := PySem.Challenge.pw_twinless_k21_whole_forks.main.body.getD i (.Pass ⟨0, 0, 0, 0⟩)
abbrev s_row_of : Stmt := top 1
abbrev s_sign_at : Stmt := top 3
abbrev s_piece_at : Stmt := top 4
abbrev s_grown : Stmt := top 6
abbrev s_pieces_in : Stmt := top 7
abbrev s_beginning_with_all : Stmt := top 8
abbrev s_pieces_of : Stmt := top 9
abbrev s_fork_of : Stmt := top 10
abbrev s_law_cell : Stmt := top 12
abbrev s_law_backward : Stmt := top 13
abbrev s_law : Stmt := top 14
section
variable {P : Program} {w : World} {K : PySem.W.Frag} {mg : Str → Option Value} {base : Heap}

/-! row_of -/
theorem sc_row_of : FnScope ["number", "marks", "row", "rest", "place"] ["number"] (defScope s_row_of) := ⟨rfl, rfl, rfl, by decide +kernel, rfl, by decide +kernel, by decide +kernel⟩
theorem cal_row_of {n : Nat} {f : Addr} {fd : FuncData} (T : Blt mg) (F : Fun K "row_of" "row_of" s_row_of f fd) (b : Binds K fd ["number"] []) (m : mg "row_of" = some (.ref f)) : Cal P w K mg base (n + 1) "row_of" ["number"] spRow := by
  refine ⟨f, fd, F.ok sc_row_of (fun vs H Q E h => ?_) (fun cdv A outer s H vs Q E hr h => ?_), b, F.kp, m⟩
  · obtain ⟨a, rfl, _⟩ := h
    rfl
  obtain ⟨N, rfl, h0, hN, q⟩ := h
  refine ⟨_, pss_cons (ps_set (i := 1) sc_row_of.nd rfl (Or.inl rfl) (pe_lst (pa_cons pe_int (pa_cons pe_int pa_nil))))
    (pss_cons (ps_while PassesOwn.never (pt_cmpR op_le (pe_ix ix_list (pv 1) (pe_un un_neg pe_int) (fun _ _ => rfl)) (pv 0) (nomark _))
      (pss_one (ps_expr (pe_bm PySem.F.plainAttrs_list PySem.F.slot_list_append PySem.F.type_list_append mt_append (pv 1) (pa_cons (pe_op op_add (pe_ix ix_list (pv 1) (pe_un un_neg pe_int) (fun _ _ => rfl)) (pe_ix ix_list (pv 1) (pe_un un_neg pe_int) (fun _ _ => rfl))) pa_nil)))))
    (pss_cons (ps_set (i := 2) sc_row_of.nd rfl (Or.inl rfl) (pe_lst pa_nil))
    (pss_cons (ps_set (i := 3) sc_row_of.nd rfl (Or.inl rfl) (pv 0))
    (pss_cons (ps_for PassesOwn.never rfl (pi_rangeD rfl T.range (pa_cons (pe_op op_sub (pe_callB call_len_seq rfl T.len PySem.boot_len (pa_cons (pv 1) pa_nil)) pe_int) (pa_cons (pe_un un_neg pe_int) (pa_cons (pe_un un_neg pe_int) pa_nil)))) (pg_name (i := 4) sc_row_of.nd rfl (Or.inl rfl))
      (pss_one (ps_if (pt_cmpR op_le (pe_ix ix_list (pv 1) (pv 4) (fun _ _ => rfl)) (pv 3) (nomark _))
        (pss_cons (ps_expr (pe_bm PySem.F.plainAttrs_list PySem.F.slot_list_append PySem.F.type_list_append mt_append (pv 2) (pa_cons (pv 4) pa_nil)))
        (pss_one (ps_set (i := 3) sc_row_of.nd rfl (Or.inl rfl) (pe_op op_sub (pv 3) (pe_ix ix_list (pv 1) (pv 4) (fun _ _ => rfl)))))) pss_nil)))
    (pss_cons (ps_expr (pe_bm0 PySem.F.plainAttrs_list PySem.F.slot_list_reverse PySem.F.type_list_reverse mt_reverse (pv 2)))
    (pss_one (ps_ret (pv 2)))))))), ?_⟩
  refine ⟨(by show 2 ≤ sizeLine; decide), fun r hr' => ?_⟩
  refine ⟨fun k σ H' => ∃ n, k = 1002 - n ∧ σ = [some (.int N), some (.ref r), none, none, none] ∧ 2 ≤ n ∧ n ≤ 1001 ∧ Same H H' ∧ H' r = some (.lst ((ms n).map V.int)), ⟨1000, 2, by omega, rfl, Nat.le_refl _, by omega, same_new hr' _, upd_same⟩, ?_⟩
  rintro k σ H' ⟨n, rfl, rfl, h2, hn, hs, hl⟩
  obtain ⟨j, rfl⟩ : ∃ j, n = j + 2 := ⟨n - 2, by omega⟩
  have hlen : ((ms (j + 2)).map V.int).length = j + 2 := by rw [List.length_map, ms_length]
  refine ⟨_, rfl, _, rfl, r, _, _, _, rfl, rfl, SqL.of hl, at_m1 j, _, rfl, _, _, rfl, rfl, _, rfl, ?_⟩
  refine ite2 (fun c => ?_) (fun c => ?_)
  · have c' : mk (j + 1) ≤ N := of_decide_eq_true c
    have hj : j + 2 ≤ 1000 := by
      rcases Nat.lt_or_ge (j + 1) 1000 with z | z
      · omega
      · have := mk_mono z
        omega
    refine ⟨fun σ' H' => ∃ k', k' < 1002 - (j + 2) ∧ _, fun _ _ z => z, ?_⟩
    refine ⟨_, rfl, .inl ⟨rfl, _, SqL.of hl⟩, _, rfl, _, rfl, r, _, _, _, rfl, rfl, SqL.of hl, at_m1 j, _, rfl, _, rfl, r, _, _, _, rfl, rfl, SqL.of hl, at_m2 j, _, _, rfl, rfl, r, _, _, rfl, rfl, hl, (by rw [hlen]; exact small (by omega)), ?_⟩
    refine ⟨1002 - (j + 2 + 1), by omega, j + 2 + 1, rfl, rfl, by omega, by omega, same_upd hs hr' _, ?_⟩
    rw [upd_same, ← ms_more, List.map_append]
    rfl
  · have c' : ¬ mk (j + 1) ≤ N := of_decide_eq_false (Bool.eq_false_iff.mpr c)
    refine ⟨(by show 0 ≤ sizeLine; decide), fun d hd => ?_⟩
    have hrd : r ≠ d := ne_of_none hl hd
    have hdH : H d = none := hs.free hd
    refine ⟨_, rfl, ?_⟩
    refine ⟨_, rfl, r, _, rfl, .inl (SqL.of (by rw [upd_ne hrd]; exact hl)), _, _, rfl, rfl, _, rfl, _, rfl, ((((ms (j + 2)).map V.int).length : Nat) : Int) - 1, -1, rfl, ⟨by rw [hlen]; omega, by rw [hlen]; omega, by omega, by omega⟩, ?_⟩
    have hcount : (((((ms (j + 2)).map V.int).length : Nat) : Int) - 1 - -1).toNat = j + 2 := by rw [hlen]; omega
    rw [hcount]
    refine for_down (fun i σ2 H2 => ∃ (acc : List Nat) (R : Int) (pl : Option V), σ2 = [some (.int N), some (.ref r), some (.ref d), some (.int R), pl] ∧ i ≤ j + 2 ∧ Same H H2 ∧ H2 r = some (.lst ((ms (j + 2)).map V.int)) ∧ H2 d = some (.lst ((rz acc).map V.int)) ∧ acc.length ≤ i ∧ gr (j + 2) N = gr (j + 2 - i) R ++ acc.reverse)
      ⟨[], N, none, rfl, Nat.zero_le _, hs.trans (same_new hd _), by rw [upd_ne hrd]; exact hl, upd_same, Nat.le_refl _, by simp⟩ ?_ ?_
    · rintro i σ2 H2 hi ⟨acc, R, pl, rfl, _, hs2, hl2, hd2, hla, hg⟩
      obtain ⟨t, ht⟩ : ∃ t, j + 2 = i + (t + 1) := ⟨j + 1 - i, by omega⟩
      have hpl : ((((ms (j + 2)).map V.int).length : Nat) : Int) - 1 - (i : Int) = ((t : Nat) : Int) := by rw [hlen]; omega
      rw [show j + 2 - i = t + 1 by omega] at hg
      show gName 4 (.int (((((ms (j + 2)).map V.int).length : Nat) : Int) - 1 - (i : Int))) _ _ _
      rw [hpl]
      refine ⟨_, rfl, _, rfl, r, _, _, _, rfl, rfl, SqL.of hl2, ms_at (k := t) (by omega), _, rfl, _, _, rfl, rfl, _, rfl, ?_⟩
      refine ite2 (fun c2 => ?_) (fun c2 => ?_)
      · have c2' : mk t ≤ R := of_decide_eq_true c2
        refine ⟨_, rfl, .inl ⟨rfl, _, SqL.of hd2⟩, _, rfl, d, _, _, rfl, rfl, hd2, (by rw [row_len]; exact small (by omega)), ?_⟩
        have hl3 : upd H2 d (.lst ((rz acc).map V.int ++ [.int ((t : Nat) : Int)])) r = some (.lst ((ms (j + 2)).map V.int)) := by rw [upd_ne hrd]; exact hl2
        refine ⟨_, rfl, _, rfl, _, rfl, r, _, _, _, rfl, rfl, SqL.of hl3, ms_at (k := t) (by omega), _, _, rfl, rfl, ?_⟩
        refine ⟨acc ++ [t], R - mk t, _, rfl, by omega, same_upd hs2 hdH _, hl3, ?_, by simp; omega, ?_⟩
        · rw [upd_same, rz_app, List.map_append]
          rfl
        · rw [hg, gr_pos c2', show j + 2 - (i + 1) = t by omega]
          simp
      · have c2' : ¬ mk t ≤ R := of_decide_eq_false (Bool.eq_false_iff.mpr c2)
        refine ⟨acc, R, _, rfl, by omega, hs2, hl2, hd2, by omega, ?_⟩
        rw [hg, gr_neg c2', show j + 2 - (i + 1) = t by omega]
    · rintro σ2 H2 ⟨acc, R, pl, rfl, _, hs2, hl2, hd2, hla, hg⟩
      have e0 : gr (j + 2 - (j + 2)) R = [] := by rw [Nat.sub_self]; rfl
      rw [e0, List.nil_append] at hg
      have ez : gr (j + 2) N = zk N := gr_zk h0 (Int.lt_trans (Int.not_le.mp c') (mk_lt (j + 1)))
      refine ⟨_, rfl, .inl ⟨rfl, _, SqL.of hd2⟩, d, _, rfl, rfl, hd2, _, rfl, q d _ (same_upd hs2 hdH _) hdH ?_⟩
      rw [upd_same, ← List.map_reverse, rz_rev, ← hg, ez]

/-! sign_at -/
theorem sc_sign_at : FnScope ["k"] ["k"] (defScope s_sign_at) := ⟨rfl, rfl, rfl, by decide +kernel, rfl, by decide +kernel, by decide +kernel⟩
theorem cal_sign_at {n : Nat} {f : Addr} {fd : FuncData} (T : Blt mg) (F : Fun K "sign_at" "sign_at" s_sign_at f fd) (b : Binds K fd ["k"] []) (m : mg "sign_at" = some (.ref f)) (C1 : Cal P w K mg base n "row_of" ["number"] spRow) : Cal P w K mg base (n + 1) "sign_at" ["k"] spSignAt := by
  refine ⟨f, fd, F.ok sc_sign_at (fun vs H Q E h => ?_) (fun cdv A outer s H vs Q E hr h => ?_), b, F.kp, m⟩
  · obtain ⟨a, rfl, _⟩ := h
    rfl
  obtain ⟨k, rfl, h0, hk, q⟩ := h
  refine ⟨_, pss_one (ps_ret (pe_ifExp (pt_cmpR op_in_seq pe_int (pe_cal C1 hr rfl (pa_cons (pv 0) pa_nil)) (by with_unfolding_all rfl)) pe_str pe_str)), ?_⟩
  refine ⟨_, rfl, k, rfl, h0, mk_le9 hk, fun r H1 hs1 _ hr1 => ⟨r, _, rfl, .inl (SqL.of hr1), rfl, flat_ints _, _, rfl, ?_⟩⟩
  rw [in_zero]
  unfold sg at q
  refine ite2 (fun c => ?_) (fun c => ?_)
  · have c' : 0 ∈ zk k := of_decide_eq_true c
    rw [if_pos c', ← lit_b] at q
    exact q H1 hs1
  · have c' : ¬ 0 ∈ zk k := of_decide_eq_false (Bool.eq_false_iff.mpr c)
    rw [if_neg c', ← lit_a] at q
    exact q H1 hs1

/-! piece_at -/
theorem sc_piece_at : FnScope ["k", "n"] ["k", "n"] (defScope s_piece_at) := ⟨rfl, rfl, rfl, by decide +kernel, rfl, by decide +kernel, by decide +kernel⟩
theorem cal_piece_at {n : Nat} {f : Addr} {fd : FuncData} (T : Blt mg) (F : Fun K "piece_at" "piece_at" s_piece_at f fd) (b : Binds K fd ["k", "n"] []) (m : mg "piece_at" = some (.ref f)) (C1 : Cal P w K mg base n "sign_at" ["k"] spSignAt) : Cal P w K mg base (n + 1) "piece_at" ["k", "n"] spPieceAt := by
  refine ⟨f, fd, F.ok sc_piece_at (fun vs H Q E h => ?_) (fun cdv A outer s H vs Q E hr h => ?_), b, F.kp, m⟩
  · obtain ⟨a, n, rfl, _⟩ := h
    rfl
  obtain ⟨k, N, rfl, h0, hk, hN, q⟩ := h
  have hbig : (1000 : Int) < mk 800 := Int.lt_trans (by decide +kernel) big61
  have hdb : 2 * mk 800 ≤ mk 802 := mk_double 800
  have h9 : mk 802 ≤ mk 900 := mk_mono (by decide)
  refine ⟨_, pss_one (ps_ret (pe_bm PySem.F.plainAttrs_str PySem.F.slot_str_join PySem.F.type_str_join mt_join pe_str (pa_cons (pe_comp (ns := []) rfl ⟨rfl, rfl, rfl, rfl, rfl, (by show List.Nodup (["place"] : List Str); decide +kernel), rfl⟩ (pi_rangeB rfl T.range (pa_cons (pv 0) (pa_cons (pe_op op_add (pv 0) (pv 1)) pa_nil))) (fun _ _ _ => pts_nil) (fun _ _ _ => pe_cal C1 hr rfl (pa_cons (pv 0) pa_nil))) pa_nil))), ?_⟩
  refine ⟨rfl, _, rfl, _, rfl, _, rfl, _, _, rfl, rfl, k, k + (N : Int), rfl, ?_⟩
  rw [show (k + (N : Int) - k).toNat = N by omega]
  refine comp_rng (n := N) (f := fun i => V.str (tx [sg (k + i)])) (p := fun _ => true) (len_ok (by omega)) (fun i H2 R2 hi hs2 kk => kk H2 (Same.refl _)) (fun i H2 R2 hi _ hs2 kk => ?_) fun D H2 hD hs2 hD2 => ?_
  · exact ⟨_, rfl, k + (i : Int), rfl, by omega, by omega, fun H3 hs3 => kk H3 hs3⟩
  · rw [pc_res] at hD2
    refine ⟨D, (pc k N).map fun c => [c], congrArg V.str lit_, rfl, SqL.of hD2, by rw [flat_single, pc_length]; omega, ?_⟩
    rw [flat_single]
    exact q H2 hs2

/-! grown  -/
theorem grow_snoc (l : List Nat) (c : Nat) : grow (l ++ [c]) = grow l ++ (if c = 97 then [97, 98] else [97]) := by
  rw [grow_app]
  simp [grow]
theorem grow_len (l : List Nat) : (grow l).length ≤ 2 * l.length := by
  induction l with
  | nil => simp [grow]
  | cons c l ih =>
    have e : grow (c :: l) = (if c = 97 then [97, 98] else [97]) ++ grow l := by simp [grow]
    rw [e, List.length_append, List.length_cons]
    split <;> simp <;> omega

theorem sc_grown : FnScope ["text"] ["text"] (defScope s_grown) := ⟨rfl, rfl, rfl, by decide +kernel, rfl, by decide +kernel, by decide +kernel⟩
theorem grow_res (l : List Nat) : resC l.length (fun _ => true) (fun i => V.str (tx (if l.getD i 0 = 97 then [97, 98] else [97]))) = (l.map fun c => if c = 97 then [97, 98] else [97]).map fun l => V.str (tx l) := by
  rw [resC_all, List.map_map]
  refine range_map_get l _ _ fun i x h => ?_
  rw [List.getD_eq_getElem?_getD, h]
  rfl
theorem grow_flat (l : List Nat) : (l.map fun c => if c = 97 then [97, 98] else [97]).flatten = grow l := by
  unfold grow
  rw [List.flatMap_def]
theorem cal_grown {n : Nat} {f : Addr} {fd : FuncData} (T : Blt mg) (F : Fun K "grown" "grown" s_grown f fd) (b : Binds K fd ["text"] []) (m : mg "grown" = some (.ref f)) : Cal P w K mg base (n + 1) "grown" ["text"] spGrown := by
  refine ⟨f, fd, F.ok sc_grown (fun vs H Q E h => ?_) (fun cdv A outer s H vs Q E hr h => ?_), b, F.kp, m⟩
  · obtain ⟨a, rfl, _⟩ := h
    rfl
  obtain ⟨l, rfl, hab, hl, q⟩ := h
  refine ⟨_, pss_one (ps_ret (pe_bm PySem.F.plainAttrs_str PySem.F.slot_str_join PySem.F.type_str_join mt_join pe_str (pa_cons (pe_comp (ns := []) rfl ⟨rfl, rfl, rfl, rfl, rfl, (by show List.Nodup (["sign"] : List Str); decide +kernel), rfl⟩ (pi_str (pv 0)) (fun _ _ _ => pts_nil) (fun _ _ _ => pe_ifExp (pt_cmpR op_eq (pv 0) pe_str (nomark _)) pe_str pe_str)) pa_nil))), ?_⟩
  rw [lit_a, lit_ab]
  refine ⟨rfl, _, rfl, l, rfl, ?_⟩
  refine comp_str (l := l) (f := fun i => V.str (tx (if l.getD i 0 = 97 then [97, 98] else [97]))) (p := fun _ => true) (len_ok (by omega)) (fun i c H2 R2 hc hs2 kk => kk H2 (Same.refl _)) (fun i c H2 R2 hc _ hs2 kk => ?_) fun D H2 hD hs2 hD2 => ?_
  · have k' := kk H2 (Same.refl _)
    rw [List.getD_eq_getElem?_getD, hc] at k'
    refine ⟨_, rfl, rfl, _, rfl, ?_⟩
    rw [tx_eq]
    refine ite2 (fun z => ?_) (fun z => ?_)
    · have z' : [c] = [97] := of_decide_eq_true z
      have zc : c = 97 := by simpa using z'
      rw [Option.getD_some, if_pos zc] at k'
      exact k'
    · have z' : ¬ [c] = [97] := of_decide_eq_false (Bool.eq_false_iff.mpr z)
      have zc : ¬ c = 97 := fun y => z' (by rw [y])
      rw [Option.getD_some, if_neg zc] at k'
      exact k'
  · rw [grow_res] at hD2
    have := grow_len l
    refine ⟨D, _, congrArg V.str lit_, rfl, SqL.of hD2, by rw [grow_flat]; omega, ?_⟩
    rw [grow_flat]
    exact q H2 hs2

/-! pieces_in -/
def spFirst : Sp := fun vs H Q _ => ∃ l : List Nat, vs = [.str (tx l)] ∧ (∀ c ∈ l, c = 97 ∨ c = 98) ∧ l.length ≤ 41 ∧ (∀ k : Nat, stands l k → (∀ k', k' < k → ¬ stands l k') → ∀ H' : Hp, Same H H' → Q (.int (k : Int)) H') ∧ ((∀ k, ¬ stands l k) → ∀ H' : Hp, Same H H' → Q .non H')
def spPieces : Sp := fun vs H Q _ => ∃ (l : List Nat) (n : Nat), vs = [.str (tx l), .int (n : Int)] ∧ l.length ≤ 1000 ∧ n ≤ 1000 ∧ ∀ (r : Addr) (H' : Hp), Same H H' → H r = none → H' r = some (.lst ((winL l n).map fun x => V.str (tx x))) → Q (.ref r) H'
theorem cutN_win (l : List Nat) {k n : Nat} (h : k + n ≤ l.length) : cutN l (some (k : Int)) (some ((k : Int) + (n : Int))) = (l.drop k).take n := by
  unfold cutN
  rw [show (k : Int) + (n : Int) = ((k + n : Nat) : Int) by omega, HT.sIx_nat, HT.sIx_nat, Nat.min_eq_left h, Nat.min_eq_left (by omega : k ≤ l.length), show k + n - k = n by omega]
theorem win_res (l : List Nat) (n : Nat) : resC (l.length + 1 - n) (fun _ => true) (fun i => V.str (tx ((l.drop i).take n))) = (winL l n).map fun x => V.str (tx x) := by
  unfold winL
  rw [resC_all, List.map_map]
  rfl
theorem sc_pieces_in : FnScope ["text", "n"] ["text", "n"] (defScope s_pieces_in) := ⟨rfl, rfl, rfl, by decide +kernel, rfl, by decide +kernel, by decide +kernel⟩
theorem cal_pieces_in {n : Nat} {f : Addr} {fd : FuncData} (T : Blt mg) (F : Fun K "pieces_in" "pieces_in" s_pieces_in f fd) (b : Binds K fd ["text", "n"] []) (m : mg "pieces_in" = some (.ref f)) : Cal P w K mg base (n + 1) "pieces_in" ["text", "n"] spPieces := by
  refine ⟨f, fd, F.ok sc_pieces_in (fun vs H Q E h => ?_) (fun cdv A outer s H vs Q E hr h => ?_), b, F.kp, m⟩
  · obtain ⟨l, N, rfl, _⟩ := h
    rfl
  obtain ⟨l, N, rfl, hl, hN, q⟩ := h
  refine ⟨_, pss_one (ps_ret (pe_comp (ns := [0, 1]) rfl ⟨rfl, rfl, rfl, rfl, rfl, (by show List.Nodup (["k", "text", "n"] : List Str); decide +kernel), rfl⟩ (pi_range1 rfl T.range (pa_cons (pe_op op_add (pe_op op_sub (pe_callB call_len_str rfl T.len PySem.boot_len (pa_cons (pv 0) pa_nil)) (pv 1)) pe_int) pa_nil)) (fun _ _ _ => pts_nil)
    (fun _ _ _ => pe_slice sl_str (pv 1) (po_some (pv 0)) (po_some (pe_op op_add (pv 0) (pv 2)))))), ?_⟩
  refine ⟨_, rfl, _, rfl, (by rw [tx_length]; exact len_ok (by omega)), _, rfl, _, _, rfl, rfl, _, _, rfl, rfl, _, rfl, ?_, ?_, ?_⟩
  · show -(2 ^ 62) ≤ (((tx l).length : Nat) : Int) - (N : Int) + 1
    rw [tx_length]; omega
  · show (((tx l).length : Nat) : Int) - (N : Int) + 1 < 2 ^ 62
    rw [tx_length]; omega
  show CompOk (Itr 0 ((((tx l).length : Nat) : Int) - (N : Int) + 1).toNat) _ _ _ _ _ _
  rw [tx_length, show ((l.length : Int) - (N : Int) + 1).toNat = l.length + 1 - N by omega]
  refine comp_rng (n := l.length + 1 - N) (f := fun i => V.str (tx ((l.drop i).take N))) (p := fun _ => true) (len_ok (by omega)) (fun i H2 R2 hi hs2 kk => kk H2 (Same.refl _)) (fun i H2 R2 hi _ hs2 kk => ?_) fun D H2 hD hs2 hD2 => ?_
  · refine ⟨_, rfl, _, rfl, _, rfl, _, rfl, _, rfl, _, _, rfl, rfl, _, rfl, l, rfl, len_ok (by omega), ?_⟩
    have kk' := kk H2 (Same.refl _)
    rw [show (0 : Int) + (i : Int) = (i : Int) by omega, cutN_win l (by omega)]
    exact kk'
  · rw [win_res] at hD2
    exact q D H2 hs2 hD hD2

/-! beginning_with_all -/
def spBegin : Sp := fun vs H Q _ => ∃ n : Nat, vs = [.int (n : Int)] ∧ n ≤ 41 ∧ ∀ (L : Nat) (H' : Hp), Same H H' → L ≤ 377 → n + 1 ≤ (dd (winL (pc 0 L) n)).length → Q (.str (tx (pc 0 L))) H'
theorem sc_beginning_with_all : FnScope ["n", "text"] ["n"] (defScope s_beginning_with_all) := ⟨rfl, rfl, rfl, by decide +kernel, rfl, by decide +kernel, by decide +kernel⟩
theorem gw_len (i : Nat) (h : i ≤ 12) : (growN i [97]).length ≤ 377 := (glen i (by omega)).1
theorem gw12 : (growN 12 [97]).length = 377 := by decide +kernel
theorem gw_ab (i : Nat) : ∀ c ∈ growN i [97], c = 97 ∨ c = 98 := fun c hc => by
  rw [growN_word i] at hc
  exact pc_ab hc
theorem cal_beginning_with_all {n : Nat} {f : Addr} {fd : FuncData} (T : Blt mg) (F : Fun K "beginning_with_all" "beginning_with_all" s_beginning_with_all f fd) (b : Binds K fd ["n"] []) (m : mg "beginning_with_all" = some (.ref f)) (C1 : Cal P w K mg base n "pieces_in" ["text", "n"] spPieces) (C2 : Cal P w K mg base n "grown" ["text"] spGrown) : Cal P w K mg base (n + 1) "beginning_with_all" ["n"] spBegin := by
  refine ⟨f, fd, F.ok sc_beginning_with_all (fun vs H Q E h => ?_) (fun cdv A outer s H vs Q E hr h => ?_), b, F.kp, m⟩
  · obtain ⟨N, rfl, _⟩ := h
    rfl
  obtain ⟨N, rfl, hN, q⟩ := h
  have nd := sc_beginning_with_all.nd
  refine ⟨_, pss_cons (ps_set (i := 1) nd rfl (Or.inl rfl) pe_str)
    (pss_cons (ps_while PassesOwn.never (pt_cmpR op_le (pe_callB call_lenS rfl T.len PySem.boot_len (pa_cons (pe_callTy (call_setL rfl) rfl T.set PyProof.Rows.boot_set (pa_cons (pe_cal C1 hr rfl (pa_cons (pv 1) (pa_cons (pv 0) pa_nil))) pa_nil)) pa_nil)) (pv 0) (nomark _))
      (pss_one (ps_set (i := 1) nd rfl (Or.inl rfl) (pe_cal C2 hr rfl (pa_cons (pv 1) pa_nil)))))
    (pss_one (ps_ret (pv 1)))), ?_⟩
  rw [lit_a]
  refine ⟨fun k σ H' => ∃ i, k = 13 - i ∧ i ≤ 12 ∧ σ = [some (.int (N : Int)), some (.str (tx (growN i [97])))] ∧ Same H H', ⟨13, 0, rfl, by omega, rfl, Same.refl H⟩, ?_⟩
  rintro k σ H' ⟨i, rfl, hi, rfl, hs⟩
  have hlen := gw_len i hi
  have hw := growN_word i
  refine ⟨_, rfl, _, rfl, growN i [97], N, rfl, by omega, by omega, fun r H2 hs2 hrn hr2 => ?_⟩
  refine ⟨r, winL (growN i [97]) N, rfl, SqL.of hr2, (by unfold winL; rw [List.length_map, List.length_range]; omega), fun d hd => ?_⟩
  refine ⟨d, dd (winL (growN i [97]) N), rfl, upd_same, _, rfl, _, _, rfl, rfl, _, rfl, ?_⟩
  refine ite2 (fun c => ?_) (fun c => ?_)
  · have c' : (((dd (winL (growN i [97]) N)).length : Nat) : Int) ≤ (N : Int) := of_decide_eq_true c
    have hi12 : i ≠ 12 := fun e => by
      subst e
      rw [hw, gw12] at c'
      have := enough (L := 377) (n := N) hN (by omega)
      omega
    refine ⟨fun σ' H' => ∃ k', k' < 13 - i ∧ _, fun _ _ z => z, ?_⟩
    refine ⟨_, rfl, growN i [97], rfl, gw_ab i, by omega, fun H3 hs3 => ?_⟩
    exact ⟨13 - (i + 1), by omega, i + 1, rfl, by omega, rfl, hs.trans (hs2.trans ((same_new hd _).trans hs3))⟩
  · have c' : ¬ (((dd (winL (growN i [97]) N)).length : Nat) : Int) ≤ (N : Int) := of_decide_eq_false (Bool.eq_false_iff.mpr c)
    rw [hw] at c'
    refine ⟨_, rfl, ?_⟩
    rw [hw]
    exact q _ _ (hs.trans (hs2.trans (same_new hd _))) hlen (by omega)

/-! pieces_of -/
def txs (ls : List (List Nat)) : List V := ls.map fun l => V.str (tx l)
def spPiecesOf : Sp := fun vs H Q _ => ∃ n : Nat, vs = [.int (n : Int)] ∧ n ≤ 41 ∧ ∀ (r : Addr) (H' : Hp), Same H H' → H r = none → H' r = some (.lst (txs (srt n))) → Q (.ref r) H'
theorem sc_pieces_of : FnScope ["n"] ["n"] (defScope s_pieces_of) := ⟨rfl, rfl, rfl, by decide +kernel, rfl, by decide +kernel, by decide +kernel⟩
theorem cal_pieces_of {n : Nat} {f : Addr} {fd : FuncData} (T : Blt mg) (F : Fun K "pieces_of" "pieces_of" s_pieces_of f fd) (b : Binds K fd ["n"] []) (m : mg "pieces_of" = some (.ref f)) (C1 : Cal P w K mg base n "pieces_in" ["text", "n"] spPieces) (C2 : Cal P w K mg base n "beginning_with_all" ["n"] spBegin) : Cal P w K mg base (n + 1) "pieces_of" ["n"] spPiecesOf := by
  refine ⟨f, fd, F.ok sc_pieces_of (fun vs H Q E h => ?_) (fun cdv A outer s H vs Q E hr h => ?_), b, F.kp, m⟩
  · obtain ⟨N, rfl, _⟩ := h
    rfl
  obtain ⟨N, rfl, hN, q⟩ := h
  refine ⟨_, pss_one (ps_ret (pe_callB (call_sortedS rfl) rfl T.sorted PyProof.Rows.boot_sorted (pa_cons (pe_callTy (call_setL rfl) rfl T.set PyProof.Rows.boot_set (pa_cons (pe_cal C1 hr rfl (pa_cons (pe_cal C2 hr rfl (pa_cons (pv 0) pa_nil)) (pa_cons (pv 0) pa_nil))) pa_nil)) pa_nil))), ?_⟩
  refine ⟨_, rfl, N, rfl, hN, fun L H1 hs1 hL hc => ?_⟩
  have hpl := pc_length 0 L
  refine ⟨_, rfl, pc 0 L, N, rfl, by omega, by omega, fun r H2 hs2 hrn hr2 => ?_⟩
  refine ⟨r, winL (pc 0 L) N, rfl, SqL.of hr2, (by unfold winL; rw [List.length_map, List.length_range]; omega), fun d hd => ?_⟩
  have hlen : (dd (winL (pc 0 L) N)).length ≤ N + 1 := by
    have := len_of_all (dd_nodup (winL (pc 0 L) N)) (win_sub (L := L) hN)
    rw [facs_len hN] at this
    exact this
  refine ⟨d, dd (winL (pc 0 L) N), rfl, upd_same, by omega, fun r2 ls hr2n hperm hsort => ?_⟩
  have hp2 : ls.Perm (facs N) := hperm.trans ((List.perm_ext_iff_of_nodup (dd_nodup _) (facs_nodup N)).mpr fun x => facs_full hN hc x)
  have e := srt_one hp2 hsort
  subst e
  have hs3 : Same H (upd H2 d (SetO P w d (dd (winL (pc 0 L) N)))) := hs1.trans (hs2.trans (same_new hd _))
  exact q r2 _ (hs3.trans (same_new hr2n _)) (hs3.free hr2n) upd_same

/-! fork_of -/
def spFork : Sp := fun vs H Q _ => ∃ n : Nat, vs = [.int (n : Int)] ∧ n ≤ 200 ∧ ∀ H' : Hp, Same H H' → Q (.str (tx (fk n))) H'
theorem sc_fork_of : FnScope ["n"] ["n"] (defScope s_fork_of) := ⟨rfl, rfl, rfl, by decide +kernel, rfl, by decide +kernel, by decide +kernel⟩
theorem cal_fork_of {n : Nat} {f : Addr} {fd : FuncData} (T : Blt mg) (F : Fun K "fork_of" "fork_of" s_fork_of f fd) (b : Binds K fd ["n"] []) (m : mg "fork_of" = some (.ref f)) (C1 : Cal P w K mg base n "piece_at" ["k", "n"] spPieceAt) : Cal P w K mg base (n + 1) "fork_of" ["n"] spFork := by
  refine ⟨f, fd, F.ok sc_fork_of (fun vs H Q E h => ?_) (fun cdv A outer s H vs Q E hr h => ?_), b, F.kp, m⟩
  · obtain ⟨N, rfl, _⟩ := h
    rfl
  obtain ⟨N, rfl, hN, q⟩ := h
  have hb : (1000 : Int) < mk 800 := Int.lt_trans (by decide +kernel) big61
  refine ⟨_, pss_one (ps_ret (pe_bm PySem.F.plainAttrs_str PySem.F.slot_str_join PySem.F.type_str_join (mt_joinRev rfl) pe_str (pa_cons (pe_callTy call_revT rfl T.reversed PyProof.Rows.boot_reversed (pa_cons (pe_cal C1 hr rfl (pa_cons pe_int (pa_cons (pv 0) pa_nil))) pa_nil)) pa_nil))), ?_⟩
  refine ⟨rfl, _, rfl, 0, N, rfl, by omega, by omega, by omega, fun H1 hs1 => ?_⟩
  refine ⟨pc 0 N, rfl, by rw [pc_length]; omega, fun it hit hge => ?_⟩
  refine ⟨it, pc 0 N, H1, congrArg V.str lit_, rfl, rfl, hit, hge, by rw [pc_length]; omega, ?_⟩
  exact q H1 hs1

/-! _law_cell -/
theorem sc_law_cell : FnScope ["script", "k", "base"] ["script", "k"] (defScope s_law_cell) := ⟨rfl, rfl, rfl, by decide +kernel, rfl, by decide +kernel, by decide +kernel⟩
theorem cal_law_cell {n : Nat} {f : Addr} {fd : FuncData} (T : Blt mg) (F : Fun K "_law_cell" "_law_cell" s_law_cell f fd) (b : Binds K fd ["script", "k"] []) (m : mg "_law_cell" = some (.ref f)) : Cal P w K mg base (n + 1) "_law_cell" ["script", "k"] (spCell K) := by
  refine ⟨f, fd, F.ok sc_law_cell (fun vs H Q E h => ?_) (fun cdv A outer s H vs Q E hr h => ?_), b, F.kp, m⟩
  · obtain ⟨a, ns, k, rfl, _⟩ := h
    rfl
  obtain ⟨a, ns, k, rfl, hS, h0, q⟩ := h
  have hl : (ns.map V.int).length = ns.length := List.length_map _
  refine ⟨_, pss_cons (ps_if (pt_cmpR op_lt (pv 1) (pe_callB call_len_seq rfl T.len PySem.boot_len (pa_cons (pv 0) pa_nil)) (nomark _)) (pss_one (ps_ret (pe_ix ix_list (pv 0) (pv 1) (fun _ _ => rfl)))) pss_nil)
    (pss_cons (ps_set (i := 2) sc_law_cell.nd rfl (Or.inl rfl) pe_int)
    (pss_cons (ps_if (pt_cmpR op_gt (pe_callB call_len_seq rfl T.len PySem.boot_len (pa_cons (pv 0) pa_nil)) pe_int (nomark _)) (pss_one (ps_set (i := 2) sc_law_cell.nd rfl (Or.inl rfl) (pe_ix ix_list (pv 0) pe_int (fun _ _ => rfl)))) pss_nil)
    (pss_one (ps_ret (pe_op op_mod (pe_op op_add (pe_op op_mul (pe_op op_mod (pv 2) pe_int) pe_int) (pe_op op_mul (pv 1) pe_int)) pe_int))))), ?_⟩
  refine ⟨_, rfl, _, rfl, a, _, rfl, .inl hS, _, _, rfl, rfl, _, rfl, ?_⟩
  refine ite2 (fun c => ?_) (fun c => ?_)
  · have c' : k < (((ns.map V.int).length : Nat) : Int) := of_decide_eq_true c
    rw [hl] at c'
    obtain ⟨v, hv⟩ := at_ints (ns := ns) h0 c'
    exact ⟨_, rfl, _, rfl, a, _, _, _, rfl, rfl, hS, hv, q v⟩
  have fin : ∀ z : Int, tRet (tOp (rI (fun _ j => 0 < j) fun i j => V.int (i % j)) (tOp (rI0 fun i j => V.int (i + j)) (tOp (rI CMul fun i j => V.int (i * j)) (tOp (rI (fun _ j => 0 < j) fun i j => V.int (i % j)) (tVar 2) (tC (.int 65521))) (tC (.int 48271))) (tOp (rI CMul fun i j => V.int (i * j)) (tVar 1) (tC (.int 30103)))) (tC (.int 65521)))
      { nx := fun _ H' => Q .non H', rt := Q } [some (.ref a), some (.int k), some (.int z)] H := fun z =>
    ⟨_, rfl, _, _, rfl, rfl, (by show (0 : Int) < 65521; decide), _, _, rfl, rfl, .inr ⟨by decide, by decide⟩, _, rfl, _, _, rfl, rfl, .inr ⟨by decide, by decide⟩, _, _, rfl, rfl, _, _, rfl, rfl, (by show (0 : Int) < 65521; decide), q _⟩
  refine ⟨_, rfl, a, _, rfl, .inl hS, _, _, rfl, rfl, _, rfl, ?_⟩
  refine ite2 (fun c2 => ?_) (fun c2 => ?_)
  · have c' : (0 : Int) < (((ns.map V.int).length : Nat) : Int) := of_decide_eq_true c2
    rw [hl] at c'
    obtain ⟨v, hv⟩ := at_ints (ns := ns) (k := 0) (Int.le_refl 0) c'
    exact ⟨_, rfl, a, _, _, _, rfl, rfl, hS, hv, fin v⟩
  · exact fin 0

/-! _law_backward -/
def spBack : Sp := fun vs H Q _ => ∃ l : List Nat, vs = [.str (tx l)] ∧ l.length ≤ 1000 ∧ ∀ H' : Hp, Same H H' → Q (.str (tx l.reverse)) H'
theorem sc_law_backward : FnScope ["text", "found", "letter"] ["text"] (defScope s_law_backward) := ⟨rfl, rfl, rfl, by decide +kernel, rfl, by decide +kernel, by decide +kernel⟩
theorem cal_law_backward {n : Nat} {f : Addr} {fd : FuncData} (T : Blt mg) (F : Fun K "_law_backward" "_law_backward" s_law_backward f fd) (b : Binds K fd ["text"] []) (m : mg "_law_backward" = some (.ref f)) : Cal P w K mg base (n + 1) "_law_backward" ["text"] spBack := by
  refine ⟨f, fd, F.ok sc_law_backward (fun vs H Q E h => ?_) (fun cdv A outer s H vs Q E hr h => ?_), b, F.kp, m⟩
  · obtain ⟨l, rfl, _⟩ := h
    rfl
  obtain ⟨l, rfl, hl, q⟩ := h
  have nd := sc_law_backward.nd
  refine ⟨_, pss_cons (ps_set (i := 1) nd rfl (Or.inl rfl) pe_str)
    (pss_cons (ps_for PassesOwn.never rfl (pi_str (pv 0)) (pg_name (i := 2) nd rfl (Or.inl rfl)) (pss_one (ps_set (i := 1) nd rfl (Or.inl rfl) (pe_op op_addTx (pv 2) (pv 1)))))
    (pss_one (ps_ret (pv 1)))), ?_⟩
  rw [lit_]
  refine ⟨_, rfl, l, rfl, ?_⟩
  refine for_str (fun i σ2 H2 => ∃ z : Option V, σ2 = [some (.str (tx l)), some (.str (tx (l.take i).reverse)), z] ∧ H = H2) ⟨none, rfl, rfl⟩ ?_ ?_
  · rintro i c σ2 H2 hc ⟨z, rfl, rfl⟩
    have hi : i < l.length := (List.getElem?_eq_some_iff.mp hc).1
    refine ⟨_, rfl, _, rfl, [c], (l.take i).reverse, rfl, rfl, len_ok (by simp; omega), some (.str (tx [c])), ?_, rfl⟩
    rw [List.take_add_one, hc, Option.toList_some, List.reverse_append]
    rfl
  · rintro σ2 H2 ⟨z, rfl, rfl⟩
    rw [List.take_length]
    exact ⟨_, rfl, q H (Same.refl _)⟩

theorem sc_law : FnScope ["script", "count", "found", "longer", "text", "both", "many", "told"] ["script"] (defScope s_law) := ⟨rfl, rfl, rfl, by decide +kernel, rfl, by decide +kernel, by decide +kernel⟩
theorem txs_get {ls : List (List Nat)} {i : Nat} {x : List Nat} (h : ls[i]? = some x) : (txs ls)[i]? = some (V.str (tx x)) := by
  unfold txs
  rw [List.getElem?_map, h]
  rfl
theorem txs_len (ls : List (List Nat)) : (txs ls).length = ls.length := List.length_map _
theorem txs_of {ls : List (List Nat)} {i : Nat} {v : V} (h : (txs ls)[i]? = some v) : ∃ x, ls[i]? = some x ∧ v = V.str (tx x) := by
  have hi : i < ls.length := by rw [← txs_len]; exact (List.getElem?_eq_some_iff.mp h).1
  refine ⟨ls[i], List.getElem?_eq_getElem hi, ?_⟩
  have := txs_get (List.getElem?_eq_getElem hi)
  rw [h] at this
  exact Option.some.inj this
theorem flat_strs (ls : List (List Nat)) : (txs ls).all flatV = true := by
  unfold txs
  rw [List.all_map, List.all_eq_true]
  exact fun _ _ => rfl
theorem in_strs (x : List Nat) (ls : List (List Nat)) (h : x ∈ ls) : inV (.str (tx x)) (txs ls) = true := by
  unfold inV txs
  rw [List.any_map, List.any_eq_true]
  exact ⟨x, h, by show eqV (.str (tx x)) (.str (tx x)) = true; rw [eqV_tx]; exact decide_eq_true rfl⟩
def HasT (kvs : List (Key × V)) (ls : List (List Nat)) : Prop := ∀ y : List Nat, (valV kvs (Sum.inr (tx y))).isSome = decide (y ∈ ls)
theorem HasT.nil : HasT [] [] := fun y => by rw [valV_nil]; simp
theorem HasT.put {kvs : List (Key × V)} {ls : List (List Nat)} (h : HasT kvs ls) (x : List Nat) (v : V) : HasT (putK kvs (Sum.inr (tx x)) v) (ls ++ [x]) := fun y => by
  rw [valV_put]
  by_cases e : y = x
  · rw [if_pos (by rw [e]), decide_eq_true (by rw [e]; simp)]
    rfl
  · rw [if_neg fun z => e (tx_inj (Sum.inr.inj z)), h y]
    simp [e]
theorem upd_id {H : Hp} {d : Addr} {o : HO} (h : H d = some o) : upd H d o = H := by
  funext b
  unfold upd
  split
  · rename_i e; rw [e, h]
  · rfl
theorem ok_law {n : Nat} {f : Addr} {fd : FuncData} (T : Blt mg) (F : Fun K "law" "law" s_law f fd) (C1 : Cal P w K mg base n "pieces_of" ["n"] spPiecesOf) (C2 : Cal P w K mg base n "piece_at" ["k", "n"] spPieceAt) (C3 : Cal P w K mg base n "_law_cell" ["script", "k"] (spCell K))
    (C4 : Cal P w K mg base n "fork_of" ["n"] spFork) (C5 : Cal P w K mg base n "_law_backward" ["text"] spBack) : FnOk P w K mg base CX0 (n + 1) f fd ["script"] (spLaw K) := by
  refine F.ok sc_law (fun vs H Q E h => ?_) (fun cdv A outer s H vs Q E hr h => ?_)
  · obtain ⟨a, ns, rfl, _⟩ := h
    rfl
  obtain ⟨a, ns, rfl, hS, h63, q⟩ := h
  have nd := sc_law.nd
  have hu := hu_of hr
  refine ⟨_, pss_cons (ps_set (i := 1) nd rfl (Or.inl rfl) (pe_op op_mod (pe_cal C3 hr rfl (pa_cons (pv 0) (pa_cons pe_int pa_nil))) pe_int))
    (pss_cons (ps_if (pt_cmpR op_eq (pe_op op_mod (pe_cal C3 hr rfl (pa_cons (pv 0) (pa_cons pe_int pa_nil))) pe_int) pe_int (nomark _)) (pss_one (ps_set (i := 1) nd rfl (Or.inl rfl) (pe_op op_mod (pe_cal C3 hr rfl (pa_cons (pv 0) (pa_cons pe_int pa_nil))) pe_int))) pss_nil)
    (pss_cons (ps_set (i := 2) nd rfl (Or.inl rfl) (pe_cal C1 hr rfl (pa_cons (pv 1) pa_nil)))
    (pss_cons (ps_set (i := 3) nd rfl (Or.inl rfl) pe_dnewK)
    (pss_cons (ps_for PassesOwn.never rfl (pi_list (pe_cal C1 hr rfl (pa_cons (pe_op op_add (pv 1) pe_int) pa_nil))) (pg_name (i := 4) nd rfl (Or.inl rfl))
      (pss_one (ps_dput hu (pv 3) (pv 4) pe_bl rfl)))
    (pss_cons (ps_set (i := 5) nd rfl (Or.inl rfl) (pe_lst pa_nil))
    (pss_cons (ps_for PassesOwn.never rfl (pi_list (pv 2)) (pg_name (i := 4) nd rfl (Or.inl rfl))
      (pss_cons (ps_set (i := 6) nd rfl (Or.inl rfl) (pe_op op_add (pe_callTy call_int1 rfl T.int PyProof.Rows.boot_int (pa_cons (pe_cmp (pc_din hu (pe_op op_addTx (pv 4) pe_str) (pv 3))) pa_nil)) (pe_callTy call_int1 rfl T.int PyProof.Rows.boot_int (pa_cons (pe_cmp (pc_din hu (pe_op op_addTx (pv 4) pe_str) (pv 3))) pa_nil))))
      (pss_cons (ps_if (pt_cmpR op_eq (pv 6) pe_int (nomark _)) (pss_one (ps_expr (pe_bm PySem.F.plainAttrs_list PySem.F.slot_list_append PySem.F.type_list_append mt_append (pv 5) (pa_cons (pv 4) pa_nil)))) pss_nil)
      (pss_one (ps_if (PW.pt (pw_or (pt_cmpR op_eq (pv 6) pe_int (nomark _)) (pw_or1 (pt_cmpR op_notIn_seq (pe_cal C5 hr rfl (pa_cons (pv 4) pa_nil)) (pv 2) (by with_unfolding_all rfl))))) (pss_one (ps_ret pe_bl)) pss_nil)))))
    (pss_cons (ps_if (pt_cmpR op_ne (pe_callB call_len_seq rfl T.len PySem.boot_len (pa_cons (pv 5) pa_nil)) pe_int (nomark _)) (pss_one (ps_ret pe_bl)) pss_nil)
    (pss_cons (ps_set (i := 7) nd rfl (Or.inl rfl) (pe_cal C4 hr rfl (pa_cons (pv 1) pa_nil)))
    (pss_cons (ps_if (PW.pt (pw_or (pt_not (pt_val (pe_callB call_isi rfl T.isi PyProof.Rows.boot_isinstance (pa_cons (pv 7) (pa_cons (pe_bltn rfl T.str PyProof.Rows.boot_str (v := .ty "str") rfl) pa_nil))))) (pw_or1 (pt_cmpR op_ne (pv 7) (pe_ix ix_list (pv 5) pe_int (fun _ _ => rfl)) (nomark _))))) (pss_one (ps_ret pe_bl)) pss_nil)
    (pss_cons (ps_if (pt_cmpR op_ne (pe_cal C5 hr rfl (pa_cons (pe_cal C4 hr rfl (pa_cons pe_int pa_nil)) pa_nil)) (pe_cal C2 hr rfl (pa_cons pe_int (pa_cons pe_int pa_nil))) (nomark _)) (pss_one (ps_ret pe_bl)) pss_nil)
    (pss_one (ps_ret (pe_cmpR op_eq (pe_cal C5 hr rfl (pa_cons (pv 7) pa_nil)) (pe_cal C2 hr rfl (pa_cons pe_int (pa_cons (pv 1) pa_nil))) (nomark _)))))))))))))), ?_⟩
  rw [lit_a, lit_b]
  have hb8 : (1000 : Int) < mk 800 := Int.lt_trans (by decide +kernel) big61
  refine ⟨_, rfl, a, ns, 0, rfl, hS, by decide, fun c0 => ⟨_, _, rfl, rfl, (by show (0 : Int) < 25; decide), ?_⟩⟩
  refine ⟨_, rfl, a, ns, 1, rfl, hS, by decide, fun c1 => ⟨_, _, rfl, rfl, (by show (0 : Int) < 8; decide), rfl, _, rfl, ?_⟩⟩
  refine ite2 (fun c => ?_) (fun c => ?_)
  · refine ⟨_, rfl, a, ns, 0, rfl, hS, by decide, fun c2 => ⟨_, _, rfl, rfl, (by show (0 : Int) < 40; decide), ?_⟩⟩
    obtain ⟨N, hN, hN2⟩ : ∃ N : Nat, c2 % 40 = (N : Int) ∧ N ≤ 39 := ⟨(c2 % 40).toNat, by omega, by omega⟩
    dsimp only
    rw [hN]
    refine ⟨_, rfl, N, rfl, by omega, fun r H1 hs1 hrn hr1 => ?_⟩
    intro d hd
    have hrd : r ≠ d := ne_of_none hr1 hd
    refine ⟨_, rfl, _, _, rfl, rfl, N + 1, (by show [V.int ((N : Int) + 1)] = [V.int ((N + 1 : Nat) : Int)]; rw [show ((N : Int) + 1) = ((N + 1 : Nat) : Int) by omega]), by omega, fun r2 H2 hs2 hr2n hr2 => ?_⟩
    refine ⟨r2, rfl, ⟨_, SqL.of hr2⟩, ?_⟩
    have hr1' : H2 r = some (.lst (txs (srt N))) := hs2 _ _ (by rw [upd_ne hrd]; exact hr1)
    have hd2 : H2 d = some (.dK []) := hs2 _ _ upd_same
    have hS2 : SqL K H2 a (ns.map V.int) := (hs1.trans ((same_new hd _).trans hs2)).seq hS
    refine for_list (xs := txs (srt (N + 1))) (fun i σ2 H3 => ∃ (z : Option V) (kvs : List (Key × V)), σ2 = [some (.ref a), some (.int (N : Int)), some (.ref r), some (.ref d), z, none, none, none] ∧ H3 = upd H2 d (.dK kvs) ∧ kvs.length ≤ i ∧ HasT kvs ((srt (N + 1)).take i)) ⟨none, [], rfl, (upd_id hd2).symm, Nat.le_refl _, HasT.nil⟩ ?_ ?_ ?_
    · rintro i σ2 H3 hi ⟨z, kvs, rfl, rfl, hkl, hk⟩
      exact SqL.of (by rw [upd_ne (ne_of hr2 hd2 (by intro z; cases z))]; exact hr2)
    · rintro i v σ2 H3 hv ⟨z, kvs, rfl, rfl, hkl, hk⟩
      obtain ⟨x, hx, rfl⟩ := txs_of hv
      have hi : i < (srt (N + 1)).length := (List.getElem?_eq_some_iff.mp hx).1
      rw [srt_len (by omega)] at hi
      refine ⟨_, rfl, _, rfl, d, _, rfl, DPut.k (k := Sum.inr (tx x)) upd_same (Nat.lt_of_le_of_lt hkl (small (by omega))), ?_⟩
      refine ⟨some (.str (tx x)), _, rfl, upd_upd, Nat.le_trans (length_putK _ _ _) (by omega), ?_⟩
      rw [List.take_add_one, hx, Option.toList_some]
      exact hk.put x _
    rintro σ3 H3 ⟨z, kvs, rfl, rfl, hkl, hk⟩
    rw [txs_len, List.take_length] at hk
    refine ⟨Nat.zero_le _, fun bo hbo => ?_⟩
    have hd3 : upd H2 d (HO.dK kvs) d = some (.dK kvs) := upd_same
    have hr3 : upd H2 d (HO.dK kvs) r = some (.lst (txs (srt N))) := by rw [upd_ne hrd]; exact hr1'
    have hbr : r ≠ bo := ne_of_none hr3 hbo
    have hbd : d ≠ bo := ne_of_none hd3 hbo
    generalize upd H2 d (HO.dK kvs) = H3 at hd3 hr3 hbo ⊢
    refine ⟨_, rfl, r, rfl, ⟨_, SqL.of (by rw [upd_ne hbr]; exact hr3)⟩, ?_⟩
    refine for_list (xs := txs (srt N)) (fun i σ2 H4 => ∃ (z y : Option V), σ2 = [some (.ref a), some (.int (N : Int)), some (.ref r), some (.ref d), z, some (.ref bo), y, none] ∧ H4 r = some (.lst (txs (srt N))) ∧ H4 d = some (.dK kvs) ∧ H4 bo = some (.lst (txs (((srt N).take i).filter (· == fk N))))) ⟨_, none, rfl, by rw [upd_ne hbr]; exact hr3, by rw [upd_ne hbd]; exact hd3, upd_same⟩ ?_ ?_ ?_
    · rintro i σ2 H4 hi ⟨z, y, rfl, h1, h2, h3⟩
      exact SqL.of h1
    · rintro i v σ2 H4 hv ⟨z, y, rfl, h1, h2, h3⟩
      obtain ⟨x, hx, rfl⟩ := txs_of hv
      have hi : i < (srt N).length := (List.getElem?_eq_some_iff.mp hx).1
      rw [srt_len (by omega)] at hi
      have hxf := srt_mem.mp (List.mem_of_getElem? hx)
      obtain ⟨xl, xab, _⟩ := facs_piece hxf
      obtain ⟨f1, f2, f3⟩ := fork_at (by omega) hxf
      have hA : ∀ c, (valV kvs (Sum.inr (tx (x ++ [c])))).isSome = decide (x ++ [c] ∈ facs (N + 1)) := fun c => by
        rw [hk (x ++ [c])]
        exact decide_eq_decide.mpr srt_mem
      refine ⟨_, rfl, x, [97], rfl, rfl, len_ok (by rw [xl]; simp; omega), _, rfl, d, _, rfl, DGet.k (k := Sum.inr (tx (x ++ [97]))) h2, .inr ⟨_, rfl, ?_⟩⟩
      refine ⟨_, rfl, x, [98], rfl, rfl, len_ok (by rw [xl]; simp; omega), _, rfl, d, _, rfl, DGet.k (k := Sum.inr (tx (x ++ [98]))) h2, .inr ⟨_, rfl, _, _, rfl, rfl, ?_⟩⟩
      rw [hA 97, hA 98]
      have hrev : inV (.str (tx x.reverse)) (txs (srt N)) = true := in_strs _ _ (srt_mem.mpr f1)
      have tk : ((srt N).take (i + 1)).filter (· == fk N) = ((srt N).take i).filter (· == fk N) ++ (if x = fk N then [x] else []) := by
        rw [List.take_add_one, hx, Option.toList_some, List.filter_append]
        congr 1
        by_cases e : x = fk N
        · rw [if_pos e, List.filter_cons_of_pos (by rw [e]; exact beq_self_eq_true _)]; rfl
        · rw [if_neg e, List.filter_cons_of_neg (by simpa using e)]; rfl
      by_cases e : x = fk N
      · obtain ⟨i1, i2⟩ := f3.mpr e
        rw [decide_eq_true i1, decide_eq_true i2]
        refine ⟨_, rfl, rfl, _, rfl, iteT ?_⟩
        refine ⟨_, rfl, .inl ⟨rfl, _, SqL.of h3⟩, _, rfl, bo, _, _, rfl, rfl, h3, ?_, ?_⟩
        · rw [txs_len]
          refine Nat.lt_of_le_of_lt (List.length_filter_le _ _) (Nat.lt_of_le_of_lt (List.length_take_le _ _) (small (by omega)))
        have g1 : upd H4 bo (.lst (txs (((srt N).take i).filter (· == fk N)) ++ [V.str (tx x)])) r = some (.lst (txs (srt N))) := by rw [upd_ne hbr]; exact h1
        have g2 : upd H4 bo (.lst (txs (((srt N).take i).filter (· == fk N)) ++ [V.str (tx x)])) d = some (.dK kvs) := by rw [upd_ne hbd]; exact h2
        have g3 : upd H4 bo (.lst (txs (((srt N).take i).filter (· == fk N)) ++ [V.str (tx x)])) bo = some (.lst (txs (((srt N).take (i + 1)).filter (· == fk N)))) := by
          rw [upd_same, tk, if_pos e]
          unfold txs
          rw [List.map_append]
          rfl
        refine ⟨_, rfl, rfl, _, rfl, iteF ?_⟩
        refine ⟨_, rfl, x, rfl, by omega, fun H6 hs6 => ⟨_, rfl, r, _, rfl, .inl (SqL.of (hs6 _ _ g1)), rfl, flat_strs _, _, rfl, ?_⟩⟩
        rw [hrev]
        refine iteF ⟨_, _, rfl, hs6 _ _ g1, hs6 _ _ g2, hs6 _ _ g3⟩
      · rw [if_neg e, List.append_nil] at tk
        have n2 : ¬ (x ++ [97] ∈ facs (N + 1) ∧ x ++ [98] ∈ facs (N + 1)) := fun z => e (f3.mp z)
        by_cases i1 : x ++ [97] ∈ facs (N + 1)
        · have i2 : ¬ x ++ [98] ∈ facs (N + 1) := fun z => n2 ⟨i1, z⟩
          rw [decide_eq_true i1, decide_eq_false i2]
          refine ⟨_, rfl, rfl, _, rfl, ?_⟩
          rw [← tk] at h3
          refine iteF ?_
          refine ⟨_, rfl, rfl, _, rfl, iteF ?_⟩
          refine ⟨_, rfl, x, rfl, by omega, fun H6 hs6 => ⟨_, rfl, r, _, rfl, .inl (SqL.of (hs6 _ _ h1)), rfl, flat_strs _, _, rfl, ?_⟩⟩
          rw [hrev]
          refine iteF ⟨_, _, rfl, hs6 _ _ h1, hs6 _ _ h2, hs6 _ _ h3⟩
        · have i2 : x ++ [98] ∈ facs (N + 1) := f2.resolve_left i1
          rw [decide_eq_false i1, decide_eq_true i2]
          refine ⟨_, rfl, rfl, _, rfl, ?_⟩
          rw [← tk] at h3
          refine iteF ?_
          refine ⟨_, rfl, rfl, _, rfl, iteF ?_⟩
          refine ⟨_, rfl, x, rfl, by omega, fun H6 hs6 => ⟨_, rfl, r, _, rfl, .inl (SqL.of (hs6 _ _ h1)), rfl, flat_strs _, _, rfl, ?_⟩⟩
          rw [hrev]
          refine iteF ⟨_, _, rfl, hs6 _ _ h1, hs6 _ _ h2, hs6 _ _ h3⟩
    rintro σ4 H4 ⟨z, y, rfl, h1, h2, h3⟩
    rw [txs_len, List.take_length, only_fk (by omega)] at h3
    refine ⟨_, rfl, bo, _, rfl, .inl (SqL.of h3), rfl, _, rfl, iteNS rfl ?_⟩
    refine ⟨_, rfl, N, rfl, by omega, fun H5 hs5 => ?_⟩
    refine ⟨_, rfl, _, "str", _, true, rfl, .str _, kit_str, _, rfl, iteF ?_⟩
    refine ⟨_, rfl, _, rfl, bo, _, _, _, rfl, rfl, SqL.of (hs5 _ _ h3), (rfl : atI [_] 0 = some _), rfl, _, rfl, iteNS rfl ?_⟩
    refine ⟨40, rfl, by omega, fun H6 hs6 => ⟨fk 40, rfl, by rw [fk_len]; omega, fun H7 hs7 => ⟨0, 40, rfl, by omega, by omega, by omega, fun H8 hs8 => ⟨rfl, _, rfl, ?_⟩⟩⟩⟩
    unfold fk
    rw [List.reverse_reverse]
    refine iteNS rfl ?_
    refine ⟨_, rfl, (pc 0 N).reverse, rfl, by rw [List.length_reverse, pc_length]; omega, fun H9 hs9 => ⟨_, rfl, 0, N, rfl, by omega, by omega, by omega, fun H10 hs10 => ⟨rfl, ?_⟩⟩⟩
    rw [List.reverse_reverse, decide_eq_true rfl]
    exact q _
  · obtain ⟨N, hN, hN2⟩ : ∃ N : Nat, c0 % 25 = (N : Int) ∧ N ≤ 39 := ⟨(c0 % 25).toNat, by omega, by omega⟩
    show tSeq _ _ _ _ _
    dsimp only
    rw [hN]
    refine ⟨_, rfl, N, rfl, by omega, fun r H1 hs1 hrn hr1 => ?_⟩
    intro d hd
    have hrd : r ≠ d := ne_of_none hr1 hd
    refine ⟨_, rfl, _, _, rfl, rfl, N + 1, (by show [V.int ((N : Int) + 1)] = [V.int ((N + 1 : Nat) : Int)]; rw [show ((N : Int) + 1) = ((N + 1 : Nat) : Int) by omega]), by omega, fun r2 H2 hs2 hr2n hr2 => ?_⟩
    refine ⟨r2, rfl, ⟨_, SqL.of hr2⟩, ?_⟩
    have hr1' : H2 r = some (.lst (txs (srt N))) := hs2 _ _ (by rw [upd_ne hrd]; exact hr1)
    have hd2 : H2 d = some (.dK []) := hs2 _ _ upd_same
    have hS2 : SqL K H2 a (ns.map V.int) := (hs1.trans ((same_new hd _).trans hs2)).seq hS
    refine for_list (xs := txs (srt (N + 1))) (fun i σ2 H3 => ∃ (z : Option V) (kvs : List (Key × V)), σ2 = [some (.ref a), some (.int (N : Int)), some (.ref r), some (.ref d), z, none, none, none] ∧ H3 = upd H2 d (.dK kvs) ∧ kvs.length ≤ i ∧ HasT kvs ((srt (N + 1)).take i)) ⟨none, [], rfl, (upd_id hd2).symm, Nat.le_refl _, HasT.nil⟩ ?_ ?_ ?_
    · rintro i σ2 H3 hi ⟨z, kvs, rfl, rfl, hkl, hk⟩
      exact SqL.of (by rw [upd_ne (ne_of hr2 hd2 (by intro z; cases z))]; exact hr2)
    · rintro i v σ2 H3 hv ⟨z, kvs, rfl, rfl, hkl, hk⟩
      obtain ⟨x, hx, rfl⟩ := txs_of hv
      have hi : i < (srt (N + 1)).length := (List.getElem?_eq_some_iff.mp hx).1
      rw [srt_len (by omega)] at hi
      refine ⟨_, rfl, _, rfl, d, _, rfl, DPut.k (k := Sum.inr (tx x)) upd_same (Nat.lt_of_le_of_lt hkl (small (by omega))), ?_⟩
      refine ⟨some (.str (tx x)), _, rfl, upd_upd, Nat.le_trans (length_putK _ _ _) (by omega), ?_⟩
      rw [List.take_add_one, hx, Option.toList_some]
      exact hk.put x _
    rintro σ3 H3 ⟨z, kvs, rfl, rfl, hkl, hk⟩
    rw [txs_len, List.take_length] at hk
    refine ⟨Nat.zero_le _, fun bo hbo => ?_⟩
    have hd3 : upd H2 d (HO.dK kvs) d = some (.dK kvs) := upd_same
    have hr3 : upd H2 d (HO.dK kvs) r = some (.lst (txs (srt N))) := by rw [upd_ne hrd]; exact hr1'
    have hbr : r ≠ bo := ne_of_none hr3 hbo
    have hbd : d ≠ bo := ne_of_none hd3 hbo
    generalize upd H2 d (HO.dK kvs) = H3 at hd3 hr3 hbo ⊢
    refine ⟨_, rfl, r, rfl, ⟨_, SqL.of (by rw [upd_ne hbr]; exact hr3)⟩, ?_⟩
    refine for_list (xs := txs (srt N)) (fun i σ2 H4 => ∃ (z y : Option V), σ2 = [some (.ref a), some (.int (N : Int)), some (.ref r), some (.ref d), z, some (.ref bo), y, none] ∧ H4 r = some (.lst (txs (srt N))) ∧ H4 d = some (.dK kvs) ∧ H4 bo = some (.lst (txs (((srt N).take i).filter (· == fk N))))) ⟨_, none, rfl, by rw [upd_ne hbr]; exact hr3, by rw [upd_ne hbd]; exact hd3, upd_same⟩ ?_ ?_ ?_
    · rintro i σ2 H4 hi ⟨z, y, rfl, h1, h2, h3⟩
      exact SqL.of h1
    · rintro i v σ2 H4 hv ⟨z, y, rfl, h1, h2, h3⟩
      obtain ⟨x, hx, rfl⟩ := txs_of hv
      have hi : i < (srt N).length := (List.getElem?_eq_some_iff.mp hx).1
      rw [srt_len (by omega)] at hi
      have hxf := srt_mem.mp (List.mem_of_getElem? hx)
      obtain ⟨xl, xab, _⟩ := facs_piece hxf
      obtain ⟨f1, f2, f3⟩ := fork_at (by omega) hxf
      have hA : ∀ c, (valV kvs (Sum.inr (tx (x ++ [c])))).isSome = decide (x ++ [c] ∈ facs (N + 1)) := fun c => by
        rw [hk (x ++ [c])]
        exact decide_eq_decide.mpr srt_mem
      refine ⟨_, rfl, x, [97], rfl, rfl, len_ok (by rw [xl]; simp; omega), _, rfl, d, _, rfl, DGet.k (k := Sum.inr (tx (x ++ [97]))) h2, .inr ⟨_, rfl, ?_⟩⟩
      refine ⟨_, rfl, x, [98], rfl, rfl, len_ok (by rw [xl]; simp; omega), _, rfl, d, _, rfl, DGet.k (k := Sum.inr (tx (x ++ [98]))) h2, .inr ⟨_, rfl, _, _, rfl, rfl, ?_⟩⟩
      rw [hA 97, hA 98]
      have hrev : inV (.str (tx x.reverse)) (txs (srt N)) = true := in_strs _ _ (srt_mem.mpr f1)
      have tk : ((srt N).take (i + 1)).filter (· == fk N) = ((srt N).take i).filter (· == fk N) ++ (if x = fk N then [x] else []) := by
        rw [List.take_add_one, hx, Option.toList_some, List.filter_append]
        congr 1
        by_cases e : x = fk N
        · rw [if_pos e, List.filter_cons_of_pos (by rw [e]; exact beq_self_eq_true _)]; rfl
        · rw [if_neg e, List.filter_cons_of_neg (by simpa using e)]; rfl
      by_cases e : x = fk N
      · obtain ⟨i1, i2⟩ := f3.mpr e
        rw [decide_eq_true i1, decide_eq_true i2]
        refine ⟨_, rfl, rfl, _, rfl, iteT ?_⟩
        refine ⟨_, rfl, .inl ⟨rfl, _, SqL.of h3⟩, _, rfl, bo, _, _, rfl, rfl, h3, ?_, ?_⟩
        · rw [txs_len]
          refine Nat.lt_of_le_of_lt (List.length_filter_le _ _) (Nat.lt_of_le_of_lt (List.length_take_le _ _) (small (by omega)))
        have g1 : upd H4 bo (.lst (txs (((srt N).take i).filter (· == fk N)) ++ [V.str (tx x)])) r = some (.lst (txs (srt N))) := by rw [upd_ne hbr]; exact h1
        have g2 : upd H4 bo (.lst (txs (((srt N).take i).filter (· == fk N)) ++ [V.str (tx x)])) d = some (.dK kvs) := by rw [upd_ne hbd]; exact h2
        have g3 : upd H4 bo (.lst (txs (((srt N).take i).filter (· == fk N)) ++ [V.str (tx x)])) bo = some (.lst (txs (((srt N).take (i + 1)).filter (· == fk N)))) := by
          rw [upd_same, tk, if_pos e]
          unfold txs
          rw [List.map_append]
          rfl
        refine ⟨_, rfl, rfl, _, rfl, iteF ?_⟩
        refine ⟨_, rfl, x, rfl, by omega, fun H6 hs6 => ⟨_, rfl, r, _, rfl, .inl (SqL.of (hs6 _ _ g1)), rfl, flat_strs _, _, rfl, ?_⟩⟩
        rw [hrev]
        refine iteF ⟨_, _, rfl, hs6 _ _ g1, hs6 _ _ g2, hs6 _ _ g3⟩
      · rw [if_neg e, List.append_nil] at tk
        have n2 : ¬ (x ++ [97] ∈ facs (N + 1) ∧ x ++ [98] ∈ facs (N + 1)) := fun z => e (f3.mp z)
        by_cases i1 : x ++ [97] ∈ facs (N + 1)
        · have i2 : ¬ x ++ [98] ∈ facs (N + 1) := fun z => n2 ⟨i1, z⟩
          rw [decide_eq_true i1, decide_eq_false i2]
          refine ⟨_, rfl, rfl, _, rfl, ?_⟩
          rw [← tk] at h3
          refine iteF ?_
          refine ⟨_, rfl, rfl, _, rfl, iteF ?_⟩
          refine ⟨_, rfl, x, rfl, by omega, fun H6 hs6 => ⟨_, rfl, r, _, rfl, .inl (SqL.of (hs6 _ _ h1)), rfl, flat_strs _, _, rfl, ?_⟩⟩
          rw [hrev]
          refine iteF ⟨_, _, rfl, hs6 _ _ h1, hs6 _ _ h2, hs6 _ _ h3⟩
        · have i2 : x ++ [98] ∈ facs (N + 1) := f2.resolve_left i1
          rw [decide_eq_false i1, decide_eq_true i2]
          refine ⟨_, rfl, rfl, _, rfl, ?_⟩
          rw [← tk] at h3
          refine iteF ?_
          refine ⟨_, rfl, rfl, _, rfl, iteF ?_⟩
          refine ⟨_, rfl, x, rfl, by omega, fun H6 hs6 => ⟨_, rfl, r, _, rfl, .inl (SqL.of (hs6 _ _ h1)), rfl, flat_strs _, _, rfl, ?_⟩⟩
          rw [hrev]
          refine iteF ⟨_, _, rfl, hs6 _ _ h1, hs6 _ _ h2, hs6 _ _ h3⟩
    rintro σ4 H4 ⟨z, y, rfl, h1, h2, h3⟩
    rw [txs_len, List.take_length, only_fk (by omega)] at h3
    refine ⟨_, rfl, bo, _, rfl, .inl (SqL.of h3), rfl, _, rfl, iteNS rfl ?_⟩
    refine ⟨_, rfl, N, rfl, by omega, fun H5 hs5 => ?_⟩
    refine ⟨_, rfl, _, "str", _, true, rfl, .str _, kit_str, _, rfl, iteF ?_⟩
    refine ⟨_, rfl, _, rfl, bo, _, _, _, rfl, rfl, SqL.of (hs5 _ _ h3), (rfl : atI [_] 0 = some _), rfl, _, rfl, iteNS rfl ?_⟩
    refine ⟨40, rfl, by omega, fun H6 hs6 => ⟨fk 40, rfl, by rw [fk_len]; omega, fun H7 hs7 => ⟨0, 40, rfl, by omega, by omega, by omega, fun H8 hs8 => ⟨rfl, _, rfl, ?_⟩⟩⟩⟩
    unfold fk
    rw [List.reverse_reverse]
    refine iteNS rfl ?_
    refine ⟨_, rfl, (pc 0 N).reverse, rfl, by rw [List.length_reverse, pc_length]; omega, fun H9 hs9 => ⟨_, rfl, 0, N, rfl, by omega, by omega, by omega, fun H10 hs10 => ⟨rfl, ?_⟩⟩⟩
    rw [List.reverse_reverse, decide_eq_true rfl]
    exact q _
end
/-! ### the program's top -/
theorem all_mk {l : PySem.W.OpenLaw} {w : World} {K : PySem.W.Frag} {h : Heap} {mg : Str → Option Value} {fa f1 f2 f3 f4 f5 f6 f7 f8 f9 f10 f11 : Addr} (X : K.In h) (G : h.Ns mainGlobals mg) (hfa : mg "law" = some (.ref fa))
    {od1 an1 od2 an2 od3 an3 od4 an4 od5 an5 od6 an6 od7 an7 od8 an8 od9 an9 od10 an10 od11 an11 : Option Addr} {sl1 sl2 sl3 sl4 sl5 sl6 sl7 sl8 sl9 sl10 sl11 : Array (Option Value)} {oc1 kV1 dc1 pm1 cd1 ct1 oc2 kV2 dc2 pm2 cd2 ct2 oc3 kV3 dc3 pm3 cd3 ct3 oc4 kV4 dc4 pm4 cd4 ct4 oc5 kV5 dc5 pm5 cd5 ct5 oc6 kV6 dc6 pm6 cd6 ct6 oc7 kV7 dc7 pm7 cd7 ct7 oc8 kV8 dc8 pm8 cd8 ct8 oc9 kV9 dc9 pm9 cd9 ct9 oc10 kV10 dc10 pm10 cd10 ct10 oc11 kV11 dc11 pm11 cd11 ct11 : Value}
    (a1 : PySem.W.nsIn K mainGlobals "row_of" = some (some (.ref f1))) (l1 : K.lookup f1 = some ⟨oc1, od1, .func (PySem.W.fnOf "row_of" "row_of" (defArgs s_row_of) (defBody s_row_of) (defScope s_row_of) .none kV1 dc1 pm1 an1 cd1 ct1), sl1⟩) (c1 : PySem.W.codeIn K cd1 "row_of" = true) (k1 : PySem.W.keepIn K (.ref f1) = true)
    (a2 : PySem.W.nsIn K mainGlobals "sign_at" = some (some (.ref f2))) (l2 : K.lookup f2 = some ⟨oc2, od2, .func (PySem.W.fnOf "sign_at" "sign_at" (defArgs s_sign_at) (defBody s_sign_at) (defScope s_sign_at) .none kV2 dc2 pm2 an2 cd2 ct2), sl2⟩) (c2 : PySem.W.codeIn K cd2 "sign_at" = true) (k2 : PySem.W.keepIn K (.ref f2) = true)
    (a3 : PySem.W.nsIn K mainGlobals "piece_at" = some (some (.ref f3))) (l3 : K.lookup f3 = some ⟨oc3, od3, .func (PySem.W.fnOf "piece_at" "piece_at" (defArgs s_piece_at) (defBody s_piece_at) (defScope s_piece_at) .none kV3 dc3 pm3 an3 cd3 ct3), sl3⟩) (c3 : PySem.W.codeIn K cd3 "piece_at" = true) (k3 : PySem.W.keepIn K (.ref f3) = true)
    (a4 : PySem.W.nsIn K mainGlobals "grown" = some (some (.ref f4))) (l4 : K.lookup f4 = some ⟨oc4, od4, .func (PySem.W.fnOf "grown" "grown" (defArgs s_grown) (defBody s_grown) (defScope s_grown) .none kV4 dc4 pm4 an4 cd4 ct4), sl4⟩) (c4 : PySem.W.codeIn K cd4 "grown" = true) (k4 : PySem.W.keepIn K (.ref f4) = true)
    (a5 : PySem.W.nsIn K mainGlobals "pieces_in" = some (some (.ref f5))) (l5 : K.lookup f5 = some ⟨oc5, od5, .func (PySem.W.fnOf "pieces_in" "pieces_in" (defArgs s_pieces_in) (defBody s_pieces_in) (defScope s_pieces_in) .none kV5 dc5 pm5 an5 cd5 ct5), sl5⟩) (c5 : PySem.W.codeIn K cd5 "pieces_in" = true) (k5 : PySem.W.keepIn K (.ref f5) = true)
    (a6 : PySem.W.nsIn K mainGlobals "beginning_with_all" = some (some (.ref f6))) (l6 : K.lookup f6 = some ⟨oc6, od6, .func (PySem.W.fnOf "beginning_with_all" "beginning_with_all" (defArgs s_beginning_with_all) (defBody s_beginning_with_all) (defScope s_beginning_with_all) .none kV6 dc6 pm6 an6 cd6 ct6), sl6⟩) (c6 : PySem.W.codeIn K cd6 "beginning_with_all" = true) (k6 : PySem.W.keepIn K (.ref f6) = true)
    (a7 : PySem.W.nsIn K mainGlobals "pieces_of" = some (some (.ref f7))) (l7 : K.lookup f7 = some ⟨oc7, od7, .func (PySem.W.fnOf "pieces_of" "pieces_of" (defArgs s_pieces_of) (defBody s_pieces_of) (defScope s_pieces_of) .none kV7 dc7 pm7 an7 cd7 ct7), sl7⟩) (c7 : PySem.W.codeIn K cd7 "pieces_of" = true) (k7 : PySem.W.keepIn K (.ref f7) = true)
    (a8 : PySem.W.nsIn K mainGlobals "fork_of" = some (some (.ref f8))) (l8 : K.lookup f8 = some ⟨oc8, od8, .func (PySem.W.fnOf "fork_of" "fork_of" (defArgs s_fork_of) (defBody s_fork_of) (defScope s_fork_of) .none kV8 dc8 pm8 an8 cd8 ct8), sl8⟩) (c8 : PySem.W.codeIn K cd8 "fork_of" = true) (k8 : PySem.W.keepIn K (.ref f8) = true)
    (a9 : PySem.W.nsIn K mainGlobals "_law_cell" = some (some (.ref f9))) (l9 : K.lookup f9 = some ⟨oc9, od9, .func (PySem.W.fnOf "_law_cell" "_law_cell" (defArgs s_law_cell) (defBody s_law_cell) (defScope s_law_cell) .none kV9 dc9 pm9 an9 cd9 ct9), sl9⟩) (c9 : PySem.W.codeIn K cd9 "_law_cell" = true) (k9 : PySem.W.keepIn K (.ref f9) = true)
    (a10 : PySem.W.nsIn K mainGlobals "_law_backward" = some (some (.ref f10))) (l10 : K.lookup f10 = some ⟨oc10, od10, .func (PySem.W.fnOf "_law_backward" "_law_backward" (defArgs s_law_backward) (defBody s_law_backward) (defScope s_law_backward) .none kV10 dc10 pm10 an10 cd10 ct10), sl10⟩) (c10 : PySem.W.codeIn K cd10 "_law_backward" = true) (k10 : PySem.W.keepIn K (.ref f10) = true)
    (a11 : PySem.W.nsIn K mainGlobals "law" = some (some (.ref f11))) (l11 : K.lookup f11 = some ⟨oc11, od11, .func (PySem.W.fnOf "law" "law" (defArgs s_law) (defBody s_law) (defScope s_law) .none kV11 dc11 pm11 an11 cd11 ct11), sl11⟩) (c11 : PySem.W.codeIn K cd11 "law" = true) (k11 : PySem.W.keepIn K (.ref f11) = true)
    (z_len : PySem.W.nsIn K mainGlobals "len" = some none) (z_isinstance : PySem.W.nsIn K mainGlobals "isinstance" = some none) (z_int : PySem.W.nsIn K mainGlobals "int" = some none) (z_bool : PySem.W.nsIn K mainGlobals "bool" = some none) (z_sum : PySem.W.nsIn K mainGlobals "sum" = some none) (z_max : PySem.W.nsIn K mainGlobals "max" = some none) (z_min : PySem.W.nsIn K mainGlobals "min" = some none) (z_range : PySem.W.nsIn K mainGlobals "range" = some none) (z_list : PySem.W.nsIn K mainGlobals "list" = some none) (z_tuple : PySem.W.nsIn K mainGlobals "tuple" = some none) (z_str : PySem.W.nsIn K mainGlobals "str" = some none) (z_zip : PySem.W.nsIn K mainGlobals "zip" = some none) (z_all : PySem.W.nsIn K mainGlobals "all" = some none) (z_reversed : PySem.W.nsIn K mainGlobals "reversed" = some none) (z_sorted : PySem.W.nsIn K mainGlobals "sorted" = some none) (z_any : PySem.W.nsIn K mainGlobals "any" = some none) (z_enumerate : PySem.W.nsIn K mainGlobals "enumerate" = some none) (z_divmod : PySem.W.nsIn K mainGlobals "divmod" = some none) (z_ValueError : PySem.W.nsIn K mainGlobals "ValueError" = some none) (z_set : PySem.W.nsIn K mainGlobals "set" = some none) :
    ∃ fd : FuncData, (∀ (s : Shared) (v : Value), BindsTo s fd ⟨[v], []⟩ [("script", v)]) ∧ ∀ base : Heap, K.In base → base.Ns mainGlobals mg → FnOk l.prog w K mg base CX0 9 fa fd ["script"] (spLaw K) := by
  have e := hfa.symm.trans (PySem.W.mg_of X G a11)
  cases e
  have F1 := fun_mk (st := s_row_of) l1 c1 k1
  have F2 := fun_mk (st := s_sign_at) l2 c2 k2
  have F3 := fun_mk (st := s_piece_at) l3 c3 k3
  have F4 := fun_mk (st := s_grown) l4 c4 k4
  have F5 := fun_mk (st := s_pieces_in) l5 c5 k5
  have F6 := fun_mk (st := s_beginning_with_all) l6 c6 k6
  have F7 := fun_mk (st := s_pieces_of) l7 c7 k7
  have F8 := fun_mk (st := s_fork_of) l8 c8 k8
  have F9 := fun_mk (st := s_law_cell) l9 c9 k9
  have F10 := fun_mk (st := s_law_backward) l10 c10 k10
  have F11 := fun_mk (st := s_law) l11 c11 k11
  have b1 := F1.binds (ps := ["number"]) fun _ _ _ _ _ _ us hl => match us, hl with | [_], _ => rfl
  have b2 := F2.binds (ps := ["k"]) fun _ _ _ _ _ _ us hl => match us, hl with | [_], _ => rfl
  have b3 := F3.binds (ps := ["k", "n"]) fun _ _ _ _ _ _ us hl => match us, hl with | [_, _], _ => rfl
  have b4 := F4.binds (ps := ["text"]) fun _ _ _ _ _ _ us hl => match us, hl with | [_], _ => rfl
  have b5 := F5.binds (ps := ["text", "n"]) fun _ _ _ _ _ _ us hl => match us, hl with | [_, _], _ => rfl
  have b6 := F6.binds (ps := ["n"]) fun _ _ _ _ _ _ us hl => match us, hl with | [_], _ => rfl
  have b7 := F7.binds (ps := ["n"]) fun _ _ _ _ _ _ us hl => match us, hl with | [_], _ => rfl
  have b8 := F8.binds (ps := ["n"]) fun _ _ _ _ _ _ us hl => match us, hl with | [_], _ => rfl
  have b9 := F9.binds (ps := ["script", "k"]) fun _ _ _ _ _ _ us hl => match us, hl with | [_, _], _ => rfl
  have b10 := F10.binds (ps := ["text"]) fun _ _ _ _ _ _ us hl => match us, hl with | [_], _ => rfl
  have b11 := F11.binds (ps := ["script"]) fun _ _ _ _ _ _ us hl => match us, hl with | [_], _ => rfl
  have m_len := PySem.W.mg_none_of X G z_len
  have m_isinstance := PySem.W.mg_none_of X G z_isinstance
  have m_int := PySem.W.mg_none_of X G z_int
  have m_bool := PySem.W.mg_none_of X G z_bool
  have m_sum := PySem.W.mg_none_of X G z_sum
  have m_max := PySem.W.mg_none_of X G z_max
  have m_min := PySem.W.mg_none_of X G z_min
  have m_range := PySem.W.mg_none_of X G z_range
  have m_list := PySem.W.mg_none_of X G z_list
  have m_tuple := PySem.W.mg_none_of X G z_tuple
  have m_str := PySem.W.mg_none_of X G z_str
  have m_zip := PySem.W.mg_none_of X G z_zip
  have m_all := PySem.W.mg_none_of X G z_all
  have m_reversed := PySem.W.mg_none_of X G z_reversed
  have m_sorted := PySem.W.mg_none_of X G z_sorted
  have m_any := PySem.W.mg_none_of X G z_any
  have m_enumerate := PySem.W.mg_none_of X G z_enumerate
  have m_divmod := PySem.W.mg_none_of X G z_divmod
  have m_ValueError := PySem.W.mg_none_of X G z_ValueError
  have m_set := PySem.W.mg_none_of X G z_set
  have m1 := PySem.W.mg_of X G a1
  have m2 := PySem.W.mg_of X G a2
  have m3 := PySem.W.mg_of X G a3
  have m4 := PySem.W.mg_of X G a4
  have m5 := PySem.W.mg_of X G a5
  have m6 := PySem.W.mg_of X G a6
  have m7 := PySem.W.mg_of X G a7
  have m8 := PySem.W.mg_of X G a8
  have m9 := PySem.W.mg_of X G a9
  have m10 := PySem.W.mg_of X G a10
  have m11 := PySem.W.mg_of X G a11
  refine ⟨PySem.W.fnOf "law" "law" (defArgs s_law) (defBody s_law) (defScope s_law) .none kV11 dc11 pm11 an11 cd11 ct11, fun s v => .of_eq rfl, fun base _ _ => ?_⟩
  have T : Blt mg := ⟨m_len, m_isinstance, m_int, m_bool, m_sum, m_max, m_min, m_range, m_list, m_tuple, m_str, m_zip, m_all, m_reversed, m_sorted, m_any, m_enumerate, m_divmod, m_ValueError, m_set⟩
  have R := cal_row_of (P := l.prog) (w := w) (base := base) (n := 4) T F1 b1 m1
  have S := cal_sign_at (P := l.prog) (w := w) (base := base) (n := 5) T F2 b2 m2 R
  have Pc := cal_piece_at (P := l.prog) (w := w) (base := base) (n := 6) T F3 b3 m3 S
  have G := cal_grown (P := l.prog) (w := w) (base := base) (n := 4) T F4 b4 m4
  have Pi := cal_pieces_in (P := l.prog) (w := w) (base := base) (n := 4) T F5 b5 m5
  have Be := cal_beginning_with_all (P := l.prog) (w := w) (base := base) (n := 5) T F6 b6 m6 Pi G
  have Po := cal_pieces_of (P := l.prog) (w := w) (base := base) (n := 6) T F7 b7 m7 (Pi.mono (by decide)) Be
  have Fo := cal_fork_of (P := l.prog) (w := w) (base := base) (n := 7) T F8 b8 m8 Pc
  have Ce := cal_law_cell (P := l.prog) (w := w) (base := base) (n := 6) T F9 b9 m9
  have Ba := cal_law_backward (P := l.prog) (w := w) (base := base) (n := 6) T F10 b10 m10
  exact ok_law T F11 (Po.mono (by decide)) (Pc.mono (by decide)) (Ce.mono (by decide)) Fo (Ba.mono (by decide))
theorem walk {l : PySem.W.OpenLaw} {q : Program} {loose : List Str} {XP : (Str → Option Value) → Heap → Prop} {YP : World → Heap → Prop} {d : DefRec} {K : Params → PySem.W.Frag} (hn : l.most = some 63) (hdf : d.params.defaults = [])
    (hY : ∀ (w : World) (h : Heap), YP w h → (K w.params).In h)
    (F : ∀ (w : World) (mg : Str → Option Value) (fa : Addr) (h : Heap), (K w.params).In h → h.Ns mainGlobals mg → mg d.name = some (.ref fa) →
      ∃ fd : FuncData, (∀ (s : Shared) (u : Value), BindsTo s fd ⟨[u], []⟩ [("script", u)]) ∧ ∀ base : Heap, (K w.params).In base → base.Ns mainGlobals mg → FnOk l.prog w (K w.params) mg base CX0 9 fa fd ["script"] (spLaw (K w.params))) :
    PySem.W.WalkO q loose XP YP l.row.toRowW d [] (fun f vs => PySem.call f vs) :=
  L2.walk_of (n := 63) (k := 9) (x := "script") (CX := fun _ => CX0) (sp := fun w => spLaw (K w.params)) hn (by decide) hdf ⟨rfl, by decide, by decide⟩ hY F (fun _ _ a ns hl _ hS => ⟨a, ns, rfl, hS, hl, fun _ => rfl⟩) fun _ _ _ _ _ z => z
end My
open PySem PySem.W PyProof.Rows
set_option maxRecDepth 100000 in
set_option maxHeartbeats 0 in
theorem PySem.Challenge.cw_twinless_k21_whole_forks_holds : PySem.Challenge.rw_twinless_k21_whole_forks.Holds := by
  w_on; o_law; k_head; (case hw => w_witness2)
  k_fill
  refine My.walk (l := PySem.Challenge.rw_twinless_k21_whole_forks) rfl rfl (fun w h Y => PySem.W.kIn_of Y) ?F
  case F =>
    intro w mg fa h KX G hmg
    refine' My.all_mk KX G hmg ?a1 ?l1 ?c1 ?k1 ?a2 ?l2 ?c2 ?k2 ?a3 ?l3 ?c3 ?k3 ?a4 ?l4 ?c4 ?k4 ?a5 ?l5 ?c5 ?k5 ?a6 ?l6 ?c6 ?k6 ?a7 ?l7 ?c7 ?k7 ?a8 ?l8 ?c8 ?k8 ?a9 ?l9 ?c9 ?k9 ?a10 ?l10 ?c10 ?k10 ?a11 ?l11 ?c11 ?k11 ?z_len ?z_isinstance ?z_int ?z_bool ?z_sum ?z_max ?z_min ?z_range ?z_list ?z_tuple ?z_str ?z_zip ?z_all ?z_reversed ?z_sorted ?z_any ?z_enumerate ?z_divmod ?z_ValueError ?z_set
    (case a1 => k_is); (case l1 => k_is); (case c1 => k_is); (case k1 => k_is)
    (case a2 => k_is); (case l2 => k_is); (case c2 => k_is); (case k2 => k_is)
    (case a3 => k_is); (case l3 => k_is); (case c3 => k_is); (case k3 => k_is)
    (case a4 => k_is); (case l4 => k_is); (case c4 => k_is); (case k4 => k_is)
    (case a5 => k_is); (case l5 => k_is); (case c5 => k_is); (case k5 => k_is)
    (case a6 => k_is); (case l6 => k_is); (case c6 => k_is); (case k6 => k_is)
    (case a7 => k_is); (case l7 => k_is); (case c7 => k_is); (case k7 => k_is)
    (case a8 => k_is); (case l8 => k_is); (case c8 => k_is); (case k8 => k_is)
    (case a9 => k_is); (case l9 => k_is); (case c9 => k_is); (case k9 => k_is)
    (case a10 => k_is); (case l10 => k_is); (case c10 => k_is); (case k10 => k_is)
    (case a11 => k_is); (case l11 => k_is); (case c11 => k_is); (case k11 => k_is)
    (case z_len => k_is)
    (case z_isinstance => k_is)
    (case z_int => k_is)
    (case z_bool => k_is)
    (case z_sum => k_is)
    (case z_max => k_is)
    (case z_min => k_is)
    (case z_range => k_is)
    (case z_list => k_is)
    (case z_tuple => k_is)
    (case z_str => k_is)
    (case z_zip => k_is)
    (case z_all => k_is)
    (case z_reversed => k_is)
    (case z_sorted => k_is)
    (case z_any => k_is)
    (case z_enumerate => k_is)
    (case z_divmod => k_is)
    (case z_ValueError => k_is)
    (case z_set => k_is)
#print axioms PySem.Challenge.cw_twinless_k21_whole_forks_holds
