import PyProof.Rows.All
import Wide.All
import OpenK.AllK
import Wide.FinOn
import Lean
import PyProof.EqAt
import PyProof.EqKinds
import PyProof.TupleCall
import PySem.Challenge.RW_twinless_k12_read_back
set_option Elab.async false
set_option linter.all false
set_option maxRecDepth 100000
/-! THE HAND LAYER, for ints, bools, texts, own classes, LISTS and tuples (index, slices, in, append, pop ..), calls, loops. Paste it whole ahead of your own text; what your proof does not reach may be deleted. -/
namespace L2
open PySem PySem.Spec PyProof.Rows

/-- a key: an int or a str -/
abbrev Key := Sum Int Str
def keyIs : Key → Value → Bool
  | .inl k, v => Value.isInt k v
  | .inr x, v => Value.isStrOf x v
def keyH (w : World) : Key → Int
  | .inl k => hashInt k
  | .inr x => hashStr w x
theorem keyIs_shape : ∀ {k : Key} {v : Value}, keyIs k v = true → (∃ i t, k = Sum.inl i ∧ v = Value.int i t) ∨ (∃ x t, k = Sum.inr x ∧ v = Value.str x t)
  | .inl i, v, h => by
    obtain ⟨t, e⟩ := Value.isInt_shape (k := i) (v := v) h
    exact .inl ⟨i, t, rfl, e⟩
  | .inr x, v, h => by
    obtain ⟨t, e⟩ := Value.isStrOf_shape (x := x) (v := v) h
    exact .inr ⟨x, t, rfl, e⟩
theorem keyIs_int (i : Int) (t : Tok) : keyIs (.inl i) (.int i t) = true := by simp [keyIs, Value.isInt]
theorem keyIs_str (x : Str) (t : Tok) : keyIs (.inr x) (.str x t) = true := by simp [keyIs, Value.isStrOf]
theorem key_ll (a b : Int) : decide ((Sum.inl a : Key) = Sum.inl b) = (a == b) := by
  by_cases e : a = b
  · subst e; simp
  · have h : ¬ (Sum.inl a : Key) = Sum.inl b := fun q => e (Sum.inl.inj q)
    rw [decide_eq_false h]
    exact (beq_eq_false_iff_ne.mpr e).symm
theorem key_rr (a b : Str) : decide ((Sum.inr a : Key) = Sum.inr b) = decide (a = b) := by
  by_cases e : a = b
  · subst e; simp
  · have h : ¬ (Sum.inr a : Key) = Sum.inr b := fun q => e (Sum.inr.inj q)
    rw [decide_eq_false h, decide_eq_false e]
theorem key_lr (a : Int) (b : Str) : decide ((Sum.inl a : Key) = Sum.inr b) = false := decide_eq_false (fun q => nomatch q)
theorem key_rl (a : Str) (b : Int) : decide ((Sum.inr a : Key) = Sum.inl b) = false := decide_eq_false (fun q => nomatch q)

def mixKind (prog : Program) (w : World) : PySem.KeyKind prog w Key where
  is := keyIs
  hash := keyH w
  inj := fun v a b ha hb => by
    rcases keyIs_shape ha with ⟨i, t, rfl, rfl⟩ | ⟨x, t, rfl, rfl⟩
    · rcases keyIs_shape hb with ⟨j, u, rfl, e⟩ | ⟨y, u, rfl, e⟩
      · injection e with e1 _; rw [e1]
      · exact nomatch e
    · rcases keyIs_shape hb with ⟨j, u, rfl, e⟩ | ⟨y, u, rfl, e⟩
      · exact nomatch e
      · injection e with e1 _; rw [e1]
  byValue := fun k v h => by
    rcases keyIs_shape h with ⟨i, t, rfl, rfl⟩ | ⟨x, t, rfl, rfl⟩ <;> rfl
  pyHash := fun hv h => by
    rcases keyIs_shape hv with ⟨i, t, rfl, rfl⟩ | ⟨x, t, rfl, rfl⟩
    · exact wpAny_pyHash_int h
    · exact wpAny_pyHash_str h
  eqBool := fun hu hv h => by
    rcases keyIs_shape hu with ⟨i, t, rfl, rfl⟩ | ⟨x, t, rfl, rfl⟩
    · rcases keyIs_shape hv with ⟨j, u, rfl, rfl⟩ | ⟨y, u, rfl, rfl⟩
      · rw [key_ll] at h; exact wpAny_eqBool_int h
      · rw [key_lr] at h; exact SeqAt.EqAt.int_str i t y u _ _ _ _ h
    · rcases keyIs_shape hv with ⟨j, u, rfl, rfl⟩ | ⟨y, u, rfl, rfl⟩
      · rw [key_rl] at h; exact SeqAt.EqAt.str_int x t j u _ _ _ _ h
      · rw [key_rr] at h; exact wpAny_eqBool_str h
  «strs» := fun k x t v h => by
    rcases keyIs_shape h with ⟨i, u, rfl, e⟩ | ⟨y, u, rfl, e⟩
    · exact nomatch e
    · injection e with e1 _
      subst e1
      cases v <;> rfl

theorem mixKind_is (prog : Program) (w : World) (k : Key) (v : Value) : (mixKind prog w).is k v = keyIs k v := rfl
theorem mixKind_int (prog : Program) (w : World) (i : Int) (t : Tok) : (mixKind prog w).is (.inl i) (.int i t) = true := keyIs_int i t
theorem mixKind_str (prog : Program) (w : World) (x : Str) (t : Tok) : (mixKind prog w).is (.inr x) (.str x t) = true := keyIs_str x t
end L2

namespace L2
open PySem PySem.Spec PyProof.Rows

/-- a value, without the heap -/
inductive V where
  | non | bl (b : Bool) | int (i : Int) | str (x : Str) | byt (b : Array UInt8) | flt (b : UInt64) | ref (a : Addr) | ty (n : String)
  deriving DecidableEq

def RelV : V → Value → Prop
  | .non, u => u = Value.none
  | .bl b, u => u = Value.bool b
  | .int i, u => ∃ t, u = Value.int i t
  | .str x, u => ∃ t, u = Value.str x t
  | .byt b, u => ∃ t, u = Value.bytes b t
  | .flt b, u => ∃ t, u = Value.float b t
  | .ref a, u => u = Value.ref a
  | .ty n, u => u = Value.type n

abbrev Vals : List V → List Value → Prop := Paired RelV
theorem Vals.length {xs : List V} {us : List Value} (r : Vals xs us) : xs.length = us.length := Paired.length r
theorem Vals.get : ∀ {xs : List V} {us : List Value} {i : Nat} {x : V}, Vals xs us → xs[i]? = some x → ∃ u, us[i]? = some u ∧ RelV x u
  | _, _, _, _, .nil, e => by simp at e
  | _, _, 0, _, .cons r _, e => by simp at e; subst e; exact ⟨_, rfl, r⟩
  | _, _, i + 1, x, .cons _ t, e => by
    obtain ⟨u, h1, h2⟩ := Vals.get (i := i) (x := x) t (by simpa using e)
    exact ⟨u, by simpa using h1, h2⟩
theorem Vals.set {x : V} {u : Value} (r : RelV x u) : ∀ {xs : List V} {us : List Value} (i : Nat), Vals xs us → Vals (xs.set i x) (us.set i u)
  | _, _, _, .nil => .nil
  | _, _, 0, .cons _ t => .cons r t
  | _, _, i + 1, .cons q t => .cons q (Vals.set r i t)
theorem Vals.append : ∀ {xs ys : List V} {us ws : List Value}, Vals xs us → Vals ys ws → Vals (xs ++ ys) (us ++ ws)
  | _, _, _, _, .nil, s => s
  | _, _, _, _, .cons r t, s => .cons r (Vals.append t s)
theorem Vals.take : ∀ {xs : List V} {us : List Value} (n : Nat), Vals xs us → Vals (xs.take n) (us.take n)
  | _, _, 0, _ => .nil
  | _, _, _ + 1, .nil => .nil
  | _, _, n + 1, .cons r t => .cons r (Vals.take n t)
theorem Vals.drop : ∀ {xs : List V} {us : List Value} (n : Nat), Vals xs us → Vals (xs.drop n) (us.drop n)
  | _, _, 0, r => r
  | _, _, _ + 1, .nil => .nil
  | _, _, n + 1, .cons _ t => Vals.drop n t
theorem Vals.none_of : ∀ {xs : List V} {us : List Value} {i : Nat}, Vals xs us → xs[i]? = none → us[i]? = none := fun {xs us i} r e => by
  have h1 := r.length
  have h2 : xs.length ≤ i := List.getElem?_eq_none_iff.mp e
  exact List.getElem?_eq_none_iff.mpr (by omega)

def RelO : Option V → Option Value → Prop
  | some v, some u => RelV v u
  | none, none => True
  | _, _ => False
def KV {κ : Type} : List (κ × V) → List (κ × Value) → Prop := Paired fun (p : κ × V) (q : κ × Value) => p.1 = q.1 ∧ RelV p.2 q.2

/-- a key of a dict (00_mix): an int or a text -/
def kV : Key → V
  | .inl i => .int i
  | .inr x => .str x

/-- what stands at a tracked address -/
inductive HO where
  /-- a list -/
  | lst (xs : List V)
  /-- a tuple (never changes) -/
  | tup (xs : List V)
  /-- a dict whose keys are ints and texts; one whose keys are tuples of ints and texts (the empty one is both) -/
  | dK (kvs : List (Key × V)) | dT (kvs : List (List Key × V))
  /-- a set of ints: its members, its size -/
  | set (S : Int → Bool) (n : Nat)
  /-- an instance of the class at C, its dict at dx, its attributes -/
  | ins (C dx : Addr) (fs : List (Str × V))
  /-- the dict of the instance at x -/
  | own (x : Addr)
  /-- the dict of an exception -/
  | xd (fs : List (Str × V))
  /-- a bound method, f of x -/
  | met (f x : Addr)
  /-- a range object lo, lo + 1, .. below hi -/
  | rng (lo hi : Int)
  /-- a thing that is known to the object (the script; a dict while a loop walks it): read, never written while it is so -/
  | frz (o : Obj) (u : HO)
  /-- a code object's table -/
  | tbl (ps : Array Value)
  /-- any other thing, by what is true of its one object (a def of one's own: SetO a S n := HO.ext fun h => ..) -/
  | ext (φ : Heap → Prop)

abbrev Hp := Addr → Option HO
def upd (H : Hp) (a : Addr) (o : HO) : Hp := fun b => if b = a then some o else H b
theorem upd_same {H : Hp} {a : Addr} {o : HO} : upd H a o a = some o := by unfold upd; rw [if_pos rfl]
theorem upd_ne {H : Hp} {a b : Addr} {o : HO} (h : b ≠ a) : upd H a o b = H b := by unfold upd; rw [if_neg h]
theorem upd_upd {H : Hp} {a : Addr} {o u : HO} : upd (upd H a o) a u = upd H a u := by
  funext b; unfold upd; split <;> rfl
/-- two objects of different content stand apart -/
theorem ne_of {H : Hp} {a b : Addr} {o u : HO} (h : H a = some o) (h' : H b = some u) (d : o ≠ u) : a ≠ b := by
  intro e; subst e; rw [h] at h'; exact d (Option.some.inj h')
theorem ne_of_none {H : Hp} {a b : Addr} {o : HO} (h : H a = some o) (h' : H b = none) : a ≠ b := by
  intro e; subst e; rw [h] at h'; cases h'

section
variable (P : Program) (w : World)
def ObjOk (H : Hp) (h : Heap) (a : Addr) : HO → Prop
  | .lst xs => xs.length ≤ sizeLine ∧ ∃ (its : List Value) (n : Nat), Vals xs its ∧ h.get? a = some { cls := .type "list", data := .seq its.toArray n }
  | .tup xs => xs.length ≤ sizeLine ∧ ∃ its : List Value, Vals xs its ∧ IsTup h a its.toArray
  | .dK kvs => kvs.length ≤ sizeLine ∧ (a == sysModules) = false ∧ ∃ vs, KV kvs vs ∧ h.DictOf (mixKind P w) a vs
  | .dT kvs => kvs.length ≤ sizeLine ∧ (a == sysModules) = false ∧ ∃ xs : List (List Key × Addr × Value),
      Paired (fun (p : List Key × V) (q : List Key × Addr × Value) => p.1 = q.1 ∧ H q.2.1 = some (.tup (p.1.map kV)) ∧ RelV p.2 q.2.2) kvs xs ∧
      ∃ o es ep, h.get? a = some o ∧ o.ExactDict ∧ o.data = .dict es ep ∧ es.toList = xs.map (entryOfKey (tupleKind (mixKind P w))) ∧ (xs.map (·.1)).Nodup
  | .set S n => h.SetOf (intKind P w) a S n
  | .ins C dx fs => H dx = some (.own a) ∧ fs.length ≤ 1000 ∧ dx ≠ a ∧ h.get? a = some (PySem.W.instObj C dx) ∧
      ∃ mA, h.Ns1 dx mA ∧ (∀ f, RelO (fs.lookup f) (mA f)) ∧ PySem.Within mA (fs.map (·.1))
  | .own _ => ∃ o, h.get? a = some o
  | .xd fs => ∃ mA, h.Ns1 a mA ∧ ∀ f, RelO (fs.lookup f) (mA f)
  | .rng lo hi => ∃ t u v, h.get? a = some { cls := .type "range", data := .fields #[.int lo t, .int hi u, .int 1 v] }
  | .frz o u => h.get? a = some o ∧ ObjOk H h a u
  | .tbl ps => h.get? a = some { cls := .none, data := .fields ps }
  | .met f x => h.get? a = some (PySem.W.methodObj (.ref f) (.ref x))
  | .ext φ => φ h ∧ (∃ o, h.get? a = some o) ∧ ∀ h1 h2 : Heap, φ h1 → (∀ o, h1.get? a = some o → h2.get? a = some o) → φ h2
/-- the abstract heap is held -/
def HOk (H : Hp) (h : Heap) : Prop := ∀ a o, H a = some o → ObjOk P w H h a o
end

section
variable {P : Program} {w : World} {H H' : Hp} {h h' : Heap} {a : Addr} {o : HO}
theorem ObjOk.lt (x : ObjOk P w H h a o) : a < h.objs.size := by
  cases o with
  | lst xs => obtain ⟨_, _, _, _, e⟩ := x; exact Heap.lt_size e
  | tup xs => obtain ⟨_, _, _, p⟩ := x; exact p.lt
  | dK kvs => obtain ⟨_, _, _, _, o, _, _, e, _⟩ := x; exact Heap.lt_size e
  | dT kvs => obtain ⟨_, _, _, _, o, _, _, e, _⟩ := x; exact Heap.lt_size e
  | set S n => obtain ⟨o, _, _, _, e, _⟩ := x; exact Heap.lt_size e
  | ins C dx fs => obtain ⟨_, _, _, e, _⟩ := x; exact Heap.lt_size e
  | own y => obtain ⟨_, e⟩ := x; exact Heap.lt_size e
  | xd fs => obtain ⟨_, ⟨_, _, _, e, _⟩, _⟩ := x; exact Heap.lt_size e
  | rng lo hi => obtain ⟨_, _, _, e⟩ := x; exact Heap.lt_size e
  | frz ob u => obtain ⟨e, _⟩ := x; exact Heap.lt_size e
  | tbl ps => exact Heap.lt_size (show h.get? a = some _ from x)
  | met f y => exact Heap.lt_size (show h.get? a = some _ from x)
  | ext φ => obtain ⟨_, ⟨_, e⟩, _⟩ := x; exact Heap.lt_size e
theorem Paired.mapP {α β : Type} {F G : α → β → Prop} : ∀ {l₁ : List α} {l₂ : List β}, Paired F l₁ l₂ → (∀ a b, F a b → G a b) → Paired G l₁ l₂
  | _, _, .nil, _ => .nil
  | _, _, .cons r t, f => .cons (f _ _ r) (Paired.mapP t f)
theorem Paired.imp' {α β : Type} {F G : α → β → Prop} (f : ∀ a b, F a b → G a b) {l₁ : List α} {l₂ : List β} (r : Paired F l₁ l₂) : Paired G l₁ l₂ := Paired.mapP r f
/-- what an object's description leans on: its own object, its own dict, the tuples -/
theorem ObjOk.stay (x : ObjOk P w H h a o) (k : ∀ b u, (b = a ∨ H b = some (.own a)) → h.get? b = some u → h'.get? b = some u)
    (ho : ∀ b, H b = some (.own a) → H' b = some (.own a)) (ht : ∀ b xs, H b = some (.tup xs) → H' b = some (.tup xs)) : ObjOk P w H' h' a o := by
  induction o with
  | lst xs => obtain ⟨z, its, n, r, e⟩ := x; exact ⟨z, its, n, r, k _ _ (.inl rfl) e⟩
  | tup xs => obtain ⟨z, its, r, ob, e, c⟩ := x; exact ⟨z, its, r, ob, k _ _ (.inl rfl) e, c⟩
  | dK kvs => obtain ⟨z, y, vs, r, ob, es, ep, e, c⟩ := x; exact ⟨z, y, vs, r, ob, es, ep, k _ _ (.inl rfl) e, c⟩
  | dT kvs =>
    obtain ⟨z, y, xs, r, ob, es, ep, e, c⟩ := x
    exact ⟨z, y, xs, Paired.mapP r fun p q z => ⟨z.1, ht _ _ z.2.1, z.2.2⟩, ob, es, ep, k _ _ (.inl rfl) e, c⟩
  | set S n => obtain ⟨ob, es, ep, t, e, c⟩ := x; exact ⟨ob, es, ep, t, k _ _ (.inl rfl) e, c⟩
  | ins C dx fs =>
    obtain ⟨d, z, ne, e, mA, ⟨od, es, ep, e2, c⟩, r⟩ := x
    exact ⟨ho _ d, z, ne, k _ _ (.inl rfl) e, mA, ⟨od, es, ep, k _ _ (.inr d) e2, c⟩, r⟩
  | own y => obtain ⟨ob, e⟩ := x; exact ⟨ob, k _ _ (.inl rfl) e⟩
  | xd fs => obtain ⟨mA, ⟨od, es, ep, e, c⟩, r⟩ := x; exact ⟨mA, ⟨od, es, ep, k _ _ (.inl rfl) e, c⟩, r⟩
  | rng lo hi => obtain ⟨t, u, v, e⟩ := x; exact ⟨t, u, v, k _ _ (.inl rfl) e⟩
  | frz ob u ih => obtain ⟨e, q⟩ := x; exact ⟨k _ _ (.inl rfl) e, ih q⟩
  | tbl ps =>
    have e : h.get? a = some { cls := .none, data := .fields ps } := x
    show h'.get? a = some { cls := .none, data := .fields ps }
    exact k a _ (.inl rfl) e
  | met f y =>
    have e : h.get? a = some (PySem.W.methodObj (.ref f) (.ref y)) := x
    show h'.get? a = some (PySem.W.methodObj (.ref f) (.ref y))
    exact k a _ (.inl rfl) e
  | ext φ => obtain ⟨p, ⟨o, e⟩, st⟩ := x; exact ⟨st _ _ p fun o q => k _ _ (.inl rfl) q, ⟨o, k _ _ (.inl rfl) e⟩, st⟩
theorem HOk.lt (x : HOk P w H h) (e : H a = some o) : a < h.objs.size := (x a o e).lt
theorem HOk.fresh (x : HOk P w H h) (e : h.objs.size ≤ a) : H a = none := by
  cases q : H a with
  | none => rfl
  | some u => exact absurd (Nat.lt_of_lt_of_le (x.lt q) e) (Nat.lt_irrefl _)
/-- every object of the heap is kept -/
theorem HOk.kept (x : HOk P w H h) (k : ∀ b u, h.get? b = some u → h'.get? b = some u) : HOk P w H h' := fun a o e =>
  (x a o e).stay (fun b u _ q => k b u q) (fun _ q => q) fun _ _ q => q
/-- a new object is laid and tracked -/
theorem HOk.laid (x : HOk P w H h) (k : ∀ b u, h.get? b = some u → h'.get? b = some u) (hp : h.objs.size ≤ a) (new : ObjOk P w (upd H a o) h' a o) : HOk P w (upd H a o) h' := fun b u e => by
  have hn := x.fresh hp
  by_cases hb : b = a
  · subst hb; rw [upd_same] at e; cases e; exact new
  · rw [upd_ne hb] at e
    exact (x b u e).stay (fun c v _ q => k c v q) (fun c q => by rw [upd_ne (ne_of_none q hn)]; exact q) fun c xs q => by rw [upd_ne (ne_of_none q hn)]; exact q
end

/-- what may be read as u: it is u, or a known u -/
def Rd (H : Hp) (a : Addr) (u : HO) : Prop := H a = some u ∨ ∃ o, H a = some (.frz o u)
theorem Rd.of {H : Hp} {a : Addr} {u : HO} (h : H a = some u) : Rd H a u := .inl h
theorem Rd.ok {P : Program} {w : World} {H : Hp} {h : Heap} {a : Addr} {u : HO} (r : Rd H a u) (x : HOk P w H h) : ObjOk P w H h a u := by
  rcases r with r | ⟨o, r⟩
  · exact x a u r
  · obtain ⟨_, q⟩ := x a _ r
    exact q
/-- what may be written -/
def Mut : Option HO → Prop
  | some (.lst _) => True
  | some (.dK _) => True
  | some (.dT _) => True
  | some (.set _ _) => True
  | some (.ins _ _ _) => True
  | some (.ext _) => True
  | _ => False
section
variable {P : Program} {w : World} {H : Hp} {h h' : Heap} {x e : Addr} {o' : HO}
/-- the object at e is changed: x itself, or the dict of the instance x -/
theorem HOk.write (ok : HOk P w H h) (mu : Mut (H x)) (he : e = x ∨ H e = some (.own x)) (k : ∀ b u, b ≠ e → h.get? b = some u → h'.get? b = some u) (heo : ∃ u, h'.get? e = some u)
    (new : ObjOk P w (upd H x o') h' x o') : HOk P w (upd H x o') h' := fun b u q => by
  have nown : ∀ c y, H c = some (.own y) → c ≠ x := fun c y r z => by subst z; rw [r] at mu; exact mu
  have ntup : ∀ c xs, H c = some (.tup xs) → c ≠ x := fun c xs r z => by subst z; rw [r] at mu; exact mu
  by_cases hb : b = x
  · subst hb; rw [upd_same] at q; cases q; exact new
  · rw [upd_ne hb] at q
    by_cases hbe : b = e
    · have q' : H b = some (.own x) := by
        rcases he with z | z
        · exact absurd (hbe.trans z) hb
        · rw [hbe]; exact z
      rw [q] at q'; cases q'
      obtain ⟨v, hv⟩ := heo
      exact ⟨v, by rw [hbe]; exact hv⟩
    · refine (ok b u q).stay (fun c v hc r => k c v ?_ r) (fun c r => by rw [upd_ne (nown c b r)]; exact r) fun c xs r => by rw [upd_ne (ntup c xs r)]; exact r
      rcases hc with rfl | hc
      · exact hbe
      · rintro rfl
        rcases he with z | z
        · exact nown c b hc z
        · rw [hc] at z; cases z; exact hb rfl
end

/-! ### kept unless tracked; of the frames at fs (the callers') the slots may change (an exception that passes writes there); of the records at ex (iterators) nothing is said -/
structure Un (fs ex : List Addr) (H H' : Hp) (h h' : Heap) : Prop where
  keep : ∀ b o, h.get? b = some o → H b = none → b ∉ fs → b ∉ ex → h'.get? b = some o
  slot : ∀ b o, h.get? b = some o → H b = none → b ∈ fs → b ∉ ex → ∃ sl, h'.get? b = some { o with slots := sl }
  free : ∀ b o, h.get? b = some o → H b = none → b ∉ ex → H' b = none
  there : ∀ b o, h.get? b = some o → b ∉ ex → ∃ o', h'.get? b = some o'
  tups : ∀ b xs, H b = some (.tup xs) → H' b = some (.tup xs)
  frzs : ∀ b o u, H b = some (.frz o u) → H' b = some (.frz o u)
  tbls : ∀ b ps, H b = some (.tbl ps) → ∃ more, H' b = some (.tbl (ps ++ more))
section
variable {fs fs' ex ex' : List Addr} {H H1 H2 : Hp} {h h1 h2 h' : Heap} {a x e : Addr} {o : HO}
theorem Un.any (u : Un fs ex H H1 h h1) {b : Addr} {ob : Obj} (q : h.get? b = some ob) (n : H b = none) (hx : b ∉ ex) : ∃ sl, h1.get? b = some { ob with slots := sl } := by
  by_cases hb : b ∈ fs
  · exact u.slot b ob q n hb hx
  · exact ⟨ob.slots, u.keep b ob q n hb hx⟩
theorem Un.trans (a : Un fs ex H H1 h h1) (b : Un fs ex H1 H2 h1 h2) : Un fs ex H H2 h h2 where
  keep := fun c ob q n hc hx => b.keep c ob (a.keep c ob q n hc hx) (a.free c ob q n hx) hc hx
  slot := fun c ob q n hc hx => by
    obtain ⟨sl, e1⟩ := a.slot c ob q n hc hx
    obtain ⟨sl', e2⟩ := b.slot c _ e1 (a.free c ob q n hx) hc hx
    exact ⟨sl', e2⟩
  free := fun c ob q n hx => by
    obtain ⟨o', e1⟩ := a.there c ob q hx
    exact b.free c o' e1 (a.free c ob q n hx) hx
  there := fun c ob q hx => by
    obtain ⟨o', e1⟩ := a.there c ob q hx
    exact b.there c o' e1 hx
  tups := fun c xs q => b.tups c xs (a.tups c xs q)
  frzs := fun c ob xs q => b.frzs c ob xs (a.frzs c ob xs q)
  tbls := fun c ps q => by
    obtain ⟨m1, e1⟩ := a.tbls c ps q
    obtain ⟨m2, e2⟩ := b.tbls c _ e1
    exact ⟨m1 ++ m2, by rw [e2, Array.append_assoc]⟩
theorem Un.kept (k : ∀ b u, h.get? b = some u → h'.get? b = some u) : Un fs ex H H h h' :=
  ⟨fun b ob q _ _ _ => k b ob q, fun b ob q _ _ _ => ⟨ob.slots, k b ob q⟩, fun _ _ _ n _ => n, fun b ob q _ => ⟨ob, k b ob q⟩, fun _ _ q => q, fun _ _ _ q => q, fun _ ps q => ⟨#[], by rw [q]; simp⟩⟩
theorem Un.refl : Un fs ex H H h h := Un.kept fun _ _ q => q
theorem Un.laid (k : ∀ b u, h.get? b = some u → h'.get? b = some u) (hp : h.objs.size ≤ a) (hn : H a = none) : Un fs ex H (upd H a o) h h' where
  keep := fun b u q _ _ _ => k b u q
  slot := fun b u q _ _ _ => ⟨u.slots, k b u q⟩
  free := fun b u q n _ => by rw [upd_ne (Nat.ne_of_lt (Nat.lt_of_lt_of_le (Heap.lt_size q) hp))]; exact n
  there := fun b u q _ => ⟨u, k b u q⟩
  tups := fun b xs q => by rw [upd_ne (ne_of_none q hn)]; exact q
  frzs := fun b u xs q => by rw [upd_ne (ne_of_none q hn)]; exact q
  tbls := fun b ps q => ⟨#[], by rw [upd_ne (ne_of_none q hn), q]; simp⟩
theorem Un.write (mu : Mut (H x)) (he : e = x ∨ H e = some (.own x)) (k : ∀ b u, b ≠ e → h.get? b = some u → h'.get? b = some u) (heo : ∃ u, h'.get? e = some u) : Un fs ex H (upd H x o) h h' := by
  have hx : ∀ b, H b = none → b ≠ x := fun b n z => by subst z; rw [n] at mu; exact mu
  have hb : ∀ b, H b = none → b ≠ e := fun b n z => by
    subst z
    rcases he with r | r
    · exact hx b n r
    · rw [n] at r; cases r
  have hm : ∀ b u, H b = some u → ¬ Mut (some u) → b ≠ x := fun b u q nm z => by subst z; rw [q] at mu; exact nm mu
  refine ⟨fun b u q n _ _ => k b u (hb b n) q, fun b u q n _ _ => ⟨u.slots, k b u (hb b n) q⟩, fun b u q n _ => by rw [upd_ne (hx b n)]; exact n, fun b u q _ => ?_,
    fun b xs q => by rw [upd_ne (hm b _ q fun z => z)]; exact q, fun b u xs q => by rw [upd_ne (hm b _ q fun z => z)]; exact q, fun b ps q => ⟨#[], by rw [upd_ne (hm b _ q fun z => z), q]; simp⟩⟩
  by_cases hbe : b = e
  · subst hbe; exact heo
  · exact ⟨u, k b u hbe q⟩
theorem Un.mono (u : Un fs ex H H1 h h1) (hs : ∀ b ∈ fs, b ∈ fs') (hx : ∀ b ∈ ex, b ∈ ex') : Un fs' ex' H H1 h h1 :=
  ⟨fun b ob q n hb he => u.keep b ob q n (fun z => hb (hs b z)) fun z => he (hx b z), fun _ _ q n _ he => u.any q n fun z => he (hx _ z), fun b ob q n he => u.free b ob q n fun z => he (hx b z), fun b ob q he => u.there b ob q fun z => he (hx b z), u.tups, u.frzs, u.tbls⟩
end

/-! ### the heap without what is tracked -/
def trk (h : Heap) (H : Hp) : List Addr := (List.range h.objs.size).filter fun a => (H a).isSome
def hidT (h : Heap) (H : Hp) : Heap := PySem.W.hideAll h (trk h H)
theorem hidT_size (h : Heap) (H : Hp) : (hidT h H).objs.size = h.objs.size := PySem.W.hideAll_size _ _
theorem hidT_get {h : Heap} {H : Hp} {b : Addr} {o : Obj} (e : h.get? b = some o) (n : H b = none) : (hidT h H).get? b = some o :=
  PySem.W.hideAll_get _ e fun hm => by
    have q : (H b).isSome = true := (List.mem_filter.mp hm).2
    rw [n] at q; simp at q
theorem of_hidT {h : Heap} {H : Hp} {b : Addr} {o : Obj} (e : (hidT h H).get? b = some o) : h.get? b = some o ∧ H b = none := by
  have e' : h.get? b = some o := PySem.W.of_hideAll (trk h H) e
  refine ⟨e', ?_⟩
  cases q : H b with
  | none => rfl
  | some x =>
    have hm : b ∈ trk h H := List.mem_filter.mpr ⟨List.mem_range.mpr (Heap.lt_size e'), by simp [q]⟩
    have z : (hidT h H).get? b = none := PySem.W.hideAll_none (trk h H) hm
    rw [z] at e; cases e

/-! ### OpenK's ledger, filled with every new object but one -/
def allNews (g h : Heap) (L : Addr) : List (Addr × Obj) := (List.range h.objs.size).filterMap fun a => if a = L ∨ (g.get? a).isSome = true then none else (h.get? a).map fun o => (a, o)
theorem mem_allNews {g h : Heap} {L a : Addr} {o : Obj} (h1 : a ≠ L) (h2 : g.get? a = none) (h3 : h.get? a = some o) : (a, o) ∈ allNews g h L :=
  List.mem_filterMap.mpr ⟨a, List.mem_range.mpr (Heap.lt_size h3), by simp [h1, h2, h3]⟩
theorem of_mem_allNews {g h : Heap} {L : Addr} {p : Addr × Obj} (hp : p ∈ allNews g h L) : p.1 ≠ L ∧ g.get? p.1 = none ∧ h.get? p.1 = some p.2 := by
  obtain ⟨b, _, e⟩ := List.mem_filterMap.mp hp
  split at e
  · cases e
  · rename_i hn
    cases q : h.get? b with
    | none => rw [q] at e; simp at e
    | some u =>
      rw [q] at e
      simp only [Option.map_some, Option.some.injEq] at e
      subst e
      refine ⟨fun z => hn (.inl z), ?_, q⟩
      show g.get? b = none
      cases r : g.get? b with
      | none => rfl
      | some v => exact (hn (.inr (by simp [r]))).elim
def rest (g h : Heap) (L d : Addr) : List (Addr × Obj) := (allNews g h L).filter fun p => decide (p.1 ≠ d)
theorem rest_ne {g h : Heap} {L d : Addr} : ∀ p ∈ rest g h L d, p.1 ≠ d := fun p hp => of_decide_eq_true (List.mem_filter.mp hp).2
theorem mem_rest {g h : Heap} {L d a : Addr} {o : Obj} (h1 : a ≠ L) (h2 : g.get? a = none) (h3 : h.get? a = some o) (h4 : a ≠ d) : (a, o) ∈ rest g h L d :=
  List.mem_filter.mpr ⟨mem_allNews h1 h2 h3, decide_eq_true h4⟩
theorem news_all {g h : Heap} {L : Addr} : News g L h (allNews g h L) := fun p hp => let ⟨a, b, c⟩ := of_mem_allNews hp; ⟨c, a, b⟩
theorem news_at {g h : Heap} {L d : Addr} {o : Obj} (h1 : d ≠ L) (h2 : g.get? d = none) (h3 : h.get? d = some o) : News g L h ((d, o) :: rest g h L d) := fun p hp => by
  rcases List.mem_cons.mp hp with rfl | hp
  · exact ⟨h3, h1, h2⟩
  · exact news_all p (List.mem_filter.mp hp).1
/-- behind a rule that changed d alone: all else but the frame is kept -/
theorem kept_of_news {g h h' : Heap} {L d : Addr} {m : Str → Option Value} (k : ∀ b o, g.get? b = some o → h.get? b = some o) (F : Fr g L h' m) (N : News g L h' (rest g h L d)) :
    ∀ b o, b ≠ L → b ≠ d → h.get? b = some o → h'.get? b = some o := fun b o h1 h2 e => by
  cases q : g.get? b with
  | some u =>
    have := k b u q
    rw [e] at this; cases this
    exact F.keep b _ q
  | none => exact (N (b, o) (mem_rest h1 q e h2)).1
end L2

namespace L2
open PySem PySem.Spec PyProof.Rows

/-- the module's facts, over the base: the heap at the law's entry without what is tracked there -/
structure Mod (K : PySem.W.Frag) (mg : Str → Option Value) (base : Heap) : Prop where
  kin : K.In base
  glob : base.Ns mainGlobals mg
  blt : ∃ mb, base.Ns builtinsNs mb ∧ ∀ x : Str, x ≠ "__name__" → mb x = bootBuiltins x
  nolimit : base.NoLimit

/-- the context: a def's body (or a comprehension's block) running. base: fixed through the whole law; s₀, H₀: the entry; outer: the frames whose slots others may change (a def's callers); stack: all frames that run;
   ex: iterators that were made ahead of the entry and are walked here (a comprehension's); fn: the names whose cells were made at the entry (a def: all; a comprehension's block: its own); calm: not within an except suite; pn: pins that every state bears; xe: what is wanted of an exception that leaves the code -/
structure Cx where
  prog : Program
  w : World
  K : PySem.W.Frag
  mg : Str → Option Value
  base : Heap
  A : Around
  N : List Str
  s₀ : Shared
  H₀ : Hp
  env : Env
  outer : List Env
  stack : List Env
  ex : List Addr
  fn : Str → Bool
  calm : Bool
  pn : List (Addr × Obj)
  xe : Value → Shared → Prop
/-- the callers' frames -/
def frs (l : List Env) : List Addr := l.filterMap (·.frame)
abbrev Cx.fs (X : Cx) : List Addr := frs X.outer

def Vis (sc : Scope) (x : Str) : Prop := sc.names.lookup x = some .local ∨ sc.names.lookup x = some .cell ∨ sc.names.lookup x = some .free
def Loc (sc : Scope) (x : Str) : Prop := sc.names.lookup x = some .local ∨ sc.names.lookup x = some .cell
def Look (env : Env) (h : Heap) (m : Str → Option Value) (x : Str) (u : Value) : Prop :=
  (env.kindOf x = some .local ∧ m x = some u) ∨ ((env.kindOf x = some .cell ∨ env.kindOf x = some .free) ∧ ∃ c, env.cells.lookup x = some c ∧ h.IsCell c (some u))

structure Cx.Ok (X : Cx) : Prop where
  mod : Mod X.K X.mg X.base
  kind : X.env.scope.kind = .function
  glob : X.env.globals = mainGlobals
  blt : X.env.builtins = builtinsNs
  above : X.s₀.heap.objs.size ≤ X.env.locals
  inj : ∀ x y c, X.env.cells.lookup x = some c → X.env.cells.lookup y = some c → x = y
  has : ∀ x, (X.env.kindOf x = some .cell ∨ X.env.kindOf x = some .free) → ∃ c, X.env.cells.lookup x = some c
  cab : ∀ x c, X.fn x = true → X.env.cells.lookup x = some c → X.s₀.heap.objs.size ≤ c
  hd : X.calm = true → X.A.handled = none
  frames : X.A.frames = some X.stack
  stk : X.stack = X.outer ∨ (X.stack = X.env :: X.outer ∧ X.env.frame = some X.env.locals)
  exf : ∀ b ∈ X.ex, b ≠ X.env.locals ∧ ∀ x c, X.env.cells.lookup x = some c → c ≠ b
  bs : ∀ b o, X.base.get? b = some o → X.s₀.heap.get? b = some o ∧ X.H₀ b = none
  bsz : X.base.objs.size ≤ X.s₀.heap.objs.size
  noex : ∀ b o, X.base.get? b = some o → b ∉ X.ex
  exfs : ∀ b ∈ X.ex, b ∉ X.fs
  funs : X.s₀.heap.FunFrames X.base X.outer
  frf : ∀ b ∈ X.fs, X.H₀ b = none

structure Inv (X : Cx) (pins : List (Addr × Obj)) (σ : List (Option V)) (H : Hp) (s : Shared) : Prop where
  ok : X.Ok
  os : s.os = X.s₀.os
  bare : AllBare s.gens
  base : Un X.fs X.ex X.H₀ H X.s₀.heap s.heap
  loc : ∃ m, s.heap.Ns X.env.locals m ∧ ∀ (i : Nat) (x : Str) (v : V), X.N[i]? = some x → σ[i]? = some (some v) → Vis X.env.scope x → ∃ u, RelV v u ∧ Look X.env s.heap m x u
  cell : ∀ x c, X.env.cells.lookup x = some c → ∃ v, s.heap.IsCell c v
  free : H X.env.locals = none
  freeC : ∀ x c, X.env.cells.lookup x = some c → H c = none
  pin : ∀ p ∈ X.pn ++ pins, s.heap.get? p.1 = some p.2 ∧ H p.1 = none ∧ p.1 ≠ X.env.locals ∧ p.1 ∉ X.fs ∧ ∀ v, p.2.data ≠ .cell v
  hok : HOk X.prog X.w H s.heap
  len : σ.length = X.N.length

section
variable {X : Cx} {pins : List (Addr × Obj)} {σ : List (Option V)} {H H' : Hp} {s : Shared} {h' : Heap}

theorem Cx.Ok.nofr (ok : X.Ok) {b : Addr} {o : Obj} (e : X.base.get? b = some o) : b ∉ X.fs := fun hb => by
  have := (ok.funs.mem hb).1
  rw [e] at this; cases this
theorem Inv.bs (I : Inv X pins σ H s) : ∀ b o, X.base.get? b = some o → s.heap.get? b = some o ∧ H b = none := fun b o e =>
  ⟨I.base.keep b o (I.ok.bs b o e).1 (I.ok.bs b o e).2 (I.ok.nofr e) (I.ok.noex b o e), I.base.free b o (I.ok.bs b o e).1 (I.ok.bs b o e).2 (I.ok.noex b o e)⟩
theorem Inv.bk (I : Inv X pins σ H s) : ∀ b o, X.base.get? b = some o → s.heap.get? b = some o := fun b o e => (I.bs b o e).1
theorem Inv.mod (I : Inv X pins σ H s) : Mod X.K X.mg X.base := I.ok.mod
theorem Inv.kIn (I : Inv X pins σ H s) : X.K.In s.heap := I.ok.mod.kin.keeps I.bk
theorem Inv.nolimit (I : Inv X pins σ H s) : s.heap.NoLimit := I.ok.mod.nolimit.keeps I.bk
/-- the frame over the base: for OpenK's rules (K.In X.base is I.mod.kin) -/
theorem Inv.fr (I : Inv X pins σ H s) : ∃ m, Fr X.base X.env.locals s.heap m :=
  let ⟨m, hn, _⟩ := I.loc
  ⟨m, hn, I.bk, Nat.le_trans I.ok.bsz I.ok.above⟩
theorem Inv.lt (I : Inv X pins σ H s) : X.env.locals < s.heap.objs.size := let ⟨_, hn, _⟩ := I.loc; hn.lt
theorem Inv.sz (I : Inv X pins σ H s) : X.s₀.heap.objs.size ≤ s.heap.objs.size := Nat.le_trans I.ok.above (Nat.le_of_lt I.lt)
theorem Inv.nofs (I : Inv X pins σ H s) {a : Addr} (h : s.heap.objs.size ≤ a) : a ∉ X.fs := fun hb => by
  obtain ⟨_, o, ho, _⟩ := I.ok.funs.mem hb
  exact absurd (Nat.lt_of_lt_of_le (Heap.lt_size ho) (Nat.le_trans I.sz h)) (Nat.lt_irrefl _)
theorem Inv.cne (I : Inv X pins σ H s) : ∀ x c, X.env.cells.lookup x = some c → c ≠ X.env.locals := fun x c e z => by
  obtain ⟨v, o, ho, hd⟩ := I.cell x c e
  obtain ⟨m, ⟨o', es, ep, ho', hd', _⟩, _⟩ := I.loc
  rw [z, ho'] at ho; cases ho; rw [hd'] at hd; cases hd
theorem Inv.funs (I : Inv X pins σ H s) : s.heap.FunFrames X.base X.outer := by
  have all : ∀ (l : List Env), (∀ b ∈ frs l, b ∈ X.fs) → X.s₀.heap.FunFrames X.base l → s.heap.FunFrames X.base l := by
    intro l
    induction l with
    | nil => intro _ _; trivial
    | cons env r ih =>
      intro hs hl
      obtain ⟨hk, ⟨L, o, hf, hn, ho, hd⟩, hr⟩ := hl
      have hL : L ∈ X.fs := hs L (by unfold frs; rw [List.filterMap_cons, hf]; exact List.mem_cons_self)
      obtain ⟨sl, e⟩ := I.base.slot L o ho (I.ok.frf L hL) hL fun z => I.ok.exfs L z hL
      exact ⟨hk, ⟨L, _, hf, hn, e, hd⟩, ih (fun b hb => hs b (by unfold frs; rw [List.filterMap_cons, hf]; exact List.mem_cons_of_mem _ hb)) hr⟩
  exact all X.outer (fun _ hb => hb) I.ok.funs

/-- the frames that run, for a call -/
theorem Inv.stack (I : Inv X pins σ H s) : s.heap.FunFrames X.base X.stack := by
  rcases I.ok.stk with e | ⟨e, hf⟩
  · rw [e]; exact I.funs
  · rw [e]
    obtain ⟨m, hn, _⟩ := I.loc
    refine .cons (by rw [I.ok.kind]; decide) hf hn ?_ I.funs
    exact Heap.get?_none_of_le (Nat.le_trans I.ok.bsz I.ok.above)
theorem Inv.stkSub (I : Inv X pins σ H s) : ∀ b ∈ frs X.stack, b ∈ X.env.locals :: X.fs := fun b hb => by
  rcases I.ok.stk with e | ⟨e, hf⟩
  · rw [e] at hb; exact List.mem_cons_of_mem _ hb
  · rw [e] at hb
    unfold frs at hb
    rw [List.filterMap_cons, hf] at hb
    exact hb
theorem Inv.stkFree (I : Inv X pins σ H s) : ∀ b ∈ frs X.stack, H b = none := fun b hb => by
  rcases List.mem_cons.mp (I.stkSub b hb) with e | hb
  · rw [e]; exact I.free
  · obtain ⟨_, o, ho, _⟩ := I.ok.funs.mem hb
    exact I.base.free b o ho (I.ok.frf b hb) fun z => I.ok.exfs b z hb

/-- THE STEP: the untracked objects but the frame and the records at ch are kept (the callers' frames up to slots), the frame's map is kept, the new abstract heap is held -/
theorem Inv.step {g' : Array GenState} {t' : Nat} {d' : Drawn} {ch : List Addr} (I : Inv X pins σ H s)
    (hch : ∀ b ∈ ch, (b ∈ X.ex ∨ X.s₀.heap.objs.size ≤ b) ∧ b ≠ X.env.locals ∧ (∀ x c, X.env.cells.lookup x = some c → c ≠ b) ∧ ∀ p ∈ X.pn ++ pins, p.1 ≠ b)
    (keep : ∀ b o, b ≠ X.env.locals → b ∉ X.fs → b ∉ ch → s.heap.get? b = some o → H b = none → h'.get? b = some o)
    (slot : ∀ b o, b ≠ X.env.locals → b ∈ X.fs → b ∉ ch → s.heap.get? b = some o → H b = none → ∃ sl, h'.get? b = some { o with slots := sl }) (free : ∀ b o, b ∉ ch → s.heap.get? b = some o → H b = none → H' b = none)
    (there : ∀ b o, b ∉ ch → s.heap.get? b = some o → ∃ o', h'.get? b = some o')
    (tups : ∀ b xs, H b = some (.tup xs) → H' b = some (.tup xs)) (frzs : ∀ b o u, H b = some (.frz o u) → H' b = some (.frz o u)) (tbls : ∀ b ps, H b = some (.tbl ps) → ∃ more, H' b = some (.tbl (ps ++ more)))
    (ns : ∀ m, s.heap.Ns X.env.locals m → h'.Ns X.env.locals m) (hok : HOk X.prog X.w H' h') (hg : AllBare g') :
    Inv X pins σ H' { s with heap := h', gens := g', drawn := d', toks := t' } := by
  have neL : ∀ b o, X.s₀.heap.get? b = some o → b ≠ X.env.locals := fun b o e => Nat.ne_of_lt (Nat.lt_of_lt_of_le (Heap.lt_size e) I.ok.above)
  have neC : ∀ b o, X.s₀.heap.get? b = some o → b ∉ X.ex → b ∉ ch := fun b o e hx hb => by
    rcases (hch b hb).1 with z | z
    · exact hx z
    · exact absurd (Nat.lt_of_lt_of_le (Heap.lt_size e) z) (Nat.lt_irrefl _)
  have cellK : ∀ x c, X.env.cells.lookup x = some c → ∀ v, s.heap.IsCell c v → h'.IsCell c v := fun x c e v ⟨o, ho, hd⟩ => by
    have nch : c ∉ ch := fun z => (hch c z).2.2.1 x c e rfl
    by_cases hc : c ∈ X.fs
    · obtain ⟨sl, q⟩ := slot c o (I.cne x c e) hc nch ho (I.freeC x c e)
      exact ⟨_, q, hd⟩
    · exact ⟨o, keep c o (I.cne x c e) hc nch ho (I.freeC x c e), hd⟩
  refine ⟨I.ok, I.os, hg, ⟨fun b o e n hb hx => ?_, fun b o e n hb hx => ?_, fun b o e n hx => ?_, fun b o e hx => ?_, fun b xs e => tups b xs (I.base.tups b xs e), fun b o xs e => frzs b o xs (I.base.frzs b o xs e), fun b ps e => ?_⟩, ?_, fun x c e => ?_, ?_, fun x c e => ?_, fun p hp => ?_, hok, I.len⟩
  · exact keep b o (neL b o e) hb (neC b o e hx) (I.base.keep b o e n hb hx) (I.base.free b o e n hx)
  · obtain ⟨sl, e1⟩ := I.base.slot b o e n hb hx
    obtain ⟨sl', e2⟩ := slot b _ (neL b o e) hb (neC b o e hx) e1 (I.base.free b o e n hx)
    exact ⟨sl', e2⟩
  · obtain ⟨o', e1⟩ := I.base.there b o e hx
    exact free b o' (neC b o e hx) e1 (I.base.free b o e n hx)
  · obtain ⟨o', e1⟩ := I.base.there b o e hx
    exact there b o' (neC b o e hx) e1
  · obtain ⟨m1, e1⟩ := I.base.tbls b ps e
    obtain ⟨m2, e2⟩ := tbls b _ e1
    exact ⟨m1 ++ m2, by rw [e2, Array.append_assoc]⟩
  · obtain ⟨m, hn, hl⟩ := I.loc
    refine ⟨m, ns m hn, fun i x v e1 e2 e3 => ?_⟩
    obtain ⟨u, r, l⟩ := hl i x v e1 e2 e3
    refine ⟨u, r, ?_⟩
    rcases l with l | ⟨k, c, e, z⟩
    · exact .inl l
    · exact .inr ⟨k, c, e, cellK x c e _ z⟩
  · obtain ⟨v, z⟩ := I.cell x c e
    exact ⟨v, cellK x c e v z⟩
  · obtain ⟨m, ⟨o, _, _, ho, _⟩, _⟩ := I.loc
    exact free _ o (fun z => (hch _ z).2.1 rfl) ho I.free
  · obtain ⟨v, o, ho, hd⟩ := I.cell x c e
    exact free c o (fun z => (hch c z).2.2.1 x c e rfl) ho (I.freeC x c e)
  · obtain ⟨e, n, ne, nf, d⟩ := I.pin p hp
    have nch : p.1 ∉ ch := fun z => (hch p.1 z).2.2.2 p hp rfl
    exact ⟨keep p.1 p.2 ne nf nch e n, free p.1 p.2 nch e n, ne, nf, d⟩
/-- .. where the frame's own object is kept too -/
theorem Inv.un {t' : Nat} (I : Inv X pins σ H s) (u : Un X.fs [] H H' s.heap h') (hok : HOk X.prog X.w H' h') : Inv X pins σ H' { s with heap := h', toks := t' } := by
  obtain ⟨m, ⟨o, es, ep, ho, r⟩, _⟩ := id I.loc
  obtain ⟨sl, hL⟩ := u.any ho I.free (by simp)
  exact I.step (g' := s.gens) (d' := s.drawn) (ch := []) (fun _ z => nomatch z) (fun b o _ hb _ e n => u.keep b o e n hb (by simp)) (fun b o _ hb _ e n => u.slot b o e n hb (by simp)) (fun b o _ e n => u.free b o e n (by simp)) (fun b o _ e => u.there b o e (by simp)) u.tups u.frzs u.tbls (fun m' hm => by
    obtain ⟨o', es', ep', ho', r'⟩ := hm
    rw [ho] at ho'; cases ho'
    exact ⟨_, es', ep', hL, r'⟩) hok I.bare
/-- behind a call (or a comprehension's block): the slots of this frame may have changed too, the records at ch may have turned -/
theorem Inv.call {g' : Array GenState} {t' : Nat} {d' : Drawn} {ch : List Addr} (I : Inv X pins σ H s) (u : Un (frs X.stack) ch H H' s.heap h') (hok : HOk X.prog X.w H' h') (hg : AllBare g')
    (hch : ∀ b ∈ ch, (b ∈ X.ex ∨ X.s₀.heap.objs.size ≤ b) ∧ b ≠ X.env.locals ∧ (∀ x c, X.env.cells.lookup x = some c → c ≠ b) ∧ ∀ p ∈ X.pn ++ pins, p.1 ≠ b) :
    Inv X pins σ H' { s with heap := h', gens := g', drawn := d', toks := t' } := by
  obtain ⟨m, ⟨o, es, ep, ho, r⟩, _⟩ := id I.loc
  obtain ⟨sl, hL⟩ := u.any ho I.free fun z => (hch _ z).2.1 rfl
  exact I.step (ch := ch) hch (fun b o hL hb hc e n => u.keep b o e n (fun z => (List.mem_cons.mp (I.stkSub b z)).elim hL hb) hc) (fun b o _ _ hc e n => u.any e n hc) (fun b o hc e n => u.free b o e n hc) (fun b o hc e => u.there b o e hc) u.tups u.frzs u.tbls (fun m' hm => by
    obtain ⟨o', es', ep', ho', r'⟩ := hm
    rw [ho] at ho'; cases ho'
    exact ⟨_, es', ep', hL, r'⟩) hok hg
/-- an untracked record of ours (an iterator) has turned -/
theorem Inv.turned {t' : Nat} {it : Addr} (I : Inv X pins σ H s) (k : ∀ b o, b ≠ it → s.heap.get? b = some o → h'.get? b = some o) (hn : H it = none) (hL : it ≠ X.env.locals)
    (h1 : it ∈ X.ex ∨ X.s₀.heap.objs.size ≤ it) (h2 : ∀ x c, X.env.cells.lookup x = some c → c ≠ it) (h3 : ∀ p ∈ X.pn ++ pins, p.1 ≠ it) : Inv X pins σ H { s with heap := h', toks := t' } := by
  have nit : ∀ b u, H b = some u → b ≠ it := fun b u e z => by rw [z, hn] at e; cases e
  refine I.step (g' := s.gens) (d' := s.drawn) (ch := [it]) (fun b hb => ?_) (fun b o _ _ hc e _ => k b o (fun z => hc (by simp [z])) e) (fun b o _ _ hc e _ => ⟨o.slots, k b o (fun z => hc (by simp [z])) e⟩) (fun _ _ _ _ n => n)
    (fun b o hc e => ⟨o, k b o (fun z => hc (by simp [z])) e⟩) (fun _ _ e => e) (fun _ _ _ e => e) (fun b ps e => ⟨#[], by rw [e]; simp⟩) (fun m hm => ?_) (fun b u e => ?_) I.bare
  · have e : b = it := by simpa using hb
    subst e
    exact ⟨h1, hL, h2, h3⟩
  · obtain ⟨o, es, ep, ho, r⟩ := hm
    exact ⟨o, es, ep, k _ o (Ne.symm hL) ho, r⟩
  · refine (I.hok b u e).stay (fun c v hc q => k c v ?_ q) (fun _ q => q) fun _ _ q => q
    rcases hc with z | z
    · rw [z]; exact nit b u e
    · exact nit c _ z
theorem Inv.tok (I : Inv X pins σ H s) (t : Nat) : Inv X pins σ H { s with toks := t } := I.un (h' := s.heap) (t' := t) Un.refl I.hok
/-- all objects kept -/
theorem Inv.kept {t' : Nat} (I : Inv X pins σ H s) (k : ∀ b u, s.heap.get? b = some u → h'.get? b = some u) : Inv X pins σ H { s with heap := h', toks := t' } := I.un (Un.kept k) (I.hok.kept k)
/-- a new object laid and tracked -/
theorem Inv.laid {a : Addr} {o : HO} {t' : Nat} (I : Inv X pins σ H s) (k : ∀ b u, s.heap.get? b = some u → h'.get? b = some u) (hp : s.heap.objs.size ≤ a) (new : ObjOk X.prog X.w (upd H a o) h' a o) :
    Inv X pins σ (upd H a o) { s with heap := h', toks := t' } := I.un (Un.laid k hp (I.hok.fresh hp)) (I.hok.laid k hp new)
/-- an object written -/
theorem Inv.write {x e : Addr} {o : HO} {t' : Nat} (I : Inv X pins σ H s) (mu : Mut (H x)) (he : e = x ∨ H e = some (.own x)) (k : ∀ b u, b ≠ e → s.heap.get? b = some u → h'.get? b = some u) (heo : ∃ u, h'.get? e = some u)
    (new : ObjOk X.prog X.w (upd H x o) h' x o) : Inv X pins σ (upd H x o) { s with heap := h', toks := t' } := I.un (Un.write mu he k heo) (I.hok.write mu he k heo new)
/-- forgetting slots, pins -/
theorem Inv.weak {σ' : List (Option V)} (I : Inv X pins σ H s) (hl : σ'.length = σ.length) (w : ∀ (i : Nat) v, σ'[i]? = some (some v) → σ[i]? = some (some v)) : Inv X pins σ' H s :=
  ⟨I.ok, I.os, I.bare, I.base, let ⟨m, hn, hl'⟩ := I.loc; ⟨m, hn, fun i x v e1 e2 e3 => hl' i x v e1 (w i v e2) e3⟩, I.cell, I.free, I.freeC, I.pin, I.hok, hl.trans I.len⟩
theorem Inv.pins_of {pins' : List (Addr × Obj)} (I : Inv X pins σ H s) (h : ∀ p ∈ pins', s.heap.get? p.1 = some p.2 ∧ H p.1 = none ∧ p.1 ≠ X.env.locals ∧ p.1 ∉ X.fs ∧ ∀ v, p.2.data ≠ .cell v) : Inv X pins' σ H s :=
  ⟨I.ok, I.os, I.bare, I.base, I.loc, I.cell, I.free, I.freeC, fun p hp => (List.mem_append.mp hp).elim (fun z => I.pin p (List.mem_append_left _ z)) (h p), I.hok, I.len⟩

theorem nodup_ix {N : List Str} (hN : N.Nodup) {i j : Nat} {x : Str} (a : N[i]? = some x) (b : N[j]? = some x) : i = j := by
  obtain ⟨h1, e1⟩ := List.getElem?_eq_some_iff.mp a
  obtain ⟨h2, e2⟩ := List.getElem?_eq_some_iff.mp b
  exact (List.getElem_inj hN).mp (e1.trans e2.symm)

/-- a name is stored; what changed -/
theorem store_ok2 {M : Model} {A : Around} {E : Value → Shared → Prop} {i : Nat} {x : Str} {v : V} {u : Value} {Q : Unit → Shared → Prop} (I : Inv X pins σ H s) (hN : X.N.Nodup) (hi : X.N[i]? = some x) (hx : Loc X.env.scope x) (r : RelV v u)
    (h : ∀ s', Inv X pins (σ.set i (some v)) H s' → (∃ a, Heap.SameBut a s.heap s'.heap ∧ (a = X.env.locals ∨ X.env.cells.lookup x = some a)) → Q () s') (hf : X.fn x = true ∨ X.env.scope.names.lookup x = some .local := by first | exact .inl rfl | exact .inr rfl | assumption) : wpAny M A (storeName X.env x u) Q E s := by
  obtain ⟨m, hn, hl⟩ := id I.loc
  have hcls : (X.env.scope.kind == .class || (X.env.scope.kind == .module && X.env.locals != X.env.globals)) = false := by rw [I.ok.kind]; rfl
  have hiσ : i < σ.length := by rw [I.len]; exact (List.getElem?_eq_some_iff.mp hi).1
  have cne := I.cne
  have tracked : ∀ {a : Addr} {h' : Heap}, (∃ o, s.heap.get? a = some o ∧ H a = none) → Heap.SameBut a s.heap h' → HOk X.prog X.w H h' := fun {a h'} ha hs b ob e => by
    obtain ⟨_, _, hfree⟩ := ha
    refine (I.hok b ob e).stay (fun c w' hc q => (hs.2 c ?_).trans q) (fun _ q => q) fun _ _ q => q
    rintro rfl
    rcases hc with rfl | hc
    · rw [hfree] at e; cases e
    · rw [hfree] at hc; cases hc
  rcases hx with hk | hk
  · refine wpAny_storeName_local hk hn (fun h' hn' hs => ?_) hcls
    obtain ⟨oL, _, _, hoL, _⟩ := id hn
    refine h _ ⟨I.ok, I.os, I.bare, ⟨fun b o e n hb hx => ?_, fun b o e n hb hx => ?_, I.base.free, fun b o e hx => ?_, I.base.tups, I.base.frzs, I.base.tbls⟩, ⟨_, hn', fun j y v' e1 e2 e3 => ?_⟩, fun y c e => ?_, I.free, I.freeC, fun p hp => ?_, tracked ⟨oL, hoL, I.free⟩ hs, by simpa using I.len⟩ ⟨_, hs, .inl rfl⟩
    · exact (hs.2 b (Nat.ne_of_lt (Nat.lt_of_lt_of_le (Heap.lt_size e) I.ok.above))).trans (I.base.keep b o e n hb hx)
    · obtain ⟨sl, e1⟩ := I.base.slot b o e n hb hx
      exact ⟨sl, (hs.2 b (Nat.ne_of_lt (Nat.lt_of_lt_of_le (Heap.lt_size e) I.ok.above))).trans e1⟩
    · obtain ⟨o', e1⟩ := I.base.there b o e hx
      exact ⟨o', (hs.2 b (Nat.ne_of_lt (Nat.lt_of_lt_of_le (Heap.lt_size e) I.ok.above))).trans e1⟩
    · by_cases hj : j = i
      · subst hj
        rw [hi] at e1; cases e1
        rw [List.getElem?_set_self hiσ] at e2
        cases e2
        exact ⟨u, r, .inl ⟨hk, by simp⟩⟩
      · rw [List.getElem?_set_ne (Ne.symm hj)] at e2
        obtain ⟨u', r', q⟩ := hl j y v' e1 e2 e3
        refine ⟨u', r', ?_⟩
        rcases q with ⟨k, e⟩ | ⟨k, c, e, z⟩
        · refine .inl ⟨k, ?_⟩
          have : y ≠ x := fun e => hj (nodup_ix hN e1 (e ▸ hi))
          simp [this, e]
        · exact .inr ⟨k, c, e, z.sameBut hs (cne y c e)⟩
    · obtain ⟨w', z⟩ := I.cell y c e
      exact ⟨w', z.sameBut hs (cne y c e)⟩
    · obtain ⟨e, n, ne, nf, d⟩ := I.pin p hp
      exact ⟨(hs.2 p.1 ne).trans e, n, ne, nf, d⟩
  · have hfn : X.fn x = true := by
      rcases hf with z | z
      · exact z
      · rw [z] at hk; cases hk
    obtain ⟨c, hc⟩ := I.ok.has x (.inl hk)
    obtain ⟨w', z⟩ := I.cell x c hc
    refine wpAny_storeName_cell I.ok.kind hk hc z (fun h' hc' hs => ?_)
    obtain ⟨oc, hoc, hocd⟩ := id z
    refine h { s with heap := h' } ⟨I.ok, I.os, I.bare, ⟨fun b o e n hb hx => ?_, fun b o e n hb hx => ?_, I.base.free, fun b o e hx => ?_, I.base.tups, I.base.frzs, I.base.tbls⟩, ⟨m, hn.sameBut hs (Ne.symm (cne x c hc)), fun j y v' e1 e2 e3 => ?_⟩, fun y c' e => ?_, I.free, I.freeC, fun p hp => ?_, tracked ⟨oc, hoc, I.freeC x c hc⟩ hs, by simpa using I.len⟩ ⟨c, hs, .inr hc⟩
    · exact (hs.2 b (Nat.ne_of_lt (Nat.lt_of_lt_of_le (Heap.lt_size e) (I.ok.cab x c hfn hc)))).trans (I.base.keep b o e n hb hx)
    · obtain ⟨sl, e1⟩ := I.base.slot b o e n hb hx
      exact ⟨sl, (hs.2 b (Nat.ne_of_lt (Nat.lt_of_lt_of_le (Heap.lt_size e) (I.ok.cab x c hfn hc)))).trans e1⟩
    · obtain ⟨o', e1⟩ := I.base.there b o e hx
      exact ⟨o', (hs.2 b (Nat.ne_of_lt (Nat.lt_of_lt_of_le (Heap.lt_size e) (I.ok.cab x c hfn hc)))).trans e1⟩
    · by_cases hj : j = i
      · subst hj
        rw [hi] at e1; cases e1
        rw [List.getElem?_set_self hiσ] at e2
        cases e2
        exact ⟨u, r, .inr ⟨.inl hk, c, hc, hc'⟩⟩
      · rw [List.getElem?_set_ne (Ne.symm hj)] at e2
        obtain ⟨u', r', q⟩ := hl j y v' e1 e2 e3
        refine ⟨u', r', ?_⟩
        rcases q with q | ⟨k, c', e, z'⟩
        · exact .inl q
        · refine .inr ⟨k, c', e, z'.sameBut hs ?_⟩
          rintro rfl
          exact hj (nodup_ix hN e1 (I.ok.inj _ _ _ e hc ▸ hi))
    · by_cases hcc : c' = c
      · subst hcc; exact ⟨_, hc'⟩
      · obtain ⟨w2, z2⟩ := I.cell y c' e
        exact ⟨w2, z2.sameBut hs hcc⟩
    · obtain ⟨e, n, ne, nf, d⟩ := I.pin p hp
      refine ⟨(hs.2 p.1 ?_).trans e, n, ne, nf, d⟩
      intro q
      rw [q, hoc] at e
      have q' : oc = p.2 := Option.some.inj e
      exact d w' (by rw [← q']; exact hocd)
theorem store_ok {M : Model} {A : Around} {E : Value → Shared → Prop} {i : Nat} {x : Str} {v : V} {u : Value} {Q : Unit → Shared → Prop} (I : Inv X pins σ H s) (hN : X.N.Nodup) (hi : X.N[i]? = some x) (hx : Loc X.env.scope x) (r : RelV v u)
    (h : ∀ s', Inv X pins (σ.set i (some v)) H s' → Q () s') (hf : X.fn x = true ∨ X.env.scope.names.lookup x = some .local := by first | exact .inl rfl | exact .inr rfl | assumption) : wpAny M A (storeName X.env x u) Q E s :=
  store_ok2 I hN hi hx r (fun s' I' _ => h s' I') hf
/-- behind a call or a block, the state as it is -/
theorem Inv.call' {s' : Shared} {ch : List Addr} (I : Inv X pins σ H s) (ho : s'.os = s.os) (u : Un (frs X.stack) ch H H' s.heap s'.heap) (hok : HOk X.prog X.w H' s'.heap) (hg : AllBare s'.gens)
    (hch : ∀ b ∈ ch, (b ∈ X.ex ∨ X.s₀.heap.objs.size ≤ b) ∧ b ≠ X.env.locals ∧ (∀ x c, X.env.cells.lookup x = some c → c ≠ b) ∧ ∀ p ∈ X.pn ++ pins, p.1 ≠ b) : Inv X pins σ H' s' := by
  obtain ⟨h', g', d', t', o'⟩ := s'
  have e : o' = s.os := ho
  subst e
  exact I.call (g' := g') (t' := t') (d' := d') u hok hg hch
end

/-! ### the judgements -/
/-- an exception: its class, its own dict's address (where it has one), the abstract heap behind it -/
abbrev XK := Value → Option Addr → Hp → Prop
abbrev St := List (Option V)
abbrev VK := V → Hp → Prop
/-- an expression's reading; a test's; an argument list's -/
abbrev TE := St → Hp → VK → Prop
abbrev TT := St → Hp → (Bool → Hp → Prop) → Prop
abbrev TA := St → Hp → (List V → Hp → Prop) → Prop
/-- what is wanted behind a statement -/
structure Ends where
  nx : St → Hp → Prop
  rt : VK
  bk : St → Hp → Prop := fun _ _ => False
  ct : St → Hp → Prop := fun _ _ => False
abbrev TS := Ends → St → Hp → Prop

def EP (X : Cx) (pins : List (Addr × Obj)) (σ : St) (Q : VK) (u : Value) (s' : Shared) : Prop := ∃ v H', Inv X pins σ H' s' ∧ RelV v u ∧ Q v H'
def TP (X : Cx) (pins : List (Addr × Obj)) (σ : St) (Q : Bool → Hp → Prop) (b : Bool) (s' : Shared) : Prop := ∃ H', Inv X pins σ H' s' ∧ Q b H'
def AP (X : Cx) (pins : List (Addr × Obj)) (σ : St) (Q : List V → Hp → Prop) (us : List Value) (s' : Shared) : Prop := ∃ vs H', Inv X pins σ H' s' ∧ Vals vs us ∧ Q vs H'
def SP (X : Cx) (pins : List (Addr × Obj)) (D : Ends) (f : Flow) (s' : Shared) : Prop :=
  match f with
  | .next => ∃ σ' H', Inv X pins σ' H' s' ∧ D.nx σ' H'
  | .brk => ∃ σ' H', Inv X pins σ' H' s' ∧ D.bk σ' H'
  | .cont => ∃ σ' H', Inv X pins σ' H' s' ∧ D.ct σ' H'
  | .ret u => ∃ v σ' H', Inv X pins σ' H' s' ∧ RelV v u ∧ D.rt v H'

def PE (X : Cx) (e : Expr) (t : TE) : Prop :=
  ∀ (pins : List (Addr × Obj)) (s : Shared) (σ : St) (H : Hp) (Q : VK), Inv X pins σ H s → t σ H Q → wpAny (model X.prog X.w) X.A (eval e X.env) (EP X pins σ Q) X.xe s
def PT (X : Cx) (e : Expr) (t : TT) : Prop :=
  ∀ (pins : List (Addr × Obj)) (s : Shared) (σ : St) (H : Hp) (Q : Bool → Hp → Prop), Inv X pins σ H s → t σ H Q → wpAny (model X.prog X.w) X.A (isTrue e X.env (eval e X.env)) (TP X pins σ Q) X.xe s
/-- a test whatever its 'whole' is (and, or) -/
def PW (X : Cx) (e : Expr) (t : TT) : Prop :=
  ∀ (whole : Sem Value) (pins : List (Addr × Obj)) (s : Shared) (σ : St) (H : Hp) (Q : Bool → Hp → Prop), Inv X pins σ H s → t σ H Q → wpAny (model X.prog X.w) X.A (isTrue e X.env whole) (TP X pins σ Q) X.xe s
theorem PW.pt {X : Cx} {e : Expr} {t : TT} (h : PW X e t) : PT X e t := h _
/-- an argument list (no star), from the left -/
def PA (X : Cx) (es : List Expr) (t : TA) : Prop :=
  ∀ (pos : Pos) (pins : List (Addr × Obj)) (s : Shared) (σ : St) (H : Hp) (Q : List V → Hp → Prop), Inv X pins σ H s → t σ H Q → wpAny (model X.prog X.w) X.A (spliced (backTo pos (starEach es X.env))) (AP X pins σ Q) X.xe s
def PS (X : Cx) (st : Stmt) (t : TS) : Prop :=
  ∀ (pins : List (Addr × Obj)) (s : Shared) (σ : St) (H : Hp) (D : Ends), Inv X pins σ H s → t D σ H → wpAny (model X.prog X.w) X.A (exec st X.env) (SP X pins D) X.xe s
def PSs (X : Cx) (st : List Stmt) (t : TS) : Prop :=
  ∀ (pins : List (Addr × Obj)) (s : Shared) (σ : St) (H : Hp) (D : Ends), Inv X pins σ H s → t D σ H → wpAny (model X.prog X.w) X.A (execs st X.env) (SP X pins D) X.xe s
/-- weaken the end -/
theorem thn {α : Type} {t : Sem α} {Q Q' : α → Shared → Prop} {M : Model} {A : Around} {E : Value → Shared → Prop} {s : Shared} (h : wpAny M A t Q E s) (hQ : ∀ a s, Q a s → Q' a s) : wpAny M A t Q' E s := wpAny_mono h hQ fun _ _ x => x
end L2

namespace L2
open PySem PySem.Spec PyProof.Rows
section
variable {X : Cx}

/-- two expressions in a row -/
theorem bin {a b : Expr} {ta tb : TE} (ha : PE X a ta) (hb : PE X b tb) {pins : List (Addr × Obj)} {s : Shared} {σ : St} {H : Hp} {R : V → V → Hp → Prop} (I : Inv X pins σ H s) (h : ta σ H fun x H1 => tb σ H1 fun y H2 => R x y H2)
    {α : Type} {Q : α → Shared → Prop} {f : Value → Value → Sem α}
    (hf : ∀ v u s2 x y H2, Inv X pins σ H2 s2 → RelV x v → RelV y u → R x y H2 → wpAny (model X.prog X.w) X.A (f v u) Q X.xe s2) :
    wpAny (model X.prog X.w) X.A (eval a X.env) (fun v s₁ => wpAny (model X.prog X.w) X.A (eval b X.env) (fun u s₂ => wpAny (model X.prog X.w) X.A (f v u) Q X.xe s₂) X.xe s₁) X.xe s := by
  refine thn (ha pins s σ H _ I h) fun v s1 ⟨x, H1, I1, r1, q1⟩ => ?_
  refine thn (hb pins s1 σ H1 _ I1 q1) fun u s2 ⟨y, H2, I2, r2, q2⟩ => ?_
  exact hf v u s2 x y H2 I2 r1 r2 q2

/-! ### names and constants -/
def tVar (i : Nat) : TE := fun σ H Q => ∃ v, σ[i]? = some (some v) ∧ Q v H
def tC (v : V) : TE := fun _ H Q => Q v H
theorem pe_var {i : Nat} {x : Str} {pos : Pos} (hN : X.N[i]? = some x) (hv : Vis X.env.scope x) (hd : (x == ("__debug__" : Str)) = false := by decide) (hcd : (x == ("__classdict__" : Str)) = false := by decide) : PE X (.Name x pos) (tVar i) := by
  intro pins s σ H Q I h
  obtain ⟨v, e, h⟩ := h
  obtain ⟨m, hn, hl⟩ := I.loc
  obtain ⟨u, r, l⟩ := hl i x v hN e hv
  have fin : EP X pins σ Q u s := ⟨v, H, I, r, h⟩
  rcases l with ⟨hk, hm⟩ | ⟨hk, c, hc, hcell⟩
  · exact wpAny_Name (wpAny_loadName_local I.ok.kind hk hn hm fin) hd
  · rcases hk with hk | hk
    · exact wpAny_Name (wpAny_loadName_cell I.ok.kind hk hc hcell fin) hd
    · exact wpAny_Name (wpAny_loadName_free I.ok.kind hk hc hcell fin hcd) hd
theorem pe_int {i j pos} : PE X (.Constant (.int i) j pos) (tC (.int i)) := fun _ _ _ H _ I h => wpAny_Constant_int ⟨.int i, H, I.tok _, ⟨_, rfl⟩, h⟩
theorem pe_bl {b j pos} : PE X (.Constant (.bool b) j pos) (tC (.bl b)) := fun _ _ _ H _ I h => Constant_bool ⟨.bl b, H, I, rfl, h⟩
theorem pe_non {j pos} : PE X (.Constant .none j pos) (tC .non) := fun _ _ _ H _ I h => Constant_none ⟨.non, H, I, rfl, h⟩
theorem pe_str {x j pos} : PE X (.Constant (.str x) j pos) (tC (.str x)) := fun _ _ _ H _ I h => Calls.Constant_str ⟨.str x, H, I.tok _, ⟨_, rfl⟩, h⟩

/-- a global name of the def -/
def Gl (X : Cx) (x : Str) : Prop := X.env.kindOf x = some .globalImplicit
theorem ld_glob {E : Value → Shared → Prop} {pins : List (Addr × Obj)} {s : Shared} {σ : St} {H : Hp} {x : Str} {u : Value} {pos : Pos} {Q : Value → Shared → Prop} (I : Inv X pins σ H s) (hg : Gl X x) (hm : X.mg x = some u) (h : Q u s)
    (hd : (x == ("__debug__" : Str)) = false := by decide) : wpAny (model X.prog X.w) X.A (eval (.Name x pos) X.env) Q E s :=
  Calls.Name_function_global I.ok.kind hg (Calls.loadGlobal_global (by rw [I.ok.glob]; exact I.mod.glob.keeps I.bk) hm h) hd
theorem ld_blt {E : Value → Shared → Prop} {pins : List (Addr × Obj)} {s : Shared} {σ : St} {H : Hp} {x : Str} {u : Value} {pos : Pos} {Q : Value → Shared → Prop} (I : Inv X pins σ H s) (hg : Gl X x) (hm : X.mg x = none) (hv : bootBuiltins x = some u) (h : Q u s)
    (hn : x ≠ "__name__" := by decide) (hd : (x == ("__debug__" : Str)) = false := by decide) : wpAny (model X.prog X.w) X.A (eval (.Name x pos) X.env) Q E s := by
  obtain ⟨mb, h1, h2⟩ := I.mod.blt
  exact Calls.Name_function_global I.ok.kind hg (Calls.loadGlobal_builtin (by rw [I.ok.glob]; exact I.mod.glob.keeps I.bk) hm (by rw [I.ok.blt]; exact h1.keeps I.bk) ((h2 x hn).trans hv) h) hd
/-- a module's constant, a class, a function, as a value -/
theorem pe_glob {x : Str} {v : V} {u : Value} {pos : Pos} (hg : Gl X x) (hm : X.mg x = some u) (r : RelV v u) (hd : (x == ("__debug__" : Str)) = false := by decide) : PE X (.Name x pos) (tC v) :=
  fun _ _ _ H _ I h => ld_glob I hg hm ⟨v, H, I, r, h⟩ hd
theorem pe_bltn {x : Str} {v : V} {u : Value} {pos : Pos} (hg : Gl X x) (hm : X.mg x = none) (hv : bootBuiltins x = some u) (r : RelV v u) (hn : x ≠ "__name__" := by decide) (hd : (x == ("__debug__" : Str)) = false := by decide) : PE X (.Name x pos) (tC v) :=
  fun _ _ _ H _ I h => ld_blt I hg hm hv ⟨v, H, I, r, h⟩ hn hd

/-! ### arithmetic -/
/-- two ints -/
def t2I (ta tb : TE) (k : Int → Int → Hp → Prop) : St → Hp → Prop := fun σ H => ta σ H fun x H1 => tb σ H1 fun y H2 => ∃ i j, x = .int i ∧ y = .int j ∧ k i j H2
def tAdd (ta tb : TE) : TE := fun σ H Q => t2I ta tb (fun i j H2 => Q (.int (i + j)) H2) σ H
def tSub (ta tb : TE) : TE := fun σ H Q => t2I ta tb (fun i j H2 => Q (.int (i - j)) H2) σ H
/-- the left factor below 2^64 -/
def tMul (ta tb : TE) : TE := fun σ H Q => t2I ta tb (fun i j H2 => (-(2 ^ 64) < i ∧ i < 2 ^ 64) ∧ Q (.int (i * j)) H2) σ H
variable {a b : Expr} {ta tb : TE} {pos : Pos}
theorem pe_add (ha : PE X a ta) (hb : PE X b tb) : PE X (.BinOp a .Add b pos) (tAdd ta tb) := by
  intro pins s σ H Q I h
  refine wpAny_BinOp (bin ha hb I h fun v u s2 x y H2 I2 rx ry q => ?_)
  obtain ⟨i, j, rfl, rfl, q⟩ := q
  obtain ⟨t, rfl⟩ := rx
  obtain ⟨t', rfl⟩ := ry
  exact add_int ⟨.int _, H2, I2.tok _, ⟨_, rfl⟩, q⟩
theorem pe_sub (ha : PE X a ta) (hb : PE X b tb) : PE X (.BinOp a .Sub b pos) (tSub ta tb) := by
  intro pins s σ H Q I h
  refine wpAny_BinOp (bin ha hb I h fun v u s2 x y H2 I2 rx ry q => ?_)
  obtain ⟨i, j, rfl, rfl, q⟩ := q
  obtain ⟨t, rfl⟩ := rx
  obtain ⟨t', rfl⟩ := ry
  exact sub_int ⟨.int _, H2, I2.tok _, ⟨_, rfl⟩, q⟩
theorem pe_mul (ha : PE X a ta) (hb : PE X b tb) : PE X (.BinOp a .Mult b pos) (tMul ta tb) := by
  intro pins s σ H Q I h
  refine wpAny_BinOp (bin ha hb I h fun v u s2 x y H2 I2 rx ry q => ?_)
  obtain ⟨i, j, rfl, rfl, ⟨q1, q2⟩, q⟩ := q
  obtain ⟨t, rfl⟩ := rx
  obtain ⟨t', rfl⟩ := ry
  exact mul_int ⟨.int _, H2, I2.tok _, ⟨_, rfl⟩, q⟩ (.of_left (intBits_le_64 q1 q2))

/-! ### comparisons -/
def PC (X : Cx) (op : CmpOp) (a b : Expr) (t : TE) : Prop :=
  ∀ (pins : List (Addr × Obj)) (s : Shared) (σ : St) (H : Hp) (Q : VK), Inv X pins σ H s → t σ H Q →
    wpAny (model X.prog X.w) X.A (eval a X.env) (fun v s₁ => wpAny (model X.prog X.w) X.A (eval b X.env) (fun u s₂ => wpAny (model X.prog X.w) X.A (compareOp op v u) (EP X pins σ Q) X.xe s₂) X.xe s₁) X.xe s
theorem nobehind (b : Expr) {op : CmpOp} (h : op ≠ .In) (h2 : op ≠ .NotIn) : behindInMarks op b = false := by
  have e1 : (op == CmpOp.In) = false := by cases op <;> first | rfl | exact absurd rfl h
  have e2 : (op == CmpOp.NotIn) = false := by cases op <;> first | rfl | exact absurd rfl h2
  cases b <;> simp [behindInMarks, e1, e2]
def tCmp (p : Int → Int → Bool) (ta tb : TE) : TE := fun σ H Q => t2I ta tb (fun i j H2 => Q (.bl (p i j)) H2) σ H
abbrev tLt : TE → TE → TE := tCmp fun i j => decide (i < j)
abbrev tLe : TE → TE → TE := tCmp fun i j => decide (i ≤ j)
abbrev tGt : TE → TE → TE := tCmp fun i j => decide (j < i)
abbrev tGe : TE → TE → TE := tCmp fun i j => decide (j ≤ i)
abbrev tEqI : TE → TE → TE := tCmp fun i j => decide (i = j)
abbrev tNeI : TE → TE → TE := tCmp fun i j => !decide (i = j)
/-- a comparison of two ints, by its rule -/
theorem pc_int {op : CmpOp} {p : Int → Int → Bool} (ha : PE X a ta) (hb : PE X b tb)
    (rule : ∀ (i j : Int) (t u : Tok) (Q : Value → Shared → Prop) (s : Shared), Q (.bool (p i j)) s → wpAny (model X.prog X.w) X.A (compareOp op (.int i t) (.int j u)) Q X.xe s) : PC X op a b (tCmp p ta tb) := by
  intro pins s σ H Q I h
  refine bin ha hb I h fun v u s2 x y H2 I2 rx ry q => ?_
  obtain ⟨i, j, rfl, rfl, q⟩ := q
  obtain ⟨t, rfl⟩ := rx
  obtain ⟨t', rfl⟩ := ry
  exact rule i j t t' _ s2 ⟨.bl _, H2, I2, rfl, q⟩
theorem pc_lt (ha : PE X a ta) (hb : PE X b tb) : PC X .Lt a b (tLt ta tb) := pc_int ha hb fun _ _ _ _ _ _ h => lt_int h
theorem pc_le (ha : PE X a ta) (hb : PE X b tb) : PC X .LtE a b (tLe ta tb) := pc_int ha hb fun _ _ _ _ _ _ h => le_int h
theorem pc_gt (ha : PE X a ta) (hb : PE X b tb) : PC X .Gt a b (tGt ta tb) := pc_int ha hb fun _ _ _ _ _ _ h => gt_int h
theorem pc_ge (ha : PE X a ta) (hb : PE X b tb) : PC X .GtE a b (tGe ta tb) := pc_int ha hb fun _ _ _ _ _ _ h => ge_int h
theorem pc_eqI (ha : PE X a ta) (hb : PE X b tb) : PC X .Eq a b (tEqI ta tb) := pc_int ha hb fun _ _ _ _ _ _ h => eq_int (by rw [Bool.beq_eq_decide_eq]; exact h)
theorem pc_neI (ha : PE X a ta) (hb : PE X b tb) : PC X .NotEq a b (tNeI ta tb) := pc_int ha hb fun _ _ _ _ _ _ h => ne_int (by rw [bne, Bool.beq_eq_decide_eq]; exact h)
/-- is None -/
def tIsN (ta : TE) : TE := fun σ H Q => ta σ H fun x H1 => Q (.bl (decide (x = .non))) H1
def tNotN (ta : TE) : TE := fun σ H Q => ta σ H fun x H1 => Q (.bl (!decide (x = .non))) H1
theorem RelV.none_iff {x : V} {v : Value} (r : RelV x v) : (v == Value.none) = decide (x = .non) := by
  cases x with
  | non => cases r; rfl
  | bl _ => cases r; rfl
  | int _ => obtain ⟨t, rfl⟩ := r; rfl
  | str _ => obtain ⟨t, rfl⟩ := r; rfl
  | byt _ => obtain ⟨t, rfl⟩ := r; rfl
  | flt _ => obtain ⟨t, rfl⟩ := r; rfl
  | ref _ => cases r; rfl
  | ty _ => cases r; rfl
theorem pc_isN {j pos'} (ha : PE X a ta) : PC X .Is a (.Constant .none j pos') (tIsN ta) := by
  intro pins s σ H Q I h
  refine thn (ha pins s σ H _ I h) fun v s1 ⟨x, H1, I1, r1, q1⟩ => ?_
  exact Constant_none (is_none_gen ⟨.bl _, H1, I1, by rw [r1.none_iff]; rfl, q1⟩)
theorem pc_notN {j pos'} (ha : PE X a ta) : PC X .IsNot a (.Constant .none j pos') (tNotN ta) := by
  intro pins s σ H Q I h
  refine thn (ha pins s σ H _ I h) fun v s1 ⟨x, H1, I1, r1, q1⟩ => ?_
  exact Constant_none (isnot_none_gen ⟨.bl _, H1, I1, by rw [r1.none_iff]; rfl, q1⟩)
/-- a comparison as a value, as a test -/
def tB (t : TE) : TT := fun σ H Q => t σ H fun x H1 => ∃ c, x = .bl c ∧ Q c H1
theorem pe_cmp {op : CmpOp} {t : TE} (h : PC X op a b t) (h1 : behindInMarks op b = false := by first | exact nobehind _ (by decide) (by decide) | rfl) : PE X (.Compare a [op] [b] pos) t := fun pins s σ H Q I hw => wpAny_Compare1 (h pins s σ H Q I hw) h1
theorem pt_cmp {op : CmpOp} {t : TE} (h : PC X op a b t) (h1 : behindInMarks op b = false := by first | exact nobehind _ (by decide) (by decide) | rfl) : PT X (.Compare a [op] [b] pos) (tB t) := by
  intro pins s σ H Q I hw
  refine wpAny_isTrue_Compare1 (thn (h pins s σ H _ I hw) fun v s1 h1 => thn h1 fun u s2 h2 => thn h2 fun c s3 ⟨x, H1, I1, r1, q1⟩ => ?_) h1
  obtain ⟨d, rfl, q⟩ := q1
  cases r1
  exact wpAny_truthy_bool ⟨H1, I1, q⟩
/-- an expression whose value is a bool, as a test -/
theorem pt_val {e : Expr} {t : TE} (h : PE X e t) (he : ∀ whole, isTrue e X.env whole = (do let v ← whole; standAt e.pos; holding [v] (truthy v)) := by intro _; rfl) : PT X e (tB t) := by
  intro pins s σ H Q I hw
  refine isTrue_plain (thn (h pins s σ H _ I hw) fun v s1 ⟨x, H1, I1, r1, q1⟩ => ?_) (he _)
  obtain ⟨d, rfl, q⟩ := q1
  cases r1
  exact wpAny_truthy_bool ⟨H1, I1, q⟩

/-! ### and, or, not -/
variable {tA tB' : TT} {rest : List Expr}
def tAnd (t u : TT) : TT := fun σ H Q => t σ H fun c H1 => if c = true then u σ H1 Q else Q false H1
def tOr (t u : TT) : TT := fun σ H Q => t σ H fun c H1 => if c = true then Q true H1 else u σ H1 Q
def tNot (t : TT) : TT := fun σ H Q => t σ H fun c H1 => Q (!c) H1
theorem pw_and1 (ha : PT X a tA) : PW X (.BoolOp .And [a] pos) tA := by
  intro wh pins s σ H Q I h
  refine isTrue_and (thn (ha pins s σ H Q I h) fun c s1 e => ?_)
  cases c with
  | true => exact isTrue_and_nil e
  | false => exact e
theorem pw_or1 (ha : PT X a tA) : PW X (.BoolOp .Or [a] pos) tA := by
  intro wh pins s σ H Q I h
  refine isTrue_or (thn (ha pins s σ H Q I h) fun c s1 e => ?_)
  cases c with
  | false => exact isTrue_or_nil e
  | true => exact e
theorem pw_and (ha : PT X a tA) (hb : PW X (.BoolOp .And (b :: rest) pos) tB') : PW X (.BoolOp .And (a :: b :: rest) pos) (tAnd tA tB') := by
  intro wh pins s σ H Q I h
  refine isTrue_and (thn (ha pins s σ H _ I h) fun c s1 ⟨H1, I1, q1⟩ => ?_)
  cases c with
  | true => exact hb wh pins s1 σ H1 Q I1 q1
  | false => exact ⟨H1, I1, q1⟩
theorem pw_or (ha : PT X a tA) (hb : PW X (.BoolOp .Or (b :: rest) pos) tB') : PW X (.BoolOp .Or (a :: b :: rest) pos) (tOr tA tB') := by
  intro wh pins s σ H Q I h
  refine isTrue_or (thn (ha pins s σ H _ I h) fun c s1 ⟨H1, I1, q1⟩ => ?_)
  cases c with
  | true => exact ⟨H1, I1, q1⟩
  | false => exact hb wh pins s1 σ H1 Q I1 q1
theorem pt_not (ha : PT X a tA) : PT X (.UnaryOp .Not a pos) (tNot tA) := by
  intro pins s σ H Q I h
  exact isTrue_not (ha pins s σ H (fun c H1 => Q (!c) H1) I h)
/-- .. as values (bools) -/
def tAndV (ta tb : TE) : TE := fun σ H Q => ta σ H fun x H1 => ∃ c, x = .bl c ∧ if c = true then tb σ H1 Q else Q (.bl false) H1
def tOrV (ta tb : TE) : TE := fun σ H Q => ta σ H fun x H1 => ∃ c, x = .bl c ∧ if c = true then Q (.bl true) H1 else tb σ H1 Q
def tNotV (ta : TE) : TE := fun σ H Q => ta σ H fun x H1 => ∃ c, x = .bl c ∧ Q (.bl (!c)) H1
theorem pe_one {op} {t : TE} (h : PE X a t) : PE X (.BoolOp op [a] pos) t := fun pins s σ H Q I hw => BoolOp_one (h pins s σ H Q I hw)
theorem pe_and (ha : PE X a ta) (hb : PE X (.BoolOp .And (b :: rest) pos) tb) : PE X (.BoolOp .And (a :: b :: rest) pos) (tAndV ta tb) := by
  intro pins s σ H Q I h
  refine BoolOp_and (thn (ha pins s σ H _ I h) fun v s1 ⟨x, H1, I1, r1, q1⟩ => ?_)
  obtain ⟨c, rfl, q1⟩ := q1
  cases r1
  refine wpAny_truthy_bool ?_
  cases c with
  | true => exact hb pins s1 σ H1 Q I1 q1
  | false => exact ⟨.bl false, H1, I1, rfl, q1⟩
theorem pe_or (ha : PE X a ta) (hb : PE X (.BoolOp .Or (b :: rest) pos) tb) : PE X (.BoolOp .Or (a :: b :: rest) pos) (tOrV ta tb) := by
  intro pins s σ H Q I h
  refine BoolOp_or (thn (ha pins s σ H _ I h) fun v s1 ⟨x, H1, I1, r1, q1⟩ => ?_)
  obtain ⟨c, rfl, q1⟩ := q1
  cases r1
  refine wpAny_truthy_bool ?_
  cases c with
  | false => exact hb pins s1 σ H1 Q I1 q1
  | true => exact ⟨.bl true, H1, I1, rfl, q1⟩
theorem pe_not (ha : PE X a ta) : PE X (.UnaryOp .Not a pos) (tNotV ta) := by
  intro pins s σ H Q I h
  refine UnaryOp_ (thn (ha pins s σ H _ I h) fun v s1 ⟨x, H1, I1, r1, q1⟩ => ?_)
  obtain ⟨c, rfl, q1⟩ := q1
  cases r1
  exact not_of (wpAny_truthy_bool ⟨.bl (!c), H1, I1, rfl, q1⟩)
/-- a if t else b -/
def tIf (t : TT) (ta tb : TE) : TE := fun σ H Q => t σ H fun c H1 => if c = true then ta σ H1 Q else tb σ H1 Q
theorem pe_ifExp {c : Expr} (hc : PT X c tA) (ha : PE X a ta) (hb : PE X b tb) : PE X (.IfExp c a b pos) (tIf tA ta tb) := by
  intro pins s σ H Q I h
  refine wpAny_IfExp (thn (hc pins s σ H _ I h) fun d s1 ⟨H1, I1, q1⟩ => ?_)
  cases d with
  | true => exact ha pins s1 σ H1 Q I1 q1
  | false => exact hb pins s1 σ H1 Q I1 q1
end
end L2

namespace L2
open PySem PySem.Spec PyProof.Rows

/-! ### a list, a tuple that is read: tracked, frozen, or an object of the module -/
def SqL (K : PySem.W.Frag) (H : Hp) (a : Addr) (xs : List V) : Prop :=
  Rd H a (.lst xs) ∨
    ∃ (o : Obj) (its : Array Value) (n : Nat), K.lookup a = some o ∧ o.cls = .type "list" ∧ o.dict = none ∧ o.data = .seq its n ∧ its.size ≤ sizeLine ∧ Vals xs its.toList
def SqT (K : PySem.W.Frag) (H : Hp) (a : Addr) (xs : List V) : Prop :=
  Rd H a (.tup xs) ∨
    ∃ (o : Obj) (its : Array Value) (n : Nat), K.lookup a = some o ∧ o.cls = .type "tuple" ∧ o.data = .seq its n ∧ its.size ≤ sizeLine ∧ Vals xs its.toList
def absV : Value → Option V
  | .none => some .non
  | .bool b => some (.bl b)
  | .int i _ => some (.int i)
  | .str x _ => some (.str x)
  | .bytes b _ => some (.byt b)
  | .float b _ => some (.flt b)
  | .ref a => some (.ref a)
  | .type n => some (.ty n)
  | _ => none
theorem RelV.abs {x : V} {u : Value} (r : RelV x u) : absV u = some x := by
  cases x with
  | non => cases r; rfl
  | bl _ => cases r; rfl
  | int _ => obtain ⟨t, rfl⟩ := r; rfl
  | str _ => obtain ⟨t, rfl⟩ := r; rfl
  | byt _ => obtain ⟨t, rfl⟩ := r; rfl
  | flt _ => obtain ⟨t, rfl⟩ := r; rfl
  | ref _ => cases r; rfl
  | ty _ => cases r; rfl
theorem RelV.inj {x y : V} {u : Value} (r : RelV x u) (q : RelV y u) : x = y := Option.some.inj (r.abs.symm.trans q.abs)
theorem Vals.inj : ∀ {xs ys : List V} {us : List Value}, Vals xs us → Vals ys us → xs = ys
  | _, _, _, .nil, .nil => rfl
  | _, _, _, .cons r t, .cons r' t' => by rw [r.inj r', Vals.inj t t']
section
variable {X : Cx} {pins : List (Addr × Obj)} {σ : St} {H : Hp} {s : Shared} {a : Addr} {xs ys : List V}
theorem SqL.of {K : PySem.W.Frag} (h : H a = some (.lst xs)) : SqL K H a xs := .inl (.inl h)
theorem SqT.of {K : PySem.W.Frag} (h : H a = some (.tup xs)) : SqT K H a xs := .inl (.inl h)
theorem Inv.list (I : Inv X pins σ H s) (h : SqL X.K H a xs) : ∃ its : List Value, Vals xs its ∧ PlainL s.heap a its.toArray ∧ xs.length ≤ sizeLine := by
  rcases h with h | ⟨o, its, n, hk, hc, hd, hs, hz, r⟩
  · obtain ⟨z, its, n, r, e⟩ := h.ok I.hok
    exact ⟨its, r, ⟨_, n, e, rfl, rfl, rfl⟩, z⟩
  · refine ⟨its.toList, r, ⟨o, n, I.kIn a o hk, hc, hd, by simpa using hs⟩, ?_⟩
    have e := r.length
    simp only [Array.length_toList] at e
    omega
theorem Inv.tuple (I : Inv X pins σ H s) (h : SqT X.K H a xs) : ∃ its : List Value, Vals xs its ∧ IsTup s.heap a its.toArray ∧ xs.length ≤ sizeLine := by
  rcases h with h | ⟨o, its, n, hk, hc, hs, hz, r⟩
  · obtain ⟨z, its, r, p⟩ := h.ok I.hok
    exact ⟨its, r, p, z⟩
  · refine ⟨its.toList, r, ⟨o, I.kIn a o hk, hc, n, by simpa using hs⟩, ?_⟩
    have e := r.length
    simp only [Array.length_toList] at e
    omega
theorem Inv.list_inj (I : Inv X pins σ H s) (h : SqL X.K H a xs) (h' : SqL X.K H a ys) : xs = ys := by
  obtain ⟨its, r, ⟨o, n, e, _, _, d⟩, _⟩ := I.list h
  obtain ⟨its', r', ⟨o', n', e', _, _, d'⟩, _⟩ := I.list h'
  rw [e] at e'; cases e'
  rw [d] at d'
  injection d' with d1 _
  have : its = its' := by simpa using congrArg Array.toList d1
  subst this
  exact r.inj r'
theorem Inv.tuple_inj (I : Inv X pins σ H s) (h : SqT X.K H a xs) (h' : SqT X.K H a ys) : xs = ys := by
  obtain ⟨its, r, ⟨o, e, _, n, d⟩, _⟩ := I.tuple h
  obtain ⟨its', r', ⟨o', e', _, n', d'⟩, _⟩ := I.tuple h'
  rw [e] at e'; cases e'
  rw [d] at d'
  injection d' with d1 _
  have : its = its' := by simpa using congrArg Array.toList d1
  subst this
  exact r.inj r'
end

/-! ### another wish about exceptions -/
abbrev Cx.wish (X : Cx) (E : Value → Shared → Prop) : Cx := { X with xe := E }
/-- no exception leaves -/
abbrev Cx.nox (X : Cx) : Cx := X.wish fun _ _ => False
theorem Cx.Ok.wish {X : Cx} (ok : X.Ok) (E : Value → Shared → Prop) : (X.wish E).Ok :=
  ⟨ok.mod, ok.kind, ok.glob, ok.blt, ok.above, ok.inj, ok.has, ok.cab, ok.hd, ok.frames, ok.stk, ok.exf, ok.bs, ok.bsz, ok.noex, ok.exfs, ok.funs, ok.frf⟩
theorem Cx.Ok.unwish {X : Cx} {E : Value → Shared → Prop} (ok : (X.wish E).Ok) : X.Ok :=
  ⟨ok.mod, ok.kind, ok.glob, ok.blt, ok.above, ok.inj, ok.has, ok.cab, ok.hd, ok.frames, ok.stk, ok.exf, ok.bs, ok.bsz, ok.noex, ok.exfs, ok.funs, ok.frf⟩
section
variable {X : Cx} {pins : List (Addr × Obj)} {σ : St} {H : Hp} {s : Shared} {E : Value → Shared → Prop}
theorem Inv.wish (I : Inv X pins σ H s) (E : Value → Shared → Prop) : Inv (X.wish E) pins σ H s := ⟨I.ok.wish E, I.os, I.bare, I.base, I.loc, I.cell, I.free, I.freeC, I.pin, I.hok, I.len⟩
theorem Inv.unwish (I : Inv (X.wish E) pins σ H s) : Inv X pins σ H s := ⟨I.ok.unwish, I.os, I.bare, I.base, I.loc, I.cell, I.free, I.freeC, I.pin, I.hok, I.len⟩
theorem SP.unwish {D : Ends} {f : Flow} {s' : Shared} (h : SP (X.wish E) pins D f s') : SP X pins D f s' := by
  cases f with
  | next => obtain ⟨σ', H', I, q⟩ := h; exact ⟨σ', H', I.unwish, q⟩
  | brk => obtain ⟨σ', H', I, q⟩ := h; exact ⟨σ', H', I.unwish, q⟩
  | cont => obtain ⟨σ', H', I, q⟩ := h; exact ⟨σ', H', I.unwish, q⟩
  | ret u => obtain ⟨v, σ', H', I, r, q⟩ := h; exact ⟨v, σ', H', I.unwish, r, q⟩
theorem PE.nox {e : Expr} {t : TE} (h : PE X.nox e t) : PE X e t := fun pins s σ H Q I hw =>
  wpAny_mono (h pins s σ H Q (I.wish _) hw) (fun _ _ ⟨v, H', I', r, q⟩ => ⟨v, H', I'.unwish, r, q⟩) fun _ _ z => False.elim z
theorem PT.nox {e : Expr} {t : TT} (h : PT X.nox e t) : PT X e t := fun pins s σ H Q I hw =>
  wpAny_mono (h pins s σ H Q (I.wish _) hw) (fun _ _ ⟨H', I', q⟩ => ⟨H', I'.unwish, q⟩) fun _ _ z => False.elim z
theorem PSs.nox {st : List Stmt} {t : TS} (h : PSs X.nox st t) : PSs X st t := fun pins s σ H D I hw =>
  wpAny_mono (h pins s σ H D (I.wish _) hw) (fun _ _ q => q.unwish) fun _ _ z => False.elim z
end

/-! ### blocks and small statements -/
section
variable {X : Cx} {st : Stmt} {rest : List Stmt} {t u : TS} {e : Expr} {te : TE} {pos : Pos}
def tNext : TS := fun D σ H => D.nx σ H
def tSeq (t u : TS) : TS := fun D σ H => t { D with nx := u D } σ H
theorem pss_nil : PSs X [] tNext := fun _ _ σ H _ I h => wpAny_execs_nil ⟨σ, H, I, h⟩
theorem pss_cons (h1 : PS X st t) (h2 : PSs X rest u) : PSs X (st :: rest) (tSeq t u) := by
  intro pins s σ H D I h
  refine wpAny_execs_cons (thn (h1 pins s σ H { D with nx := u D } I h) fun f s1 q => ?_)
  cases f with
  | next =>
    obtain ⟨σ', H', I', q⟩ := q
    exact h2 pins s1 σ' H' D I' q
  | ret v => exact q
  | brk => exact q
  | cont => exact q
theorem pss_one (h1 : PS X st t) : PSs X [st] t := by
  intro pins s σ H D I h
  refine wpAny_execs_cons (thn (h1 pins s σ H D I h) fun f s1 q => ?_)
  cases f with
  | next => exact wpAny_execs_nil q
  | ret v => exact q
  | brk => exact q
  | cont => exact q
def tBreak : TS := fun D σ H => D.bk σ H
def tCont : TS := fun D σ H => D.ct σ H
theorem ps_pass : PS X (.Pass pos) tNext := fun _ _ σ H _ I h => wpAny_Pass ⟨σ, H, I, h⟩
theorem ps_break : PS X (.Break pos) tBreak := fun _ _ σ H _ I h => wpAny_Break ⟨σ, H, I, h⟩
theorem ps_continue : PS X (.Continue pos) tCont := fun _ _ σ H _ I h => wpAny_Continue ⟨σ, H, I, h⟩
/-- in a def's body nothing is shown -/
theorem Inv.quiet {pins : List (Addr × Obj)} {σ : St} {H : Hp} {s : Shared} (I : Inv X pins σ H s) : interactive X.env = false := by simp [interactive, I.ok.kind]
/-- a docstring -/
theorem ps_doc {x j pos pos'} : PS X (.Expr (.Constant (.str x) j pos) pos') tNext := fun _ s σ H _ I h => wpAny_Expr (Calls.Constant_str (show SP X _ _ .next { s with toks := s.toks + 1 } from ⟨σ, H, I.tok _, h⟩)) I.quiet
/-- an expression whose value is dropped -/
def tDrop (te : TE) : TS := fun D σ H => te σ H fun _ H1 => D.nx σ H1
theorem ps_expr (he : PE X e te) (hs : swapsWith e none pos.line X.env = pure false := by rfl) : PS X (.Expr e pos) (tDrop te) := by
  intro pins s σ H D I h
  exact wpAny_Expr_any (thn (he pins s σ H _ I h) fun v s1 ⟨x, H1, I1, r1, q1⟩ => ⟨σ, H1, I1, q1⟩) I.quiet hs
def tRet (te : TE) : TS := fun D σ H => te σ H D.rt
theorem ps_ret (he : PE X e te) : PS X (.Return (some e) pos) (tRet te) := by
  intro pins s σ H D I h
  exact wpAny_Return_some (thn (he pins s σ H _ I h) fun v s1 ⟨x, H1, I1, r1, q1⟩ => ⟨x, σ, H1, I1, r1, q1⟩)
def tRetN : TS := fun D _ H => D.rt .non H
theorem ps_retN : PS X (.Return none pos) tRetN := fun _ _ σ H _ I h => wpAny_Return_none ⟨.non, σ, H, I, rfl, h⟩
def tIfS (c : TT) (t u : TS) : TS := fun D σ H => c σ H fun b H1 => if b = true then t D σ H1 else u D σ H1
theorem ps_if {c : Expr} {a b : List Stmt} {tc : TT} (hc : PT X c tc) (ha : PSs X a t) (hb : PSs X b u) : PS X (.If c a b pos) (tIfS tc t u) := by
  intro pins s σ H D I h
  refine wpAny_If (thn (hc pins s σ H _ I h) fun d s1 ⟨H1, I1, q1⟩ => ?_)
  cases d with
  | true => exact ha pins s1 σ H1 D I1 q1
  | false => exact hb pins s1 σ H1 D I1 q1
/-- code that the proof never comes to -/
def tNever : TS := fun _ _ _ => False
theorem ps_never : PS X st tNever := fun _ _ _ _ _ _ h => h.elim
theorem pss_never {sts : List Stmt} : PSs X sts tNever := fun _ _ _ _ _ _ h => h.elim
end

/-! ### targets -/
abbrev TG := V → St → Hp → (St → Hp → Prop) → Prop
abbrev TGs := List V → St → Hp → (St → Hp → Prop) → Prop
def PG (X : Cx) (target : Expr) (t : TG) : Prop :=
  ∀ (pins : List (Addr × Obj)) (s : Shared) (σ : St) (H : Hp) (v : V) (u : Value) (Q : St → Hp → Prop), Inv X pins σ H s → RelV v u → t v σ H Q →
    wpAny (model X.prog X.w) X.A (assign target X.env u) (fun _ s' => ∃ σ' H', Inv X pins σ' H' s' ∧ Q σ' H') X.xe s
/-- several targets, one after another -/
def PGs (X : Cx) (ts : List Expr) (t : TGs) : Prop :=
  ∀ (pins : List (Addr × Obj)) (s : Shared) (σ : St) (H : Hp) (vs : List V) (us : List Value) (Q : St → Hp → Prop), Inv X pins σ H s → Vals vs us → t vs σ H Q →
    wpAny (model X.prog X.w) X.A (assignInOrder ((assignEach ts X.env).map (·.2)) us) (fun _ s' => ∃ σ' H', Inv X pins σ' H' s' ∧ Q σ' H') X.xe s
/-- o[i] = v, by values -/
abbrev TSet := V → V → V → Hp → (Hp → Prop) → Prop
def PSet (X : Cx) (t : TSet) : Prop :=
  ∀ (pins : List (Addr × Obj)) (s : Shared) (σ : St) (H : Hp) (o i v : V) (ov iv u : Value) (Q : Hp → Prop), Inv X pins σ H s → RelV o ov → RelV i iv → RelV v u → t o i v H Q →
    wpAny (model X.prog X.w) X.A (setItem ov iv u) (fun _ s' => ∃ H', Inv X pins σ H' s' ∧ Q H') X.xe s
/-- a op= b, by values -/
abbrev TIp := V → V → Hp → VK → Prop
def PIp (X : Cx) (op : Operator) (t : TIp) : Prop :=
  ∀ (pins : List (Addr × Obj)) (s : Shared) (σ : St) (H : Hp) (x y : V) (v u : Value) (Q : VK), Inv X pins σ H s → RelV x v → RelV y u → t x y H Q →
    wpAny (model X.prog X.w) X.A (inplaceOp op v u) (EP X pins σ Q) X.xe s
section
variable {X : Cx} {pos : Pos}
def gName (i : Nat) : TG := fun v σ H Q => Q (σ.set i (some v)) H
theorem pg_name {i : Nat} {x : Str} (hN : X.N.Nodup) (hi : X.N[i]? = some x) (hx : Loc X.env.scope x) (hf : X.fn x = true ∨ X.env.scope.names.lookup x = some .local := by first | exact .inl rfl | exact .inr rfl | assumption) : PG X (.Name x pos) (gName i) := by
  intro pins s σ H v u Q I r h
  exact wpAny_assign_Name (store_ok I hN hi hx r (fun s' I' => ⟨_, H, I', h⟩) hf)
def gNil : TGs := fun vs σ H Q => vs = [] ∧ Q σ H
def gCons (t : TG) (u : TGs) : TGs := fun vs σ H Q => ∃ v r, vs = v :: r ∧ t v σ H fun σ' H' => u r σ' H' Q
theorem pgs_nil : PGs X [] gNil := by
  intro pins s σ H vs us Q I r h
  obtain ⟨e, h⟩ := h
  subst e
  cases r
  exact assignInOrder_nil ⟨σ, H, I, h⟩
theorem pgs_cons {e : Expr} {es : List Expr} {t : TG} {u : TGs} (h1 : PG X e t) (h2 : PGs X es u)
    (hs : (assignEach (e :: es) X.env).map (·.2) = assign e X.env :: (assignEach es X.env).map (·.2) := by rfl) : PGs X (e :: es) (gCons t u) := by
  intro pins s σ H vs us Q I r h
  obtain ⟨v, vr, e1, h⟩ := h
  subst e1
  cases r with
  | cons r rr =>
    rw [hs]
    refine assignInOrder_cons (thn (h1 pins s σ H _ _ _ I r h) fun _ s1 ⟨σ1, H1, I1, q1⟩ => ?_)
    exact h2 pins s1 σ1 H1 _ _ Q I1 rr q1
/-- (a, b, ..) = a tuple of that length -/
def gTup (K : PySem.W.Frag) (n : Nat) (t : TGs) : TG := fun v σ H Q => ∃ a xs, v = .ref a ∧ SqT K H a xs ∧ xs.length = n ∧ t xs σ H Q
theorem pg_tup {es : List Expr} {k : Nat} {t : TGs} {n : Nat} (hc : X.calm = true) (h : PGs X es t)
    (hn : (assignEach es X.env).length = n := by rfl) (hst : (assignEach es X.env).findIdx? (·.1) = none := by rfl) : PG X (.Tuple es k pos) (gTup X.K n t) := by
  intro pins s σ H v u Q I r hw
  obtain ⟨a, xs, e1, hq, hl, hw⟩ := hw
  subst e1
  cases r
  obtain ⟨its, rv, ht, hz⟩ := I.tuple hq
  refine assign_Tuple_tuple (I.ok.hd hc) ht (by simp [hn, ← hl, rv.length]) hst fun h' hx => ?_
  have I1 : Inv X pins σ H { s with heap := h' } := I.kept (t' := s.toks) fun b o e => hx b o (Nat.ne_of_lt (Heap.lt_size e)) e
  exact h pins _ σ H xs _ Q I1 (by simpa using rv) hw
/-- o[i] = .. -/
def gSub (to ti : TE) (t : TSet) : TG := fun v σ H Q => to σ H fun o H1 => ti σ H1 fun i H2 => t o i v H2 fun H3 => Q σ H3
theorem pg_sub {o i : Expr} {to ti : TE} {t : TSet} (ho : PE X o to) (hi : PE X i ti) (hs : PSet X t)
    (ha : ∀ v, assign (.Subscript o i pos) X.env v = (do
      let ov ← holding [v] (eval o X.env)
      let iv ← holding [v, ov] (eval i X.env)
      standAt pos
      holding [v, ov, iv] (setItem ov iv v)
      release [v, ov, iv] []) := by intro _; rfl) : PG X (.Subscript o i pos) (gSub to ti t) := by
  intro pins s σ H v u Q I r h
  rw [ha]
  refine wpAny_bind (wpAny_holding (thn (ho pins s σ H _ I h) fun ov s1 ⟨x, H1, I1, r1, q1⟩ => ?_))
  refine wpAny_bind (wpAny_holding (thn (hi pins s1 σ H1 _ I1 q1) fun iv s2 ⟨y, H2, I2, r2, q2⟩ => ?_))
  refine wpAny_bind (wpAny_standAt (wpAny_bind (wpAny_holding (thn (hs pins s2 σ H2 x y v ov iv u _ I2 r1 r2 r q2) fun _ s3 ⟨H3, I3, q3⟩ => ?_))))
  exact wpAny_release ⟨σ, H3, I3, q3⟩
/-- target = value -/
def tAsg (te : TE) (g : TG) : TS := fun D σ H => te σ H fun x H1 => g x σ H1 D.nx
theorem ps_asg {tg e : Expr} {te : TE} {g : TG} (he : PE X e te) (hg : PG X tg g) (hs : swapsWithSole [tg] e pos.line X.env = pure false := by rfl) (hw : swappedStores [tg] e X.env = pure none := by rfl)
    (h1 : (assignEach [tg] X.env).map (·.2) = [assign tg X.env] := by rfl) : PS X (.Assign [tg] e pos) (tAsg te g) := by
  intro pins s σ H D I h
  refine wpAny_Assign_stores (thn (he pins s σ H _ I h) fun v s1 ⟨x, H1, I1, r1, q1⟩ => ?_) hs hw
  rw [h1]
  exact thn (hg pins s1 σ H1 x v _ I1 r1 q1) fun _ s2 q => q
/-- name = value -/
theorem ps_set {i : Nat} {x : Str} {e : Expr} {te : TE} {pos' : Pos} (hN : X.N.Nodup) (hi : X.N[i]? = some x) (hx : Loc X.env.scope x) (he : PE X e te) (hs : swapsWith e (some (.Name x pos')) pos.line X.env = pure false := by rfl) (hf : X.fn x = true ∨ X.env.scope.names.lookup x = some .local := by first | exact .inl rfl | exact .inr rfl | assumption) :
    PS X (.Assign [.Name x pos'] e pos) (tAsg te (gName i)) := by
  intro pins s σ H D I h
  refine wpAny_Assign_Name (thn (he pins s σ H _ I h) fun v s1 ⟨y, H1, I1, r1, q1⟩ => ?_) hs
  exact store_ok I1 hN hi hx r1 (fun s2 I2 => ⟨_, H1, I2, q1⟩) hf
/-- a, b = x, y with plain local names: stored from the right; the pair itself is not tracked (the opening rows as in PyProof/Rows/TupAssign.lean:23) -/
def tPar (i j : Nat) (ta : TA) : TS := fun D σ H => ta σ H fun vs H1 => ∃ v w, vs = [v, w] ∧ D.nx ((σ.set i (some v)).set j (some w)) H1
theorem ps_par {i j : Nat} {x y : Str} {a b : Expr} {ta : TA} {px py pt : Pos} {kt k2 pt2} (hc : X.calm = true) (hN : X.N.Nodup) (hi : X.N[i]? = some x) (hj : X.N[j]? = some y) (hij : i ≠ j)
    (hx : X.env.scope.names.lookup x = some .local) (hy : X.env.scope.names.lookup y = some .local) (ha : PA X [a, b] ta)
    (hw : swappedStores [.Tuple [.Name x px, .Name y py] kt pt] (.Tuple [a, b] k2 pt2) X.env = pure (some [x, y]))
    (hs : swapsWithSole [.Tuple [.Name x px, .Name y py] kt pt] (.Tuple [a, b] k2 pt2) pos.line X.env = pure false := by rfl) :
    PS X (.Assign [.Tuple [.Name x px, .Name y py] kt pt] (.Tuple [a, b] k2 pt2) pos) (tPar i j ta) := by
  intro pins s σ H D I h
  rw [exec_Assign_arm]
  refine wpAny_bind (wpAny_standAt ?_)
  rw [hs]
  refine wpAny_bind (wpAny_pure ?_)
  rw [if_neg (by decide)]
  refine wpAny_bind (Tuple_ (thn (ha _ pins s σ H _ I h) fun us s1 ⟨vs, H1, I1, r1, q1⟩ => ?_))
  obtain ⟨v, w, e1, q1⟩ := q1
  subst e1
  obtain ⟨u1, u2, rfl, rv, rw'⟩ : ∃ u1 u2, us = [u1, u2] ∧ RelV v u1 ∧ RelV w u2 := by
    cases r1 with
    | cons p q =>
      cases q with
      | cons p' q' =>
        cases q'
        exact ⟨_, _, rfl, p, p'⟩
  refine wpAny_newObj_type ?_ (by show 2 ≤ sizeLine; decide)
  have I2 : Inv X pins σ H1 { s1 with heap := s1.heap.push { cls := .type "tuple", data := .seq [u1, u2].toArray } } := I1.kept (t' := s1.toks) fun b o e => Heap.get?_push_of_some _ e
  rw [hw]
  refine wpAny_bind (wpAny_pure ?_)
  show wpAny (model X.prog X.w) X.A (do rule "assign.swapped-stores"; let items ← unpackItems (.ref s1.heap.objs.size) 2 none; assignInOrder [fun v => bindName X.env y v, fun v => bindName X.env x v] items.reverse; pure Flow.next) _ _ _
  refine wpAny_bind (wpAny_rule (wpAny_bind (unpackItems_tuple (items := #[u1, u2]) (I.ok.hd hc) (IsTup.new s1.heap _) fun h' hx' => ?_)))
  have I3 := I2.kept (h' := h') (t' := s1.toks) fun b o e => hx' b o (Nat.ne_of_lt (Heap.lt_size e)) e
  show wpAny _ _ (assignInOrder [fun v => bindName X.env y v, fun v => bindName X.env x v] [u2, u1] >>= fun _ => pure Flow.next) _ _ _
  refine wpAny_bind (assignInOrder_cons (wpAny_bindName (store_ok I3 hN hj (.inl hy) rw' (fun s2 I4 => ?_) (.inr hy))))
  refine assignInOrder_cons (wpAny_bindName (store_ok I4 hN hi (.inl hx) rv (fun s3 I5 => assignInOrder_nil (wpAny_pure ?_)) (.inr hx)))
  rw [List.set_comm _ _ (Ne.symm hij)] at I5
  exact ⟨_, H1, I5, q1⟩
/-- name op= e -/
def tAug (i : Nat) (te : TE) (ti : TIp) : TS := fun D σ H => ∃ x, σ[i]? = some (some x) ∧ te σ H fun y H1 => ti x y H1 fun z H2 => D.nx (σ.set i (some z)) H2
theorem ps_aug {i : Nat} {x : Str} {e : Expr} {te : TE} {op : Operator} {ti : TIp} {pos' : Pos} (hN : X.N.Nodup) (hi : X.N[i]? = some x) (hx : Loc X.env.scope x) (he : PE X e te) (ho : PIp X op ti) (hf : X.fn x = true ∨ X.env.scope.names.lookup x = some .local := by first | exact .inl rfl | exact .inr rfl | assumption) :
    PS X (.AugAssign (.Name x pos') op e pos) (tAug i te ti) := by
  intro pins s σ H D I h
  obtain ⟨v, e1, h⟩ := h
  obtain ⟨m, hn, hl⟩ := I.loc
  have vis : Vis X.env.scope x := by rcases hx with k | k; exact .inl k; exact .inr (.inl k)
  obtain ⟨u, r, l⟩ := hl i x v hi e1 vis
  refine wpAny_AugAssign_Name ?_
  have go : wpAny (model X.prog X.w) X.A (eval e X.env) (fun w s₂ => wpAny (model X.prog X.w) X.A (inplaceOp op u w) (fun r s₃ => wpAny (model X.prog X.w) X.A (storeName X.env x r) (fun _ => SP X pins D .next) X.xe s₃) X.xe s₂) X.xe s := by
    refine thn (he pins s σ H _ I h) fun w s1 ⟨y, H1, I1, r1, q1⟩ => ?_
    refine thn (ho pins s1 σ H1 v y u w _ I1 r r1 q1) fun z s2 ⟨zv, H2, I2, r2, q2⟩ => ?_
    exact store_ok I2 hN hi hx r2 (fun s3 I3 => ⟨_, H2, I3, q2⟩) hf
  rcases l with ⟨hk, hm⟩ | ⟨hk, c, hc, hcell⟩
  · exact wpAny_loadName_local I.ok.kind hk hn hm go
  · rcases hk with hk | hk
    · exact wpAny_loadName_cell I.ok.kind hk hc hcell go
    · rcases hx with k | k
      · have : X.env.scope.names.lookup x = some .free := hk
        rw [k] at this; cases this
      · have : X.env.scope.names.lookup x = some .free := hk
        rw [k] at this; cases this
/-- o[i] op= e -/
def tAugS (to ti te : TE) (tget : V → V → Hp → VK → Prop) (tip : TIp) (tset : TSet) : TS := fun D σ H => to σ H fun o H1 => ti σ H1 fun i H2 => tget o i H2 fun x H3 => te σ H3 fun y H4 => tip x y H4 fun z H5 => tset o i z H5 fun H6 => D.nx σ H6
/-- o[i], by values -/
def PGet (X : Cx) (t : V → V → Hp → VK → Prop) : Prop :=
  ∀ (pins : List (Addr × Obj)) (s : Shared) (σ : St) (H : Hp) (o i : V) (ov iv : Value) (Q : VK), Inv X pins σ H s → RelV o ov → RelV i iv → t o i H Q →
    wpAny (model X.prog X.w) X.A (getItem ov iv) (EP X pins σ Q) X.xe s
theorem ps_augS {o i e : Expr} {to ti te : TE} {tget : V → V → Hp → VK → Prop} {tip : TIp} {tset : TSet} {op : Operator} {tpos : Pos} (ho : PE X o to) (hi : PE X i ti) (hg : PGet X tget) (he : PE X e te) (hp : PIp X op tip) (hs : PSet X tset)
    (ha : ∀ ov iv new, augStore i ov iv new = (do holding [new, ov, iv] (setItem ov iv new); release [new, ov, iv] []; pure .next) := by intros; rfl) : PS X (.AugAssign (.Subscript o i tpos) op e pos) (tAugS to ti te tget tip tset) := by
  intro pins s σ H D I h
  refine wpAny_AugAssign_SubscriptAny (thn (ho pins s σ H _ I h) fun ov s1 ⟨x1, H1, I1, r1, q1⟩ => ?_) ha
  refine thn (hi pins s1 σ H1 _ I1 q1) fun iv s2 ⟨x2, H2, I2, r2, q2⟩ => ?_
  refine thn (hg pins s2 σ H2 x1 x2 ov iv _ I2 r1 r2 q2) fun old s3 ⟨x3, H3, I3, r3, q3⟩ => ?_
  refine thn (he pins s3 σ H3 _ I3 q3) fun v s4 ⟨x4, H4, I4, r4, q4⟩ => ?_
  refine thn (hp pins s4 σ H4 x3 x4 old v _ I4 r3 r4 q4) fun new s5 ⟨x5, H5, I5, r5, q5⟩ => ?_
  exact thn (hs pins s5 σ H5 x1 x2 x5 ov iv new _ I5 r1 r2 r5 q5) fun _ s6 ⟨H6, I6, q6⟩ => ⟨σ, H6, I6, q6⟩
/-- ints -/
def ipI (f : Int → Int → Int) : TIp := fun x y H Q => ∃ i j, x = .int i ∧ y = .int j ∧ Q (.int (f i j)) H
theorem ip_add : PIp X .Add (ipI fun i j => i + j) := by
  intro pins s σ H x y v u Q I r1 r2 h
  obtain ⟨i, j, e1, e2, q⟩ := h
  subst e1; subst e2
  obtain ⟨t, rfl⟩ := r1
  obtain ⟨t', rfl⟩ := r2
  exact iadd_int ⟨.int _, H, I.tok _, ⟨_, rfl⟩, q⟩
theorem ip_sub : PIp X .Sub (ipI fun i j => i - j) := by
  intro pins s σ H x y v u Q I r1 r2 h
  obtain ⟨i, j, e1, e2, q⟩ := h
  subst e1; subst e2
  obtain ⟨t, rfl⟩ := r1
  obtain ⟨t', rfl⟩ := r2
  exact isub_int ⟨.int _, H, I.tok _, ⟨_, rfl⟩, q⟩
end

/-! ### while -/
section
variable {X : Cx} {pos : Pos}
/-- the invariant W with its measure -/
def tWhile (c : TT) (tb : TS) : TS := fun D σ H => ∃ W : Nat → St → Hp → Prop, (∃ m, W m σ H) ∧ ∀ m σ H, W m σ H →
  c σ H fun b H1 => if b = true then ∃ N : St → Hp → Prop, (∀ σ' H', N σ' H' → ∃ m', m' < m ∧ W m' σ' H') ∧ tb { D with nx := N, ct := N, bk := D.nx } σ H1 else D.nx σ H1
theorem ps_while {c : Expr} {body : List Stmt} {tc : TT} {tb : TS} (hp : PassesOwn (model X.prog X.w) X.A X.env X.xe) (hc : PT X c tc) (hb : PSs X body tb) : PS X (.While c body [] pos) (tWhile tc tb) := by
  intro pins s σ H D I h
  obtain ⟨W, ⟨m0, w0⟩, turn⟩ := h
  refine wpAny_While (codeAny_whileLoop (fun n s' => ∃ σ' H', Inv X pins σ' H' s' ∧ W n σ' H') ?_ m0 ⟨σ, H, I, w0⟩)
  rintro n s1 ⟨σ1, H1, I1, w1⟩
  refine wpAny_passesOwn hp (thn (hc pins s1 σ1 H1 _ I1 (turn n σ1 H1 w1)) fun b s2 ⟨H2, I2, q2⟩ => ?_)
  cases b with
  | true =>
    obtain ⟨N, hN, q2⟩ := q2
    rw [if_pos rfl]
    refine wpAny_passesOwn hp (thn (hb pins s2 σ1 H2 _ I2 q2) fun f s3 q3 => ?_)
    cases f with
    | next =>
      obtain ⟨σ3, H3, I3, n3⟩ := q3
      obtain ⟨m', hm, w3⟩ := hN σ3 H3 n3
      exact ⟨m', hm, σ3, H3, I3, w3⟩
    | cont =>
      obtain ⟨σ3, H3, I3, n3⟩ := q3
      obtain ⟨m', hm, w3⟩ := hN σ3 H3 n3
      exact ⟨m', hm, σ3, H3, I3, w3⟩
    | brk => exact q3
    | ret v => exact q3
  | false =>
    rw [if_neg Bool.false_ne_true]
    exact wpAny_execs_nil ⟨σ1, H2, I2, q2⟩
end

/-! ### what a loop or a comprehension walks -/
/-- at turn i: it yields x (the heap may grow), or it stops -/
structure It where
  go : Nat → Hp → Prop
  yld : Nat → Hp → V → Hp → Prop
  stop : Nat → Hp → Prop
/-- the iterator's own objects may turn: they are not the frame's, not pinned, younger than the entry (or a comprehension's own) -/
def FpOk (X : Cx) (pins : List (Addr × Obj)) (H : Hp) (b : Addr) : Prop :=
  H b = none ∧ b ≠ X.env.locals ∧ b ∉ X.fs ∧ (b ∈ X.ex ∨ X.s₀.heap.objs.size ≤ b) ∧ (∀ x c, X.env.cells.lookup x = some c → c ≠ b) ∧ ∀ p ∈ X.pn ++ pins, p.1 ≠ b
theorem Inv.fpOk {X : Cx} {pins : List (Addr × Obj)} {σ : St} {H H' : Hp} {s : Shared} {b : Addr} (I : Inv X pins σ H s) (hb : s.heap.objs.size ≤ b) (hn : H' b = none) : FpOk X pins H' b := by
  refine ⟨hn, Nat.ne_of_gt (Nat.lt_of_lt_of_le I.lt hb), I.nofs hb, .inr (Nat.le_trans I.sz hb), fun x c e z => ?_, fun p hp z => ?_⟩
  · obtain ⟨v, q⟩ := I.cell x c e
    exact absurd (Nat.lt_of_lt_of_le q.lt (by rw [z]; exact hb)) (Nat.lt_irrefl _)
  · exact absurd (Nat.lt_of_lt_of_le (Heap.lt_size (I.pin p hp).1) (by rw [z]; exact hb)) (Nat.lt_irrefl _)
structure Turn (P : Program) (w : World) (K : PySem.W.Frag) (tg : Expr) (J : It) (fp : List Addr) (it : Addr) (tn : Nat → Heap → Prop) : Prop where
  mem : it ∈ fp
  obj : ∀ i h, tn i h → ∀ b ∈ fp, ∃ o, h.get? b = some o ∧ ∀ v, o.data ≠ .cell v
  keep : ∀ i h h', tn i h → (∀ b ∈ fp, ∀ o, h.get? b = some o → h'.get? b = some o) → tn i h'
  item : ∀ (X : Cx), X.prog = P → X.w = w → X.K = K → X.calm = true → ∀ (i : Nat) (pins : List (Addr × Obj)) (s : Shared) (σ : St) (H : Hp) (E : Value → Shared → Prop), Inv X pins σ H s → (∀ b ∈ fp, FpOk X pins H b) → tn i s.heap → J.go i H →
    wpAny (model P w) X.A (pyNext (.ref it)) (fun r s1 => ∃ u, r = some u ∧
      wpAny (model P w) X.A (letOwnedTupleGo tg (.ref it) u) (fun _ s2 => ∃ x H', Inv X pins σ H' s2 ∧ RelV x u ∧ J.yld i H x H' ∧ tn (i + 1) s2.heap ∧ ∀ b ∈ fp, H' b = none) E s1) E s
  done : ∀ (X : Cx), X.prog = P → X.w = w → X.K = K → X.calm = true → ∀ (i : Nat) (pins : List (Addr × Obj)) (s : Shared) (σ : St) (H : Hp) (E : Value → Shared → Prop), Inv X pins σ H s → (∀ b ∈ fp, FpOk X pins H b) → tn i s.heap → J.stop i H →
    wpAny (model P w) X.A (pyNext (.ref it)) (fun r s1 => r = none ∧ Inv X pins σ H s1) E s
  self : ∀ (A : Around) (i : Nat) (s : Shared) (Q : Value → Shared → Prop) (E : Value → Shared → Prop), tn i s.heap → Q (.ref it) s → wpAny (model P w) A (pyIter (.ref it)) Q E s
abbrev TI := St → Hp → (It → Hp → Prop) → Prop
/-- an iterator has come -/
def PIE (X : Cx) (pins : List (Addr × Obj)) (σ : St) (tg : Expr) (R : It → Hp → Prop) (itv : Value) (s2 : Shared) : Prop :=
  ∃ (it : Addr) (fp : List Addr) (tn : Nat → Heap → Prop) (J : It) (H' : Hp), itv = .ref it ∧ Inv X pins σ H' s2 ∧ Turn X.prog X.w X.K tg J fp it tn ∧ tn 0 s2.heap ∧ (∀ b ∈ fp, FpOk X pins H' b) ∧ R J H'
def PI (X : Cx) (tg iter : Expr) (wi : TI) : Prop :=
  ∀ (pins : List (Addr × Obj)) (s : Shared) (σ : St) (H : Hp) (R : It → Hp → Prop), Inv X pins σ H s → wi σ H R →
    wpAny (model X.prog X.w) X.A (eval iter X.env) (fun v s1 => wpAny (model X.prog X.w) X.A (pyIter v) (PIE X pins σ tg R) X.xe s1) X.xe s

/-- the step ahead of the store is nothing for an iterator that keeps no tuple -/
theorem go_of {M : Model} {A : Around} {E : Value → Shared → Prop} {s : Shared} {tg : Expr} {it : Addr} {u : Value} {o : Obj} {n : String} {vs : Array Value} {Q : Unit → Shared → Prop} (ho : s.heap.get? it = some o) (hc : o.cls = .type n) (hd : o.data = .fields vs)
    (hn : ["enumerate", "zip", "dict_itemiterator", "dict_reverseitemiterator", "odict_iterator", "itertools.zip_longest", "itertools.pairwise"].contains n = false) (hQ : Q () s) : wpAny M A (letOwnedTupleGo tg (.ref it) u) Q E s := by
  unfold letOwnedTupleGo
  cases tg <;> first
    | exact wpAny_pure hQ
    | (cases u <;> first
        | exact wpAny_pure hQ
        | (refine wpAny_bind (wpAny_load ho ?_)
           rw [hc, hd]
           show wpAny M A (if (["enumerate", "zip", "dict_itemiterator", "dict_reverseitemiterator", "odict_iterator", "itertools.zip_longest", "itertools.pairwise"].contains n && vs[0]? == some (rawInt _)) = true then _ else _) Q E s
           rw [if_neg (by intro h; rw [hn, Bool.false_and] at h; cases h)]
           exact wpAny_pure hQ))

/-- the list at a, as it stands at each turn (a loop may append to it) -/
def Itl (K : PySem.W.Frag) (a : Addr) : It :=
  ⟨fun i H => ∃ xs x, SqL K H a xs ∧ xs[i]? = some x, fun i H x H' => H' = H ∧ ∀ xs, SqL K H a xs → xs[i]? = some x, fun i H => ∃ xs, SqL K H a xs ∧ xs.length ≤ i⟩
def Itt (K : PySem.W.Frag) (a : Addr) : It :=
  ⟨fun i H => ∃ xs x, SqT K H a xs ∧ xs[i]? = some x, fun i H x H' => H' = H ∧ ∀ xs, SqT K H a xs → xs[i]? = some x, fun i H => ∃ xs, SqT K H a xs ∧ xs.length ≤ i⟩
/-- lo, lo + 1, .. (n of them) -/
def Itr (lo : Int) (n : Nat) : It := ⟨fun i _ => i < n, fun i H x H' => H' = H ∧ x = .int (lo + i), fun i _ => n ≤ i⟩
theorem turn_list {P : Program} {w : World} {K : PySem.W.Frag} {tg : Expr} (a it : Addr) : Turn P w K tg (Itl K a) [it] it (fun i h => h.IsListIter it a i) where
  mem := by simp
  obj := fun i h st b hb => by
    have e : b = it := by simpa using hb
    subst e
    obtain ⟨o, e, c, d⟩ := st
    exact ⟨o, e, fun v z => by rw [d] at z; cases z⟩
  keep := fun i h h' st k => st.at fun o e => k it (by simp) o e
  item := by
    intro X hP hw hK hc i pins s σ H E I hf st hg
    subst hP hw hK
    obtain ⟨xs, x, hq, hx⟩ := hg
    obtain ⟨its, rv, p, hz⟩ := I.list hq
    obtain ⟨u, hu, ru⟩ := rv.get hx
    obtain ⟨f0, f1, f2, f3, f4, f5⟩ := hf it (by simp)
    refine wpAny_pyNext_list_item st p.isList (x := u) (by simpa using hu) fun h' st' sb => ?_
    have I1 : Inv X pins σ H { s with heap := h' } := I.turned (t' := s.toks) (fun b o hb e => (sb.2 b hb).trans e) f0 f1 f3 f4 f5
    obtain ⟨o, e, c, d⟩ := id st'
    exact ⟨u, rfl, go_of (s := { s with heap := h' }) e c d (by decide) ⟨x, H, I1, ru, ⟨rfl, fun ys hy => by rw [I.list_inj hy hq]; exact hx⟩, st', fun b hb => (hf b hb).1⟩⟩
  done := by
    intro X hP hw hK hc i pins s σ H E I hf st hg
    subst hP hw hK
    obtain ⟨xs, hq, hx⟩ := hg
    obtain ⟨its, rv, p, hz⟩ := I.list hq
    obtain ⟨f0, f1, f2, f3, f4, f5⟩ := hf it (by simp)
    have hl := rv.length
    exact wpAny_pyNext_list_end (I.ok.hd hc) st p.isList (by simp; omega) fun h' eb => ⟨rfl, I.turned (t' := s.toks) (fun b o hb e => eb b o hb e) f0 f1 f3 f4 f5⟩
  self := fun _ _ _ _ _ st h => wpAny_pyIter_listiter st h
theorem turn_tuple {P : Program} {w : World} {K : PySem.W.Frag} {tg : Expr} (a it : Addr) : Turn P w K tg (Itt K a) [it] it (fun i h => h.IsTupleIter it a i) where
  mem := by simp
  obj := fun i h st b hb => by
    have e : b = it := by simpa using hb
    subst e
    obtain ⟨o, e, c, d⟩ := st
    exact ⟨o, e, fun v z => by rw [d] at z; cases z⟩
  keep := fun i h h' st k => st.at fun o e => k it (by simp) o e
  item := by
    intro X hP hw hK hc i pins s σ H E I hf st hg
    subst hP hw hK
    obtain ⟨xs, x, hq, hx⟩ := hg
    obtain ⟨its, rv, p, hz⟩ := I.tuple hq
    obtain ⟨u, hu, ru⟩ := rv.get hx
    obtain ⟨f0, f1, f2, f3, f4, f5⟩ := hf it (by simp)
    refine wpAny_pyNext_tuple_item st (show s.heap.IsTuple a its.toArray from p) (x := u) (by simpa using hu) fun h' st' sb => ?_
    have I1 : Inv X pins σ H { s with heap := h' } := I.turned (t' := s.toks) (fun b o hb e => (sb.2 b hb).trans e) f0 f1 f3 f4 f5
    obtain ⟨o, e, c, d⟩ := id st'
    exact ⟨u, rfl, go_of (s := { s with heap := h' }) e c d (by decide) ⟨x, H, I1, ru, ⟨rfl, fun ys hy => by rw [I.tuple_inj hy hq]; exact hx⟩, st', fun b hb => (hf b hb).1⟩⟩
  done := by
    intro X hP hw hK hc i pins s σ H E I hf st hg
    subst hP hw hK
    obtain ⟨xs, hq, hx⟩ := hg
    obtain ⟨its, rv, p, hz⟩ := I.tuple hq
    obtain ⟨f0, f1, f2, f3, f4, f5⟩ := hf it (by simp)
    have hl := rv.length
    exact wpAny_pyNext_tuple_end (I.ok.hd hc) st (show s.heap.IsTuple a its.toArray from p) (by simp; omega) fun h' eb => ⟨rfl, I.turned (t' := s.toks) (fun b o hb e => eb b o hb e) f0 f1 f3 f4 f5⟩
  self := fun _ _ _ _ _ st h => wpAny_pyIter_tupleiter st h
theorem turn_range {P : Program} {w : World} {K : PySem.W.Frag} {tg : Expr} (it : Addr) (lo : Int) (n : Nat) : Turn P w K tg (Itr lo n) [it] it (fun i h => IsRangeIter h it (lo + (i : Nat) * 1) ((n : Int) - (i : Nat)) 1) where
  mem := by simp
  obj := fun i h st b hb => by
    have e : b = it := by simpa using hb
    subst e
    exact ⟨_, st, fun v z => by
      have z' : Data.fields _ = Data.cell v := z
      cases z'⟩
  keep := fun i h h' st k => k it (by simp) _ st
  item := by
    intro X hP hw hK hc i pins s σ H E I hf st hg
    subst hP hw hK
    obtain ⟨f0, f1, f2, f3, f4, f5⟩ := hf it (by simp)
    have W := Walks.range (prog := X.prog) (w := X.w) (I.ok.hd hc) it lo 1 n
    refine W.item i s _ _ hg st fun v h' tk hv st' kk => ?_
    obtain ⟨t, rfl⟩ := hv
    have I1 : Inv X pins σ H { s with heap := h', toks := tk } := I.turned (fun b o hb e => kk b o (by simpa using hb) e) f0 f1 f3 f4 f5
    refine ⟨_, rfl, go_of (s := { s with heap := h', toks := tk }) (n := "range_iterator") st' rfl rfl (by decide) ⟨.int (lo + i), H, I1, ⟨t, ?_⟩, ⟨rfl, rfl⟩, st', fun b hb => (hf b hb).1⟩⟩
    rw [Int.mul_one]
  done := by
    intro X hP hw hK hc i pins s σ H E I hf st hg
    subst hP hw hK
    obtain ⟨f0, f1, f2, f3, f4, f5⟩ := hf it (by simp)
    exact wpAny_pyNext_range_end (I.ok.hd hc) st (by have : n ≤ i := hg; omega) fun h' eb => ⟨rfl, I.turned (t' := s.toks) (fun b o hb e => eb b o hb e) f0 f1 f3 f4 f5⟩
  self := fun _ _ _ _ _ st h => wpAny_pyIter_rangeiter st h
end L2

namespace L2
open PySem PySem.Spec PyProof.Rows
section
variable {X : Cx} {tg : Expr}
def iList (K : PySem.W.Frag) (tl : TE) : TI := fun σ H R => tl σ H fun x H1 => ∃ a, x = .ref a ∧ (∃ xs, SqL K H1 a xs) ∧ R (Itl K a) H1
def iTup (K : PySem.W.Frag) (tl : TE) : TI := fun σ H R => tl σ H fun x H1 => ∃ a, x = .ref a ∧ (∃ xs, SqT K H1 a xs) ∧ R (Itt K a) H1
theorem pi_list {l : Expr} {tl : TE} (hl : PE X l tl) : PI X tg l (iList X.K tl) := by
  intro pins s σ H R I h
  refine thn (hl pins s σ H _ I h) fun v s1 ⟨x, H1, I1, r1, q1⟩ => ?_
  obtain ⟨a, e, ⟨xs, hq⟩, q⟩ := q1
  subst e
  cases r1
  obtain ⟨its, rv, p, hz⟩ := I1.list hq
  refine wpAny_pyIter_list p.isList ?_
  refine ⟨s1.heap.objs.size, [s1.heap.objs.size], _, _, H1, rfl, I1.kept (t' := s1.toks) fun b o e => Heap.get?_push_of_some _ e, turn_list a _, ⟨_, Heap.get?_push_size _ rfl, rfl, rfl⟩, fun b hb => ?_, q⟩
  have e : b = s1.heap.objs.size := by simpa using hb
  subst e
  exact I1.fpOk (Nat.le_refl _) (I1.hok.fresh (Nat.le_refl _))
theorem pi_tup {l : Expr} {tl : TE} (hl : PE X l tl) : PI X tg l (iTup X.K tl) := by
  intro pins s σ H R I h
  refine thn (hl pins s σ H _ I h) fun v s1 ⟨x, H1, I1, r1, q1⟩ => ?_
  obtain ⟨a, e, ⟨xs, hq⟩, q⟩ := q1
  subst e
  cases r1
  obtain ⟨its, rv, p, hz⟩ := I1.tuple hq
  refine wpAny_pyIter_tuple (show s1.heap.IsTuple a its.toArray from p) ?_
  refine ⟨s1.heap.objs.size, [s1.heap.objs.size], _, _, H1, rfl, I1.kept (t' := s1.toks) fun b o e => Heap.get?_push_of_some _ e, turn_tuple a _, ⟨_, Heap.get?_push_size _ rfl, rfl, rfl⟩, fun b hb => ?_, q⟩
  have e : b = s1.heap.objs.size := by simpa using hb
  subst e
  exact I1.fpOk (Nat.le_refl _) (I1.hok.fresh (Nat.le_refl _))
/-- a range object just made, walked -/
theorem range_it {pins : List (Addr × Obj)} {σ : St} {H : Hp} {s : Shared} {R : It → Hp → Prop} {E : Value → Shared → Prop} {lo hi : Int} {t u v : Tok} {tk : Nat} (I : Inv X pins σ H s) (h1 : -(2 ^ 62) ≤ lo) (h2 : lo < 2 ^ 62) (h3 : -(2 ^ 62) ≤ hi) (h4 : hi < 2 ^ 62)
    (q : R (Itr lo (hi - lo).toNat) H) : wpAny (model X.prog X.w) X.A (pyIter (.ref s.heap.objs.size)) (PIE X pins σ tg R) E { s with heap := s.heap.push { cls := .type "range", data := .fields #[.int lo t, .int hi u, .int 1 v] }, toks := tk } := by
  refine wpAny_pyIter_range (IsRange.new ..) (small_one h1 h2 h3 h4) ?_
  have I1 : Inv X pins σ H { s with heap := s.heap.push { cls := .type "range", data := .fields #[.int lo t, .int hi u, .int 1 v] }, toks := tk } := I.kept fun b o e => Heap.get?_push_of_some _ e
  refine ⟨(s.heap.push { cls := .type "range", data := .fields #[.int lo t, .int hi u, .int 1 v] }).objs.size, [(s.heap.push { cls := .type "range", data := .fields #[.int lo t, .int hi u, .int 1 v] }).objs.size], _, _, H, rfl,
    I1.kept (t' := tk) fun b o e => Heap.get?_push_of_some _ e, turn_range _ lo (hi - lo).toNat, ?_, fun b hb => ?_, q⟩
  · have e1 : lo + ((0 : Nat) : Int) * 1 = lo := by simp
    have e2 : (((hi - lo).toNat : Nat) : Int) - ((0 : Nat) : Int) = Builtin.Range.rangeSize lo hi 1 := by rw [rangeSize_one]; split <;> omega
    show IsRangeIter _ _ (lo + ((0 : Nat) : Int) * 1) ((((hi - lo).toNat : Nat) : Int) - ((0 : Nat) : Int)) 1
    rw [e1, e2]
    exact Heap.get?_push_size _ rfl
  · have e : b = (s.heap.push { cls := .type "range", data := .fields #[.int lo t, .int hi u, .int 1 v] }).objs.size := by simpa using hb
    subst e
    exact I1.fpOk (Nat.le_refl _) (I1.hok.fresh (Nat.le_refl _))
def iRng1 (ta : TA) : TI := fun σ H R => ta σ H fun vs H1 => ∃ j : Int, vs = [.int j] ∧ -(2 ^ 62) ≤ j ∧ j < 2 ^ 62 ∧ R (Itr 0 j.toNat) H1
def iRng2 (ta : TA) : TI := fun σ H R => ta σ H fun vs H1 => ∃ i j : Int, vs = [.int i, .int j] ∧ (-(2 ^ 62) ≤ i ∧ i < 2 ^ 62 ∧ -(2 ^ 62) ≤ j ∧ j < 2 ^ 62) ∧ R (Itr i (j - i).toNat) H1
theorem pi_range1 {a : Expr} {ta : TA} {p pos : Pos} (hg : Gl X "range") (hm : X.mg "range" = none) (ha : PA X [a] ta) (hs : starEach [a] X.env = [(false, eval a X.env)] := by rfl) : PI X tg (.Call (.Name "range" p) [a] [] pos) (iRng1 ta) := by
  intro pins s σ H R I h
  refine Call_ (ld_blt I hg hm boot_range (PyProof.Rows.callWith_type1 (thn (ha pos pins s σ H _ I h) fun us s1 ⟨vs, H1, I1, r1, q1⟩ => ?_) hs rfl))
  obtain ⟨j, e, q1, q2, q⟩ := q1
  subst e
  cases r1 with
  | cons r rr =>
    cases rr
    obtain ⟨t, rfl⟩ := r
    exact call_range_1 (range_it I1 (by omega) (by omega) q1 q2 (by simpa using q))
theorem pi_range2 {a b : Expr} {ta : TA} {p pos : Pos} (hg : Gl X "range") (hm : X.mg "range" = none) (ha : PA X [a, b] ta) (hs : starEach [a, b] X.env = [(false, eval a X.env), (false, eval b X.env)] := by rfl) (hs2 : starEach [b] X.env = [(false, eval b X.env)] := by rfl) :
    PI X tg (.Call (.Name "range" p) [a, b] [] pos) (iRng2 ta) := by
  intro pins s σ H R I h
  refine Call_ (ld_blt I hg hm boot_range (PyProof.Rows.callWith_type1 (thn (ha pos pins s σ H _ I h) fun us s1 ⟨vs, H1, I1, r1, q1⟩ => ?_) (by rw [hs, hs2]) (by rw [hs2]; rfl)))
  obtain ⟨i, j, e, ⟨q1, q2, q3, q4⟩, q⟩ := q1
  subst e
  cases r1 with
  | cons r rr =>
    cases rr with
    | cons r' rr =>
      cases rr
      obtain ⟨t, rfl⟩ := r
      obtain ⟨t', rfl⟩ := r'
      exact call_range_2 (range_it I1 q1 q2 q3 q4 q)

/-! ### for -/
/-- W: the invariant by the turn and a measure; N: what the body is to reach -/
def tFor (wi : TI) (g : TG) (tb : TS) : TS := fun D σ H => wi σ H fun J H1 => ∃ W : Nat → Nat → St → Hp → Prop, (∃ m, W 0 m σ H1) ∧ ∀ i m σ H, W i m σ H →
  (J.stop i H ∧ D.nx σ H) ∨ (J.go i H ∧ ∃ N : St → Hp → Prop, (∀ σ' H', N σ' H' → ∃ m', m' < m ∧ W (i + 1) m' σ' H') ∧ ∀ x H', J.yld i H x H' → g x σ H' fun σ2 H2 => tb { D with nx := N, ct := N, bk := D.nx } σ2 H2)
/-- the records at fp as they stand -/
def pinsAt (fp : List Addr) (h : Heap) : List (Addr × Obj) := fp.filterMap fun b => (h.get? b).map fun o => (b, o)
theorem mem_pinsAt {fp : List Addr} {h : Heap} {b : Addr} {o : Obj} (hb : b ∈ fp) (e : h.get? b = some o) : (b, o) ∈ pinsAt fp h := List.mem_filterMap.mpr ⟨b, hb, by rw [e]; rfl⟩
theorem of_pinsAt {fp : List Addr} {h : Heap} {p : Addr × Obj} (hp : p ∈ pinsAt fp h) : p.1 ∈ fp ∧ h.get? p.1 = some p.2 := by
  obtain ⟨b, hb, e⟩ := List.mem_filterMap.mp hp
  cases q : h.get? b with
  | none => rw [q] at e; cases e
  | some o =>
    rw [q] at e
    have e' : (b, o) = p := Option.some.inj e
    subst e'
    exact ⟨hb, q⟩
theorem Inv.pinned {pins : List (Addr × Obj)} {σ : St} {H : Hp} {s : Shared} {fp : List Addr} (I : Inv X pins σ H s) (hf : ∀ b ∈ fp, FpOk X pins H b) (ho : ∀ b ∈ fp, ∃ o, s.heap.get? b = some o ∧ ∀ v, o.data ≠ .cell v) : Inv X (pins ++ pinsAt fp s.heap) σ H s :=
  I.pins_of fun p hp => (List.mem_append.mp hp).elim (fun z => I.pin p (List.mem_append_right _ z)) fun z => by
    obtain ⟨hb, e⟩ := of_pinsAt z
    obtain ⟨f0, f1, f2, _⟩ := hf p.1 hb
    obtain ⟨o, e', d⟩ := ho p.1 hb
    rw [e] at e'; cases e'
    exact ⟨e, f0, f1, f2, d⟩
theorem Inv.unpinned {pins pl : List (Addr × Obj)} {σ : St} {H : Hp} {s : Shared} (I : Inv X (pins ++ pl) σ H s) : Inv X pins σ H s := I.pins_of fun p hp => I.pin p (List.mem_append_right _ (List.mem_append_left _ hp))
theorem ps_for {iter : Expr} {body : List Stmt} {wi : TI} {g : TG} {tb : TS} {pos : Pos} (hp : PassesOwn (model X.prog X.w) X.A X.env X.xe) (hc : X.calm = true) (hi : PI X tg iter wi) (hg : PG X tg g) (hb : PSs X body tb)
    (hs : ∀ x, foldedSetIterable iter X.env x = pure x := by intro _; rfl) : PS X (.For tg iter body [] pos) (tFor wi g tb) := by
  intro pins s σ H D I h
  refine wpAny_For (thn (hi pins s σ H _ I h) fun v s1 h1 => thn h1 fun itv s2 h2 => ?_) hs
  obtain ⟨it, fp, tn, J, H2, e, I2, T, st2, f2, W, ⟨m0, w0⟩, turn⟩ := h2
  subst e
  -- what stays true of the iterator's objects through the loop
  have stat : ∀ {H' : Hp}, (∀ b ∈ fp, H' b = none) → ∀ b ∈ fp, FpOk X pins H' b := fun hn b hb => ⟨hn b hb, (f2 b hb).2⟩
  refine codeAny_forLoop_any (fun n s' => ∃ i σ' H', Inv X pins σ' H' s' ∧ tn i s'.heap ∧ (∀ b ∈ fp, H' b = none) ∧ W i n σ' H') ?_ m0 ⟨0, σ, H2, I2, st2, fun b hb => (f2 b hb).1, w0⟩
  rintro n s3 ⟨i, σ3, H3, I3, st3, fr3, w3⟩
  rcases turn i n σ3 H3 w3 with ⟨stop, qn⟩ | ⟨go, N, hN, step⟩
  · refine wpAny_passesOwn hp (thn (T.done X rfl rfl rfl hc i pins s3 σ3 H3 X.xe I3 (stat fr3) st3 stop) fun r s4 ⟨hr, I4⟩ => ?_)
    subst hr
    exact wpAny_execs_nil ⟨σ3, H3, I4, qn⟩
  · refine wpAny_passesOwn hp (thn (T.item X rfl rfl rfl hc i pins s3 σ3 H3 X.xe I3 (stat fr3) st3 go) fun r s4 ⟨u, hr, h4⟩ => ?_)
    subst hr
    refine wpAny_passesOwn hp (thn h4 fun _ s5 ⟨x, H5, I5, r5, y5, st5, fr5⟩ => ?_)
    have I5' := I5.pinned (stat fr5) (T.obj _ _ st5)
    refine wpAny_passesOwn hp (thn (hg _ s5 σ3 H5 x u _ I5' r5 (step x H5 y5)) fun _ s6 ⟨σ6, H6, I6, q6⟩ => ?_)
    refine wpAny_passesOwn hp (thn (hb _ s6 σ6 H6 _ I6 q6) fun f s7 q7 => ?_)
    have again : ∀ {σ7 : St} {H7 : Hp}, Inv X (pins ++ pinsAt fp s5.heap) σ7 H7 s7 → N σ7 H7 → ∃ m, m < n ∧ ∃ i σ' H', Inv X pins σ' H' s7 ∧ tn i s7.heap ∧ (∀ b ∈ fp, H' b = none) ∧ W i m σ' H' := fun {σ7 H7} I7 n7 => by
      obtain ⟨m', hm, w7⟩ := hN σ7 H7 n7
      refine ⟨m', hm, i + 1, σ7, H7, I7.unpinned, T.keep _ _ _ st5 fun b hb o e => (I7.pin (b, o) (List.mem_append_right _ (List.mem_append_right _ (mem_pinsAt hb e)))).1, fun b hb => ?_, w7⟩
      obtain ⟨o, e, d⟩ := T.obj _ _ st5 b hb
      exact (I7.pin (b, o) (List.mem_append_right _ (List.mem_append_right _ (mem_pinsAt hb e)))).2.1
    cases f with
    | next => obtain ⟨σ7, H7, I7, n7⟩ := q7; exact again I7 n7
    | cont => obtain ⟨σ7, H7, I7, n7⟩ := q7; exact again I7 n7
    | brk => obtain ⟨σ7, H7, I7, q7⟩ := q7; exact ⟨σ7, H7, I7.unpinned, q7⟩
    | ret v => obtain ⟨x7, σ7, H7, I7, r7, q7⟩ := q7; exact ⟨x7, σ7, H7, I7.unpinned, r7, q7⟩
end

/-! ### the forms one uses -/
/-- over a list that the body leaves as it is -/
theorem for_list {K : PySem.W.Frag} {a : Addr} {xs : List V} {g : TG} {tb : TS} {D : Ends} {σ : St} {H : Hp} (Pv : Nat → St → Hp → Prop) (h0 : Pv 0 σ H) (hl : ∀ i σ H, i ≤ xs.length → Pv i σ H → SqL K H a xs)
    (hs : ∀ i x σ H, xs[i]? = some x → Pv i σ H → g x σ H fun σ2 H2 => tb { D with nx := Pv (i + 1), ct := Pv (i + 1), bk := D.nx } σ2 H2) (hd : ∀ σ H, Pv xs.length σ H → D.nx σ H) :
    ∃ W : Nat → Nat → St → Hp → Prop, (∃ m, W 0 m σ H) ∧ ∀ i m σ H, W i m σ H →
      ((Itl K a).stop i H ∧ D.nx σ H) ∨ ((Itl K a).go i H ∧ ∃ N : St → Hp → Prop, (∀ σ' H', N σ' H' → ∃ m', m' < m ∧ W (i + 1) m' σ' H') ∧ ∀ x H', (Itl K a).yld i H x H' → g x σ H' fun σ2 H2 => tb { D with nx := N, ct := N, bk := D.nx } σ2 H2) := by
  refine ⟨fun i m σ H => m = xs.length - i ∧ i ≤ xs.length ∧ Pv i σ H, ⟨xs.length, by simp, Nat.zero_le _, h0⟩, ?_⟩
  rintro i m σ H ⟨rfl, hi, p⟩
  have q := hl i σ H hi p
  by_cases hlt : i < xs.length
  · refine .inr ⟨⟨xs, xs[i], q, by simp [hlt]⟩, Pv (i + 1), fun σ' H' p' => ⟨xs.length - (i + 1), by omega, rfl, hlt, p'⟩, fun x H' y => ?_⟩
    obtain ⟨e, y⟩ := y
    subst e
    exact hs i x σ _ (y xs q) p
  · have e : i = xs.length := by omega
    subst e
    exact .inl ⟨⟨xs, q, Nat.le_refl _⟩, hd σ H p⟩
theorem for_tup {K : PySem.W.Frag} {a : Addr} {xs : List V} {g : TG} {tb : TS} {D : Ends} {σ : St} {H : Hp} (Pv : Nat → St → Hp → Prop) (h0 : Pv 0 σ H) (hl : ∀ i σ H, i ≤ xs.length → Pv i σ H → SqT K H a xs)
    (hs : ∀ i x σ H, xs[i]? = some x → Pv i σ H → g x σ H fun σ2 H2 => tb { D with nx := Pv (i + 1), ct := Pv (i + 1), bk := D.nx } σ2 H2) (hd : ∀ σ H, Pv xs.length σ H → D.nx σ H) :
    ∃ W : Nat → Nat → St → Hp → Prop, (∃ m, W 0 m σ H) ∧ ∀ i m σ H, W i m σ H →
      ((Itt K a).stop i H ∧ D.nx σ H) ∨ ((Itt K a).go i H ∧ ∃ N : St → Hp → Prop, (∀ σ' H', N σ' H' → ∃ m', m' < m ∧ W (i + 1) m' σ' H') ∧ ∀ x H', (Itt K a).yld i H x H' → g x σ H' fun σ2 H2 => tb { D with nx := N, ct := N, bk := D.nx } σ2 H2) := by
  refine ⟨fun i m σ H => m = xs.length - i ∧ i ≤ xs.length ∧ Pv i σ H, ⟨xs.length, by simp, Nat.zero_le _, h0⟩, ?_⟩
  rintro i m σ H ⟨rfl, hi, p⟩
  have q := hl i σ H hi p
  by_cases hlt : i < xs.length
  · refine .inr ⟨⟨xs, xs[i], q, by simp [hlt]⟩, Pv (i + 1), fun σ' H' p' => ⟨xs.length - (i + 1), by omega, rfl, hlt, p'⟩, fun x H' y => ?_⟩
    obtain ⟨e, y⟩ := y
    subst e
    exact hs i x σ _ (y xs q) p
  · have e : i = xs.length := by omega
    subst e
    exact .inl ⟨⟨xs, q, Nat.le_refl _⟩, hd σ H p⟩
theorem for_range {lo : Int} {n : Nat} {g : TG} {tb : TS} {D : Ends} {σ : St} {H : Hp} (Pv : Nat → St → Hp → Prop) (h0 : Pv 0 σ H)
    (hs : ∀ i σ H, i < n → Pv i σ H → g (.int (lo + i)) σ H fun σ2 H2 => tb { D with nx := Pv (i + 1), ct := Pv (i + 1), bk := D.nx } σ2 H2) (hd : ∀ σ H, Pv n σ H → D.nx σ H) :
    ∃ W : Nat → Nat → St → Hp → Prop, (∃ m, W 0 m σ H) ∧ ∀ i m σ H, W i m σ H →
      ((Itr lo n).stop i H ∧ D.nx σ H) ∨ ((Itr lo n).go i H ∧ ∃ N : St → Hp → Prop, (∀ σ' H', N σ' H' → ∃ m', m' < m ∧ W (i + 1) m' σ' H') ∧ ∀ x H', (Itr lo n).yld i H x H' → g x σ H' fun σ2 H2 => tb { D with nx := N, ct := N, bk := D.nx } σ2 H2) := by
  refine ⟨fun i m σ H => m = n - i ∧ i ≤ n ∧ Pv i σ H, ⟨n, by simp, Nat.zero_le _, h0⟩, ?_⟩
  rintro i m σ H ⟨rfl, hi, p⟩
  by_cases hlt : i < n
  · refine .inr ⟨hlt, Pv (i + 1), fun σ' H' p' => ⟨n - (i + 1), by omega, rfl, hlt, p'⟩, fun x H' y => ?_⟩
    obtain ⟨e, y⟩ := y
    subst e y
    exact hs i σ _ hlt p
  · have e : i = n := by omega
    subst e
    exact .inl ⟨Nat.le_refl _, hd σ H p⟩
/-- while, by a word and a measure of the state -/
theorem while_by {c : TT} {tb : TS} {D : Ends} {σ : St} {H : Hp} (Pv : St → Hp → Prop) (μ : St → Hp → Nat) (h0 : Pv σ H)
    (hs : ∀ σ H, Pv σ H → c σ H fun b H1 => if b = true then tb { D with nx := fun σ' H' => Pv σ' H' ∧ μ σ' H' < μ σ H, ct := fun σ' H' => Pv σ' H' ∧ μ σ' H' < μ σ H, bk := D.nx } σ H1 else D.nx σ H1)
    (mono : ∀ σ H Q Q', (∀ b H1, Q b H1 → Q' b H1) → c σ H Q → c σ H Q') : tWhile c tb D σ H := by
  refine ⟨fun m σ H => m = μ σ H ∧ Pv σ H, ⟨_, rfl, h0⟩, ?_⟩
  rintro m σ H ⟨rfl, p⟩
  refine mono σ H _ _ (fun b H1 q => ?_) (hs σ H p)
  cases b with
  | true => exact ⟨_, fun σ' H' ⟨p', l⟩ => ⟨_, l, rfl, p'⟩, q⟩
  | false => exact q
end L2

namespace L2
open PySem PySem.Spec PyProof.Rows

abbrev R2 := V → V → Hp → VK → Prop
/-- a two-place operation on values: f is binaryOp op, inplaceOp op or compareOp op -/
def OpR (X : Cx) (f : Value → Value → Sem Value) (r : R2) : Prop :=
  ∀ (pins : List (Addr × Obj)) (s : Shared) (σ : St) (H : Hp) (x y : V) (v u : Value) (Q : VK), Inv X pins σ H s → RelV x v → RelV y u → r x y H Q →
    wpAny (model X.prog X.w) X.A (f v u) (EP X pins σ Q) X.xe s
/-- a one-place operation -/
def UnR (X : Cx) (f : Value → Sem Value) (r : V → Hp → VK → Prop) : Prop :=
  ∀ (pins : List (Addr × Obj)) (s : Shared) (σ : St) (H : Hp) (x : V) (v : Value) (Q : VK), Inv X pins σ H s → RelV x v → r x H Q →
    wpAny (model X.prog X.w) X.A (f v) (EP X pins σ Q) X.xe s
/-- a call of a value that is known (a builtin, a type) with values -/
def CallR (X : Cx) (f : Value) (r : List V → Hp → VK → Prop) : Prop :=
  ∀ (pins : List (Addr × Obj)) (s : Shared) (σ : St) (H : Hp) (xs : List V) (us : List Value) (Q : VK), Inv X pins σ H s → Vals xs us → r xs H Q →
    wpAny (model X.prog X.w) X.A (call f us) (EP X pins σ Q) X.xe s
/-- a value's truth -/
def TruR (X : Cx) (r : V → Hp → (Bool → Hp → Prop) → Prop) : Prop :=
  ∀ (pins : List (Addr × Obj)) (s : Shared) (σ : St) (H : Hp) (x : V) (v : Value) (Q : Bool → Hp → Prop), Inv X pins σ H s → RelV x v → r x H Q →
    wpAny (model X.prog X.w) X.A (truthy v) (TP X pins σ Q) X.xe s

def tOp (r : R2) (ta tb : TE) : TE := fun σ H Q => ta σ H fun x H1 => tb σ H1 fun y H2 => r x y H2 Q
def tUn (r : V → Hp → VK → Prop) (ta : TE) : TE := fun σ H Q => ta σ H fun x H1 => r x H1 Q
/-- ints in, under C, and a value out -/
def rI (C : Int → Int → Prop) (g : Int → Int → V) : R2 := fun x y H Q => ∃ i j, x = .int i ∧ y = .int j ∧ C i j ∧ Q (g i j) H
def rI0 (g : Int → Int → V) : R2 := fun x y H Q => ∃ i j, x = .int i ∧ y = .int j ∧ Q (g i j) H
def rU (g : Int → V) : V → Hp → VK → Prop := fun x H Q => ∃ i, x = .int i ∧ Q (g i) H

section
variable {X : Cx} {a b c : Expr} {ta tb tc : TE} {pos : Pos}

theorem binT (ha : PE X a ta) (hb : PE X b tb) {pins : List (Addr × Obj)} {s : Shared} {σ : St} {H : Hp} {R : V → V → Hp → Prop} (I : Inv X pins σ H s)
    (h : ta σ H fun x H1 => tb σ H1 fun y H2 => R x y H2) {Q : Value → Shared → Prop} {f : Value → Value → Sem Value}
    (hf : ∀ v u s2 x y H2, Inv X pins σ H2 s2 → RelV x v → RelV y u → R x y H2 → wpAny (model X.prog X.w) X.A (f v u) Q X.xe s2) :
    wpAny (model X.prog X.w) X.A (eval a X.env) (fun v s₁ => wpAny (model X.prog X.w) X.A (eval b X.env) (fun u s₂ => wpAny (model X.prog X.w) X.A (f v u) Q X.xe s₂) X.xe s₁) X.xe s := by
  refine thn (ha pins s σ H _ I h) fun v s1 ⟨x, H1, I1, r1, q1⟩ => ?_
  refine thn (hb pins s1 σ H1 _ I1 q1) fun u s2 ⟨y, H2, I2, r2, q2⟩ => ?_
  exact hf v u s2 x y H2 I2 r1 r2 q2

theorem pe_op {op : Operator} {r : R2} (ho : OpR X (binaryOp op) r) (ha : PE X a ta) (hb : PE X b tb) : PE X (.BinOp a op b pos) (tOp r ta tb) := by
  intro pins s σ H Q I h
  exact wpAny_BinOp (binT ha hb I h fun v u s2 x y H2 I2 rx ry q => ho pins s2 σ H2 x y v u Q I2 rx ry q)
theorem pe_un {op : UnaryOp} {r : V → Hp → VK → Prop} (ho : UnR X (unaryOp op) r) (ha : PE X a ta) : PE X (.UnaryOp op a pos) (tUn r ta) := by
  intro pins s σ H Q I h
  exact UnaryOp_ (thn (ha pins s σ H _ I h) fun v s1 ⟨x, H1, I1, r1, q1⟩ => ho pins s1 σ H1 x v Q I1 r1 q1)
/-- a op= e at a name: the name's slot i -/
theorem augR {op : Operator} {r : R2} (ho : OpR X (inplaceOp op) r) {pins : List (Addr × Obj)} {s : Shared} {σ : St} {H : Hp} {x y : V} {v u : Value} {Q : VK} (I : Inv X pins σ H s)
    (rx : RelV x v) (ry : RelV y u) (q : r x y H Q) : wpAny (model X.prog X.w) X.A (inplaceOp op v u) (EP X pins σ Q) X.xe s := ho pins s σ H x y v u Q I rx ry q

/-! ### ints -/
theorem opI {f : Value → Value → Sem Value} {C : Int → Int → Prop} {g : Int → Int → Int}
    (rule : ∀ (i j : Int) (t u : Tok) (s : Shared) (Q : Value → Shared → Prop) (E : Value → Shared → Prop), C i j → Q (.int (g i j) s.toks) { s with toks := s.toks + 1 } → wpAny (model X.prog X.w) X.A (f (.int i t) (.int j u)) Q E s) :
    OpR X f (rI C fun i j => .int (g i j)) := by
  intro pins s σ H x y v u Q I rx ry h
  obtain ⟨i, j, rfl, rfl, hc, q⟩ := h
  obtain ⟨t, rfl⟩ := rx
  obtain ⟨t', rfl⟩ := ry
  exact rule i j t t' s _ _ hc ⟨.int (g i j), H, I.tok _, ⟨_, rfl⟩, q⟩
theorem opI0 {f : Value → Value → Sem Value} {g : Int → Int → Int}
    (rule : ∀ (i j : Int) (t u : Tok) (s : Shared) (Q : Value → Shared → Prop) (E : Value → Shared → Prop), Q (.int (g i j) s.toks) { s with toks := s.toks + 1 } → wpAny (model X.prog X.w) X.A (f (.int i t) (.int j u)) Q E s) :
    OpR X f (rI0 fun i j => .int (g i j)) := by
  intro pins s σ H x y v u Q I rx ry h
  obtain ⟨i, j, rfl, rfl, q⟩ := h
  obtain ⟨t, rfl⟩ := rx
  obtain ⟨t', rfl⟩ := ry
  exact rule i j t t' s _ _ ⟨.int (g i j), H, I.tok _, ⟨_, rfl⟩, q⟩
theorem opB0 {f : Value → Value → Sem Value} {g : Int → Int → Bool}
    (rule : ∀ (i j : Int) (t u : Tok) (s : Shared) (Q : Value → Shared → Prop) (E : Value → Shared → Prop), Q (.bool (g i j)) s → wpAny (model X.prog X.w) X.A (f (.int i t) (.int j u)) Q E s) :
    OpR X f (rI0 fun i j => .bl (g i j)) := by
  intro pins s σ H x y v u Q I rx ry h
  obtain ⟨i, j, rfl, rfl, q⟩ := h
  obtain ⟨t, rfl⟩ := rx
  obtain ⟨t', rfl⟩ := ry
  exact rule i j t t' s _ _ ⟨.bl (g i j), H, I, rfl, q⟩

def CDiv (i j : Int) : Prop := 0 < j ∧ j < 1073741824
def CDivN (i j : Int) : Prop := j ≠ 0 ∧ j.natAbs < 1073741824
def CPow (i j : Int) : Prop := 0 ≤ j ∧ j ≤ 1000000 ∧ i.natAbs < 2 ^ 64
def CMul (i j : Int) : Prop := (-(2 ^ 64) < i ∧ i < 2 ^ 64) ∨ (-(2 ^ 64) < j ∧ j < 2 ^ 64)
theorem CMul.ok {i j : Int} (h : CMul i j) : IntMulOk i j := by
  rcases h with ⟨h1, h2⟩ | ⟨h1, h2⟩
  · exact .of_left (intBits_le_64 h1 h2)
  · exact .of_right (intBits_le_64 h1 h2)
theorem two_pow_nn (k : Nat) : (0 : Int) ≤ 2 ^ k := by
  rw [two_pow_cast]
  exact Int.natCast_nonneg _

theorem op_add : OpR X (binaryOp .Add) (rI0 fun i j => .int (i + j)) := opI0 fun _ _ _ _ _ _ _ q => add_int q
theorem op_sub : OpR X (binaryOp .Sub) (rI0 fun i j => .int (i - j)) := opI0 fun _ _ _ _ _ _ _ q => sub_int q
theorem op_mul : OpR X (binaryOp .Mult) (rI CMul fun i j => .int (i * j)) := opI fun _ _ _ _ _ _ _ hc q => mul_int q hc.ok
/-- // by a positive divisor -/
theorem op_fdiv : OpR X (binaryOp .FloorDiv) (rI CDiv fun i j => .int (i / j)) := opI fun i j _ _ _ _ _ hc q => by
  have h1 : (0 : Int) < j := hc.1
  have h2 : j < 1073741824 := hc.2
  exact floordiv_int (by omega) (by rw [Int.fdiv_eq_ediv_of_nonneg i (by omega)]; exact q) (.inl (PyProof.noPylong_small (by omega)))
theorem op_fdivN : OpR X (binaryOp .FloorDiv) (rI CDivN fun i j => .int (i.fdiv j)) := opI fun _ _ _ _ _ _ _ hc q => floordiv_int hc.1 q (.inl (PyProof.noPylong_small hc.2))
/-- % by a positive divisor of any size -/
theorem op_mod : OpR X (binaryOp .Mod) (rI (fun _ j => 0 < j) fun i j => .int (i % j)) := opI fun i j _ _ _ _ _ hc q => by
  have h1 : (0 : Int) < j := hc
  exact mod_int' (by omega) (by rw [Int.fmod_eq_emod_of_nonneg i (by omega)]; exact q)
theorem op_modN : OpR X (binaryOp .Mod) (rI (fun _ j => j ≠ 0) fun i j => .int (i.fmod j)) := opI fun _ _ _ _ _ _ _ hc q => mod_int' hc q
theorem op_pow : OpR X (binaryOp .Pow) (rI CPow fun i j => .int (i ^ j.toNat)) := opI fun _ _ _ _ _ _ _ hc q => pow_int_small hc.1 hc.2.1 hc.2.2 q
theorem op_shl : OpR X (binaryOp .LShift) (rI CPow fun i j => .int (i * 2 ^ j.toNat)) := opI fun _ _ _ _ _ _ _ hc q => lshift_int_small hc.1 hc.2.1 hc.2.2 q
theorem op_shr : OpR X (binaryOp .RShift) (rI (fun _ j => 0 ≤ j) fun i j => .int (i / 2 ^ j.toNat)) := opI fun i j _ _ _ _ _ hc q =>
  rshift_int hc (by rw [Int.fdiv_eq_ediv_of_nonneg i (two_pow_nn _)]; exact q)
theorem op_and : OpR X (binaryOp .BitAnd) (rI0 fun i j => .int (Builtin.bitAnd i j)) := opI0 fun _ _ _ _ _ _ _ q => and_int q
theorem op_or : OpR X (binaryOp .BitOr) (rI0 fun i j => .int (Builtin.bitOr i j)) := opI0 fun _ _ _ _ _ _ _ q => or_int q
theorem op_xor : OpR X (binaryOp .BitXor) (rI0 fun i j => .int (Builtin.bitXor i j)) := opI0 fun _ _ _ _ _ _ _ q => xor_int q

theorem iop_add : OpR X (inplaceOp .Add) (rI0 fun i j => .int (i + j)) := opI0 fun _ _ _ _ _ _ _ q => iadd_int q
theorem iop_sub : OpR X (inplaceOp .Sub) (rI0 fun i j => .int (i - j)) := opI0 fun _ _ _ _ _ _ _ q => isub_int q
theorem iop_mul : OpR X (inplaceOp .Mult) (rI CMul fun i j => .int (i * j)) := opI fun _ _ _ _ _ _ _ hc q => imul_int q hc.ok
theorem iop_fdiv : OpR X (inplaceOp .FloorDiv) (rI CDiv fun i j => .int (i / j)) := opI fun i j _ _ _ _ _ hc q => by
  have h1 : (0 : Int) < j := hc.1
  have h2 : j < 1073741824 := hc.2
  exact ifloordiv_int (by omega) (by rw [Int.fdiv_eq_ediv_of_nonneg i (by omega)]; exact q) (.inl (PyProof.noPylong_small (by omega)))
theorem iop_mod : OpR X (inplaceOp .Mod) (rI (fun _ j => 0 < j) fun i j => .int (i % j)) := opI fun i j _ _ _ _ _ hc q => by
  have h1 : (0 : Int) < j := hc
  exact imod_int (by omega) (by rw [Int.fmod_eq_emod_of_nonneg i (by omega)]; exact q)
theorem iop_shl : OpR X (inplaceOp .LShift) (rI CPow fun i j => .int (i * 2 ^ j.toNat)) := opI fun _ _ _ _ _ _ _ hc q => ilshift_int_small hc.1 hc.2.1 hc.2.2 q
theorem iop_shr : OpR X (inplaceOp .RShift) (rI (fun _ j => 0 ≤ j) fun i j => .int (i / 2 ^ j.toNat)) := opI fun i j _ _ _ _ _ hc q =>
  irshift_int hc (by rw [Int.fdiv_eq_ediv_of_nonneg i (two_pow_nn _)]; exact q)
theorem iop_and : OpR X (inplaceOp .BitAnd) (rI0 fun i j => .int (Builtin.bitAnd i j)) := opI0 fun _ _ _ _ _ _ _ q => iand_int q
theorem iop_or : OpR X (inplaceOp .BitOr) (rI0 fun i j => .int (Builtin.bitOr i j)) := opI0 fun _ _ _ _ _ _ _ q => ior_int q
theorem iop_xor : OpR X (inplaceOp .BitXor) (rI0 fun i j => .int (Builtin.bitXor i j)) := opI0 fun _ _ _ _ _ _ _ q => ixor_int q

theorem unI {f : Value → Sem Value} {g : Int → Int}
    (rule : ∀ (i : Int) (t : Tok) (s : Shared) (Q : Value → Shared → Prop) (E : Value → Shared → Prop), Q (.int (g i) s.toks) { s with toks := s.toks + 1 } → wpAny (model X.prog X.w) X.A (f (.int i t)) Q E s) :
    UnR X f (rU fun i => .int (g i)) := by
  intro pins s σ H x v Q I rx h
  obtain ⟨i, rfl, q⟩ := h
  obtain ⟨t, rfl⟩ := rx
  exact rule i t s _ _ ⟨.int (g i), H, I.tok _, ⟨_, rfl⟩, q⟩
theorem un_neg : UnR X (unaryOp .USub) (rU fun i => .int (-i)) := unI fun _ _ _ _ _ q => neg_int q
theorem un_inv : UnR X (unaryOp .Invert) (rU fun i => .int (Builtin.bitNot i)) := unI fun _ _ _ _ _ q => invert_int q

/-! ### bools among ints: n += (a < b) -/
theorem op_add_ib : OpR X (binaryOp .Add) (fun x y H Q => ∃ i k, x = .int i ∧ y = .bl k ∧ Q (.int (i + b2i k)) H) := by
  intro pins s σ H x y v u Q I rx ry h
  obtain ⟨i, k, rfl, rfl, q⟩ := h
  obtain ⟨t, rfl⟩ := rx
  cases ry
  exact add_int_bool ⟨.int (i + b2i k), H, I.tok _, ⟨_, rfl⟩, q⟩
end

/-! ### comparisons -/
/-- the scalars that == tells apart as data does -/
def scal : V → V → Bool
  | .non, .non => true | .non, .int _ => true | .int _, .non => true | .non, .bl _ => true | .bl _, .non => true | .non, .str _ => true | .str _, .non => true
  | .int _, .int _ => true | .bl _, .bl _ => true | .str _, .str _ => true | .byt _, .byt _ => true
  | .int _, .str _ => true | .str _, .int _ => true | .bl _, .str _ => true | .str _, .bl _ => true
  | _, _ => false
def rEq : R2 := fun x y H Q => scal x y = true ∧ Q (.bl (decide (x = y))) H
def rNe : R2 := fun x y H Q => scal x y = true ∧ Q (.bl (!decide (x = y))) H

theorem dec_int {i j : Int} : decide (V.int i = V.int j) = (i == j) := by
  rw [Bool.eq_iff_iff]
  simp
theorem dec_bl {i j : Bool} : decide (V.bl i = V.bl j) = (i == j) := by
  rw [Bool.eq_iff_iff]
  simp
theorem dec_str {i j : Str} : decide (V.str i = V.str j) = (i == j) := by
  rw [Bool.eq_iff_iff]
  simp
theorem dec_byt {i j : Array UInt8} : decide (V.byt i = V.byt j) = (i.toList == j.toList) := by
  rw [Bool.eq_iff_iff]
  cases i
  cases j
  simp

section
variable {X : Cx} {a b c : Expr} {ta tb tc : TE} {pos : Pos}
theorem fin_bl {pins : List (Addr × Obj)} {σ : St} {H : Hp} {s : Shared} {Q : VK} {k k' : Bool} (I : Inv X pins σ H s) (q : Q (.bl k) H) (e : k = k') : EP X pins σ Q (.bool k') s := by
  subst e
  exact ⟨.bl k, H, I, rfl, q⟩
theorem op_eq : OpR X (compareOp .Eq) rEq := by
  intro pins s σ H x y v u Q I rx ry h
  obtain ⟨hs, q⟩ := h
  cases x with
  | non =>
    cases rx
    cases y with
    | non => cases ry; exact PySem.EqNone.eq_none_none (fin_bl I q (by simp))
    | bl j => cases ry; exact PySem.EqNone.eq_none_bool (fin_bl I q (by simp))
    | int j => obtain ⟨t', rfl⟩ := ry; exact PySem.EqNone.eq_none_int (fin_bl I q (by simp))
    | str j => obtain ⟨t', rfl⟩ := ry; exact PySem.EqNone.eq_none_str (fin_bl I q (by simp))
    | _ => exact absurd (show false = true from hs) Bool.false_ne_true
  | bl i =>
    cases rx
    cases y with
    | non => cases ry; exact PySem.EqNone.eq_bool_none (fin_bl I q (by simp))
    | bl j => cases ry; exact eq_bool (fin_bl I q dec_bl)
    | str j => obtain ⟨t', rfl⟩ := ry; exact PySem.EqMixed.eq_bool_str (fin_bl I q (by simp))
    | _ => exact absurd (show false = true from hs) Bool.false_ne_true
  | int i =>
    obtain ⟨t, rfl⟩ := rx
    cases y with
    | non => cases ry; exact PySem.EqNone.eq_int_none (fin_bl I q (by simp))
    | int j => obtain ⟨t', rfl⟩ := ry; exact eq_int (fin_bl I q dec_int)
    | str j => obtain ⟨t', rfl⟩ := ry; exact PySem.EqMixed.eq_int_str (fin_bl I q (by simp))
    | _ => exact absurd (show false = true from hs) Bool.false_ne_true
  | str i =>
    obtain ⟨t, rfl⟩ := rx
    cases y with
    | non => cases ry; exact PySem.EqNone.eq_str_none (fin_bl I q (by simp))
    | bl j => cases ry; exact PySem.EqMixed.eq_str_bool (fin_bl I q (by simp))
    | int j => obtain ⟨t', rfl⟩ := ry; exact PySem.EqMixed.eq_str_int (fin_bl I q (by simp))
    | str j => obtain ⟨t', rfl⟩ := ry; exact eq_str (fin_bl I q dec_str)
    | _ => exact absurd (show false = true from hs) Bool.false_ne_true
  | byt i =>
    obtain ⟨t, rfl⟩ := rx
    cases y with
    | byt j => obtain ⟨t', rfl⟩ := ry; exact PySem.W.eq_bytes (fin_bl I q dec_byt)
    | _ => exact absurd (show false = true from hs) Bool.false_ne_true
  | _ => cases y <;> exact absurd (show false = true from hs) Bool.false_ne_true
theorem op_ne : OpR X (compareOp .NotEq) rNe := by
  intro pins s σ H x y v u Q I rx ry h
  obtain ⟨hs, q⟩ := h
  cases x with
  | non =>
    cases rx
    cases y with
    | non => cases ry; exact PySem.EqNone.ne_none_none (fin_bl I q (by simp))
    | bl j => cases ry; exact PySem.EqNone.ne_none_bool (fin_bl I q (by simp))
    | int j => obtain ⟨t', rfl⟩ := ry; exact PySem.EqNone.ne_none_int (fin_bl I q (by simp))
    | str j => obtain ⟨t', rfl⟩ := ry; exact PySem.EqNone.ne_none_str (fin_bl I q (by simp))
    | _ => exact absurd (show false = true from hs) Bool.false_ne_true
  | bl i =>
    cases rx
    cases y with
    | non => cases ry; exact PySem.EqNone.ne_bool_none (fin_bl I q (by simp))
    | bl j => cases ry; exact ne_bool (fin_bl I q (congrArg not dec_bl))
    | str j => obtain ⟨t', rfl⟩ := ry; exact PySem.EqMixed.ne_bool_str (fin_bl I q (by simp))
    | _ => exact absurd (show false = true from hs) Bool.false_ne_true
  | int i =>
    obtain ⟨t, rfl⟩ := rx
    cases y with
    | non => cases ry; exact PySem.EqNone.ne_int_none (fin_bl I q (by simp))
    | int j => obtain ⟨t', rfl⟩ := ry; exact ne_int (fin_bl I q (congrArg not dec_int))
    | str j => obtain ⟨t', rfl⟩ := ry; exact PySem.EqMixed.ne_int_str (fin_bl I q (by simp))
    | _ => exact absurd (show false = true from hs) Bool.false_ne_true
  | str i =>
    obtain ⟨t, rfl⟩ := rx
    cases y with
    | non => cases ry; exact PySem.EqNone.ne_str_none (fin_bl I q (by simp))
    | bl j => cases ry; exact PySem.EqMixed.ne_str_bool (fin_bl I q (by simp))
    | int j => obtain ⟨t', rfl⟩ := ry; exact PySem.EqMixed.ne_str_int (fin_bl I q (by simp))
    | str j => obtain ⟨t', rfl⟩ := ry; exact ne_str (fin_bl I q (congrArg not dec_str))
    | _ => exact absurd (show false = true from hs) Bool.false_ne_true
  | byt i =>
    obtain ⟨t, rfl⟩ := rx
    cases y with
    | byt j => obtain ⟨t', rfl⟩ := ry; exact PySem.W.ne_bytes (fin_bl I q (congrArg not dec_byt))
    | _ => exact absurd (show false = true from hs) Bool.false_ne_true
  | _ => cases y <;> exact absurd (show false = true from hs) Bool.false_ne_true

theorem op_lt : OpR X (compareOp .Lt) (rI0 fun i j => .bl (decide (i < j))) := opB0 fun _ _ _ _ _ _ _ q => lt_int q
theorem op_le : OpR X (compareOp .LtE) (rI0 fun i j => .bl (decide (i ≤ j))) := opB0 fun _ _ _ _ _ _ _ q => le_int q
theorem op_gt : OpR X (compareOp .Gt) (rI0 fun i j => .bl (decide (j < i))) := opB0 fun _ _ _ _ _ _ _ q => gt_int q
theorem op_ge : OpR X (compareOp .GtE) (rI0 fun i j => .bl (decide (j ≤ i))) := opB0 fun _ _ _ _ _ _ _ q => ge_int q
theorem op_lt_str : OpR X (compareOp .Lt) (fun x y H Q => ∃ i j, x = .str i ∧ y = .str j ∧ Q (.bl (decide (i.cps.toList < j.cps.toList))) H) := by
  intro pins s σ H x y v u Q I rx ry h
  obtain ⟨i, j, rfl, rfl, q⟩ := h
  obtain ⟨t, rfl⟩ := rx
  obtain ⟨t', rfl⟩ := ry
  exact lt_str (fin_bl I q rfl)
/-- the one string within the other -/
theorem op_in_str : OpR X (compareOp .In) (fun x y H Q => ∃ i j, x = .str i ∧ y = .str j ∧ Q (.bl (!(Builtin.Str.occurrences j i 0 j.length 1).isEmpty)) H) := by
  intro pins s σ H x y v u Q I rx ry h
  obtain ⟨i, j, rfl, rfl, q⟩ := h
  obtain ⟨t, rfl⟩ := rx
  obtain ⟨t', rfl⟩ := ry
  exact in_str (fin_bl I q rfl)

/-- is None, is not None: the right side a value none -/
theorem op_isN : OpR X (compareOp .Is) (fun x y H Q => y = .non ∧ Q (.bl (decide (x = .non))) H) := by
  intro pins s σ H x y v u Q I rx ry h
  obtain ⟨rfl, q⟩ := h
  cases ry
  refine is_none_gen (fin_bl I q ?_)
  cases x <;> first
    | (cases rx; rfl)
    | (obtain ⟨t, rfl⟩ := rx; rfl)
theorem op_notN : OpR X (compareOp .IsNot) (fun x y H Q => y = .non ∧ Q (.bl (!decide (x = .non))) H) := by
  intro pins s σ H x y v u Q I rx ry h
  obtain ⟨rfl, q⟩ := h
  cases ry
  refine isnot_none_gen (fin_bl I q ?_)
  cases x <;> first
    | (cases rx; rfl)
    | (obtain ⟨t, rfl⟩ := rx; rfl)

theorem op_notin_str : OpR X (compareOp .NotIn) (fun x y H Q => ∃ i j, x = .str i ∧ y = .str j ∧ Q (.bl (!(!(Builtin.Str.occurrences j i 0 j.length 1).isEmpty))) H) := by
  intro pins s σ H x y v u Q I rx ry h
  obtain ⟨i, j, rfl, rfl, q⟩ := h
  obtain ⟨t, rfl⟩ := rx
  obtain ⟨t', rfl⟩ := ry
  exact notIn_str (fin_bl I q rfl)
/-- is, is not of two objects that are tracked lists or instances -/
def isObj : HO → Bool
  | .lst _ => true
  | .ins _ _ _ => true
  | _ => false
theorem obj_there {pins : List (Addr × Obj)} {s : Shared} {σ : St} {H : Hp} {a : Addr} {o : HO} (I : Inv X pins σ H s) (h : H a = some o) (p : isObj o = true) : ∃ ob, s.heap.get? a = some ob ∧ ob.cls ≠ .type "tuple" := by
  cases o with
  | lst xs =>
    obtain ⟨_, its, n, _, e⟩ : xs.length ≤ sizeLine ∧ ∃ (its : List Value) (n : Nat), Vals xs its ∧ s.heap.get? a = some { cls := .type "list", data := .seq its.toArray n } := I.hok a _ h
    exact ⟨_, e, (by show Value.type "list" ≠ .type "tuple"; decide +kernel)⟩
  | ins C dx fs =>
    have x := I.hok a _ h
    obtain ⟨_, _, _, e, _⟩ := x
    exact ⟨_, e, (by show Value.ref C ≠ .type "tuple"; exact fun z => by cases z)⟩
  | _ => exact absurd (show false = true from p) Bool.false_ne_true
theorem op_is_ref : OpR X (compareOp .Is) (fun x y H Q => ∃ a b oa ob, x = .ref a ∧ y = .ref b ∧ H a = some oa ∧ isObj oa = true ∧ H b = some ob ∧ isObj ob = true ∧ Q (.bl (decide (a = b))) H) := by
  intro pins s σ H x y v u Q I rx ry h
  obtain ⟨a, b, oa, ob, rfl, rfl, ha, pa, hb, pb, q⟩ := h
  cases rx
  cases ry
  obtain ⟨o1, e1, n1⟩ := obj_there I ha pa
  obtain ⟨o2, e2, _⟩ := obj_there I hb pb
  by_cases z : a = b
  · subst z
    exact wpAny_is_ref_self (fin_bl I q (by simp))
  · exact wpAny_is_ref_other z e1 e2 n1 (fin_bl I q (by simp [z]))
theorem op_isnot_ref : OpR X (compareOp .IsNot) (fun x y H Q => ∃ a b oa ob, x = .ref a ∧ y = .ref b ∧ H a = some oa ∧ isObj oa = true ∧ H b = some ob ∧ isObj ob = true ∧ Q (.bl (!decide (a = b))) H) := by
  intro pins s σ H x y v u Q I rx ry h
  obtain ⟨a, b, oa, ob, rfl, rfl, ha, pa, hb, pb, q⟩ := h
  cases rx
  cases ry
  obtain ⟨o1, e1, n1⟩ := obj_there I ha pa
  obtain ⟨o2, e2, _⟩ := obj_there I hb pb
  by_cases z : a = b
  · subst z
    exact wpAny_isNot_ref_self (fin_bl I q (by simp))
  · exact wpAny_isNot_ref_other z e1 e2 n1 (fin_bl I q (by simp [z]))

/-- two rules for one operation: by cases -/
theorem OpR.or {f : Value → Value → Sem Value} {r r' : R2} (h : OpR X f r) (h' : OpR X f r') : OpR X f (fun x y H Q => r x y H Q ∨ r' x y H Q) := by
  intro pins s σ H x y v u Q I rx ry q
  rcases q with q | q
  · exact h pins s σ H x y v u Q I rx ry q
  · exact h' pins s σ H x y v u Q I rx ry q

theorem nomark (b : Expr) {op : CmpOp} (h : op ≠ .In := by decide) (h2 : op ≠ .NotIn := by decide) : behindInMarks op b = false := by
  have e1 : (op == CmpOp.In) = false := by cases op <;> first | rfl | exact absurd rfl h
  have e2 : (op == CmpOp.NotIn) = false := by cases op <;> first | rfl | exact absurd rfl h2
  cases b <;> simp [behindInMarks, e1, e2]
/-- a comparison as a value; hm: nomark b, or (for in, not in) by with_unfolding_all rfl -/
theorem pe_cmpR {op : CmpOp} {r : R2} (ho : OpR X (compareOp op) r) (ha : PE X a ta) (hb : PE X b tb) (hm : behindInMarks op b = false) : PE X (.Compare a [op] [b] pos) (tOp r ta tb) := by
  intro pins s σ H Q I h
  exact wpAny_Compare1 (binT ha hb I h fun v u s2 x y H2 I2 rx ry q => ho pins s2 σ H2 x y v u Q I2 rx ry q) hm
/-- a reading of a value as a test -/
def tTest (t : TE) : TT := fun σ H Q => t σ H fun x H' => ∃ k, x = .bl k ∧ Q k H'
theorem pt_cmpR {op : CmpOp} {r : R2} (ho : OpR X (compareOp op) r) (ha : PE X a ta) (hb : PE X b tb) (hm : behindInMarks op b = false) : PT X (.Compare a [op] [b] pos) (tTest (tOp r ta tb)) := by
  intro pins s σ H Q I h
  refine wpAny_isTrue_Compare1 (thn (ha pins s σ H _ I h) fun v s1 ⟨x, H1, I1, r1, q1⟩ => thn (hb pins s1 σ H1 _ I1 q1) fun u s2 ⟨y, H2, I2, r2, q2⟩ =>
    thn (ho pins s2 σ H2 x y v u _ I2 r1 r2 q2) fun c s3 ⟨z, H3, I3, r3, k, e, q3⟩ => ?_) hm
  subst e
  cases r3
  exact wpAny_truthy_bool ⟨H3, I3, q3⟩
/-- a op1 b op2 c -/
def tChain (r r' : R2) (ta tb tc : TE) : TE := fun σ H Q => ta σ H fun x H1 => tb σ H1 fun y H2 => r x y H2 fun z H3 => ∃ k, z = .bl k ∧
  (if k = true then tc σ H3 fun w' H4 => r' y w' H4 Q else Q (.bl false) H3)
theorem pe_chain {op op' : CmpOp} {r r' : R2} (ho : OpR X (compareOp op) r) (ho' : OpR X (compareOp op') r') (ha : PE X a ta) (hb : PE X b tb) (hc : PE X c tc)
    (hm : lastMarks [op, op'] [b, c] = false := by with_unfolding_all rfl) : PE X (.Compare a [op, op'] [b, c] pos) (tChain r r' ta tb tc) := by
  intro pins s σ H Q I h
  refine Compare_chain (thn (ha pins s σ H _ I h) fun v s1 ⟨x, H1, I1, r1, q1⟩ => chain_link (thn (hb pins s1 σ H1 _ I1 q1) fun u s2 ⟨y, H2, I2, r2, q2⟩ =>
    thn (ho pins s2 σ H2 x y v u _ I2 r1 r2 q2) fun d s3 ⟨z, H3, I3, r3, k, e, q3⟩ => ?_)) hm
  subst e
  cases r3
  refine wpAny_truthy_bool ?_
  cases k with
  | false => exact ite_ff ⟨.bl false, H3, I3, rfl, q3⟩
  | true => exact ite_tt (chain_last (thn (hc pins s3 σ H3 _ I3 q3) fun w' s4 ⟨z', H4, I4, r4, q4⟩ => ho' pins s4 σ H4 y z' u w' Q I4 r2 r4 q4))
theorem pt_chain {op op' : CmpOp} {r r' : R2} (ho : OpR X (compareOp op) r) (ho' : OpR X (compareOp op') r') (ha : PE X a ta) (hb : PE X b tb) (hc : PE X c tc)
    (hm : lastMarks [op, op'] [b, c] = false := by with_unfolding_all rfl) : PT X (.Compare a [op, op'] [b, c] pos) (tTest (tChain r r' ta tb tc)) := by
  intro pins s σ H Q I h
  refine isTrue_chain (thn (ha pins s σ H _ I h) fun v s1 ⟨x, H1, I1, r1, q1⟩ => test_link (thn (hb pins s1 σ H1 _ I1 q1) fun u s2 ⟨y, H2, I2, r2, q2⟩ =>
    thn (ho pins s2 σ H2 x y v u _ I2 r1 r2 q2) fun d s3 ⟨z, H3, I3, r3, k, e, q3⟩ => ?_)) hm
  subst e
  cases r3
  refine wpAny_truthy_bool ?_
  cases k with
  | false =>
    obtain ⟨k', e', q'⟩ := q3
    cases e'
    exact ite_ff ⟨H3, I3, q'⟩
  | true =>
    refine ite_tt (test_last (thn (hc pins s3 σ H3 _ I3 q3) fun w' s4 ⟨z', H4, I4, r4, q4⟩ => thn (ho' pins s4 σ H4 y z' u w' _ I4 r2 r4 q4) fun d' s5 ⟨z2, H5, I5, r5, k2, e2, q5⟩ => ?_))
    subst e2
    cases r5
    exact wpAny_truthy_bool ⟨H5, I5, q5⟩

/-! ### truth -/
/-- a value's truth by the abstract heap -/
def TruV (K : PySem.W.Frag) (x : V) (H : Hp) (k : Bool) : Prop :=
  match x with
  | .non => k = false
  | .bl b => k = b
  | .int i => k = (i != 0)
  | .str y => y.length ≤ sizeLine ∧ k = ((y.length : Int) != 0)
  | .byt y => y.size ≤ sizeLine ∧ k = ((y.size : Int) != 0)
  | .ref p => (∃ xs, SqL K H p xs ∧ k = !xs.isEmpty) ∨ (∃ xs, SqT K H p xs ∧ k = !xs.isEmpty) ∨ ∃ kvs, H p = some (.dK kvs) ∧ k = !kvs.isEmpty
  | _ => False
theorem isEmpty_kv {κ : Type} {kvs : List (κ × V)} {vs : List (κ × Value)} (r : KV kvs vs) : (!vs.isEmpty) = !kvs.isEmpty := by
  cases r <;> rfl
theorem isEmpty_of {xs : List V} {its : List Value} (r : Vals xs its) : (!its.toArray.isEmpty) = !xs.isEmpty := by
  cases r <;> simp
theorem line63 : (sizeLine : Nat) < 2 ^ 63 := by rw [sizeLine_eq]; decide
theorem tru_ok : TruR X (fun x H Q => ∃ k, TruV X.K x H k ∧ Q k H) := by
  intro pins s σ H x v Q I rx h
  obtain ⟨k, e, q⟩ := h
  have hl := line63
  have hs : sizeLine = 16777216 := sizeLine_eq
  cases x with
  | non =>
    cases rx
    have e' : k = false := e
    subst e'
    exact truthy_none ⟨H, I, q⟩
  | bl b =>
    cases rx
    have e' : k = b := e
    subst e'
    exact wpAny_truthy_bool ⟨H, I, q⟩
  | int i =>
    obtain ⟨t, rfl⟩ := rx
    have e' : k = (i != 0) := e
    subst e'
    exact PySem.P.truthy_int ⟨H, I, q⟩
  | str y =>
    obtain ⟨t, rfl⟩ := rx
    obtain ⟨hy, e'⟩ : y.length ≤ sizeLine ∧ k = ((y.length : Int) != 0) := e
    subst e'
    exact PySem.P.truthy_str (by omega) ⟨H, I.tok _, q⟩
  | byt y =>
    obtain ⟨t, rfl⟩ := rx
    obtain ⟨hy, e'⟩ : y.size ≤ sizeLine ∧ k = ((y.size : Int) != 0) := e
    subst e'
    exact PySem.W.truthy_bytes (by omega) ⟨H, I.tok _, q⟩
  | ref p =>
    cases rx
    have e' : (∃ xs, SqL X.K H p xs ∧ k = !xs.isEmpty) ∨ (∃ xs, SqT X.K H p xs ∧ k = !xs.isEmpty) ∨ ∃ kvs, H p = some (.dK kvs) ∧ k = !kvs.isEmpty := e
    rcases e' with ⟨xs, hx, e'⟩ | ⟨xs, hx, e'⟩ | ⟨kvs, hx, e'⟩
    · subst e'
      obtain ⟨its, r, pl, hz⟩ := I.list hx
      have hlen := r.length
      exact wpAny_truthy_list pl.isList (by simp only [List.size_toArray]; omega) ⟨H, I.tok _, by rw [isEmpty_of r]; exact q⟩
    · subst e'
      obtain ⟨its, r, pl, hz⟩ := I.tuple hx
      have hlen := r.length
      exact truthy_tuple pl (by simp only [List.size_toArray]; omega) ⟨H, I.tok _, by rw [isEmpty_of r]; exact q⟩
    · subst e'
      obtain ⟨hz, hS, vs, r, m⟩ : kvs.length ≤ sizeLine ∧ (p == sysModules) = false ∧ ∃ vs, KV kvs vs ∧ s.heap.DictOf (mixKind X.prog X.w) p vs := I.hok p _ hx
      have hlen : kvs.length = vs.length := Paired.length r
      exact wpAny_truthy_dict hS m (by omega) ⟨H, I.tok _, by rw [isEmpty_kv r]; exact q⟩
  | _ => exact (show False from e).elim
/-- any expression whose test is its value's truth (a name, a call, a subscript, a field ..: he by fun _ => rfl) -/
theorem pt_truth (ha : PE X a ta) (he : ∀ whole, isTrue a X.env whole = (do let v ← whole; standAt a.pos; holding [v] (truthy v))) :
    PT X a (fun σ H Q => ta σ H fun x H' => ∃ k, TruV X.K x H' k ∧ Q k H') := by
  intro pins s σ H Q I h
  exact isTrue_plain (thn (ha pins s σ H _ I h) fun v s1 ⟨x, H1, I1, r1, q1⟩ => tru_ok pins s1 σ H1 x v Q I1 r1 q1) (he _)

/-! ### strs and bytes -/
theorem pe_byt {x : List UInt8} {k : Nat} : PE X (.Constant (.bytes x) k pos) (fun _ H Q => Q (.byt x.toArray) H) := fun _ _ _ H _ I h => PySem.W.Constant_bytes ⟨.byt x.toArray, H, I.tok _, ⟨_, rfl⟩, h⟩
theorem op_add_str : OpR X (binaryOp .Add) (fun x y H Q => ∃ i j, x = .str i ∧ y = .str j ∧ i.length + j.length ≤ sizeLine ∧ Q (.str (i ++ j)) H) := by
  intro pins s σ H x y v u Q I rx ry h
  obtain ⟨i, j, rfl, rfl, hz, q⟩ := h
  obtain ⟨t, rfl⟩ := rx
  obtain ⟨t', rfl⟩ := ry
  exact add_str (fun t' tk => ⟨.str (i ++ j), H, I.tok _, ⟨_, rfl⟩, q⟩) hz
theorem iop_add_str : OpR X (inplaceOp .Add) (fun x y H Q => ∃ i j, x = .str i ∧ y = .str j ∧ i.length + j.length ≤ sizeLine ∧ Q (.str (i ++ j)) H) := by
  intro pins s σ H x y v u Q I rx ry h
  obtain ⟨i, j, rfl, rfl, hz, q⟩ := h
  obtain ⟨t, rfl⟩ := rx
  obtain ⟨t', rfl⟩ := ry
  exact iadd_str (fun t' tk => ⟨.str (i ++ j), H, I.tok _, ⟨_, rfl⟩, q⟩) hz
theorem op_add_byt : OpR X (binaryOp .Add) (fun x y H Q => ∃ i j, x = .byt i ∧ y = .byt j ∧ i.size + j.size ≤ 16777216 ∧ Q (.byt (i ++ j)) H) := by
  intro pins s σ H x y v u Q I rx ry h
  obtain ⟨i, j, rfl, rfl, hz, q⟩ := h
  obtain ⟨t, rfl⟩ := rx
  obtain ⟨t', rfl⟩ := ry
  exact PySem.W.KBy.add_bytes hz (fun t' tk => ⟨.byt (i ++ j), H, I.tok _, ⟨_, rfl⟩, q⟩)

def PlainIxT (b : Expr) : Prop := ∀ o i, subscripted b false o i = operate [o, i] (getItem o i)
/-- s[i], 0 ≤ i < len -/
theorem pe_item_str (ha : PE X a ta) (hb : PE X b tb) (hs : PlainIxT b) :
    PE X (.Subscript a b pos) (tOp (fun x y H Q => ∃ z i c, x = .str z ∧ y = .int i ∧ 0 ≤ i ∧ i < 2 ^ 63 ∧ i < z.length ∧ z.cps[i.toNat]? = some c ∧ Q (.str ⟨#[c]⟩) H) ta tb) := by
  intro pins s σ H Q I h
  refine Subscript_ (binT ha hb I h fun v u s2 x y H2 I2 rx ry q => ?_)
  obtain ⟨z, i, c, rfl, rfl, h0, h63, h1, hc, q⟩ := q
  obtain ⟨t, rfl⟩ := rx
  obtain ⟨t', rfl⟩ := ry
  have e : seqIndex? i z.length = some i.toNat := PySem.StrLaws.seqIndex_nonneg h0 h1
  exact tail_any (typeIs_str s2 z t) slot_str_getitem.lookup (getItem_str (c := c) (by
    have e1 : decide (i < -(2 ^ 63 : Int)) = false := decide_eq_false (by omega)
    have e2 : decide (i ≥ 2 ^ 63) = false := decide_eq_false (by omega)
    rw [e1, e2] <;> rfl) (by rw [e]; exact hc) ⟨.str ⟨#[c]⟩, H2, I2.tok _, ⟨_, rfl⟩, q⟩) (hs _ _)
/-- b[i], 0 ≤ i < len -/
theorem pe_item_byt (ha : PE X a ta) (hb : PE X b tb) (hs : PlainIxT b) :
    PE X (.Subscript a b pos) (tOp (fun x y H Q => ∃ (z : List UInt8) (i : Int), x = .byt z.toArray ∧ y = .int i ∧ z.length ≤ sizeLine ∧ 0 ≤ i ∧ i < z.length ∧ Q (.int ((z.getD i.toNat 0).toNat : Nat)) H) ta tb) := by
  intro pins s σ H Q I h
  refine Subscript_ (binT ha hb I h fun v u s2 x y H2 I2 rx ry q => ?_)
  obtain ⟨z, i, rfl, rfl, hz, h0, h1, q⟩ := q
  obtain ⟨t, rfl⟩ := rx
  obtain ⟨t', rfl⟩ := ry
  have hl : sizeLine = 16777216 := sizeLine_eq
  exact tail_any (PySem.W.typeIs_bytes s2 z.toArray t) PySem.W.FB.slot_bytes_getitem.lookup (PySem.W.getItem_bytes (by omega) h0 h1 ⟨.int ((z.getD i.toNat 0).toNat : Nat), H2, I2.tok _, ⟨_, rfl⟩, q⟩) (hs _ _)

/-! ### scalar builtins, by CallR -/
theorem vals1 {x : V} {us : List Value} (r : Vals [x] us) : ∃ u, us = [u] ∧ RelV x u := by
  cases r with
  | cons r1 r2 => cases r2; exact ⟨_, rfl, r1⟩
theorem vals2 {x y : V} {us : List Value} (r : Vals [x, y] us) : ∃ u w', us = [u, w'] ∧ RelV x u ∧ RelV y w' := by
  cases r with
  | cons r1 r2 =>
    cases r2 with
    | cons r3 r4 => cases r4; exact ⟨_, _, rfl, r1, r3⟩
theorem call_abs : CallR X (.builtin "abs") (fun xs H Q => ∃ i, xs = [.int i] ∧ Q (.int (if i < 0 then -i else i)) H) := by
  intro pins s σ H xs us Q I r h
  obtain ⟨i, rfl, q⟩ := h
  obtain ⟨u, rfl, t, rfl⟩ := vals1 r
  exact call_abs_int fun u tk => ⟨.int (if i < 0 then -i else i), H, I.tok _, ⟨_, rfl⟩, q⟩
theorem call_max2 (hc : X.calm = true) : CallR X (.builtin "max") (fun xs H Q => ∃ i j, xs = [.int i, .int j] ∧ Q (.int (if j > i then j else i)) H) := by
  intro pins s σ H xs us Q I r h
  obtain ⟨i, j, rfl, q⟩ := h
  obtain ⟨u, w', rfl, ⟨t, rfl⟩, ⟨t', rfl⟩⟩ := vals2 r
  refine max_two_ints (I.ok.hd hc) fun h' tk k => ⟨_, H, I.kept k, ?_, q⟩
  by_cases hj : j > i
  · rw [if_pos hj, if_pos hj]; exact ⟨_, rfl⟩
  · rw [if_neg hj, if_neg hj]; exact ⟨_, rfl⟩
theorem call_min2 (hc : X.calm = true) : CallR X (.builtin "min") (fun xs H Q => ∃ i j, xs = [.int i, .int j] ∧ Q (.int (if j < i then j else i)) H) := by
  intro pins s σ H xs us Q I r h
  obtain ⟨i, j, rfl, q⟩ := h
  obtain ⟨u, w', rfl, ⟨t, rfl⟩, ⟨t', rfl⟩⟩ := vals2 r
  refine min_two_ints (I.ok.hd hc) fun h' tk k => ⟨_, H, I.kept k, ?_, q⟩
  by_cases hj : j < i
  · rw [if_pos hj, if_pos hj]; exact ⟨_, rfl⟩
  · rw [if_neg hj, if_neg hj]; exact ⟨_, rfl⟩
theorem call_int1 : CallR X (.type "int") (fun xs H Q => (∃ i, xs = [.int i] ∧ Q (.int i) H) ∨ ∃ k, xs = [.bl k] ∧ Q (.int (if k then 1 else 0)) H) := by
  intro pins s σ H xs us Q I r h
  rcases h with ⟨i, rfl, q⟩ | ⟨k, rfl, q⟩
  · obtain ⟨u, rfl, t, rfl⟩ := vals1 r
    exact call_int_int ⟨.int i, H, I, ⟨_, rfl⟩, q⟩
  · obtain ⟨u, rfl, r1⟩ := vals1 r
    cases r1
    exact call_int_bool ⟨.int (if k then 1 else 0), H, I.tok _, ⟨_, rfl⟩, q⟩
theorem call_bool1 : CallR X (.type "bool") (fun xs H Q => (∃ i, xs = [.int i] ∧ Q (.bl (i != 0)) H) ∨ ∃ k, xs = [.bl k] ∧ Q (.bl k) H) := by
  intro pins s σ H xs us Q I r h
  rcases h with ⟨i, rfl, q⟩ | ⟨k, rfl, q⟩
  · obtain ⟨u, rfl, t, rfl⟩ := vals1 r
    exact call_bool_int ⟨.bl (i != 0), H, I, rfl, q⟩
  · obtain ⟨u, rfl, r1⟩ := vals1 r
    cases r1
    exact call_bool_bool ⟨.bl k, H, I, rfl, q⟩
theorem call_str_int : CallR X (.type "str") (fun xs H Q => ∃ i, xs = [.int i] ∧ i.natAbs.log2 < 1920 ∧ Q (.str (toString i)) H) := by
  intro pins s σ H xs us Q I r h
  obtain ⟨i, rfl, hz, q⟩ := h
  obtain ⟨u, rfl, t, rfl⟩ := vals1 r
  exact PySem.P.str_of_int hz ⟨.str _, H, I.tok _, ⟨_, rfl⟩, q⟩
theorem call_ord : CallR X (.builtin "ord") (fun xs H Q => ∃ x, xs = [.str x] ∧ x.length = 1 ∧ Q (.int (x.cps.getD 0 0 : Nat)) H) := by
  intro pins s σ H xs us Q I r h
  obtain ⟨x, rfl, hz, q⟩ := h
  obtain ⟨u, rfl, t, rfl⟩ := vals1 r
  exact ord_of_one hz ⟨.int _, H, I.tok _, ⟨_, rfl⟩, q⟩
theorem call_chr : CallR X (.builtin "chr") (fun xs H Q => ∃ i, xs = [.int i] ∧ 0 ≤ i ∧ i ≤ 1114111 ∧ Q (.str ⟨#[i.toNat]⟩) H) := by
  intro pins s σ H xs us Q I r h
  obtain ⟨i, rfl, h0, h1, q⟩ := h
  obtain ⟨u, rfl, t, rfl⟩ := vals1 r
  exact chr_of_range h0 h1 ⟨.str _, H, I.tok _, ⟨_, rfl⟩, q⟩
/-- len of a str, a bytes, a list, a tuple -/
def LenV (K : PySem.W.Frag) (x : V) (H : Hp) (n : Nat) : Prop :=
  match x with
  | .str y => y.length ≤ sizeLine ∧ n = y.length
  | .byt y => y.size ≤ sizeLine ∧ n = y.size
  | .ref p => (∃ xs, SqL K H p xs ∧ n = xs.length) ∨ ∃ xs, SqT K H p xs ∧ n = xs.length
  | _ => False
theorem call_len : CallR X (.builtin "len") (fun xs H Q => ∃ x n, xs = [x] ∧ LenV X.K x H n ∧ Q (.int n) H) := by
  intro pins s σ H xs us Q I r h
  obtain ⟨x, n, rfl, e, q⟩ := h
  obtain ⟨u, rfl, rx⟩ := vals1 r
  have hl := line63
  have hs : sizeLine = 16777216 := sizeLine_eq
  cases x with
  | str y =>
    obtain ⟨t, rfl⟩ := rx
    obtain ⟨hy, e'⟩ : y.length ≤ sizeLine ∧ n = y.length := e
    subst e'
    exact len_str (by omega) ⟨.int _, H, I.tok _, ⟨_, rfl⟩, q⟩
  | byt y =>
    obtain ⟨t, rfl⟩ := rx
    obtain ⟨hy, e'⟩ : y.size ≤ sizeLine ∧ n = y.size := e
    subst e'
    exact PySem.W.len_bytes (by omega) ⟨.int _, H, I.tok _, ⟨_, rfl⟩, q⟩
  | ref p =>
    cases rx
    have e' : (∃ xs, SqL X.K H p xs ∧ n = xs.length) ∨ ∃ xs, SqT X.K H p xs ∧ n = xs.length := e
    rcases e' with ⟨xs, hx, e'⟩ | ⟨xs, hx, e'⟩
    · subst e'
      obtain ⟨its, r', pl, hz⟩ := I.list hx
      have hlen := r'.length
      exact Calls.call_len_list pl.isList (by simp only [List.size_toArray]; omega) ⟨.int xs.length, H, I.tok _, ⟨_, by simp only [List.size_toArray]; rw [hlen]⟩, q⟩
    · subst e'
      obtain ⟨its, r', pl, hz⟩ := I.tuple hx
      have hlen := r'.length
      exact len_tuple pl (by simp only [List.size_toArray]; omega) ⟨.int xs.length, H, I.tok _, ⟨_, by simp only [List.size_toArray]; rw [hlen]⟩, q⟩
  | _ => exact (show False from e).elim
/-- divmod: a new tuple -/
theorem call_divmod : CallR X (.builtin "divmod") (fun xs H Q => ∃ i j, xs = [.int i, .int j] ∧ CDiv i j ∧ ∀ p, H p = none → Q (.ref p) (upd H p (.tup [.int (i / j), .int (i % j)]))) := by
  intro pins s σ H xs us Q I r h
  obtain ⟨i, j, rfl, ⟨h1, h2⟩, q⟩ := h
  obtain ⟨u, w', rfl, ⟨t, rfl⟩, ⟨t', rfl⟩⟩ := vals2 r
  refine divmod_int (by omega) ?_ (.inl (PyProof.noPylong_small (by omega)))
  rw [Int.fdiv_eq_ediv_of_nonneg i (by omega), Int.fmod_eq_emod_of_nonneg i (by omega)]
  have hn : H s.heap.objs.size = none := I.hok.fresh (Nat.le_refl _)
  refine ⟨.ref s.heap.objs.size, _, ?_, rfl, q _ hn⟩
  refine I.laid (fun b o e => Heap.get?_push_of_some _ e) (Nat.le_refl _) ⟨by simp only [List.length_cons, List.length_nil]; rw [sizeLine_eq]; decide, [.int (i / j) s.toks, .int (i % j) (s.toks + 1)], .cons ⟨_, rfl⟩ (.cons ⟨_, rfl⟩ .nil), ?_⟩
  exact ⟨_, Heap.get?_push_size s.heap rfl, rfl, 0, rfl⟩
end
end L2

namespace L2
open PySem PySem.Spec PyProof.Rows

/-! ### an instance, its attributes a map -/
structure ObjM (h : Heap) (x dx C : Addr) (mA : Str → Option Value) : Prop where
  obj : h.get? x = some (PySem.W.instObj C dx)
  ns : h.Ns1 dx mA
  ne : dx ≠ x

theorem lookIn_ns {h : Heap} {dx : Addr} {mA : Str → Option Value} (n : h.Ns1 dx mA) : ∃ od, h.get? dx = some od ∧ ∀ name, PySem.W.lookIn name od = some (mA name) := by
  obtain ⟨o, es, ep, ho, hd, hk, _, hm⟩ := n
  refine ⟨o, ho, fun name => ?_⟩
  have e := hm name
  unfold nsFind findBy at e
  rw [← Array.find?_toList] at e
  unfold PySem.W.lookIn
  rw [hd]
  dsimp only
  split
  · rename_i y q
    rw [q] at e
    exact congrArg some e
  · rename_i q
    rw [q] at e
    have a : es.toList.any (·.refKey) = false := by
      rw [List.any_eq_false]
      intro y hy
      obtain ⟨z, t, hkey⟩ := hk y (Array.mem_toList_iff.mp hy)
      simp [DictEntry.refKey, hkey]
    have a' : ¬ es.toList.any (·.refKey) = true := by rw [a]; exact Bool.false_ne_true
    rw [if_neg a']
    exact congrArg some e

theorem ObjM.look {h : Heap} {x dx C : Addr} {mA : Str → Option Value} (I : ObjM h x dx C mA) : ∃ od, PySem.W.InstAt h x (PySem.W.instObj C dx) C (some od) ∧ ∀ name, PySem.W.lookIn name od = some (mA name) :=
  let ⟨od, ho, hl⟩ := lookIn_ns I.ns
  ⟨od, ⟨I.obj, rfl, rfl, ho⟩, hl⟩

section
variable {prog : Program} {w : World} {A : Around} {E : Value → Shared → Prop} {s : Shared} {K : PySem.W.Frag} {x dx C f : Addr} {mA : Str → Option Value} {name : Str} {v : Value}

theorem get_map {expr : Bool} {Q : Value → Shared → Prop} (X : K.In s.heap) (I : ObjM s.heap x dx C mA) (hg : PySem.W.plainGet K C name = true) (hh : PySem.W.hasDictIn K C = true)
    (ha : PySem.W.findIn K (.ref C) name = some none) (hv : mA name = some v) (hv' : PySem.W.handedIn v = true) (h : Q v { s with toks := s.toks + 1 }) :
    wpAny (model prog w) A (getAttr (.ref x) name expr) Q E s := by
  obtain ⟨od, J, hl⟩ := I.look
  exact PySem.W.get_value X J (PySem.W.plainGet_of hg).1 (PySem.W.findObj_own hh ha rfl (by rw [hl, hv])) hv' h

theorem get_const {expr : Bool} {a : Value} {Q : Value → Shared → Prop} (X : K.In s.heap) (I : ObjM s.heap x dx C mA) (hg : PySem.W.plainGet K C name = true) (hh : PySem.W.hasDictIn K C = true)
    (ha : PySem.W.findIn K (.ref C) name = some (some a)) (hn : PySem.W.specialIn K a "__get__" = some none) (hc : PySem.W.copiedNames.contains name = false) (hv : mA name = none) (hv' : PySem.W.handedIn a = true)
    (h : Q a { s with toks := s.toks + 1 }) : wpAny (model prog w) A (getAttr (.ref x) name expr) Q E s := by
  obtain ⟨od, J, hl⟩ := I.look
  exact PySem.W.get_value X J (PySem.W.plainGet_of hg).1 (PySem.W.findObj_cls hh ha hn hv' hc (by rw [hl, hv])) hv' h

theorem get_meth {pl : Sem Bool} {Q : Value × List Value → Shared → Prop} (X : K.In s.heap) (I : ObjM s.heap x dx C mA) (hg : PySem.W.plainGet K C name = true)
    (hf : PySem.W.findIn K (.ref C) name = some (some (.ref f))) (ht : PySem.W.isFn K (.ref f) = true) (hv : mA name = none) (h : Q (.ref f, [.ref x]) s) :
    wpAny (model prog w) A (getMethod (.ref x) name pl) Q E s := by
  obtain ⟨od, J, hl⟩ := I.look
  exact PySem.W.method_fn X J (PySem.W.plainGet_of hg).1 (PySem.W.plainGet_of hg).2 hf (beq_iff_eq.mp ht) (by show (PySem.W.lookIn name od).map (·.isSome) = some false; rw [hl, hv]; rfl) h

theorem set_map {ns : List Str} {Q : Unit → Shared → Prop} (X : K.In s.heap) (I : ObjM s.heap x dx C mA)
    (hs : PySem.W.findIn K (.ref C) "__setattr__" = some (some (.builtin "object.__setattr__"))) (hp : PySem.W.plainOver K C = true) (ht : PySem.W.takerIn K C name = some none) (hh : PySem.W.hasDictIn K C = true)
    (hw : PySem.Within mA ns) (hsz : ns.length ≤ sizeLine)
    (h : ∀ h', ObjM h' x dx C (fun y => if y = name then some v else mA y) → Heap.SameBut dx s.heap h' → Q () { s with heap := h', toks := s.toks + 2 }) :
    wpAny (model prog w) A (setAttr (.ref x) name v) Q E s := by
  obtain ⟨od, J, hl⟩ := I.look
  refine PySem.W.set_plain X J hs (PySem.W.osa_open (s := { s with toks := s.toks + 1 }) (r := none) X J hp ht fun b => ?_)
  obtain ⟨cd, hc, hd'⟩ := PySem.W.any_some hh
  have hx : s.heap.get? x = some ⟨.ref C, some dx, .plain, #[]⟩ := I.obj
  refine wpAny_bind (wpAny_pure (wpAny_bind (wpAny_bind (wpAny_loadPart hx (wpAny_bind (PySem.W.Looks.here (s := { s with toks := s.toks + 1 }) (PySem.W.looks_clsIn X hc) ?_))))))
  rw [hd']
  refine wpAny_pure (a := some dx) (wpAny_bind (wpAny_pure (wpAny_bind ?_)))
  refine wpAny_nsSet1 (s := { s with toks := s.toks + 1 }) I.ns fun h' hn2 hs2 => ?_
  obtain ⟨oD, esD, epD, hoD, hdD, hcD⟩ := hn2.count (PySem.Within.cons name v hw)
  refine wpAny_bind (wpAny_lookBehind hoD (by rw [hdD]; exact pastItsLine_dict (Nat.le_trans hcD (by rw [List.length_cons]; omega))) ?_)
  exact wpAny_pure (h _ ⟨(hs2.2 _ (Ne.symm I.ne)).trans I.obj, hn2, I.ne⟩ hs2)

/-- C(..): the dict at the heap's end, the instance behind it; then its __init__ -/
theorem make_map {R : Result → Shared → Prop} {vs : List Value} {kw : List (Str × Value)} (X : K.In s.heap) (hm : PySem.W.makesIn K C = true)
    (hi : PySem.W.findIn K (.ref C) "__init__" = some (some (.ref f))) (hf : PySem.W.typeIn K (.ref f) = some (.type "function"))
    (h : codeAny (model prog w) (A.under (.builtin "type.__call__" ⟨.ref C :: vs, kw⟩)) (.call (.ref f) ⟨.ref (s.heap.objs.size + 1) :: vs, kw⟩) (PySem.W.InitBack (s.heap.objs.size + 1) R)
      { s with heap := (s.heap.push PySem.W.emptyDict).push (PySem.W.instObj C s.heap.objs.size) }) :
    codeAny (model prog w) A (.call (.ref C) ⟨vs, kw⟩) R s := by
  obtain ⟨hh, g, d, t, os⟩ := s
  exact PySem.W.make_core (PySem.W.makes_of X hm) (PySem.W.looks_findIn X hi) (fun self => PySem.W.bind_fn X self hf) (.inl rfl) h
/-- C() where there is no __init__ but object's -/
theorem make_map0 {R : Result → Shared → Prop} (X : K.In s.heap) (hm : PySem.W.makesIn K C = true)
    (hi : PySem.W.findIn K (.ref C) "__init__" = some (some (.builtin "object.__init__")))
    (hb : ∀ self, PySem.W.Looks (model prog w) s.heap (bindSpecial (.builtin "object.__init__") self) (.builtin "object.__init__", [self]))
    (h : codeAny (model prog w) (A.under (.builtin "type.__call__" ⟨[.ref C], []⟩)) (.call (.builtin "object.__init__") ⟨[.ref (s.heap.objs.size + 1)], []⟩) (PySem.W.InitBack (s.heap.objs.size + 1) R)
      { s with heap := (s.heap.push PySem.W.emptyDict).push (PySem.W.instObj C s.heap.objs.size) }) :
    codeAny (model prog w) A (.call (.ref C) ⟨[], []⟩) R s := by
  obtain ⟨hh, g, d, t, os⟩ := s
  exact PySem.W.make_core (PySem.W.makes_of X hm) (PySem.W.looks_findIn X hi) hb (.inr ⟨rfl, rfl⟩) h
end

/-! ### the attributes as a list of pairs -/
def putF (f : Str) (v : V) : List (Str × V) → List (Str × V)
  | [] => [(f, v)]
  | (g, x) :: r => if g = f then (g, v) :: r else (g, x) :: putF f v r
theorem lookup_putF (f g : Str) (v : V) : ∀ fs : List (Str × V), (putF f v fs).lookup g = if g = f then some v else fs.lookup g
  | [] => by
    show List.lookup g [(f, v)] = _
    by_cases h : g = f
    · have hb : (g == f) = true := beq_iff_eq.mpr h
      simp only [List.lookup, hb, if_pos h]
    · have hb : (g == f) = false := beq_eq_false_iff_ne.mpr h
      simp only [List.lookup, hb, if_neg h]
  | (k, x) :: r => by
    have ih := lookup_putF f g v r
    rw [show putF f v ((k, x) :: r) = (if k = f then (k, v) :: r else (k, x) :: putF f v r) from rfl]
    by_cases hk : k = f
    · rw [if_pos hk]
      by_cases h : g = k
      · have hb : (g == k) = true := beq_iff_eq.mpr h
        simp only [List.lookup, hb, if_pos (h.trans hk)]
      · have hb : (g == k) = false := beq_eq_false_iff_ne.mpr h
        simp only [List.lookup, hb, if_neg (fun e : g = f => h (e.trans hk.symm))]
    · rw [if_neg hk]
      by_cases h : g = k
      · have hb : (g == k) = true := beq_iff_eq.mpr h
        simp only [List.lookup, hb, if_neg (fun e : g = f => hk (h.symm.trans e))]
      · have hb : (g == k) = false := beq_eq_false_iff_ne.mpr h
        simp only [List.lookup, hb]
        exact ih
theorem keys_putF (f : Str) (v : V) : ∀ fs : List (Str × V), f ∈ (putF f v fs).map (·.1) ∧ ∀ g, g ∈ fs.map (·.1) → g ∈ (putF f v fs).map (·.1)
  | [] => ⟨by simp [putF], fun g h => by simp at h⟩
  | (k, x) :: r => by
    obtain ⟨i1, i2⟩ := keys_putF f v r
    rw [show putF f v ((k, x) :: r) = (if k = f then (k, v) :: r else (k, x) :: putF f v r) from rfl]
    by_cases hk : k = f
    · rw [if_pos hk]
      subst hk
      exact ⟨by simp, fun g h => by simpa using h⟩
    · rw [if_neg hk]
      refine ⟨?_, fun g h => ?_⟩
      · rw [List.map_cons]
        exact List.mem_cons_of_mem _ i1
      · rw [List.map_cons] at h ⊢
        rcases List.mem_cons.mp h with e | e
        · exact List.mem_cons.mpr (.inl e)
        · exact List.mem_cons_of_mem _ (i2 g e)
theorem length_putF (f : Str) (v : V) : ∀ fs : List (Str × V), (putF f v fs).length ≤ fs.length + 1
  | [] => by simp [putF]
  | (k, x) :: r => by
    have ih := length_putF f v r
    rw [show putF f v ((k, x) :: r) = (if k = f then (k, v) :: r else (k, x) :: putF f v r) from rfl]
    by_cases hk : k = f
    · rw [if_pos hk, List.length_cons, List.length_cons]; omega
    · rw [if_neg hk, List.length_cons, List.length_cons]; omega

theorem RelO.some_of {v : V} {o : Option Value} (r : RelO (some v) o) : ∃ u, o = some u ∧ RelV v u := by
  cases o with
  | none => exact (show False from r).elim
  | some u => exact ⟨u, rfl, r⟩
theorem RelO.none_of {o : Option Value} (r : RelO none o) : o = none := by
  cases o with
  | none => rfl
  | some u => exact (show False from r).elim
theorem handed_of {v : V} {u : Value} (r : RelV v u) : PySem.W.handedIn u = true := by
  cases v with
  | non => cases (show u = Value.none from r); rfl
  | bl b => cases (show u = Value.bool b from r); rfl
  | int i => obtain ⟨t, e⟩ := (show ∃ t, u = Value.int i t from r); cases e; rfl
  | str x => obtain ⟨t, e⟩ := (show ∃ t, u = Value.str x t from r); cases e; rfl
  | byt b => obtain ⟨t, e⟩ := (show ∃ t, u = Value.bytes b t from r); cases e; rfl
  | flt b => obtain ⟨t, e⟩ := (show ∃ t, u = Value.float b t from r); cases e; rfl
  | ref a => cases (show u = Value.ref a from r); rfl
  | ty n => cases (show u = Value.type n from r); rfl

section
variable {P : Program} {w : World} {H H' : Hp} {h h' : Heap} {a C dx : Addr} {fs fs' : List (Str × V)}
theorem ins_get (hok : HOk P w H h) (e : H a = some (.ins C dx fs)) : ∃ mA, ObjM h a dx C mA ∧ (∀ f, RelO (fs.lookup f) (mA f)) ∧ PySem.Within mA (fs.map (·.1)) ∧ fs.length ≤ 1000 ∧ H dx = some (.own a) := by
  obtain ⟨d, z, ne, ob, mA, n, r, q⟩ := (show ObjOk P w H h a (.ins C dx fs) from hok a _ e)
  exact ⟨mA, ⟨ob, n, ne⟩, r, q, z, d⟩
end

/-! ### what of the text a class must have -/
structure Cls (K : PySem.W.Frag) (C : Addr) : Prop where
  pg : PySem.W.plainGet K C Str.empty = true
  hd : PySem.W.hasDictIn K C = true
  po : PySem.W.plainOver K C = true
  sa : PySem.W.findIn K (.ref C) "__setattr__" = some (some (.builtin "object.__setattr__"))
theorem Cls.get {K : PySem.W.Frag} {C : Addr} (c : Cls K C) (f : Str) : PySem.W.plainGet K C f = true := c.pg
/-- no class of it has the name -/
def NoAttr (K : PySem.W.Frag) (C : Addr) (f : Str) : Prop := PySem.W.findIn K (.ref C) f = some none
theorem NoAttr.taker {K : PySem.W.Frag} {C : Addr} {f : Str} (n : NoAttr K C f) : PySem.W.takerIn K C f = some none := by
  unfold PySem.W.takerIn
  rw [show PySem.W.findIn K (.ref C) f = some none from n]
  rfl
/-- a constant of the class -/
structure Con (K : PySem.W.Frag) (C : Addr) (f : Str) (v : V) (u : Value) : Prop where
  at_ : PySem.W.findIn K (.ref C) f = some (some u)
  rel : RelV v u
  get : PySem.W.specialIn K u "__get__" = some none
  cp : PySem.W.copiedNames.contains f = false
/-- a method: a plain def of the class or of one above it -/
structure Meth (K : PySem.W.Frag) (C : Addr) (m : Str) (f : Addr) : Prop where
  at_ : PySem.W.findIn K (.ref C) m = some (some (.ref f))
  fn : PySem.W.isFn K (.ref f) = true
  kp : PySem.W.keepIn K (.ref f) = true

section
variable {X : Cx} {pins : List (Addr × Obj)} {σ : St} {H : Hp} {s : Shared} {a C dx : Addr} {fs : List (Str × V)} {f : Str} {v : V} {A : Around} {E : Value → Shared → Prop}

theorem getattr_ok {b : Bool} {Q : Value → Shared → Prop} (I : Inv X pins σ H s) (e : H a = some (.ins C dx fs)) (c : Cls X.K C) (n : NoAttr X.K C f) (l : fs.lookup f = some v)
    (h : ∀ u s', Inv X pins σ H s' → RelV v u → Q u s') : wpAny (model X.prog X.w) A (getAttr (.ref a) f b) Q E s := by
  obtain ⟨mA, O, r, _, _, _⟩ := ins_get I.hok e
  obtain ⟨u, hu, ru⟩ := RelO.some_of (v := v) (o := mA f) (by rw [← l]; exact r f)
  exact get_map I.kIn O (c.get f) c.hd n hu (handed_of ru) (h u _ (I.tok _) ru)

theorem getcon_ok {b : Bool} {u : Value} {Q : Value → Shared → Prop} (I : Inv X pins σ H s) (e : H a = some (.ins C dx fs)) (c : Cls X.K C) (k : Con X.K C f v u) (l : fs.lookup f = none)
    (h : ∀ s', Inv X pins σ H s' → Q u s') : wpAny (model X.prog X.w) A (getAttr (.ref a) f b) Q E s := by
  obtain ⟨mA, O, r, _, _, _⟩ := ins_get I.hok e
  have hn : mA f = none := RelO.none_of (by rw [← l]; exact r f)
  exact get_const I.kIn O (c.get f) c.hd k.at_ k.get k.cp hn (handed_of k.rel) (h _ (I.tok _))

theorem getmeth_ok {m : Str} {g : Addr} {pl : Sem Bool} {Q : Value × List Value → Shared → Prop} (I : Inv X pins σ H s) (e : H a = some (.ins C dx fs)) (c : Cls X.K C) (k : Meth X.K C m g) (l : fs.lookup m = none)
    (h : Q (.ref g, [.ref a]) s) : wpAny (model X.prog X.w) A (getMethod (.ref a) m pl) Q E s := by
  obtain ⟨mA, O, r, _, _, _⟩ := ins_get I.hok e
  have hn : mA m = none := RelO.none_of (by rw [← l]; exact r m)
  exact get_meth I.kIn O (c.get m) k.at_ k.fn hn h

theorem setattr_ok {y : V} {u : Value} {Q : Unit → Shared → Prop} (I : Inv X pins σ H s) (e : H a = some (.ins C dx fs)) (c : Cls X.K C) (n : NoAttr X.K C f) (hl : fs.length < 1000) (ry : RelV y u)
    (h : ∀ s', Inv X pins σ (upd H a (.ins C dx (putF f y fs))) s' → Q () s') : wpAny (model X.prog X.w) A (setAttr (.ref a) f u) Q E s := by
  obtain ⟨mA, O, r, wi, _, ho⟩ := ins_get I.hok e
  have hz : (fs.map (·.1)).length ≤ sizeLine := by rw [List.length_map, sizeLine_eq]; omega
  refine set_map I.kIn O c.sa c.po n.taker c.hd wi hz fun h' O' sb => h _ ?_
  have hd : ∃ o, h'.get? dx = some o := let ⟨o, _, _, e', _⟩ := O'.ns; ⟨o, e'⟩
  refine I.write (x := a) (e := dx) (by rw [e]; exact True.intro) (.inr ho) (fun b q hb z => (sb.2 b hb).trans z) hd ?_
  refine ⟨by rw [upd_ne O.ne]; exact ho, ?_, O.ne, O'.obj, _, O'.ns, fun g => ?_, fun g hg => ?_⟩
  · have := length_putF f y fs; omega
  · show RelO ((putF f y fs).lookup g) (if g = f then some u else mA g)
    rw [lookup_putF]
    by_cases q : g = f
    · rw [if_pos q, if_pos q]; exact ry
    · rw [if_neg q, if_neg q]; exact r g
  · by_cases q : g = f
    · rw [q]; exact (keys_putF f y fs).1
    · refine (keys_putF f y fs).2 g (wi g fun z => hg ?_)
      show (if g = f then some u else mA g) = none
      rw [if_neg q]; exact z

/-- a new instance, tracked, without attributes -/
theorem Inv.made (I : Inv X pins σ H s) : Inv X pins σ (upd (upd H s.heap.objs.size (.own (s.heap.objs.size + 1))) (s.heap.objs.size + 1) (.ins C s.heap.objs.size []))
    { s with heap := (s.heap.push PySem.W.emptyDict).push (PySem.W.instObj C s.heap.objs.size) } := by
  have e1 : (s.heap.push PySem.W.emptyDict).get? s.heap.objs.size = some PySem.W.emptyDict := Heap.get?_push_size s.heap rfl
  have e2 : ((s.heap.push PySem.W.emptyDict).push (PySem.W.instObj C s.heap.objs.size)).get? (s.heap.objs.size + 1) = some (PySem.W.instObj C s.heap.objs.size) := by
    have := Heap.get?_push_size (s.heap.push PySem.W.emptyDict) (o := PySem.W.instObj C s.heap.objs.size) rfl
    rwa [Heap.size_push] at this
  have e3 : (s.heap.push PySem.W.emptyDict).Ns s.heap.objs.size (fun _ => none) := ⟨PySem.W.emptyDict, #[], _, e1, rfl, (fun e he => absurd he (by simp)), fun _ => rfl⟩
  have I1 := I.laid (a := s.heap.objs.size) (o := .own (s.heap.objs.size + 1)) (h' := s.heap.push PySem.W.emptyDict) (t' := s.toks) (fun b u q => Heap.get?_push_of_some _ q) (Nat.le_refl _) ⟨_, e1⟩
  refine I1.laid (a := s.heap.objs.size + 1) (o := .ins C s.heap.objs.size []) (t' := s.toks) (fun b u q => Heap.get?_push_of_some _ q) (Nat.le_of_eq (Heap.size_push _ _)) ?_
  have ne : s.heap.objs.size ≠ s.heap.objs.size + 1 := Nat.ne_of_lt (Nat.lt_succ_self _)
  refine ⟨by rw [upd_ne ne, upd_same], Nat.zero_le _, ne, e2, fun _ => none, (Heap.Ns1.of_empty e3).at fun o q => Heap.get?_push_of_some _ q, fun _ => True.intro, fun y hy => absurd rfl hy⟩

/-- e.f where nothing but the object is asked: through attributeBase (super) and the last hold -/
theorem attr_of {prog : Program} {w : World} {env : Env} {e : Expr} {f : Str} {pos : Pos} {s : Shared} {Q : Value → Shared → Prop} (hb : attributeBase e f env (eval e env) = eval e env)
    (h : wpAny (model prog w) A (eval e env) (fun o s₁ => wpAny (model prog w) A (getAttr o f true) Q E s₁) E s) : wpAny (model prog w) A (eval (.Attribute e f pos) env) Q E s :=
  Attribute_any_ h (by rw [arm_eval_Attribute, hb])
end

/-! ### readings and rules -/
/-- e.f, an attribute of the instance -/
def tFld (K : PySem.W.Frag) (ta : TE) (f : Str) : TE := fun σ H Q => ta σ H fun x H1 => ∃ a C dx fs v, x = .ref a ∧ H1 a = some (.ins C dx fs) ∧ Cls K C ∧ NoAttr K C f ∧ fs.lookup f = some v ∧ Q v H1
/-- e.f, a constant of the class -/
def tCon (K : PySem.W.Frag) (ta : TE) (f : Str) : TE := fun σ H Q => ta σ H fun x H1 => ∃ a C dx fs v u, x = .ref a ∧ H1 a = some (.ins C dx fs) ∧ Cls K C ∧ Con K C f v u ∧ fs.lookup f = none ∧ Q v H1
/-- e.f = value -/
def sFld (K : PySem.W.Frag) (ta tv : TE) (f : Str) : TS := fun D σ H => tv σ H fun y H1 => ta σ H1 fun x H2 => ∃ a C dx fs, x = .ref a ∧ H2 a = some (.ins C dx fs) ∧ Cls K C ∧ NoAttr K C f ∧ fs.length < 1000 ∧
  D.nx σ (upd H2 a (.ins C dx (putF f y fs)))
/-- an augmented operator on two values -/
def InOp (X : Cx) (op : Operator) (rd : V → V → Hp → VK → Prop) : Prop :=
  ∀ (pins : List (Addr × Obj)) (s : Shared) (σ : St) (H : Hp) (x y : V) (u v : Value) (Q : VK), Inv X pins σ H s → RelV x u → RelV y v → rd x y H Q → wpAny (model X.prog X.w) X.A (inplaceOp op u v) (EP X pins σ Q) X.xe s
/-- e.f op= value -/
def sFldAug (K : PySem.W.Frag) (ta tv : TE) (rd : V → V → Hp → VK → Prop) (f : Str) : TS := fun D σ H => ta σ H fun x H1 => ∃ a C dx fs v, x = .ref a ∧ H1 a = some (.ins C dx fs) ∧ Cls K C ∧ NoAttr K C f ∧ fs.lookup f = some v ∧
  tv σ H1 fun y H2 => rd v y H2 fun z H3 => ∃ dx' fs', H3 a = some (.ins C dx' fs') ∧ fs'.length < 1000 ∧ D.nx σ (upd H3 a (.ins C dx' (putF f z fs')))

section
variable {X : Cx} {o e value : Expr} {f : Str} {pos pos' tpos : Pos} {ta tv : TE}
theorem pe_fld (he : PE X e ta) (hb : attributeBase e f X.env (eval e X.env) = eval e X.env) : PE X (.Attribute e f pos) (tFld X.K ta f) := by
  intro pins s σ H Q I h
  refine attr_of hb (thn (he pins s σ H _ I h) fun u s1 ⟨x, H1, I1, rx, a, C, dx, fs, v, ex, ea, c, n, l, q⟩ => ?_)
  subst ex
  obtain rfl : u = Value.ref a := rx
  exact getattr_ok I1 ea c n l fun u' s2 I2 ru => ⟨v, H1, I2, ru, q⟩
theorem pe_con (he : PE X e ta) (hb : attributeBase e f X.env (eval e X.env) = eval e X.env) : PE X (.Attribute e f pos) (tCon X.K ta f) := by
  intro pins s σ H Q I h
  refine attr_of hb (thn (he pins s σ H _ I h) fun u s1 ⟨x, H1, I1, rx, a, C, dx, fs, v, u0, ex, ea, c, k, l, q⟩ => ?_)
  subst ex
  obtain rfl : u = Value.ref a := rx
  exact getcon_ok I1 ea c k l fun s2 I2 => ⟨v, H1, I2, k.rel, q⟩
theorem ps_fld (ha : PE X o ta) (hv : PE X value tv) (hs : swapsWith value (some (.Attribute o f pos')) pos.line X.env = pure false) : PS X (.Assign [.Attribute o f pos'] value pos) (sFld X.K ta tv f) := by
  intro pins s σ H D I h
  refine plainObj_wpAny_Assign_Attribute (thn (hv pins s σ H _ I h) fun u s1 ⟨y, H1, I1, ry, q⟩ => thn (ha pins s1 σ H1 _ I1 q) fun ov s2 ⟨x, H2, I2, rx, a, C, dx, fs, ex, ea, c, n, l, q2⟩ => ?_) hs
  subst ex
  obtain rfl : ov = Value.ref a := rx
  exact setattr_ok I2 ea c n l ry fun s3 I3 => ⟨σ, _, I3, q2⟩
theorem ps_fldaug {op : Operator} {rd : V → V → Hp → VK → Prop} (ha : PE X o ta) (hv : PE X value tv) (hop : InOp X op rd) : PS X (.AugAssign (.Attribute o f tpos) op value pos) (sFldAug X.K ta tv rd f) := by
  intro pins s σ H D I h
  refine wpAny_AugAssign_AttributeAny (thn (ha pins s σ H _ I h) fun ov s1 ⟨x, H1, I1, rx, a, C, dx, fs, v, ex, ea, c, n, l, q⟩ => ?_)
  subst ex
  obtain rfl : ov = Value.ref a := rx
  refine getattr_ok I1 ea c n l fun u s2 I2 ru => thn (hv pins s2 σ H1 _ I2 q) fun w3 s3 ⟨y, H2, I3, ry, q3⟩ => thn (hop pins s3 σ H2 v y u w3 _ I3 ru ry q3) fun w4 s4 ⟨z, H3, I4, rz, dx', fs', ea', l', q4⟩ => ?_
  exact setattr_ok I4 ea' c n l' rz fun s5 I5 => ⟨σ, _, I5, q4⟩
def rAdd : V → V → Hp → VK → Prop := fun x y H Q => ∃ i j, x = .int i ∧ y = .int j ∧ Q (.int (i + j)) H
def rSub : V → V → Hp → VK → Prop := fun x y H Q => ∃ i j, x = .int i ∧ y = .int j ∧ Q (.int (i - j)) H
theorem in_add : InOp X .Add rAdd := by
  rintro pins s σ H x y u v Q I rx ry ⟨i, j, rfl, rfl, q⟩
  obtain ⟨t, rfl⟩ := (show ∃ t, u = Value.int i t from rx)
  obtain ⟨t', rfl⟩ := (show ∃ t', v = Value.int j t' from ry)
  exact PyProof.Rows.iadd_int ⟨.int (i + j), H, I.tok _, ⟨_, rfl⟩, q⟩
theorem in_sub : InOp X .Sub rSub := by
  rintro pins s σ H x y u v Q I rx ry ⟨i, j, rfl, rfl, q⟩
  obtain ⟨t, rfl⟩ := (show ∃ t, u = Value.int i t from rx)
  obtain ⟨t', rfl⟩ := (show ∃ t', v = Value.int j t' from ry)
  exact PyProof.Rows.isub_int ⟨.int (i - j), H, I.tok _, ⟨_, rfl⟩, q⟩

/-- what is between an instance and its method: the tree of a method call -/
theorem methcall_of {pl : Sem Bool} {m : Str} {apos : Pos} {args : List Expr} {pins : List (Addr × Obj)} {s : Shared} {σ : St} {H : Hp} {Q : Value → Shared → Prop} {te : TE} (he : PE X e te) (I : Inv X pins σ H s)
    (h : te σ H fun x H1 => ∃ a C dx fs g, x = .ref a ∧ H1 a = some (.ins C dx fs) ∧ Cls X.K C ∧ Meth X.K C m g ∧ fs.lookup m = none ∧
      ∀ s1, Inv X pins σ H1 s1 → wpAny (model X.prog X.w) X.A (callWith pos (.ref g) [.ref a] (backTo pos (starEach args X.env)) (backToKw pos (keywordEach [] X.env))) Q X.xe s1)
    (ht : eval (.Call (.Attribute e m apos) args [] pos) X.env = (do
      let ov ← eval e X.env
      standAt apos.atName
      let (f, first) ← holding [ov] (getMethod ov m pl)
      callWith pos f first (backTo pos (starEach args X.env)) (backToKw pos (keywordEach [] X.env)))) :
    wpAny (model X.prog X.w) X.A (eval (.Call (.Attribute e m apos) args [] pos) X.env) Q X.xe s := by
  refine PySem.W.methodCall_KW (pl := pl) (thn (he pins s σ H _ I h) fun u s1 ⟨x, H1, I1, rx, a, C, dx, fs, g, ex, ea, c, k, l, q⟩ => ?_) ht
  subst ex
  obtain rfl : u = Value.ref a := rx
  exact getmeth_ok I1 ea c k l (q s1 I1)
end

/-! ### isinstance -/
section
variable {X : Cx} {pins : List (Addr × Obj)} {σ : St} {H : Hp} {s : Shared} {A : Around} {E : Value → Shared → Prop} {Q : Value → Shared → Prop} {c : Value} {b : Bool}
/-- the type of a value, as the fragment's deciders take it; for an instance its class -/
inductive TyOf (K : PySem.W.Frag) (H : Hp) : V → Value → Prop where
  | non : TyOf K H .non (.type "NoneType")
  | bl (x : Bool) : TyOf K H (.bl x) (.type "bool")
  | int (i : Int) : TyOf K H (.int i) (.type "int")
  | str (x : Str) : TyOf K H (.str x) (.type "str")
  | flt (x : UInt64) : TyOf K H (.flt x) (.type "float")
  | lst {a : Addr} {xs : List V} (e : H a = some (.lst xs)) : TyOf K H (.ref a) (.type "list")
  | frz {a : Addr} {o : Obj} {xs : List V} (e : H a = some (.frz o (.lst xs))) : TyOf K H (.ref a) (.type "list")
  | tup {a : Addr} {xs : List V} (e : H a = some (.tup xs)) : TyOf K H (.ref a) (.type "tuple")
  | dK {a : Addr} {kvs : List (Key × V)} (e : H a = some (.dK kvs)) : TyOf K H (.ref a) (.type "dict")
  | dT {a : Addr} {kvs : List (List Key × V)} (e : H a = some (.dT kvs)) : TyOf K H (.ref a) (.type "dict")
  | ins {a C dx : Addr} {fs : List (Str × V)} (e : H a = some (.ins C dx fs)) (cl : Cls K C) (ha : PySem.W.findIn K (.ref C) "__class__" = some (some (.builtin "object.__class__")))
      (hn : PySem.W.specialIn K (.builtin "object.__class__") "__get__" = some (some (.builtin "getset_descriptor.__get__"))) (htk : PySem.W.takesIn K (.builtin "object.__class__") = some true)
      (hm : PySem.W.mroIn K C (.type "object") = some true) : TyOf K H (.ref a) (.ref C)
/-- isinstance(x, c) for one class c, a built-in or an own one: kitOne's answer -/
theorem isinst_ok {x : V} {u t : Value} (I : Inv X pins σ H s) (rx : RelV x u) (ty : TyOf X.K H x t) (e : PySem.W.kitOne X.K t c = some b) (h : ∀ tk, Q (.bool b) { s with toks := tk }) :
    wpAny (model X.prog X.w) A (call (.builtin "isinstance") [u, c]) Q E s := by
  cases ty with
  | non => cases (show u = Value.none from rx); exact PySem.W.kia_one PySem.W.kitx_none I.kIn True.intro e (fun z => nomatch z) h
  | bl y => cases (show u = Value.bool y from rx); exact PySem.W.kia_one PySem.W.kitx_bool I.kIn True.intro e (fun z => nomatch z) h
  | int i => obtain ⟨t, q⟩ := (show ∃ t, u = Value.int i t from rx); cases q; exact PySem.W.kia_one PySem.W.kitx_int I.kIn True.intro e (fun z => nomatch z) h
  | str y => obtain ⟨t, q⟩ := (show ∃ t, u = Value.str y t from rx); cases q; exact PySem.W.kia_one PySem.W.kitx_str I.kIn True.intro e (fun z => nomatch z) h
  | flt y => obtain ⟨t, q⟩ := (show ∃ t, u = Value.float y t from rx); cases q; exact PySem.W.kia_one PySem.W.kitx_float I.kIn True.intro e (fun z => nomatch z) h
  | @lst a xs ea =>
    cases (show u = Value.ref a from rx)
    obtain ⟨_, _, n, _, h1⟩ := (show ObjOk X.prog X.w H s.heap a (.lst xs) from I.hok a _ ea)
    exact PySem.W.kia_one PySem.W.kitx_list I.kIn ⟨_, h1, rfl⟩ e (fun z => nomatch z) h
  | @frz a ob xs ea =>
    cases (show u = Value.ref a from rx)
    obtain ⟨_, _, _, n, _, h1⟩ := (show ObjOk X.prog X.w H s.heap a (.frz ob (.lst xs)) from I.hok a _ ea)
    exact PySem.W.kia_one PySem.W.kitx_list I.kIn ⟨_, h1, rfl⟩ e (fun z => nomatch z) h
  | @tup a xs ea =>
    cases (show u = Value.ref a from rx)
    obtain ⟨_, _, _, p⟩ := (show ObjOk X.prog X.w H s.heap a (.tup xs) from I.hok a _ ea)
    obtain ⟨o, h1, h2, _⟩ := p
    exact PySem.W.kia_one PySem.W.kitx_tuple I.kIn ⟨o, h1, h2⟩ e (fun z => nomatch z) h
  | @dK a kvs ea =>
    cases (show u = Value.ref a from rx)
    obtain ⟨_, _, vs, _, p⟩ := (show ObjOk X.prog X.w H s.heap a (.dK kvs) from I.hok a _ ea)
    obtain ⟨o, es, ep, h1, h2, _⟩ := p
    exact PySem.W.kia_one PySem.W.kitx_dict I.kIn ⟨o, h1, h2.1⟩ e (fun z => nomatch z) h
  | @dT a kvs ea =>
    cases (show u = Value.ref a from rx)
    obtain ⟨_, _, xs, _, o, es, ep, h1, h2, _⟩ := (show ObjOk X.prog X.w H s.heap a (.dT kvs) from I.hok a _ ea)
    exact PySem.W.kia_one PySem.W.kitx_dict I.kIn ⟨o, h1, h2.1⟩ e (fun z => nomatch z) h
  | @ins a C dx fs ea cl ha hn htk hm =>
    cases (show u = Value.ref a from rx)
    obtain ⟨mA, O, _⟩ := ins_get I.hok ea
    obtain ⟨od, J, _⟩ := O.look
    exact PySem.W.kia_one (PySem.W.kitx_own (cl.get _) cl.hd ha hn htk hm) I.kIn J e (fun z => nomatch z) h
end
end L2

namespace L2
open PySem PySem.Spec PyProof.Rows

/-! ### room -/
structure Room (k : Nat) (A : Around) : Prop where
  hd : A.handled = none
  dp : A.depth + 3 * k + 5 < recursionLimit
  un : A.units + 16 * k + 200 < cLine
theorem Room.mono {j k : Nat} {A : Around} (r : Room k A) (h : j ≤ k) : Room j A := ⟨r.hd, by have := r.dp; omega, by have := r.un; omega⟩
theorem Room.deeper {k : Nat} {A : Around} (r : Room (k + 1) A) (env : Env) : Room k (A.deeper env) :=
  ⟨r.hd, by have := r.dp; show A.depth + 1 + 3 * k + 5 < _; omega, by have := r.un; show A.units + 3 + 16 * k + 200 < _; omega⟩
theorem Room.in1 {k : Nat} {A : Around} (r : Room (k + 1) A) : Room k A.in1 :=
  ⟨r.hd, by have := r.dp; show A.depth + 3 * k + 5 < _; omega, by have := r.un; show A.units + 1 + 16 * k + 200 < _; omega⟩
theorem make_depth {A : Around} {C : Addr} {us : List Value} {kw : List (Str × Value)} : (A.under (.builtin "type.__call__" ⟨.ref C :: us, kw⟩)).depth = A.depth + 1 := by
  first | rfl | simp [Around.under, Code.weight, Code.isCreation, Code.isGuard, Code.isCaller, Code.frames, Code.isFrame, guardIds]
theorem make_units {A : Around} {C : Addr} {us : List Value} {kw : List (Str × Value)} : (A.under (.builtin "type.__call__" ⟨.ref C :: us, kw⟩)).units = A.units + 1 := by
  first | rfl | simp [Around.under, Code.cUnits, Code.frames, Code.isFrame]
theorem Room.make {k : Nat} {A : Around} (r : Room (k + 1) A) (C : Addr) (us : List Value) (kw : List (Str × Value)) : Room k (A.under (.builtin "type.__call__" ⟨.ref C :: us, kw⟩)) :=
  ⟨r.hd, by have := r.dp; rw [make_depth]; omega, by have := r.un; rw [make_units]; omega⟩
theorem Room.depth {k : Nat} {A : Around} (r : Room k A) : A.depth < recursionLimit := by have := r.dp; omega
theorem Room.units {k : Nat} {A : Around} (r : Room k A) : A.units + 64 < cLine := by have := r.un; omega
theorem Room.units0 {k : Nat} {A : Around} (r : Room k A) : A.units < cLine := by have := r.un; omega

/-! ### argument lists and displays -/
def tNil : TA := fun _ H Q => Q [] H
def tCons (ta : TE) (tr : TA) : TA := fun σ H Q => ta σ H fun x H1 => tr σ H1 fun xs H2 => Q (x :: xs) H2
section
variable {X : Cx} {e : Expr} {es : List Expr} {te : TE} {t : TA} {pos : Pos}
theorem pa_nil : PA X [] tNil := fun _ _ _ _ H Q I h => Calls.spliced_nil ⟨[], H, I, .nil, h⟩
theorem pa_cons (ha : PE X e te) (hr : PA X es t) (hs : starEach (e :: es) X.env = (false, eval e X.env) :: starEach es X.env := by rfl) : PA X (e :: es) (tCons te t) := by
  intro pos pins s σ H Q I h
  rw [hs]
  show wpAny _ _ (spliced ((false, eval e X.env) :: backTo pos (starEach es X.env))) _ _ s
  refine Calls.spliced_cons (thn (ha pins s σ H _ I h) fun u s1 ⟨x, H1, I1, r1, q1⟩ => ?_)
  exact thn (hr pos pins s1 σ H1 _ I1 q1) fun us s2 ⟨xs, H2, I2, r2, q2⟩ => ⟨x :: xs, H2, I2, .cons r1 r2, q2⟩

/-- a tuple, a list of written items -/
def tTup (t : TA) : TE := fun σ H Q => t σ H fun xs H1 => xs.length ≤ sizeLine ∧ ∀ p, H1 p = none → Q (.ref p) (upd H1 p (.tup xs))
def tLst (t : TA) : TE := fun σ H Q => t σ H fun xs H1 => xs.length ≤ sizeLine ∧ ∀ p, H1 p = none → Q (.ref p) (upd H1 p (.lst xs))
theorem pe_tup {x1} (h : PA X es t) : PE X (.Tuple es x1 pos) (tTup t) := by
  intro pins s σ H Q I hq
  refine wpAny_Tuple_spliced (thn (h pos pins s σ H _ I hq) fun us s1 ⟨xs, H1, I1, r, z, q⟩ => ⟨by rw [← r.length]; exact z, ?_⟩)
  have hf : H1 s1.heap.objs.size = none := I1.hok.fresh (Nat.le_refl _)
  refine ⟨.ref s1.heap.objs.size, upd H1 s1.heap.objs.size (.tup xs), I1.laid (t' := s1.toks) (fun b u e => Heap.get?_push_of_some _ e) (Nat.le_refl _) ?_, rfl, q _ hf⟩
  exact ⟨z, us, r, ⟨_, Heap.get?_push_size _ rfl, rfl, _, rfl⟩⟩
theorem pe_lst (h : PA X es t) : PE X (.List es pos) (tLst t) := by
  intro pins s σ H Q I hq
  refine wpAny_List_spliced (thn (h pos pins s σ H _ I hq) fun us s1 ⟨xs, H1, I1, r, z, q⟩ => ⟨by rw [← r.length]; exact z, ?_⟩)
  have hf : H1 s1.heap.objs.size = none := I1.hok.fresh (Nat.le_refl _)
  refine ⟨.ref s1.heap.objs.size, upd H1 s1.heap.objs.size (.lst xs), I1.laid (t' := s1.toks) (fun b u e => Heap.get?_push_of_some _ e) (Nat.le_refl _) ?_, rfl, q _ hf⟩
  exact ⟨z, us, 0, r, Heap.get?_push_size _ rfl⟩
end

/-! ### what a def promises -/
/-- a def's promise: the bound arguments in the parameters' order, the heap, the wanted end, the wanted exception -/
abbrev Sp := List V → Hp → VK → XK → Prop
/-- how an exception lies behind a call (file 08 gives it): the callers' frames, abstract heap and state ahead of the call, the wish, the exception, the state -/
abbrev CXT := List Env → Hp → Shared → XK → Value → Shared → Prop

/-- the state at a call -/
structure Env0 (P : Program) (w : World) (K : PySem.W.Frag) (mg : Str → Option Value) (base : Heap) (A : Around) (outer : List Env) (s : Shared) (H : Hp) : Prop where
  frames : A.frames = some outer
  mod : Mod K mg base
  bs : ∀ b o, base.get? b = some o → s.heap.get? b = some o ∧ H b = none
  bsz : base.objs.size ≤ s.heap.objs.size
  funs : s.heap.FunFrames base outer
  frf : ∀ b ∈ frs outer, H b = none
  hok : HOk P w H s.heap
  bare : AllBare s.gens
/-- a call's end -/
def CE (outer : List Env) (P : Program) (w : World) (H : Hp) (s : Shared) (Q : VK) (u : Value) (s' : Shared) : Prop :=
  ∃ v H', s'.os = s.os ∧ AllBare s'.gens ∧ Un (frs outer) [] H H' s.heap s'.heap ∧ HOk P w H' s'.heap ∧ RelV v u ∧ Q v H'
def CR (CX : CXT) (outer : List Env) (P : Program) (w : World) (H : Hp) (s : Shared) (Q : VK) (E : XK) (r : Result) (s' : Shared) : Prop :=
  match r with
  | .ok (.ret u) => CE outer P w H s Q u s'
  | .ok _ => False
  | .error e => CX outer H s E e s'
structure FnOk (P : Program) (w : World) (K : PySem.W.Frag) (mg : Str → Option Value) (base : Heap) (CX : CXT) (k : Nat) (f : Addr) (fd : FuncData) (ps : List Str) (sp : Sp) : Prop where
  len : ∀ vs H Q E, sp vs H Q E → vs.length = ps.length
  run : ∀ (A : Around) (outer : List Env) (s : Shared) (H : Hp) (args : Args) (us : List Value) (vs : List V) (Q : VK) (E : XK), Room k A → Env0 P w K mg base A outer s H → BindsTo s fd args (ps.zip us) → Vals vs us → sp vs H Q E →
    codeAny (model P w) A (.call (.ref f) args) (CR CX outer P w H s Q E) s
theorem FnOk.mono {P : Program} {w : World} {K : PySem.W.Frag} {mg : Str → Option Value} {base : Heap} {CX : CXT} {j k : Nat} {f : Addr} {fd : FuncData} {ps : List Str} {sp : Sp} (F : FnOk P w K mg base CX j f fd ps sp) (h : j ≤ k) :
    FnOk P w K mg base CX k f fd ps sp := ⟨F.len, fun A outer s H args us vs Q E hr => F.run A outer s H args us vs Q E (hr.mono h)⟩
/-- a weaker promise -/
theorem FnOk.imp {P : Program} {w : World} {K : PySem.W.Frag} {mg : Str → Option Value} {base : Heap} {CX : CXT} {k : Nat} {f : Addr} {fd : FuncData} {ps : List Str} {sp sp' : Sp} (F : FnOk P w K mg base CX k f fd ps sp)
    (h : ∀ vs H Q E, sp' vs H Q E → sp vs H Q E) : FnOk P w K mg base CX k f fd ps sp' :=
  ⟨fun vs H Q E q => F.len vs H Q E (h _ _ _ _ q), fun A outer s H args us vs Q E hr he hb hv hs => F.run A outer s H args us vs Q E hr he hb hv (h _ _ _ _ hs)⟩

theorem Env0.make {P : Program} {w : World} {K : PySem.W.Frag} {mg : Str → Option Value} {base : Heap} {A : Around} {outer : List Env} {s : Shared} {H : Hp} (e : Env0 P w K mg base A outer s H) (C : Addr) (us : List Value) (kw : List (Str × Value)) :
    Env0 P w K mg base (A.under (.builtin "type.__call__" ⟨.ref C :: us, kw⟩)) outer s H := ⟨by first | exact e.frames | (simpa [Around.under, Code.envs, Code.isFrame, pushEnvs] using e.frames), e.mod, e.bs, e.bsz, e.funs, e.frf, e.hok, e.bare⟩
theorem Env0.in1 {P : Program} {w : World} {K : PySem.W.Frag} {mg : Str → Option Value} {base : Heap} {A : Around} {outer : List Env} {s : Shared} {H : Hp} (e : Env0 P w K mg base A outer s H) :
    Env0 P w K mg base A.in1 outer s H := ⟨e.frames, e.mod, e.bs, e.bsz, e.funs, e.frf, e.hok, e.bare⟩

section
variable {X : Cx} {pins : List (Addr × Obj)} {σ : St} {H : Hp} {s s' : Shared}
/-- from a body: what a callee wants -/
theorem Inv.env0 (I : Inv X pins σ H s) : Env0 X.prog X.w X.K X.mg X.base X.A X.stack s H :=
  ⟨I.ok.frames, I.ok.mod, I.bs, Nat.le_trans I.ok.bsz I.sz, I.stack, I.stkFree, I.hok, I.bare⟩
/-- behind a call -/
theorem Inv.after {Q : VK} {u : Value} (I : Inv X pins σ H s) (h : CE X.stack X.prog X.w H s Q u s') : EP X pins σ Q u s' := by
  obtain ⟨v, H', os, bare, un, hok, r, q⟩ := h
  obtain ⟨hh, g, d, t, os'⟩ := s'
  obtain rfl : os' = s.os := os
  exact ⟨v, H', I.call (h' := hh) (g' := g) (d' := d) (t' := t) (ch := []) un hok bare (fun b z => absurd z (by simp)), r, q⟩
end

/-! ### calls -/
/-- f(..): the written arguments, then the defaults dvs; E: what is wanted of an exception -/
def tCall (sp : Sp) (dvs : List V) (E : XK) (t : TA) : TE := fun σ H Q => t σ H fun vs H1 => sp (vs ++ dvs) H1 Q E
/-- o.m(..) of an instance of the class at C -/
def tMeth (C : Addr) (m : Str) (sp : Sp) (dvs : List V) (E : XK) (ta : TE) (t : TA) : TE := fun σ H Q => ta σ H fun x H1 => ∃ a dx fs, x = .ref a ∧ H1 a = some (.ins C dx fs) ∧ fs.lookup m = none ∧
  t σ H1 fun vs H2 => sp (x :: (vs ++ dvs)) H2 Q E
/-- C(..): a new instance and its dict, then __init__ -/
def tMake (C : Addr) (sp : Sp) (dvs : List V) (E : XK) (t : TA) : TE := fun σ H Q => t σ H fun vs H1 => ∀ x dx, H1 x = none → H1 dx = none → dx ≠ x →
  sp (.ref x :: (vs ++ dvs)) (upd (upd H1 dx (.own x)) x (.ins C dx [])) (fun v H2 => v = .non ∧ Q (.ref x) H2) E

/-- how the parameters are bound: us the positional arguments, kw the keywords' values by name, ds the defaults that fill up -/
def Binds (K : PySem.W.Frag) (fd : FuncData) (ps : List Str) (ds : List Value) : Prop :=
  ∀ (s : Shared) (us : List Value), K.In s.heap → (us ++ ds).length = ps.length → BindsTo s fd ⟨us, []⟩ (ps.zip (us ++ ds))
/-- every parameter is given -/
theorem Binds.all {K : PySem.W.Frag} {fd : FuncData} {ps : List Str} (h : ∀ us : List Value, us.length = ps.length → bindArgs fd ⟨us, []⟩ = pure (ps.zip us)) : Binds K fd ps [] := fun s us _ hl => by
  rw [List.append_nil] at hl ⊢
  exact .of_eq (h us hl)

/-- an exception of a callee reaches what this body wants of exceptions -/
def Passes (CX : CXT) (X : Cx) (E : XK) : Prop := ∀ (pins : List (Addr × Obj)) (σ : St) (H : Hp) (s : Shared) (e : Value) (s' : Shared), Inv X pins σ H s → CX X.stack H s E e s' → X.xe e s'

section
variable {X : Cx} {CX : CXT} {k : Nat} {f C : Addr} {fd : FuncData} {ps : List Str} {sp : Sp} {dvs : List V} {ds : List Value} {E : XK} {x m : Str} {p pos apos : Pos} {e o : Expr} {es : List Expr} {ta : TE} {t : TA}

/-- the callee runs -/
theorem run_fn {pins : List (Addr × Obj)} {σ : St} {H : Hp} {s : Shared} {Q : VK} {us : List Value} {vs : List V} (F : FnOk X.prog X.w X.K X.mg X.base CX k f fd ps sp) (hr : Room k X.A) (hb : Binds X.K fd ps ds) (hd : Vals dvs ds) (hx : Passes CX X E)
    (I : Inv X pins σ H s) (r : Vals vs us) (h : sp (vs ++ dvs) H Q E) : wpAny (model X.prog X.w) X.A (call (.ref f) us) (EP X pins σ Q) X.xe s := by
  have r2 : Vals (vs ++ dvs) (us ++ ds) := r.append hd
  have hl : (us ++ ds).length = ps.length := by rw [← r2.length]; exact F.len _ _ _ _ h
  refine wpAny_call (codeAny_mono (F.run X.A X.stack s H ⟨us, []⟩ (us ++ ds) (vs ++ dvs) Q E hr I.env0 (hb s us I.kIn hl) r2 h) fun r s' hq => ?_)
  cases r with
  | error e => exact hx pins σ H s e s' I hq
  | ok fl =>
    cases fl with
    | ret u => exact I.after hq
    | next => exact False.elim hq
    | brk => exact False.elim hq
    | cont => exact False.elim hq

theorem pe_call (F : FnOk X.prog X.w X.K X.mg X.base CX k f fd ps sp) (hr : Room k X.A) (hg : Gl X x) (hm : X.mg x = some (.ref f)) (hk : PySem.W.keepIn X.K (.ref f) = true) (hb : Binds X.K fd ps ds) (hd : Vals dvs ds) (hx : Passes CX X E)
    (ha : PA X (e :: es) t) (hdb : (x == ("__debug__" : Str)) = false := by decide) (he : starEach (e :: es) X.env = (false, eval e X.env) :: starEach es X.env := by rfl) (hpl : (backTo pos (starEach es X.env)).any (·.1) = false := by rfl) :
    PE X (.Call (.Name x p) (e :: es) [] pos) (tCall sp dvs E t) := by
  intro pins s σ H Q I h
  refine wpAny_Call_Name_kw (ld_glob I hg hm ?_ hdb)
  refine PySem.W.callWith_K (h₀ := X.base) I.ok.mod.kin hk (thn (ha pos pins s σ H _ I h) fun us s1 ⟨vs, H1, I1, r, q⟩ => ⟨I1.kIn, ?_⟩) he hpl
  exact run_fn F hr hb hd hx I1 r q
theorem pe_call0 (F : FnOk X.prog X.w X.K X.mg X.base CX k f fd ps sp) (hr : Room k X.A) (hg : Gl X x) (hm : X.mg x = some (.ref f)) (hk : PySem.W.keepIn X.K (.ref f) = true) (hb : Binds X.K fd ps ds) (hd : Vals dvs ds) (hx : Passes CX X E)
    (hdb : (x == ("__debug__" : Str)) = false := by decide) : PE X (.Call (.Name x p) [] [] pos) (tCall sp dvs E tNil) := by
  intro pins s σ H Q I h
  refine wpAny_Call_Name_kw (ld_glob I hg hm ?_ hdb)
  exact PySem.W.callWith_K0 I.kIn hk (run_fn (us := []) F hr hb hd hx I .nil h)

/-- o.m(e, ..) -/
theorem pe_meth {pl : Sem Bool} (he : PE X o ta) (c : Cls X.K C) (hm : Meth X.K C m f) (F : FnOk X.prog X.w X.K X.mg X.base CX k f fd ps sp) (hr : Room k X.A) (hb : Binds X.K fd ps ds) (hd : Vals dvs ds) (hx : Passes CX X E) (ha : PA X (e :: es) t)
    (hst : starEach (e :: es) X.env = (false, eval e X.env) :: starEach es X.env := by rfl) (hpl : (backTo pos (starEach es X.env)).any (·.1) = false := by rfl)
    (ht : eval (.Call (.Attribute o m apos) (e :: es) [] pos) X.env = (do
      let ov ← eval o X.env
      standAt apos.atName
      let (f, first) ← holding [ov] (getMethod ov m pl)
      callWith pos f first (backTo pos (starEach (e :: es) X.env)) (backToKw pos (keywordEach [] X.env))) := by rfl) :
    PE X (.Call (.Attribute o m apos) (e :: es) [] pos) (tMeth C m sp dvs E ta t) := by
  intro pins s σ H Q I h
  refine PySem.W.methodCall_KW (pl := pl) (thn (he pins s σ H _ I h) fun u s1 ⟨x, H1, I1, rx, a, dx, fs, ex, ea, l, q⟩ => ?_) ht
  subst ex
  obtain rfl : u = Value.ref a := rx
  refine getmeth_ok I1 ea c hm l ?_
  refine PySem.W.callWith_K (first := [.ref a]) (h₀ := X.base) I.ok.mod.kin hm.kp (thn (ha pos pins s1 σ H1 _ I1 q) fun us s2 ⟨vs, H2, I2, r, q2⟩ => ⟨I2.kIn, ?_⟩) hst hpl
  exact run_fn (us := .ref a :: us) (vs := .ref a :: vs) F hr hb hd hx I2 (.cons rfl r) q2
/-- o.m() -/
theorem pe_meth0 {pl : Sem Bool} (he : PE X o ta) (c : Cls X.K C) (hm : Meth X.K C m f) (F : FnOk X.prog X.w X.K X.mg X.base CX k f fd ps sp) (hr : Room k X.A) (hb : Binds X.K fd ps ds) (hd : Vals dvs ds) (hx : Passes CX X E)
    (ht : eval (.Call (.Attribute o m apos) [] [] pos) X.env = (do
      let ov ← eval o X.env
      standAt apos.atName
      let (f, first) ← holding [ov] (getMethod ov m pl)
      callWith pos f first (backTo pos (starEach [] X.env)) (backToKw pos (keywordEach [] X.env))) := by rfl) :
    PE X (.Call (.Attribute o m apos) [] [] pos) (tMeth C m sp dvs E ta tNil) := by
  intro pins s σ H Q I h
  refine PySem.W.methodCall_KW (pl := pl) (thn (he pins s σ H _ I h) fun u s1 ⟨x, H1, I1, rx, a, dx, fs, ex, ea, l, q⟩ => ?_) ht
  subst ex
  obtain rfl : u = Value.ref a := rx
  refine getmeth_ok I1 ea c hm l ?_
  exact PySem.W.callWith_K0 (first := [.ref a]) I1.kIn hm.kp (run_fn (us := [.ref a]) (vs := [.ref a]) F hr hb hd hx I1 (.cons rfl .nil) q)

/-- what a class must have to be made -/
structure Mk (K : PySem.W.Frag) (C f : Addr) : Prop where
  makes : PySem.W.makesIn K C = true
  init : PySem.W.findIn K (.ref C) "__init__" = some (some (.ref f))
  fn : PySem.W.isFn K (.ref f) = true
  kp : PySem.W.keepIn K (.ref C) = true

theorem run_make {pins : List (Addr × Obj)} {σ : St} {H : Hp} {s : Shared} {Q : VK} {us : List Value} {vs : List V} (M : Mk X.K C f) (F : FnOk X.prog X.w X.K X.mg X.base CX k f fd ps sp) (hr : Room (k + 1) X.A) (hb : Binds X.K fd ps ds) (hd : Vals dvs ds)
    (hx : Passes CX X E) (I : Inv X pins σ H s) (r : Vals vs us)
    (h : ∀ x dx, H x = none → H dx = none → dx ≠ x → sp (.ref x :: (vs ++ dvs)) (upd (upd H dx (.own x)) x (.ins C dx [])) (fun v H2 => v = .non ∧ Q (.ref x) H2) E) :
    wpAny (model X.prog X.w) X.A (call (.ref C) us) (EP X pins σ Q) X.xe s := by
  have hq := h (s.heap.objs.size + 1) s.heap.objs.size (I.hok.fresh (Nat.le_succ _)) (I.hok.fresh (Nat.le_refl _)) (Nat.ne_of_lt (Nat.lt_succ_self _))
  have I2 := Inv.made (C := C) I
  have r2 : Vals (V.ref (s.heap.objs.size + 1) :: (vs ++ dvs)) (Value.ref (s.heap.objs.size + 1) :: (us ++ ds)) := .cons rfl (r.append hd)
  have hl : (Value.ref (s.heap.objs.size + 1) :: us ++ ds).length = ps.length := by
    have e := r2.length
    rw [F.len _ _ _ _ hq] at e
    exact e.symm
  refine wpAny_call (make_map (f := f) I.kIn M.makes M.init (beq_iff_eq.mp M.fn) (codeAny_mono (F.run _ X.stack _ _ ⟨Value.ref (s.heap.objs.size + 1) :: us, []⟩ (Value.ref (s.heap.objs.size + 1) :: (us ++ ds)) _ _ E (hr.make C us [])
    (I2.env0.make C us []) (hb _ (Value.ref (s.heap.objs.size + 1) :: us) I2.kIn hl) r2 hq) fun r s' hq' => ?_))
  cases r with
  | error e => exact hx pins σ _ _ e s' I2 hq'
  | ok fl =>
    cases fl with
    | ret u =>
      obtain ⟨v, H', I3, rv, ev, q3⟩ := I2.after hq'
      subst ev
      exact ⟨rv, ⟨V.ref (s.heap.objs.size + 1), H', I3, rfl, q3⟩⟩
    | next => exact False.elim hq'
    | brk => exact False.elim hq'
    | cont => exact False.elim hq'
theorem pe_make (M : Mk X.K C f) (F : FnOk X.prog X.w X.K X.mg X.base CX k f fd ps sp) (hr : Room (k + 1) X.A) (hg : Gl X x) (hm : X.mg x = some (.ref C)) (hb : Binds X.K fd ps ds) (hd : Vals dvs ds) (hx : Passes CX X E)
    (ha : PA X (e :: es) t) (hdb : (x == ("__debug__" : Str)) = false := by decide) (he : starEach (e :: es) X.env = (false, eval e X.env) :: starEach es X.env := by rfl) (hpl : (backTo pos (starEach es X.env)).any (·.1) = false := by rfl) :
    PE X (.Call (.Name x p) (e :: es) [] pos) (tMake C sp dvs E t) := by
  intro pins s σ H Q I h
  refine wpAny_Call_Name_kw (ld_glob I hg hm ?_ hdb)
  refine PySem.W.callWith_K (h₀ := X.base) I.ok.mod.kin M.kp (thn (ha pos pins s σ H _ I h) fun us s1 ⟨vs, H1, I1, r, q⟩ => ⟨I1.kIn, ?_⟩) he hpl
  exact run_make M F hr hb hd hx I1 r q
theorem pe_make0 (M : Mk X.K C f) (F : FnOk X.prog X.w X.K X.mg X.base CX k f fd ps sp) (hr : Room (k + 1) X.A) (hg : Gl X x) (hm : X.mg x = some (.ref C)) (hb : Binds X.K fd ps ds) (hd : Vals dvs ds) (hx : Passes CX X E)
    (hdb : (x == ("__debug__" : Str)) = false := by decide) : PE X (.Call (.Name x p) [] [] pos) (tMake C sp dvs E tNil) := by
  intro pins s σ H Q I h
  refine wpAny_Call_Name_kw (ld_glob I hg hm ?_ hdb)
  exact PySem.W.callWith_K0 I.kIn M.kp (run_make (us := []) M F hr hb hd hx I .nil h)
end

/-! ### keywords -/
/-- the values of the keywords, from the left -/
def PK (X : Cx) (kws : List Keyword) (t : TA) : Prop :=
  ∀ (pos : Pos) (pins : List (Addr × Obj)) (s : Shared) (σ : St) (H : Hp) (Q : List V → Hp → Prop), Inv X pins σ H s → t σ H Q → wpAny (model X.prog X.w) X.A (evalAll ((backToKw pos (keywordEach kws X.env)).map (·.2))) (AP X pins σ Q) X.xe s
section
variable {X : Cx} {CX : CXT} {k : Nat} {f C : Addr} {fd : FuncData} {ps ks : List Str} {sp : Sp} {E : XK} {x m : Str} {p pos apos kpos : Pos} {e o : Expr} {es : List Expr} {kws : List Keyword} {te ta : TE} {t tk : TA} {nm : Option Str}
theorem pk_nil : PK X [] tNil := fun _ _ _ _ H Q I h => wpAny_evalAll_nil ⟨[], H, I, .nil, h⟩
theorem pk_cons (ha : PE X e te) (hr : PK X kws t) : PK X (⟨nm, e, kpos⟩ :: kws) (tCons te t) := by
  intro pos pins s σ H Q I h
  show wpAny _ _ (evalAll ((do let v ← eval e X.env; standAt pos; pure v) :: (backToKw pos (keywordEach kws X.env)).map (·.2))) _ _ s
  refine wpAny_evalAll_cons (wpAny_bind (thn (ha pins s σ H _ I h) fun u s1 ⟨x, H1, I1, r1, q1⟩ => wpAny_bind (wpAny_standAt (wpAny_pure ?_))))
  exact thn (hr pos pins s1 σ H1 _ I1 q1) fun us s2 ⟨xs, H2, I2, r2, q2⟩ => ⟨x :: xs, H2, I2, .cons r1 r2, q2⟩

/-- how a call with keywords binds: g puts the positional values us and the keywords' values ws (names ks) in the parameters' order, defaults among them -/
structure KBinds (K : PySem.W.Frag) (fd : FuncData) (ps ks : List Str) (g : List Value → List Value → List Value) (gV : List V → List V → List V) : Prop where
  to : ∀ (s : Shared) (us ws : List Value), K.In s.heap → (g us ws).length = ps.length → BindsTo s fd ⟨us, ks.zip ws⟩ (ps.zip (g us ws))
  rel : ∀ {vs : List V} {us : List Value} {zs : List V} {ws : List Value}, Vals vs us → Vals zs ws → Vals (gV vs zs) (g us ws)
def tCallK (sp : Sp) (gV : List V → List V → List V) (E : XK) (t tk : TA) : TE := fun σ H Q => t σ H fun vs H1 => tk σ H1 fun zs H2 => sp (gV vs zs) H2 Q E
variable {g : List Value → List Value → List Value} {gV : List V → List V → List V}
theorem run_fnk {pins : List (Addr × Obj)} {σ : St} {H : Hp} {s : Shared} {Q : VK} {us ws : List Value} {vs zs : List V} (F : FnOk X.prog X.w X.K X.mg X.base CX k f fd ps sp) (hr : Room k X.A) (hb : KBinds X.K fd ps ks g gV) (hx : Passes CX X E)
    (I : Inv X pins σ H s) (r : Vals vs us) (rz : Vals zs ws) (h : sp (gV vs zs) H Q E) : wpAny (model X.prog X.w) X.A (call (.ref f) us (ks.zip ws)) (EP X pins σ Q) X.xe s := by
  have r2 := hb.rel r rz
  have hl : (g us ws).length = ps.length := by rw [← r2.length]; exact F.len _ _ _ _ h
  refine wpAny_call (codeAny_mono (F.run X.A X.stack s H ⟨us, ks.zip ws⟩ (g us ws) (gV vs zs) Q E hr I.env0 (hb.to s us ws I.kIn hl) r2 h) fun r s' hq => ?_)
  cases r with
  | error e => exact hx pins σ H s e s' I hq
  | ok fl =>
    cases fl with
    | ret u => exact I.after hq
    | next => exact False.elim hq
    | brk => exact False.elim hq
    | cont => exact False.elim hq
/-- f(e, .., k = v, ..) -/
theorem pe_callK (F : FnOk X.prog X.w X.K X.mg X.base CX k f fd ps sp) (hr : Room k X.A) (hg : Gl X x) (hm : X.mg x = some (.ref f)) (hk : PySem.W.keepIn X.K (.ref f) = true) (hb : KBinds X.K fd ps ks g gV) (hx : Passes CX X E)
    (ha : PA X (e :: es) t) (hkw : PK X kws tk) (hall : (backToKw pos (keywordEach kws X.env)).all (·.1.isSome) = true := by rfl) (hks : (backToKw pos (keywordEach kws X.env)).filterMap (·.1) = ks := by rfl)
    (hdb : (x == ("__debug__" : Str)) = false := by decide) (he : starEach (e :: es) X.env = (false, eval e X.env) :: starEach es X.env := by rfl)
    (hpl : ((backTo pos (starEach (e :: es) X.env)).any (·.1) || (backToKw pos (keywordEach kws X.env)).any (·.1.isNone)) = false := by rfl) :
    PE X (.Call (.Name x p) (e :: es) kws pos) (tCallK sp gV E t tk) := by
  intro pins s σ H Q I h
  refine wpAny_Call_Name_kw (ld_glob I hg hm ?_ hdb)
  refine PySem.W.callWith_KW (h₀ := X.base) I.ok.mod.kin hk hall (thn (ha pos pins s σ H _ I h) fun us s1 ⟨vs, H1, I1, r, q⟩ => ?_) hpl he
  refine thn (hkw pos pins s1 σ H1 _ I1 q) fun ws s2 ⟨zs, H2, I2, rz, q2⟩ => ⟨I2.kIn, ?_⟩
  rw [hks]
  exact run_fnk F hr hb hx I2 r rz q2
end

/-! ### a def's body keeps its promise -/
/-- names: the parameters first -/
structure FnScope (N P : List Str) (sc : Scope) : Prop where
  kind : sc.kind = .function
  co : sc.isCoroutine = false
  gen : sc.isGenerator = false
  nd : N.Nodup
  pre : N.take P.length = P
  par : ∀ x ∈ P, sc.names.lookup x = some .local ∨ sc.names.lookup x = some .cell
  nofree : ∀ y ∈ sc.names, y.2 ≠ .free

theorem bindL_out {kindOf : Str → Option NameKind} {x : Str} : ∀ {binds : List (Str × Value)} {m : Str → Option Value}, (∀ v, (x, v) ∉ binds) → bindL kindOf binds m x = m x
  | [], _, _ => rfl
  | (n, v) :: r, m, h => by
    unfold bindL
    rw [bindL_out fun w hw => h w (List.mem_cons_of_mem _ hw)]
    split
    · have : x ≠ n := by rintro rfl; exact h v List.mem_cons_self
      simp [this]
    · rfl
theorem bindC_out {kindOf : Str → Option NameKind} {x : Str} : ∀ {binds : List (Str × Value)} {m : Str → Option Value}, (∀ v, (x, v) ∉ binds) → bindC kindOf binds m x = m x
  | [], _, _ => rfl
  | (n, v) :: r, m, h => by
    unfold bindC
    rw [bindC_out fun w hw => h w (List.mem_cons_of_mem _ hw)]
    split
    · rfl
    · have : x ≠ n := by rintro rfl; exact h v List.mem_cons_self
      simp [this]
theorem bindL_get {kindOf : Str → Option NameKind} {x : Str} {v : Value} : ∀ {P : List Str} {vs : List Value} {i : Nat} {m : Str → Option Value}, P.Nodup → P[i]? = some x → vs[i]? = some v → kindOf x = some .local →
    bindL kindOf (P.zip vs) m x = some v
  | [], _, _, _, _, h, _, _ => by simp at h
  | _ :: _, [], _, _, _, _, h, _ => by simp at h
  | p :: P, w :: vs, 0, m, nd, h1, h2, hk => by
    simp at h1 h2; subst h1; subst h2
    show bindL kindOf ((p, w) :: P.zip vs) m p = _
    unfold bindL
    rw [bindL_out fun v hv => (List.nodup_cons.mp nd).1 (List.of_mem_zip hv).1, if_pos hk]
    simp
  | p :: P, w :: vs, i + 1, m, nd, h1, h2, hk => by
    show bindL kindOf ((p, w) :: P.zip vs) m x = _
    unfold bindL
    exact bindL_get (i := i) (List.nodup_cons.mp nd).2 (by simpa using h1) (by simpa using h2) hk
theorem bindC_get {kindOf : Str → Option NameKind} {x : Str} {v : Value} : ∀ {P : List Str} {vs : List Value} {i : Nat} {m : Str → Option Value}, P.Nodup → P[i]? = some x → vs[i]? = some v → kindOf x ≠ some .local →
    bindC kindOf (P.zip vs) m x = some v
  | [], _, _, _, _, h, _, _ => by simp at h
  | _ :: _, [], _, _, _, _, h, _ => by simp at h
  | p :: P, w :: vs, 0, m, nd, h1, h2, hk => by
    simp at h1 h2; subst h1; subst h2
    show bindC kindOf ((p, w) :: P.zip vs) m p = _
    unfold bindC
    rw [bindC_out fun v hv => (List.nodup_cons.mp nd).1 (List.of_mem_zip hv).1, if_neg hk]
    simp
  | p :: P, w :: vs, i + 1, m, nd, h1, h2, hk => by
    show bindC kindOf ((p, w) :: P.zip vs) m x = _
    unfold bindC
    exact bindC_get (i := i) (List.nodup_cons.mp nd).2 (by simpa using h1) (by simpa using h2) hk

/-- the names' values at the entry -/
def start (N : List Str) (vs : List V) : St := vs.map some ++ List.replicate (N.length - vs.length) none

/-- the context of a def's body, at its entry; an exception leaves the frame, then lies as CX says -/
def cxOf (CX : CXT) (P : Program) (w : World) (K : PySem.W.Frag) (mg : Str → Option Value) (base : Heap) (N : List Str) (qual : Str) (scope : Scope) (f : Addr) (cd : Value) (A : Around) (outer : List Env) (s : Shared) (H : Hp) (E : XK) : Cx where
  prog := P
  w := w
  K := K
  mg := mg
  base := base
  A := A.deeper (envOfC qual scope s.heap.objs.size f cd)
  N := N
  s₀ := s
  H₀ := H
  env := envOfC qual scope s.heap.objs.size f cd
  outer := outer
  stack := envOfC qual scope s.heap.objs.size f cd :: outer
  ex := []
  calm := true
  fn := fun _ => true
  pn := []
  xe := fun e s' => wpAny (model P w) (A.deeper (envOfC qual scope s.heap.objs.size f cd)) (leaving (envOfC qual scope s.heap.objs.size f cd) e) (fun _ s'' => CX outer H s E e s'') (fun e' s'' => CX outer H s E e' s'') s'

theorem cell_has {sc : Scope} {n : Nat} {x : Str} (h : sc.names.lookup x = some .cell) : ∃ c, (cellsFrom n sc.names []).lookup x = some c := by
  have q := PySem.W.cellsFrom_some sc.names n [] (.inl h)
  exact Option.isSome_iff_exists.mp q

theorem inv_start {CX : CXT} {P : Program} {w : World} {K : PySem.W.Frag} {mg : Str → Option Value} {base : Heap} {N ps : List Str} {qual : Str} {scope : Scope} {f : Addr} {cd : Value} {A : Around} {outer : List Env} {s s1 : Shared} {H : Hp} {E : XK} {us : List Value} {vs : List V}
    (S : FnScope N ps scope) (hd : A.handled = none) (e0 : Env0 P w K mg base A outer s H) (hl : vs.length = ps.length) (r : Vals vs us)
    (x : InCallC s s.heap.objs.size (bindL (envOfC qual scope s.heap.objs.size f cd).kindOf (ps.zip us) fun _ => none) (cellsFrom (s.heap.objs.size + 1) scope.names []) (bindC (envOfC qual scope s.heap.objs.size f cd).kindOf (ps.zip us) fun _ => none) s1) :
    Inv (cxOf CX P w K mg base N qual scope f cd A outer s H E) [] (start N vs) H s1 := by
  have hpl : ps.length ≤ N.length := by have := congrArg List.length S.pre; rw [List.length_take] at this; omega
  obtain ⟨h1, tk, rfl, hk⟩ := x.done
  have noA : ∀ b : Addr, b ∉ (cxOf CX P w K mg base N qual scope f cd A outer s H E).ex := fun b z => absurd (show b ∈ ([] : List Addr) from z) (by simp)
  refine ⟨⟨e0.mod, S.kind, rfl, rfl, Nat.le_refl _, fun y z c h1 h2 => ?_, fun y hy => ?_, fun y c _ h => ?_, fun _ => hd, Around.frames_deeper e0.frames, .inr ⟨rfl, rfl⟩, fun b z => absurd z (noA b), e0.bs, e0.bsz, fun b _ _ => noA b, fun b z => absurd z (noA b), e0.funs, e0.frf⟩,
    rfl, e0.bare, Un.kept hk, ⟨_, x.toInCall.ns, fun i y v h1 h2 h3 => ?_⟩, fun y c h => ⟨_, x.cell y c h⟩, e0.hok.fresh (Nat.le_refl _), fun y c h => ?_, fun p hp => absurd (show p ∈ ([] : List (Addr × Obj)) from hp) (by simp), e0.hok.kept hk, ?_⟩
  · exact name_of_addr x.apart (PySem.mem_of_lookup h1) (PySem.mem_of_lookup h2)
  · have hy : scope.names.lookup y = some .cell ∨ scope.names.lookup y = some .free := hy
    rcases hy with hy | hy
    · exact cell_has hy
    · exact absurd rfl (S.nofree _ (PySem.mem_of_lookup hy))
  · exact Nat.le_of_lt (x.above y c (PySem.mem_of_lookup h))
  · have hi : i < vs.length := by
      unfold start at h2
      by_cases hi : i < vs.length
      · exact hi
      · rw [List.getElem?_append_right (by simpa using hi)] at h2
        rw [List.getElem?_replicate] at h2
        split at h2 <;> cases h2
    have ha : vs[i]? = some v := by
      unfold start at h2
      rw [List.getElem?_append_left (by simpa using hi), List.getElem?_map] at h2
      cases e : vs[i]? with
      | none => rw [e] at h2; cases h2
      | some a => rw [e] at h2; cases h2; rfl
    obtain ⟨u, hu, rv⟩ := r.get ha
    have hp : ps[i]? = some y := by
      rw [← S.pre, List.getElem?_take_of_lt (by omega)]; exact h1
    have ndP : ps.Nodup := by rw [← S.pre]; exact S.nd.sublist (List.take_sublist _ _)
    refine ⟨u, rv, ?_⟩
    rcases S.par y (List.mem_of_getElem? hp) with k | k
    · exact .inl ⟨k, bindL_get ndP hp hu k⟩
    · obtain ⟨c, e⟩ := cell_has (n := s.heap.objs.size + 1) k
      refine .inr ⟨.inl k, c, e, ?_⟩
      have q := x.cell y c e
      rw [bindC_get ndP hp hu (by show scope.names.lookup y ≠ _; rw [k]; decide)] at q
      exact q
  · exact e0.hok.fresh (Nat.le_of_lt (x.above y c (PySem.mem_of_lookup h)))
  · unfold start
    show _ = N.length
    rw [List.length_append, List.length_map, List.length_replicate]
    omega

/-- THE RULE: a def (or a method) of the text, by its body. The body's reading t is chosen for each entry; it is run at the parameters' values -/
theorem fn_of {CX : CXT} {P : Program} {w : World} {K : PySem.W.Frag} {mg : Str → Option Value} {base : Heap} {k : Nat} {f : Addr} {name qual : Str} {params : Arguments} {body : List Stmt} {scope : Scope} {dV kV doc pm cdv ct oc : Value} {an od : Option Addr}
    {osl : Array (Option Value)} {N ps : List Str} {sp : Sp} (lk : K.lookup f = some ⟨oc, od, .func (PySem.W.fnOf name qual params body scope dV kV doc pm an cdv ct), osl⟩) (hcd : PySem.W.codeIn K cdv qual = true) (S : FnScope N ps scope)
    (len : ∀ vs H Q E, sp vs H Q E → vs.length = ps.length)
    (hbody : ∀ (A : Around) (outer : List Env) (s : Shared) (H : Hp) (vs : List V) (Q : VK) (E : XK), Room k (A.deeper (envOfC qual scope s.heap.objs.size f cdv)) → sp vs H Q E →
      ∃ t, PSs (cxOf CX P w K mg base N qual scope f cdv A outer s H E) body t ∧ t { nx := fun _ H' => Q .non H', rt := Q } (start N vs) H) :
    FnOk P w K mg base CX (k + 1) f (PySem.W.fnOf name qual params body scope dV kV doc pm an cdv ct) ps sp := by
  refine ⟨len, fun A outer s H args us vs Q E hr e0 hb r hsp => ?_⟩
  have hl := len _ _ _ _ hsp
  have KX : K.In s.heap := e0.mod.kin.keeps fun b o e => (e0.bs b o e).1
  have lim : s.heap.NoLimit := e0.mod.nolimit.keeps fun b o e => (e0.bs b o e).1
  have hkind : ∀ y ∈ ps.zip us, scope.names.lookup y.1 = some .local ∨ (scope.names.lookup y.1 = some .cell ∧ ((cellsFrom (s.heap.objs.size + 1) scope.names []).lookup y.1).isSome = true) := fun ⟨n, v⟩ hy => by
    rcases S.par n (List.of_mem_zip hy).1 with q | q
    · exact .inl q
    · exact .inr ⟨q, PySem.W.cellsFrom_some _ _ _ (.inl q)⟩
  refine codeAny_call_function hr.depth (KX _ _ lk) rfl S.co S.gen rfl (PySem.W.codeRec_of KX hcd) (hb _ _ _ _ ?_)
  refine wpAny_newFunctionEnv_cells S.kind hkind fun env he s1 x => ?_
  subst he
  refine ⟨lim.keeps x.toInCall.keep, codeAny_func ?_⟩
  obtain ⟨t, ht, hq⟩ := hbody A outer s H vs Q E (hr.deeper _) hsp
  have I : Inv (cxOf CX P w K mg base N qual scope f cdv A outer s H E) [] (start N vs) H s1 := inv_start S hr.hd e0 hl r x
  refine wpAny_mono (ht [] s1 (start N vs) H _ I hq) (fun fl s' hs => ?_) fun e s' hs => hs
  have fin : ∀ {σ' : St} {H' : Hp} {v : V} {u : Value}, Inv (cxOf CX P w K mg base N qual scope f cdv A outer s H E) [] σ' H' s' → RelV v u → Q v H' → CE outer P w H s Q u s' :=
    fun {σ' H' v u} J rv q => ⟨v, H', J.os, J.bare, J.base, J.hok, rv, q⟩
  cases fl with
  | ret u =>
    obtain ⟨v, σ', H', J, rv, q⟩ := hs
    exact fin J rv q
  | next =>
    obtain ⟨σ', H', J, q⟩ := hs
    exact fin (v := V.non) (u := Value.none) J rfl q
  | brk =>
    obtain ⟨_, _, _, q⟩ := hs
    exact False.elim q
  | cont =>
    obtain ⟨_, _, _, q⟩ := hs
    exact False.elim q
end L2

namespace L2
open PySem PySem.Spec PyProof.Rows
section
variable {X : Cx} {x : Str} {p pos : Pos} {e : Expr} {es : List Expr} {t : TA} {id T : String} {r : List V → Hp → VK → Prop}

def tCB (r : List V → Hp → VK → Prop) (t : TA) : TE := fun σ H Q => t σ H fun vs H1 => r vs H1 Q
/-- f(e, ..), f a built-in function -/
theorem pe_callB (hc : CallR X (.builtin id) r) (hg : Gl X x) (hm : X.mg x = none) (hv : bootBuiltins x = some (.builtin id)) (ha : PA X (e :: es) t) (hn : x ≠ "__name__" := by decide) (hdb : (x == ("__debug__" : Str)) = false := by decide)
    (he : starEach (e :: es) X.env = (false, eval e X.env) :: starEach es X.env := by rfl) (hpl : (backTo pos (starEach es X.env)).any (·.1) = false := by rfl) : PE X (.Call (.Name x p) (e :: es) [] pos) (tCB r t) := by
  intro pins s σ H Q I h
  refine wpAny_Call_Name_kw (ld_blt I hg hm hv ?_ hn hdb)
  exact PyProof.Rows.callWith_builtin1 (thn (ha pos pins s σ H _ I h) fun us s1 ⟨vs, H1, I1, r1, q1⟩ => hc pins s1 σ H1 vs us Q I1 r1 q1) he hpl
/-- T(e, ..), T a built-in type -/
theorem pe_callTy (hc : CallR X (.type T) r) (hg : Gl X x) (hm : X.mg x = none) (hv : bootBuiltins x = some (.type T)) (ha : PA X (e :: es) t) (hn : x ≠ "__name__" := by decide) (hdb : (x == ("__debug__" : Str)) = false := by decide)
    (he : starEach (e :: es) X.env = (false, eval e X.env) :: starEach es X.env := by rfl) (hpl : (backTo pos (starEach es X.env)).any (·.1) = false := by rfl) : PE X (.Call (.Name x p) (e :: es) [] pos) (tCB r t) := by
  intro pins s σ H Q I h
  refine wpAny_Call_Name_kw (ld_blt I hg hm hv ?_ hn hdb)
  exact PyProof.Rows.callWith_type1 (thn (ha pos pins s σ H _ I h) fun us s1 ⟨vs, H1, I1, r1, q1⟩ => hc pins s1 σ H1 vs us Q I1 r1 q1) he hpl
/-- T() -/
theorem pe_callTy0 (hc : CallR X (.type T) r) (hg : Gl X x) (hm : X.mg x = none) (hv : bootBuiltins x = some (.type T)) (hn : x ≠ "__name__" := by decide) (hdb : (x == ("__debug__" : Str)) = false := by decide) :
    PE X (.Call (.Name x p) [] [] pos) (tCB r tNil) := by
  intro pins s σ H Q I h
  refine wpAny_Call_Name_kw (ld_blt I hg hm hv ?_ hn hdb)
  exact PyProof.Rows.callWith_type0 (hc pins s σ H [] [] Q I .nil h)
end
end L2

namespace HT
open PySem PyProof.Rows

/-- t < u of tuples of ints -/
def lexLt : List Int → List Int → Bool
  | [], [] => false
  | [], _ :: _ => true
  | _ :: _, [] => false
  | x :: xs, y :: ys => if x = y then lexLt xs ys else decide (x < y)
theorem lexLt_cons (x y : Int) (xs ys : List Int) : lexLt (x :: xs) (y :: ys) = if x = y then lexLt xs ys else decide (x < y) := rfl
theorem lexLt_nil_nil : lexLt [] [] = false := rfl
theorem lexLt_nil_cons (y : Int) (ys : List Int) : lexLt [] (y :: ys) = true := rfl
theorem lexLt_cons_nil (x : Int) (xs : List Int) : lexLt (x :: xs) [] = false := rfl

theorem eqAt_int (A : Around) (s : Shared) (a : Int) (t : Tok) (c : Int) (u : Tok) : ∃ e, SeqAt.EqAt A s (.int a t) (.int c u) e ∧ (e = true ↔ a = c) :=
  ⟨(a == c), SeqAt.EqAt.int_int a t c u, by simp⟩
theorem rcLt_int (A : Around) (s : Shared) (a : Int) (t : Tok) (c : Int) (u : Tok) (prog : Program) (w : World) (E : Value → Shared → Prop) (Q : Value → Shared → Prop) (h : Q (.bool (decide (a < c))) s) :
    wpAny (model prog w) A (richCompare .Lt (.int a t) (.int c u)) Q E s :=
  (PyProof.Rows.lt_int h : wpAny (model prog w) A (compareOp .Lt (.int a t) (.int c u)) Q E s)

section
open PySem.SeqAt
open PySem.AutoSeq1 (wpAny_loadPart')
open PySem.MeetsSeq PySem.MeetsSeq2 PySem.MeetsSeq3

theorem tuple_lt_ints (l b : Addr) (items items2 : Array Value) (n n2 : Nat) (dd dd2 : Option Addr) (sl sl2 : Array (Option Value)) (ns ms : List Int) (hi : IntsAre items.toList ns) (hj : IntsAre items2.toList ms) :
    Meets (Builtin.«tuple.__lt__» ⟨[.ref l, .ref b], []⟩)
      (fun _ R s => s.heap.get? l = some { cls := .type "tuple", dict := dd, data := .seq items n, slots := sl } ∧ s.heap.get? b = some { cls := .type "tuple", dict := dd2, data := .seq items2 n2, slots := sl2 } ∧
        R (.ok (.ret (.bool (lexLt ns ms)))) s) :=
  .of_wp fun prog w A R s h => by
    obtain ⟨hp, g, d, tk, os⟩ := s; obtain ⟨hl, hb, h⟩ := h
    have f2 := AutoSeq1.sub_tuple_tuple
    have z1 : items.size = ns.length := by rw [← hi.length]; simp
    have z2 : items2.size = ms.length := by rw [← hj.length]; simp
    wp_walk using wpAny_loadPart' hl, wpAny_loadPart' hb, wpAny_forIn_list _ (fun rest b s' => b.1 = none ∧ s' = ⟨hp, g, d, tk, os⟩ ∧ ∃ (vs ws : List Value) (ns' ms' : List Int), rest = vs.zip ws ∧
      IntsAre vs ns' ∧ IntsAre ws ms' ∧ ns'.length + items2.size = ms'.length + items.size ∧ R (.ok (.ret (.bool (lexLt ns' ms')))) ⟨hp, g, d, tk, os⟩) _
    case turn =>
      rintro ⟨y, x⟩ rest b s' ⟨hb', rfl, vs, ws, ns', ms', hz, hvi, hwi, hlen, hR⟩
      cases hvi with
      | nil => rw [List.zip_nil_left] at hz; cases hz
      | cons a t hvi' =>
        cases hwi with
        | nil => rw [List.zip_nil_right] at hz; cases hz
        | cons c u hwi' =>
          rw [List.zip_cons_cons] at hz
          injection hz with hyx hrest
          injection hyx with hy hx
          subst hy hx
          rw [lexLt_cons] at hR
          simp only [List.length_cons] at hlen
          obtain ⟨e, he, hiff⟩ := eqAt_int A.in1 ⟨hp, g, d, tk, os⟩ a t c u
          refine wpAny_bind (he prog w _ _ ?_)
          cases e with
          | true =>
            rw [if_pos (hiff.mp rfl)] at hR
            wp_walk
            exact ⟨rfl, rfl, _, _, _, _, hrest, hvi', hwi', by omega, hR⟩
          | false =>
            rw [if_neg (fun q => absurd (hiff.mpr q) Bool.false_ne_true)] at hR
            have hri := rcLt_int A.in1 ⟨hp, g, d, tk, os⟩ a t c u prog w
            wp_walk using hri
            exact ⟨_, rfl, by simpa using hR⟩
    case fin =>
      rintro ⟨b1, b2⟩ s' ⟨hb', rfl, vs, ws, ns', ms', hz, hvi, hwi, hlen, hR⟩
      simp only at hb'
      subst hb'
      have hv : lexLt ns' ms' = decide (items.size < items2.size) := by
        cases hvi with
        | nil =>
          cases hwi with
          | nil =>
            simp only [List.length_nil] at hlen
            rw [lexLt_nil_nil]
            exact (decide_eq_false (by omega)).symm
          | cons c u hw =>
            simp only [List.length_nil, List.length_cons] at hlen
            rw [lexLt_nil_cons]
            exact (decide_eq_true (by omega)).symm
        | cons a t hv =>
          cases hwi with
          | nil =>
            simp only [List.length_nil, List.length_cons] at hlen
            rw [lexLt_cons_nil]
            exact (decide_eq_false (by omega)).symm
          | cons c u hw =>
            rw [List.zip_cons_cons] at hz
            cases hz
      rw [hv] at hR
      wp_walk
      exact ⟨_, rfl, by simpa [Builtin.Tuple.tupleCompareSizes] using hR⟩
    case h =>
      exact ⟨rfl, rfl, items.toList, items2.toList, ns, ms, rfl, hi, hj, by omega, h⟩
end

section
variable {prog : Program} {w : World} {A : Around} {E : Value → Shared → Prop} {s : Shared}

theorem lt_tupInts {l b : Addr} {items items2 : Array Value} {ns ms : List Int} {Q : Value → Shared → Prop} (hl : IsTup s.heap l items) (hb : IsTup s.heap b items2) (hi : IntsAre items.toList ns) (hj : IntsAre items2.toList ms)
    (hu : A.units < cLine) (h : Q (.bool (lexLt ns ms)) s) : wpAny (model prog w) A (compareOp .Lt (.ref l) (.ref b)) Q E s := by
  obtain ⟨⟨cls, dd, data, sl⟩, ho, hc, n, hd⟩ := id hl
  obtain ⟨⟨cls2, dd2, data2, sl2⟩, ho2, hc2, n2, hd2⟩ := id hb
  simp only at hc hd hc2 hd2
  subst hc hd hc2 hd2
  exact richCompare_meets_room (op := .Lt) ⟨_, ho, rfl⟩ ⟨_, ho2, rfl⟩ PySem.F.slot_tuple_lt PySem.F.entry_tuple_lt (PySem.F.args_tuple_lt_2 _ _) (tuple_lt_ints l b items items2 n n2 dd dd2 sl sl2 ns ms hi hj)
    ⟨ho, ho2, show Value.bool (lexLt ns ms) ≠ Value.notImplemented ∧ Q (.bool (lexLt ns ms)) s from ⟨(fun x => nomatch x), h⟩⟩ hu

/-- t + u, t not empty -/
theorem cat_tup {t b : Addr} {vs ws : List Value} {Q : Value → Shared → Prop} (ht : IsTup s.heap t vs.toArray) (hb : IsTup s.heap b ws.toArray) (hv : vs ≠ [])
    (h1 : ws = [] → Q (.ref t) s) (h2 : ws ≠ [] → Q (.ref s.heap.objs.size) { s with heap := s.heap.push { cls := .type "tuple", data := .seq (vs ++ ws).toArray } })
    (hsz : vs.length + ws.length ≤ sizeLine) : wpAny (model prog w) A (binaryOp .Add (.ref t) (.ref b)) Q E s := by
  obtain ⟨⟨cls, dd, data, sl⟩, ho, hc, n, hd⟩ := id ht
  obtain ⟨⟨cls2, dd2, data2, sl2⟩, ho2, hc2, n2, hd2⟩ := id hb
  simp only at hc hd hc2 hd2
  subst hc hd hc2 hd2
  have e : vs.toArray ++ ws.toArray = (vs ++ ws).toArray := by simp
  by_cases hw : ws = []
  · exact concat_meets ⟨_, ho, rfl⟩ ⟨_, ho2, rfl⟩ noFill_tuple_add seq_tuple_add PySem.F.slot_tuple_add PySem.F.entry_tuple_add (PySem.F.args_tuple_add_2 _ _)
      (tuple_addW1 t b vs.toArray ws.toArray n n2 dd dd2 sl sl2 (by simpa using hv) (by simp [hw])) ⟨ho, ho2, h1 hw⟩
  · refine concat_meets ⟨_, ho, rfl⟩ ⟨_, ho2, rfl⟩ noFill_tuple_add seq_tuple_add PySem.F.slot_tuple_add PySem.F.entry_tuple_add (PySem.F.args_tuple_add_2 _ _)
      (tuple_addW2 t b vs.toArray ws.toArray n n2 dd dd2 sl sl2 (by simpa using hv) (by simpa using hw) (by rw [List.size_toArray, List.size_toArray]; exact hsz)) ⟨ho, ho2, ?_⟩
    rw [e]
    exact h2 hw

/-! ### t[a:b], not the whole -/
/-- a slice's bound as a place among n (d where it is left out) -/
def sIx (n d : Nat) : Option Int → Nat
  | none => d
  | some v => if v < 0 then (v + (n : Int)).toNat else min v.toNat n
theorem sIx_none (n d : Nat) : sIx n d none = d := rfl
theorem sIx_nat (n d k : Nat) : sIx n d (some (k : Int)) = min k n := by
  show (if (k : Int) < 0 then ((k : Int) + (n : Int)).toNat else min (k : Int).toNat n) = min k n
  rw [if_neg (by omega), Int.toNat_natCast]
theorem sIx_le (n d : Nat) (hd : d ≤ n) (o : Option Int) : sIx n d o ≤ n := by
  cases o with
  | none => exact hd
  | some v =>
    show (if v < 0 then (v + (n : Int)).toNat else min v.toNat n) ≤ n
    by_cases hv : v < 0
    · rw [if_pos hv]; omega
    · rw [if_neg hv]; exact Nat.min_le_right _ _
theorem clip_eq (v : Int) (n d : Nat) : (if v < 0 then max (v + (n : Int)) 0 else min v (n : Int)) = ((sIx n d (some v) : Nat) : Int) := by
  show (if v < 0 then max (v + (n : Int)) 0 else min v (n : Int)) = (((if v < 0 then (v + (n : Int)).toNat else min v.toNat n) : Nat) : Int)
  by_cases hv : v < 0
  · simp only [if_pos hv]; omega
  · simp only [if_neg hv]; omega
theorem adjust_gen (lo hi : Option Int) (n : Nat) : Builtin.Slice.sliceAdjust lo hi 1 (n : Int) = (((sIx n 0 lo : Nat) : Int), ((sIx n n hi : Nat) : Int)) := by
  have h1 : ¬ ((1 : Int) < 0) := by omega
  unfold Builtin.Slice.sliceAdjust
  simp only [h1, if_false]
  refine Prod.ext ?_ ?_
  · cases lo with
    | none => rfl
    | some v => exact clip_eq v n 0
  · cases hi with
    | none => rfl
    | some v => exact clip_eq v n n
theorem places_gen (i j : Nat) : Builtin.Slice.slicePlaces (i : Int) (j : Int) 1 = j - i := by
  unfold Builtin.Slice.slicePlaces
  have h1 : (1 : Int) > 0 := by omega
  simp only [h1, if_true, Int.ediv_one]
  split <;> omega
theorem slicePart_ {v : Value} {o : Option Int} {Q : Option Int → Shared → Prop} (p : IsPart v o) (h : Q o s) : wpAny (model prog w) A (Builtin.Slice.slicePartIndex v) Q E s := by
  cases p with
  | none => exact slicePart_none h
  | int i t => exact slicePart_int h
theorem sliceApplied_gen {sl : Addr} {vl vu : Value} {lo hi : Option Int} {n : Nat} {Q : Int × Int × Nat → Shared → Prop} (hs : s.heap.IsSliceOf sl vl vu .none) (pl : IsPart vl lo) (pu : IsPart vu hi)
    (h : Q (((sIx n 0 lo : Nat) : Int), 1, sIx n n hi - sIx n 0 lo) s) : wpAny (model prog w) A (Builtin.Slice.sliceApplied (.ref sl) (pure (n : Int))) Q E s := by
  obtain ⟨os, hos, hcs, hds⟩ := id hs
  unfold Builtin.Slice.sliceApplied Builtin.Slice.sliceFields
  refine wpAny_bind (wpAny_bind (wpAny_field hos hds (x := vl) rfl (wpAny_bind (wpAny_field hos hds (x := vu) rfl (wpAny_bind (wpAny_field hos hds (x := .none) rfl (wpAny_pure ?_)))))))
  refine wpAny_bind (slicePart_none ?_)
  show wpAny _ _ (if ((1 : Int) == 0) = true then _ else _) _ _ s
  rw [if_neg (by decide)]
  refine wpAny_bind (slicePart_ pl (wpAny_bind (slicePart_ pu (wpAny_bind (wpAny_pure ?_)))))
  show wpAny _ _ (match Builtin.Slice.sliceAdjust lo hi 1 (n : Int) with | (lo, hi) => pure (lo, (1 : Int), Builtin.Slice.slicePlaces lo hi 1)) _ _ s
  rw [adjust_gen lo hi n]
  show wpAny _ _ (pure (((sIx n 0 lo : Nat) : Int), (1 : Int), Builtin.Slice.slicePlaces ((sIx n 0 lo : Nat) : Int) ((sIx n n hi : Nat) : Int) 1)) _ _ s
  rw [places_gen]
  exact wpAny_pure h
theorem pick_gen (xs : Array Value) (i k : Nat) : ((List.range k).filterMap fun (m : Nat) => xs[((i : Int) + (m : Int) * 1).toNat]?).toArray = ((xs.toList.drop i).take k).toArray := by
  have e : (fun (m : Nat) => xs[((i : Int) + (m : Int) * 1).toNat]?) = fun m => xs[i + m]? := by
    funext m
    have : ((i : Int) + (m : Int) * 1).toNat = i + m := by omega
    rw [this]
  rw [e]
  have := pick_run xs i k
  rw [List.filterMap_map] at this
  have e2 : ((fun x => xs[x]?) ∘ fun x => i + x) = fun m => xs[i + m]? := rfl
  rw [e2] at this
  rw [this]

theorem getItem_tuple_cut {t sl : Addr} {items : Array Value} {vl vu : Value} {lo hi : Option Int} {Q : Value → Shared → Prop} (ht : IsTup s.heap t items) (hs : s.heap.IsSliceOf sl vl vu .none) (pl : IsPart vl lo) (pu : IsPart vu hi)
    (hw : ¬ (sIx items.size 0 lo = 0 ∧ sIx items.size items.size hi = items.size))
    (h : Q (.ref s.heap.objs.size) { s with heap := s.heap.push { cls := .type "tuple", data := .seq ((items.toList.drop (sIx items.size 0 lo)).take (sIx items.size items.size hi - sIx items.size 0 lo)).toArray } })
    (hsz : items.size ≤ sizeLine) : wpAny (model prog w) A (getItem (.ref t) (.ref sl)) Q E s := by
  have htake : sizeOk (.seq ((items.toList.drop (sIx items.size 0 lo)).take (sIx items.size items.size hi - sIx items.size 0 lo)).toArray) := by
    show ((items.toList.drop (sIx items.size 0 lo)).take (sIx items.size items.size hi - sIx items.size 0 lo)).toArray.size ≤ sizeLine
    rw [List.size_toArray, List.length_take, List.length_drop, Array.length_toList]
    omega
  have hj : sIx items.size items.size hi ≤ items.size := sIx_le _ _ (Nat.le_refl _) hi
  obtain ⟨os, hos, hcs, hds⟩ := id hs
  have hTs : s.TypeIs (.ref sl) "slice" := ⟨os, hos, hcs⟩
  unfold getItem
  try with_reducible refine wpAny_holding ?_
  first | refine wpAny_bind (wpAny_pure ?_) | skip
  refine wpAny_bind (wpAny_sequenceKey ht.typeIs (by decide) ?_)
  refine wpAny_bind (wpAny_callSpecial?_slot (name := Str.ofString "__getitem__") ht.typeIs PyProof.Rows.slot_tuple_getitem
    (wpAny_call_entry PyProof.Rows.slot_tuple_getitem ht.typeIs entry_tuple_getitem ?_ (args_tuple_getitem _ _)))
  show wpAny _ _ (Builtin.Tuple.tupleItemsOf (.ref t) >>= _) _ _ s
  refine wpAny_bind (tupleItemsOf_ ht ?_)
  refine wpAny_bind (wpAny_typeOf hTs ?_)
  rw [if_pos (by decide)]
  refine wpAny_bind (sliceApplied_gen hs pl pu ?_)
  have hno : ¬ ((((sIx items.size 0 lo : Nat) : Int) == 0 && (1 : Int) == 1 && (sIx items.size items.size hi - sIx items.size 0 lo) == items.size) = true) := by
    intro q
    rw [Bool.and_eq_true, Bool.and_eq_true] at q
    have q1 : ((sIx items.size 0 lo : Nat) : Int) = 0 := eq_of_beq q.1.1
    have q2 : sIx items.size items.size hi - sIx items.size 0 lo = items.size := eq_of_beq q.2
    exact hw ⟨by omega, by omega⟩
  show wpAny _ _ (if (((sIx items.size 0 lo : Nat) : Int) == 0 && (1 : Int) == 1 && (sIx items.size items.size hi - sIx items.size 0 lo) == items.size) = true then _ else _) _ _ s
  rw [if_neg hno, pick_gen]
  first
    | exact wpAny_bind (m := Builtin.Tuple.tupleExact _) (wpAny_newObj_type (wpAny_pure ⟨_, rfl, wpAny_pure h⟩) htake)
    | exact wpAny_bind (m := Builtin.Tuple.tupleExact _) (wpAny_newObj_type (wpAny_bind (wpAny_pure (wpAny_pure ⟨_, rfl, wpAny_pure h⟩))) htake)
    | exact wpAny_bind (wpAny_bind (m := Builtin.Tuple.tupleExact _) (wpAny_newObj_type (wpAny_pure (wpAny_pure ⟨_, rfl, wpAny_pure h⟩)) htake))
    | exact wpAny_bind (wpAny_bind (m := Builtin.Tuple.tupleExact _) (wpAny_newObj_type (wpAny_pure ⟨_, rfl, wpAny_pure h⟩) htake))
end
end HT

namespace L2
open PySem PySem.Spec PyProof.Rows

/-! ### the parts of a slice -/
abbrev TO := St → Hp → (Option Int → Hp → Prop) → Prop
/-- a slice's part (left out, or an int) -/
def PO (X : Cx) (e : Option Expr) (t : TO) : Prop :=
  ∀ (pins : List (Addr × Obj)) (s : Shared) (σ : St) (H : Hp) (Q : Option Int → Hp → Prop), Inv X pins σ H s → t σ H Q →
    wpAny (model X.prog X.w) X.A (evalPart e X.env) (fun u s' => ∃ o H', Inv X pins σ H' s' ∧ IsPart u o ∧ Q o H') X.xe s
def tNoPart : TO := fun _ H Q => Q none H
def tPart (t : TE) : TO := fun σ H Q => t σ H fun x H1 => ∃ i, x = .int i ∧ Q (some i) H1

theorem intsAre_of {ns : List Int} : ∀ {us : List Value}, Vals (ns.map V.int) us → IntsAre us ns := by
  induction ns with
  | nil => intro us r; rw [List.map_nil] at r; cases r; exact .nil
  | cons n ns ih =>
    intro us r
    rw [List.map_cons] at r
    cases r with
    | cons r1 r2 =>
      obtain ⟨t, e⟩ := r1
      subst e
      exact .cons n t (ih r2)

section
variable {X : Cx} {e : Expr} {te : TE} {lo hi : Option Expr} {tl th : TO} {pos p2 : Pos}

theorem po_none : PO X none tNoPart := by
  intro pins s σ H Q I h
  rw [evalPart_none]
  exact wpAny_pure ⟨none, H, I, .none, h⟩
theorem po_some (h : PE X e te) : PO X (some e) (tPart te) := by
  intro pins s σ H Q I hw
  rw [evalPart_some]
  refine thn (h pins s σ H _ I hw) fun u s1 ⟨x, H1, I1, r1, q1⟩ => ?_
  obtain ⟨i, rfl, q⟩ := q1
  obtain ⟨t, rfl⟩ := r1
  exact ⟨some i, H1, I1, .int i t, q⟩

/-- what a slice of a value is, by values: the slice object stands at sl -/
def SlR (X : Cx) (r : V → Option Int → Option Int → Hp → VK → Prop) : Prop :=
  ∀ (pins : List (Addr × Obj)) (s : Shared) (σ : St) (H : Hp) (x : V) (v vl vu : Value) (lo hi : Option Int) (sl : Addr) (Q : VK), Inv X pins σ H s → RelV x v → s.heap.IsSliceOf sl vl vu .none → IsPart vl lo → IsPart vu hi → r x lo hi H Q →
    ∃ T id, typeLookup (.type T) "__getitem__" = pure (some (.builtin id)) ∧ s.TypeIs v T ∧ wpAny (model X.prog X.w) X.A (getItem v (.ref sl)) (EP X pins σ Q) X.xe s
theorem SlR.or {r r' : V → Option Int → Option Int → Hp → VK → Prop} (h : SlR X r) (h' : SlR X r') : SlR X (fun x lo hi H Q => r x lo hi H Q ∨ r' x lo hi H Q) := by
  intro pins s σ H x v vl vu lo hi sl Q I rx hs pl pu q
  rcases q with q | q
  · exact h pins s σ H x v vl vu lo hi sl Q I rx hs pl pu q
  · exact h' pins s σ H x v vl vu lo hi sl Q I rx hs pl pu q
def tSl (r : V → Option Int → Option Int → Hp → VK → Prop) (te : TE) (tl th : TO) : TE := fun σ H Q => te σ H fun x H1 => tl σ H1 fun l H2 => th σ H2 fun u H3 => r x l u H3 Q
/-- a[lo:hi], any a -/
theorem pe_slice {r : V → Option Int → Option Int → Hp → VK → Prop} (hr : SlR X r) (he : PE X e te) (hl : PO X lo tl) (hu : PO X hi th) : PE X (.Subscript e (.Slice lo hi none p2) pos) (tSl r te tl th) := by
  intro pins s σ H Q I h
  refine Subscript_ (thn (he pins s σ H _ I h) fun v s1 ⟨x, H1, I1, r1, q1⟩ => ?_)
  refine wpAny_Slice (thn (hl pins s1 σ H1 _ I1 q1) fun vl s2 ⟨l, H2, I2, pl, q2⟩ => thn (hu pins s2 σ H2 _ I2 q2) fun vu s3 ⟨u, H3, I3, pu, q3⟩ => ?_)
  rw [evalPart_none]
  refine wpAny_pure ?_
  have I4 : Inv X pins σ H3 { s3 with heap := s3.heap.push { cls := .type "slice", data := .fields #[vl, vu, .none] } } := I3.kept (t' := s3.toks) fun b ob q => Heap.get?_push_of_some _ q
  obtain ⟨T, id, hT, ht, hg⟩ := hr pins { s3 with heap := s3.heap.push { cls := .type "slice", data := .fields #[vl, vu, .none] } } σ H3 x v vl vu l u s3.heap.objs.size Q I4 r1 (Heap.IsSliceOf.new ..) pl pu q3
  show wpAny (model X.prog X.w) X.A (subscriptTail e (.Slice lo hi none p2) v (.ref s3.heap.objs.size)) (EP X pins σ Q) X.xe { s3 with heap := s3.heap.push { cls := .type "slice", data := .fields #[vl, vu, .none] } }
  exact tail_any (ops := [.ref s3.heap.objs.size, v]) ht hT hg (by with_unfolding_all rfl)

/-- the items of xs[lo:hi] -/
def cutV (xs : List V) (lo hi : Option Int) : List V := (xs.drop (HT.sIx xs.length 0 lo)).take (HT.sIx xs.length xs.length hi - HT.sIx xs.length 0 lo)
theorem cutV_length (xs : List V) (lo hi : Option Int) : (cutV xs lo hi).length ≤ xs.length := by
  unfold cutV
  rw [List.length_take, List.length_drop]
  omega
/-- t[lo:hi], not the whole of it (the whole would be t itself) -/
def rSlT (K : PySem.W.Frag) : V → Option Int → Option Int → Hp → VK → Prop := fun x lo hi H Q => ∃ a xs, x = .ref a ∧ SqT K H a xs ∧
  ¬ (HT.sIx xs.length 0 lo = 0 ∧ HT.sIx xs.length xs.length hi = xs.length) ∧ ∀ p, H p = none → Q (.ref p) (upd H p (.tup (cutV xs lo hi)))
theorem sl_tup : SlR X (rSlT X.K) := by
  intro pins s σ H x v vl vu lo hi sl Q I rx hs pl pu h
  obtain ⟨a, xs, rfl, hx, hw, q⟩ := h
  cases rx
  obtain ⟨its, r, ht, hz⟩ := I.tuple hx
  have hlen : its.toArray.size = xs.length := by rw [List.size_toArray]; exact r.length.symm
  refine ⟨"tuple", _, PyProof.Rows.slot_tuple_getitem.lookup, ht.typeIs, ?_⟩
  refine HT.getItem_tuple_cut ht hs pl pu (by rw [hlen]; exact hw) ?_ (by rw [hlen]; exact hz)
  rw [hlen]
  refine ⟨.ref s.heap.objs.size, _, I.laid (t' := s.toks) (o := .tup (cutV xs lo hi)) (fun b ob q => Heap.get?_push_of_some _ q) (Nat.le_refl _) ?_, rfl, q _ (I.hok.fresh (Nat.le_refl _))⟩
  exact ⟨Nat.le_trans (cutV_length xs lo hi) hz, _, (r.drop (HT.sIx xs.length 0 lo)).take (HT.sIx xs.length xs.length hi - HT.sIx xs.length 0 lo), IsTup.new _ _⟩

/-! ### t < u, t + u -/
def rLtT (K : PySem.W.Frag) : R2 := fun x y H Q => ∃ a b ns ms, x = .ref a ∧ y = .ref b ∧ SqT K H a (ns.map V.int) ∧ SqT K H b (ms.map V.int) ∧ Q (.bl (HT.lexLt ns ms)) H
theorem op_ltT (hu : X.A.units < cLine) : OpR X (compareOp .Lt) (rLtT X.K) := by
  intro pins s σ H x y v u Q I rx ry h
  obtain ⟨a, b, ns, ms, rfl, rfl, ha, hb, q⟩ := h
  cases rx
  cases ry
  obtain ⟨its, r1, p1, _⟩ := I.tuple ha
  obtain ⟨its2, r2, p2, _⟩ := I.tuple hb
  have i1 : IntsAre its.toArray.toList ns := intsAre_of r1
  have i2 : IntsAre its2.toArray.toList ms := intsAre_of r2
  exact HT.lt_tupInts p1 p2 i1 i2 hu ⟨.bl (HT.lexLt ns ms), H, I, rfl, q⟩
/-- t + u, t not empty: u empty gives t itself -/
def rCatT (K : PySem.W.Frag) : R2 := fun x y H Q => ∃ a b xs ys, x = .ref a ∧ y = .ref b ∧ SqT K H a xs ∧ SqT K H b ys ∧ xs ≠ [] ∧ xs.length + ys.length ≤ sizeLine ∧
  (ys = [] → Q (.ref a) H) ∧ (ys ≠ [] → ∀ p, H p = none → Q (.ref p) (upd H p (.tup (xs ++ ys))))
theorem Vals.nil_iff {xs : List V} {us : List Value} (r : Vals xs us) : us = [] ↔ xs = [] := by
  cases r with
  | nil => simp
  | cons _ _ => simp
theorem op_catT : OpR X (binaryOp .Add) (rCatT X.K) := by
  intro pins s σ H x y v u Q I rx ry h
  obtain ⟨a, b, xs, ys, rfl, rfl, ha, hb, hx, hz, q1, q2⟩ := h
  cases rx
  cases ry
  obtain ⟨its, r1, p1, _⟩ := I.tuple ha
  obtain ⟨its2, r2, p2, _⟩ := I.tuple hb
  refine HT.cat_tup p1 p2 (fun z => hx (r1.nil_iff.mp z)) (fun z => ⟨.ref a, H, I, rfl, q1 (r2.nil_iff.mp z)⟩) (fun z => ?_) (by rw [← r1.length, ← r2.length]; exact hz)
  refine ⟨.ref s.heap.objs.size, _, I.laid (t' := s.toks) (o := .tup (xs ++ ys)) (fun b ob q => Heap.get?_push_of_some _ q) (Nat.le_refl _) ?_, rfl, q2 (fun w => z (r2.nil_iff.mpr w)) _ (I.hok.fresh (Nat.le_refl _))⟩
  exact ⟨by rw [List.length_append]; exact hz, _, r1.append r2, IsTup.new _ _⟩
/-- tuple(t) -/
theorem call_tupleT : CallR X (.type "tuple") (fun xs H Q => ∃ a ys, xs = [.ref a] ∧ SqT X.K H a ys ∧ Q (.ref a) H) := by
  intro pins s σ H xs us Q I r h
  obtain ⟨a, ys, rfl, ha, q⟩ := h
  obtain ⟨u, rfl, ru⟩ := vals1 r
  cases ru
  obtain ⟨its, _, p1, _⟩ := I.tuple ha
  exact call_tuple_same (items := its.toArray) p1 ⟨.ref a, H, I, rfl, q⟩
end
end L2

namespace L2
open PySem PySem.Spec PyProof.Rows

/-! ### places -/
/-- the place that an index of any sign means -/
def ixN (n : Nat) (i : Int) : Option Nat := if 0 ≤ i then (if i < n then some i.toNat else none) else if -(n : Int) ≤ i then some (i + n).toNat else none
def atI {α : Type} (xs : List α) (i : Int) : Option α := (ixN xs.length i).bind fun j => xs[j]?
theorem ixN_seq {n : Nat} {i : Int} {j : Nat} (h : ixN n i = some j) : seqIndex? i n = some j ∧ j < n ∧ -(n : Int) ≤ i ∧ i < n := by
  unfold ixN at h
  by_cases h0 : 0 ≤ i
  · rw [if_pos h0] at h
    by_cases h1 : i < n
    · rw [if_pos h1] at h
      have e : i.toNat = j := Option.some.inj h
      exact ⟨by rw [seqIndex_of h0 h1, e], by omega, by omega, h1⟩
    · rw [if_neg h1] at h; cases h
  · rw [if_neg h0] at h
    by_cases h1 : -(n : Int) ≤ i
    · rw [if_pos h1] at h
      have e : (i + n).toNat = j := Option.some.inj h
      exact ⟨by rw [seqIndex_neg (by omega) h1, e], by omega, h1, by omega⟩
    · rw [if_neg h1] at h; cases h
theorem atI_get {α : Type} {xs : List α} {i : Int} {v : α} (h : atI xs i = some v) : ∃ j, seqIndex? i xs.length = some j ∧ xs[j]? = some v ∧ j < xs.length ∧ -(xs.length : Int) ≤ i ∧ i < xs.length := by
  unfold atI at h
  cases e : ixN xs.length i with
  | none => rw [e] at h; cases h
  | some j =>
    rw [e] at h
    obtain ⟨h1, h2, h3, h4⟩ := ixN_seq e
    exact ⟨j, h1, h, h2, h3, h4⟩
theorem atI_nat {α : Type} {xs : List α} {j : Nat} {v : α} (h : xs[j]? = some v) : atI xs (j : Int) = some v := by
  have hj : j < xs.length := (List.getElem?_eq_some_iff.mp h).1
  have e : ixN xs.length (j : Int) = some j := by
    unfold ixN
    rw [if_pos (by omega), if_pos (by omega)]; simp
  unfold atI; rw [e]; exact h
theorem atI_last {α : Type} (xs : List α) (v : α) : atI (xs ++ [v]) (-1) = some v := by
  have hl : (xs ++ [v]).length = xs.length + 1 := by simp
  have e : ixN (xs ++ [v]).length (-1) = some xs.length := by
    unfold ixN
    rw [hl, if_neg (by decide), if_pos (by omega)]
    congr 1
    omega
  unfold atI
  rw [e]
  show (xs ++ [v])[xs.length]? = some v
  simp

/-! ### what may be subscripted -/
/-- what stands as an index of a plain subscript -/
def PlainIx (b : Expr) : Prop := ∀ o i, subscripted b false o i = operate [o, i] (getItem o i)
/-- a subscript by values -/
def IxR (X : Cx) (r : R2) : Prop :=
  ∀ (value slice : Expr) (pins : List (Addr × Obj)) (s : Shared) (σ : St) (H : Hp) (x y : V) (v u : Value) (Q : VK), Inv X pins σ H s → RelV x v → RelV y u → r x y H Q →
    subscripted slice false v u = operate [v, u] (getItem v u) → wpAny (model X.prog X.w) X.A (subscriptTail value slice v u) (EP X pins σ Q) X.xe s
/-- a call of a builtin's method by values: the receiver, the arguments -/
def MtR (X : Cx) (id : String) (r : V → List V → Hp → VK → Prop) : Prop :=
  ∀ (pins : List (Addr × Obj)) (s : Shared) (σ : St) (H : Hp) (x : V) (xs : List V) (v : Value) (us : List Value) (Q : VK), Inv X pins σ H s → RelV x v → Vals xs us → r x xs H Q →
    wpAny (model X.prog X.w) X.A (call (.builtin id) (v :: us)) (EP X pins σ Q) X.xe s
section
variable {X : Cx} {a b : Expr} {ta tb : TE} {pos : Pos}
theorem IxR.or {r r' : R2} (h : IxR X r) (h' : IxR X r') : IxR X (fun x y H Q => r x y H Q ∨ r' x y H Q) := by
  intro value slice pins s σ H x y v u Q I rx ry q hs
  rcases q with q | q
  · exact h value slice pins s σ H x y v u Q I rx ry q hs
  · exact h' value slice pins s σ H x y v u Q I rx ry q hs
theorem MtR.or {id : String} {r r' : V → List V → Hp → VK → Prop} (h : MtR X id r) (h' : MtR X id r') : MtR X id (fun x xs H Q => r x xs H Q ∨ r' x xs H Q) := by
  intro pins s σ H x xs v us Q I rx rs q
  rcases q with q | q
  · exact h pins s σ H x xs v us Q I rx rs q
  · exact h' pins s σ H x xs v us Q I rx rs q
/-- a[b] -/
theorem pe_ix {r : R2} (hr : IxR X r) (ha : PE X a ta) (hb : PE X b tb) (hs : PlainIx b) : PE X (.Subscript a b pos) (tOp r ta tb) := by
  intro pins s σ H Q I h
  exact Subscript_ (binT ha hb I h fun v u s2 x y H2 I2 rx ry q => hr a b pins s2 σ H2 x y v u Q I2 rx ry q (hs _ _))

def rIxL (K : PySem.W.Frag) : R2 := fun x y H Q => ∃ p xs i v, x = .ref p ∧ y = .int i ∧ SqL K H p xs ∧ atI xs i = some v ∧ Q v H
def rIxT (K : PySem.W.Frag) : R2 := fun x y H Q => ∃ p xs i v, x = .ref p ∧ y = .int i ∧ SqT K H p xs ∧ atI xs i = some v ∧ Q v H
def rIxS : R2 := fun x y H Q => ∃ z i c, x = .str z ∧ y = .int i ∧ z.length ≤ sizeLine ∧ atI z.cps.toList i = some c ∧ Q (.str ⟨#[c]⟩) H
theorem ix_list : IxR X (rIxL X.K) := by
  intro value slice pins s σ H x y v u Q I rx ry h hs
  obtain ⟨p, xs, i, z, rfl, rfl, hq, he, q⟩ := h
  cases rx
  obtain ⟨t, rfl⟩ := ry
  obtain ⟨its, r, pl, hz⟩ := I.list hq
  obtain ⟨j, h1, h2, h3, h4, h5⟩ := atI_get he
  obtain ⟨w, ew, rw'⟩ := r.get h2
  have hl := r.length
  have hn := line63
  have fin : EP X pins σ Q w s := ⟨z, H, I, rw', q⟩
  by_cases h0 : 0 ≤ i
  · have hj : i.toNat = j := by
      rw [seqIndex_of h0 h5] at h1
      exact Option.some.inj h1
    exact item_listR pl.isList h0 (by omega) (by rw [hj]; simpa using ew) fin hs
  · have hj : (i + (its.toArray.size : Int)).toNat = j := by
      rw [seqIndex_neg (by omega) h4] at h1
      rw [List.size_toArray, ← hl]
      exact Option.some.inj h1
    exact subscriptTail_builtinR (x := w) pl.isList.typeIs slot_list_getitem.lookup
      (wpAny_getItem_list_neg (Q := fun r s' => r = w ∧ EP X pins σ Q r s') pl.isList (by omega) (by rw [List.size_toArray] <;> omega) (by omega) (by rw [hj]; simpa using ew) ⟨rfl, fin⟩) hs
theorem ix_tup : IxR X (rIxT X.K) := by
  intro value slice pins s σ H x y v u Q I rx ry h hs
  obtain ⟨p, xs, i, z, rfl, rfl, hq, he, q⟩ := h
  cases rx
  obtain ⟨t, rfl⟩ := ry
  obtain ⟨its, r, pl, hz⟩ := I.tuple hq
  obtain ⟨j, h1, h2, h3, h4, h5⟩ := atI_get he
  obtain ⟨w, ew, rw'⟩ := r.get h2
  have hl := r.length
  have hn := line63
  have fin : EP X pins σ Q w s := ⟨z, H, I, rw', q⟩
  exact subscriptTail_builtinR (x := w) pl.typeIs slot_tuple_getitem.lookup
    (getItem_tuple (j := j) (Q := fun r s' => r = w ∧ EP X pins σ Q r s') pl (by omega) (by omega) (by rw [List.size_toArray, ← hl]; exact h1) (by simpa using ew) ⟨rfl, fin⟩) hs
theorem ix_str : IxR X rIxS := by
  intro value slice pins s σ H x y v u Q I rx ry h hs
  obtain ⟨z, i, c, rfl, rfl, hz, he, q⟩ := h
  obtain ⟨t, rfl⟩ := rx
  obtain ⟨t', rfl⟩ := ry
  obtain ⟨j, h1, h2, h3, h4, h5⟩ := atI_get he
  have hl : z.cps.toList.length = z.length := by simp [Str.length]
  rw [hl] at h1 h4 h5
  have hn := line63
  exact tail_any (typeIs_str s z t) slot_str_getitem.lookup (getItem_str (c := c) (by
    have e1 : decide (i < -(2 ^ 63 : Int)) = false := decide_eq_false (by omega)
    have e2 : decide (i ≥ 2 ^ 63) = false := decide_eq_false (by omega)
    rw [e1, e2, Bool.or_false]) (by rw [h1]; simpa using h2) ⟨.str ⟨#[c]⟩, H, I.tok _, ⟨_, rfl⟩, q⟩) hs
/-- list, tuple or str -/
def rIx (K : PySem.W.Frag) : R2 := fun x y H Q => rIxL K x y H Q ∨ rIxT K x y H Q ∨ rIxS x y H Q
theorem ix_seq : IxR X (rIx X.K) := ix_list.or (ix_tup.or ix_str)

/-! ### xs[i] = v, any sign -/
/-- the list's object behind a store -/
theorem mapSeq_set (its : List Value) (n j : Nat) (u : Value) : Obj.mapSeq (·.setIfInBounds j u) { cls := .type "list", data := .seq its.toArray n } = { cls := .type "list", data := .seq (its.set j u).toArray n } := by
  simp [Obj.mapSeq]
theorem Inv.lst {pins : List (Addr × Obj)} {σ : St} {H : Hp} {s : Shared} {p : Addr} {xs : List V} (I : Inv X pins σ H s) (h : H p = some (.lst xs)) :
    ∃ (its : List Value) (n : Nat), Vals xs its ∧ s.heap.get? p = some { cls := .type "list", data := .seq its.toArray n } ∧ xs.length ≤ sizeLine := by
  obtain ⟨z, its, n, r, e⟩ := I.hok p _ h
  exact ⟨its, n, r, e, z⟩
/-- the list at p is written by an update of its object -/
theorem Inv.lstUpd {pins : List (Addr × Obj)} {σ : St} {H : Hp} {s : Shared} {p : Addr} {xs ys : List V} {its its' : List Value} {n n' : Nat} {f : Obj → Obj} (I : Inv X pins σ H s) (h : H p = some (.lst xs))
    (ho : s.heap.get? p = some { cls := .type "list", data := .seq its.toArray n }) (hf : f { cls := .type "list", data := .seq its.toArray n } = { cls := .type "list", data := .seq its'.toArray n' }) (r : Vals ys its') (hz : ys.length ≤ sizeLine) (t : Nat) :
    Inv X pins σ (upd H p (.lst ys)) { s with heap := s.heap.update p f, toks := t } := by
  have e : (s.heap.update p f).get? p = some { cls := .type "list", data := .seq its'.toArray n' } := by
    rw [Heap.get?_update_self f ho (by rw [hf] <;> rfl), hf]
  refine I.write (x := p) (e := p) (by rw [h]; trivial) (.inl rfl) (fun b u hb q => (Heap.get?_update_other _ _ (Ne.symm hb)).trans q) ⟨_, e⟩ ?_
  exact ⟨hz, its', n', r, e⟩
def rSetL : V → V → V → Hp → (Hp → Prop) → Prop := fun o i v H Q => ∃ p xs k j, o = .ref p ∧ i = .int k ∧ H p = some (.lst xs) ∧ ixN xs.length k = some j ∧ Q (upd H p (.lst (xs.set j v)))
theorem set_list : PSet X rSetL := by
  intro pins s σ H o i v ov iv u Q I ro ri rv h
  obtain ⟨p, xs, k, j, rfl, rfl, hp, hj, q⟩ := h
  cases ro
  obtain ⟨t, rfl⟩ := ri
  obtain ⟨its, n, r, ho, hz⟩ := I.lst hp
  obtain ⟨h1, h2, h3, h4⟩ := ixN_seq hj
  have hl := r.length
  have hn := line63
  have I' : Inv X pins σ (upd H p (.lst (xs.set j v))) { s with heap := s.heap.update p (Obj.mapSeq (·.setIfInBounds j u)) } :=
    I.lstUpd hp ho (mapSeq_set its n j u) (r.set rv j) (by rw [List.length_set]; exact hz) s.toks
  by_cases h0 : 0 ≤ k
  · have hk : k.toNat = j := by
      rw [seqIndex_of h0 h4] at h1
      exact Option.some.inj h1
    exact PySem.W.ki_setAt ho h0 (by omega) (by rw [List.size_toArray, ← hl]; exact h4) (by rw [hk]; exact ⟨_, I', q⟩)
  · have hk : (k + (its.toArray.size : Int)).toNat = j := by
      rw [seqIndex_neg (by omega) h3] at h1
      rw [List.size_toArray, ← hl]
      exact Option.some.inj h1
    exact PySem.W.ki_setBack ho (by omega) (by rw [List.size_toArray, ← hl]; exact h3) (by omega) (by rw [hk]; exact ⟨_, I', q⟩)

/-! ### slices -/
theorem slice_bounds (lo hi : Option Int) (n : Nat) : (sliceBounds lo hi none n).1 = ((HT.sIx n 0 lo : Nat) : Int) ∧ (sliceBounds lo hi none n).2.1 = ((HT.sIx n n hi : Nat) : Int) ∧ (sliceBounds lo hi none n).2.2 = 1 := by
  refine ⟨?_, ?_, rfl⟩
  · cases lo with
    | none => simp [sliceBounds, HT.sIx]
    | some i =>
      simp only [sliceBounds, HT.sIx, Option.getD_none, show (1 : Int) > 0 by decide, if_true]
      by_cases h : i < 0
      · simp only [h, if_true] <;> omega
      · simp only [h, if_false] <;> omega
  · cases hi with
    | none => simp [sliceBounds, HT.sIx]
    | some i =>
      simp only [sliceBounds, HT.sIx, Option.getD_none, show (1 : Int) > 0 by decide, if_true]
      by_cases h : i < 0
      · simp only [h, if_true] <;> omega
      · simp only [h, if_false] <;> omega
theorem slicePick_cut (its : List Value) (lo hi : Option Int) : slicePick its.toArray lo hi none = ((its.drop (HT.sIx its.length 0 lo)).take (HT.sIx its.length its.length hi - HT.sIx its.length 0 lo)).toArray := by
  obtain ⟨h1, h2, h3⟩ := slice_bounds lo hi its.toArray.size
  unfold slicePick
  rw [h1, h2, h3]
  simp only [sliceRange_one, pick_run, List.size_toArray] <;> rfl
/-- xs[lo:hi] of a list: a new list -/
def rSlL (K : PySem.W.Frag) : V → Option Int → Option Int → Hp → VK → Prop := fun x lo hi H Q => ∃ a xs, x = .ref a ∧ SqL K H a xs ∧ ∀ p, H p = none → Q (.ref p) (upd H p (.lst (cutV xs lo hi)))
theorem sl_list : SlR X (rSlL X.K) := by
  intro pins s σ H x v vl vu lo hi sl Q I rx hs pl pu h
  obtain ⟨a, xs, rfl, hx, q⟩ := h
  cases rx
  obtain ⟨its, r, ht, hz⟩ := I.list hx
  have hlen := r.length
  refine ⟨"list", _, slot_list_getitem.lookup, ht.isList.typeIs, ?_⟩
  refine wpAny_getItem_list_slice ht.isList hs pl pu .none (by simp) ?_ (by rw [List.size_toArray] <;> omega)
  rw [slicePick_cut, ← hlen]
  refine ⟨.ref s.heap.objs.size, _, I.laid (t' := s.toks) (o := .lst (cutV xs lo hi)) (fun b ob q => Heap.get?_push_of_some _ q) (Nat.le_refl _) ?_, rfl, q _ (I.hok.fresh (Nat.le_refl _))⟩
  exact ⟨Nat.le_trans (cutV_length xs lo hi) hz, _, 0, (r.drop (HT.sIx xs.length 0 lo)).take (HT.sIx xs.length xs.length hi - HT.sIx xs.length 0 lo), Heap.get?_push_size _ rfl⟩

/-! ### in, not in: flat items -/
def flatV : V → Bool
  | .non => true
  | .bl _ => true
  | .int _ => true
  | .str _ => true
  | _ => false
/-- == of flat values -/
def eqV : V → V → Bool
  | .non, .non => true
  | .bl a, .bl b => a == b
  | .bl a, .int b => (if a then 1 else 0) == b
  | .int a, .bl b => a == (if b then 1 else 0)
  | .int a, .int b => a == b
  | .str a, .str b => a == b
  | _, _ => false
theorem eqAt_V {A : Around} {s : Shared} {y x : V} {u v : Value} (ry : RelV y u) (rx : RelV x v) (fy : flatV y = true) (fx : flatV x = true) : SeqAt.EqAt A s u v (eqV y x) := by
  cases y with
  | non =>
    cases ry
    cases x with
    | non => cases rx; exact SeqAt.EqAt.same _
    | bl b => cases rx; exact SeqAt.EqAt.none_bool b
    | int b => obtain ⟨t, rfl⟩ := rx; exact SeqAt.EqAt.none_int b t
    | str b => obtain ⟨t, rfl⟩ := rx; exact SeqAt.EqAt.none_str b t
    | _ => exact absurd (show false = true from fx) Bool.false_ne_true
  | bl a =>
    cases ry
    cases x with
    | non => cases rx; exact SeqAt.EqAt.bool_none a
    | bl b => cases rx; exact SeqAt.EqAt.bool_bool a b
    | int b => obtain ⟨t, rfl⟩ := rx; exact SeqAt.EqAt.bool_int a b t
    | str b => obtain ⟨t, rfl⟩ := rx; exact SeqAt.EqAt.bool_str a b t
    | _ => exact absurd (show false = true from fx) Bool.false_ne_true
  | int a =>
    obtain ⟨t', rfl⟩ := ry
    cases x with
    | non => cases rx; exact SeqAt.EqAt.int_none a t'
    | bl b => cases rx; exact SeqAt.EqAt.int_bool a t' b
    | int b => obtain ⟨t, rfl⟩ := rx; exact SeqAt.EqAt.int_int a t' b t
    | str b => obtain ⟨t, rfl⟩ := rx; exact SeqAt.EqAt.int_str a t' b t
    | _ => exact absurd (show false = true from fx) Bool.false_ne_true
  | str a =>
    obtain ⟨t', rfl⟩ := ry
    cases x with
    | non => cases rx; exact SeqAt.EqAt.str_none a t'
    | bl b => cases rx; exact SeqAt.EqAt.str_bool a t' b
    | int b => obtain ⟨t, rfl⟩ := rx; exact SeqAt.EqAt.str_int a t' b t
    | str b => obtain ⟨t, rfl⟩ := rx; exact SeqAt.EqAt.str_str a t' b t
    | _ => exact absurd (show false = true from fx) Bool.false_ne_true
  | _ => exact absurd (show false = true from fy) Bool.false_ne_true
/-- the items' answers, read off the values (a value's own answer does not lean on its token) -/
def eqU (x : V) (u : Value) : Bool := match u with
  | .none => eqV .non x
  | .bool b => eqV (.bl b) x
  | .int i _ => eqV (.int i) x
  | .str z _ => eqV (.str z) x
  | _ => false
theorem eqU_of {x y : V} {u : Value} (r : RelV y u) (f : flatV y = true) : eqU x u = eqV y x := by
  cases y with
  | non => cases r; rfl
  | bl b => cases r; rfl
  | int i => obtain ⟨t, rfl⟩ := r; rfl
  | str z => obtain ⟨t, rfl⟩ := r; rfl
  | _ => exact absurd (show false = true from f) Bool.false_ne_true
theorem any_eqU {x : V} : ∀ {xs : List V} {us : List Value}, Vals xs us → xs.all flatV = true → us.any (eqU x) = xs.any fun y => eqV y x
  | _, _, .nil, _ => rfl
  | y :: xs, u :: us, .cons r t, f => by
    rw [List.all_cons, Bool.and_eq_true] at f
    rw [List.any_cons, List.any_cons, eqU_of r f.1, any_eqU t f.2]
theorem mem_eqAt {A : Around} {s : Shared} {x : V} {v : Value} (rx : RelV x v) (fx : flatV x = true) : ∀ {xs : List V} {us : List Value}, Vals xs us → xs.all flatV = true → ∀ u ∈ us, SeqAt.EqAt A s u v (eqU x u)
  | _, _, .nil, _ => fun u hu => by cases hu
  | y :: xs, u :: us, .cons r t, f => fun u' hu => by
    rw [List.all_cons, Bool.and_eq_true] at f
    rcases List.mem_cons.mp hu with rfl | hu
    · rw [eqU_of r f.1]; exact eqAt_V r rx f.1 fx
    · exact mem_eqAt rx fx t f.2 u' hu
def inV (x : V) (xs : List V) : Bool := xs.any fun y => eqV y x
/-- x in a list or tuple of flat items -/
def rIn (K : PySem.W.Frag) (neg : Bool) : R2 := fun x y H Q => ∃ p xs, y = .ref p ∧ (SqL K H p xs ∨ SqT K H p xs) ∧ flatV x = true ∧ xs.all flatV = true ∧ Q (.bl (if neg then !inV x xs else inV x xs)) H
theorem op_in_seq : OpR X (compareOp .In) (rIn X.K false) := by
  intro pins s σ H x y v u Q I rx ry h
  obtain ⟨p, xs, rfl, hq, fx, fs, q⟩ := h
  cases ry
  rcases hq with hq | hq
  · obtain ⟨its, r, pl, hz⟩ := I.list hq
    refine SeqAt.in_listAt (eqU x) pl.isList (fun w hw => mem_eqAt rx fx r fs w (by simpa using hw)) ⟨.bl _, H, I, rfl, ?_⟩
    rw [show its.toArray.any (eqU x) = its.any (eqU x) by simp, any_eqU r fs]
    exact q
  · obtain ⟨its, r, pl, hz⟩ := I.tuple hq
    refine SeqAt.in_tupleAt (eqU x) pl (fun w hw => mem_eqAt rx fx r fs w (by simpa using hw)) ⟨.bl _, H, I, rfl, ?_⟩
    rw [show its.toArray.any (eqU x) = its.any (eqU x) by simp, any_eqU r fs]
    exact q
theorem op_notIn_seq : OpR X (compareOp .NotIn) (rIn X.K true) := by
  intro pins s σ H x y v u Q I rx ry h
  obtain ⟨p, xs, rfl, hq, fx, fs, q⟩ := h
  cases ry
  rcases hq with hq | hq
  · obtain ⟨its, r, pl, hz⟩ := I.list hq
    refine SeqAt.notIn_listAt (eqU x) pl.isList (fun w hw => mem_eqAt rx fx r fs w (by simpa using hw)) ⟨.bl _, H, I, rfl, ?_⟩
    rw [show its.toArray.any (eqU x) = its.any (eqU x) by simp, any_eqU r fs]
    exact q
  · obtain ⟨its, r, pl, hz⟩ := I.tuple hq
    refine SeqAt.notIn_tupleAt (eqU x) pl (fun w hw => mem_eqAt rx fx r fs w (by simpa using hw)) ⟨.bl _, H, I, rfl, ?_⟩
    rw [show its.toArray.any (eqU x) = its.any (eqU x) by simp, any_eqU r fs]
    exact q
theorem op_notIn_str : OpR X (compareOp .NotIn) (fun x y H Q => ∃ i j, x = .str i ∧ y = .str j ∧ Q (.bl (!(!(Builtin.Str.occurrences j i 0 j.length 1).isEmpty))) H) := by
  intro pins s σ H x y v u Q I rx ry h
  obtain ⟨i, j, rfl, rfl, q⟩ := h
  obtain ⟨t, rfl⟩ := rx
  obtain ⟨t', rfl⟩ := ry
  exact notIn_str ⟨.bl _, H, I, rfl, q⟩

/-! ### len, list(x), tuple(x) of any list or tuple that is read -/
theorem call_len_seq : CallR X (.builtin "len") (fun xs H Q => ∃ p ys, xs = [.ref p] ∧ (SqL X.K H p ys ∨ SqT X.K H p ys) ∧ Q (.int ys.length) H) := by
  intro pins s σ H xs us Q I r h
  obtain ⟨p, ys, rfl, hq, q⟩ := h
  obtain ⟨u, rfl, rx⟩ := vals1 r
  cases rx
  have hn := line63
  rcases hq with hq | hq
  · obtain ⟨its, r', pl, hz⟩ := I.list hq
    have hlen := r'.length
    exact Calls.call_len_list pl.isList (by simp only [List.size_toArray] <;> omega) ⟨.int ys.length, H, I.tok _, ⟨s.toks + 1, by rw [List.size_toArray, hlen]⟩, q⟩
  · obtain ⟨its, r', pl, hz⟩ := I.tuple hq
    have hlen := r'.length
    exact len_tuple pl (by simp only [List.size_toArray] <;> omega) ⟨.int ys.length, H, I.tok _, ⟨s.toks + 1, by rw [List.size_toArray, hlen]⟩, q⟩
theorem call_len_str : CallR X (.builtin "len") (fun xs H Q => ∃ z, xs = [.str z] ∧ z.length ≤ sizeLine ∧ Q (.int z.length) H) := by
  intro pins s σ H xs us Q I r h
  obtain ⟨z, rfl, hz, q⟩ := h
  obtain ⟨u, rfl, t, rfl⟩ := vals1 r
  have hn := line63
  exact len_str (by omega) ⟨.int z.length, H, I.tok _, ⟨_, rfl⟩, q⟩
theorem CallR.or {f : Value} {r r' : List V → Hp → VK → Prop} (h : CallR X f r) (h' : CallR X f r') : CallR X f (fun xs H Q => r xs H Q ∨ r' xs H Q) := by
  intro pins s σ H xs us Q I rs q
  rcases q with q | q
  · exact h pins s σ H xs us Q I rs q
  · exact h' pins s σ H xs us Q I rs q
theorem call_list_of : CallR X (.type "list") (fun xs H Q => ∃ p ys, xs = [.ref p] ∧ (SqL X.K H p ys ∨ SqT X.K H p ys) ∧ ∀ l, H l = none → Q (.ref l) (upd H l (.lst ys))) := by
  intro pins s σ H xs us Q I r h
  obtain ⟨p, ys, rfl, hq, q⟩ := h
  obtain ⟨u, rfl, rx⟩ := vals1 r
  cases rx
  have fin : ∀ (its : List Value), Vals ys its → ys.length ≤ sizeLine → ∀ (h' : Heap) (c' : Nat), (∀ b o', s.heap.get? b = some o' → h'.get? b = some o') →
      h'.get? s.heap.objs.size = some { cls := .type "list", dict := none, data := .seq its.toArray c', slots := #[] } → EP X pins σ Q (.ref s.heap.objs.size) { s with heap := h' } := fun its r' hz h' c' kp e =>
    ⟨.ref s.heap.objs.size, _, I.laid (t' := s.toks) kp (Nat.le_refl _) (show ObjOk X.prog X.w _ h' _ (.lst ys) from ⟨hz, its, c', r', e⟩), rfl, q _ (I.hok.fresh (Nat.le_refl _))⟩
  rcases hq with hq | hq
  · obtain ⟨its, r', pl, hz⟩ := I.list hq
    have hlen := r'.length
    obtain ⟨o, ho, hc, n, hd⟩ := pl.isList
    exact call_list_seq p (.inl rfl) ho hc hd (fun h' c' kp e => fin its r' hz h' c' kp e) (by simp only [List.size_toArray] <;> omega)
  · obtain ⟨its, r', pl, hz⟩ := I.tuple hq
    have hlen := r'.length
    obtain ⟨o, ho, hc, n, hd⟩ := pl
    exact call_list_seq p (.inr rfl) ho hc hd (fun h' c' kp e => fin its r' hz h' c' kp e) (by simp only [List.size_toArray] <;> omega)
theorem call_tuple_of : CallR X (.type "tuple") (fun xs H Q => ∃ p ys, xs = [.ref p] ∧ ((SqL X.K H p ys ∧ ∀ l, H l = none → Q (.ref l) (upd H l (.tup ys))) ∨ (SqT X.K H p ys ∧ Q (.ref p) H))) := by
  intro pins s σ H xs us Q I r h
  obtain ⟨p, ys, rfl, h⟩ := h
  obtain ⟨u, rfl, rx⟩ := vals1 r
  cases rx
  rcases h with ⟨hq, q⟩ | ⟨hq, q⟩
  · obtain ⟨its, r', pl, hz⟩ := I.list hq
    have hlen := r'.length
    refine call_tuple_list pl.isList (fun h' kp => ?_) (by simp only [List.size_toArray] <;> omega)
    have I1 : Inv X pins σ H { s with heap := h' } := I.kept (t' := s.toks) kp
    have I2 : Inv X pins σ (upd H h'.objs.size (.tup ys)) { s with heap := h'.push { cls := .type "tuple", data := .seq its.toArray } } :=
      I1.laid (t' := s.toks) (fun b o e => Heap.get?_push_of_some _ e) (Nat.le_refl _) (show ObjOk X.prog X.w _ _ _ (.tup ys) from ⟨hz, its, r', IsTup.new _ _⟩)
    exact ⟨.ref h'.objs.size, _, I2, rfl, q _ (I1.hok.fresh (Nat.le_refl _))⟩
  · obtain ⟨its, r', pl, hz⟩ := I.tuple hq
    exact call_tuple_same pl ⟨.ref p, H, I, rfl, q⟩

/-! ### the call of a builtin's method: o.m(..) -/
/-- the value is of that builtin type -/
def tyV (K : PySem.W.Frag) (T : String) (x : V) (H : Hp) : Prop := match x with
  | .str _ => T = "str"
  | .int _ => T = "int"
  | .ref p => (T = "list" ∧ ∃ xs, SqL K H p xs) ∨ (T = "tuple" ∧ ∃ o, K.lookup p = some o ∧ o.cls = .type "tuple" ∧ o.dict = none) ∨
      (T = "dict" ∧ ((∃ kvs, H p = some (.dK kvs)) ∨ ∃ kvs, H p = some (.dT kvs))) ∨ (T = "set" ∧ ∃ S n, H p = some (.set S n))
  | _ => False
theorem tyV_is {pins : List (Addr × Obj)} {σ : St} {H : Hp} {s : Shared} {T : String} {x : V} {v : Value} (I : Inv X pins σ H s) (r : RelV x v) (ty : tyV X.K T x H) :
    s.TypeIs v T ∧ ∀ a, v = .ref a → ∃ ob, s.heap.get? a = some ob ∧ ob.dict = none := by
  cases x with
  | str z =>
    obtain ⟨t, rfl⟩ := r
    cases (show T = "str" from ty)
    exact ⟨typeIs_str s z t, fun _ e => nomatch e⟩
  | int i =>
    obtain ⟨t, rfl⟩ := r
    cases (show T = "int" from ty)
    exact ⟨typeIs_int s i t, fun _ e => nomatch e⟩
  | ref p =>
    cases r
    rcases ty with ⟨rfl, xs, hq⟩ | ⟨rfl, o, hk, hc, hd⟩ | ⟨rfl, hk⟩ | ⟨rfl, S, n, hk⟩
    · obtain ⟨its, _, pl, _⟩ := I.list hq
      refine ⟨pl.isList.typeIs, fun a e => ?_⟩
      cases e
      obtain ⟨o, n, e, c, hd, _⟩ := pl
      exact ⟨o, e, hd⟩
    · refine ⟨⟨o, I.kIn p o hk, hc⟩, fun a e => ?_⟩
      cases e
      exact ⟨o, I.kIn _ o hk, hd⟩
    · have z : ∃ o, s.heap.get? p = some o ∧ o.ExactDict := by
        rcases hk with ⟨kvs, hk⟩ | ⟨kvs, hk⟩
        · obtain ⟨_, _, _, _, o, _, _, e, ex, _⟩ := I.hok p _ hk
          exact ⟨o, e, ex⟩
        · obtain ⟨_, _, _, _, o, _, _, e, ex, _⟩ := I.hok p _ hk
          exact ⟨o, e, ex⟩
      obtain ⟨o, e, ex⟩ := z
      refine ⟨⟨o, e, ex.1⟩, fun a e2 => ?_⟩
      cases e2
      exact ⟨o, e, ex.2.1⟩
    · obtain ⟨o, _, _, _, e, ex, _⟩ := I.hok p _ hk
      refine ⟨⟨o, e, ex.1⟩, fun a e2 => ?_⟩
      cases e2
      exact ⟨o, e, ex.2.1⟩
  | _ => exact False.elim ty
def tBM0 (K : PySem.W.Frag) (T : String) (r : V → List V → Hp → VK → Prop) (to : TE) : TE := fun σ H Q => to σ H fun x H1 => tyV K T x H1 ∧ r x [] H1 Q
def tBM (K : PySem.W.Frag) (T : String) (r : V → List V → Hp → VK → Prop) (to : TE) (t : TA) : TE := fun σ H Q => to σ H fun x H1 => tyV K T x H1 ∧ t σ H1 fun xs H2 => r x xs H2 Q
variable {o e : Expr} {es : List Expr} {to : TE} {t : TA} {name : Str} {apos cpos : Pos} {T id : String} {r : V → List V → Hp → VK → Prop}
theorem pe_bm0 (pa : PlainAttrs T) (slot : Slot T name id) (hty : typeOf (.builtin id) = pure (.type "method_descriptor")) (hm : MtR X id r) (ho : PE X o to)
    (hbase : attributeBase o name X.env (eval o X.env) = eval o X.env := by rfl) (hline : (apos.endLine == cpos.line) = true := by rfl) : PE X (.Call (.Attribute o name apos) [] [] cpos) (tBM0 X.K T r to) := by
  intro pins s σ H Q I h
  refine wpAny_Call_method0_late hbase hline (thn (ho pins s σ H _ I h) fun v s1 ⟨x, H1, I1, r1, ty, q1⟩ => ?_)
  obtain ⟨h1, h2⟩ := tyV_is I1 r1 ty
  exact ⟨T, id, pa, slot, hty, h1, h2, Calls.callWith_builtin rfl (PySem.evalArgs_none (hm pins s1 σ H1 x [] v [] Q I1 r1 .nil q1))⟩
theorem pe_bm (pa : PlainAttrs T) (slot : Slot T name id) (hty : typeOf (.builtin id) = pure (.type "method_descriptor")) (hm : MtR X id r) (ho : PE X o to) (ha : PA X (e :: es) t)
    (hbase : attributeBase o name X.env (eval o X.env) = eval o X.env := by rfl)
    (hfew : ((backTo cpos (starEach (e :: es) X.env)).all (fun x => !x.1) && (backToKw cpos (keywordEach [] X.env)).all (fun x => x.1.isSome)
      && decide ((e :: es).length + ([] : List Keyword).length + (if ([] : List Keyword).isEmpty then 0 else 1) < 30)) = true := by rfl)
    (hline : (apos.endLine == cpos.line) = true := by rfl) (hs : starEach (e :: es) X.env = (false, eval e X.env) :: starEach es X.env := by rfl) (hplain : (backTo cpos (starEach es X.env)).any (·.1) = false := by rfl) :
    PE X (.Call (.Attribute o name apos) (e :: es) [] cpos) (tBM X.K T r to t) := by
  intro pins s σ H Q I h
  refine wpAny_Call_method_late hbase hfew hline rfl (thn (ho pins s σ H _ I h) fun v s1 ⟨x, H1, I1, r1, ty, q1⟩ => ?_)
  obtain ⟨h1, h2⟩ := tyV_is I1 r1 ty
  refine ⟨T, id, pa, slot, hty, h1, h2, ?_⟩
  have hA := ha cpos pins s1 σ H1 _ I1 q1
  rw [hs] at hA ⊢
  refine Calls.callWith_builtin (by show (false || (backTo cpos (starEach es X.env)).any (·.1)) = false; rw [hplain] <;> rfl) (Calls.evalArgs_plain ?_)
  exact thn hA fun us s2 ⟨vs, H2, I2, r2, q2⟩ => hm pins s2 σ H2 x vs v us Q I2 r1 r2 q2
/- xs.append(e), list.index on a module's tuple .. are MtR facts of 06m -/
end
end L2

namespace L2
open PySem PySem.Spec PyProof.Rows

def MtM (X : Cx) (id : String) (r : V → List V → Hp → VK → Prop) : Prop :=
  ∀ (pins : List (Addr × Obj)) (s : Shared) (σ : St) (H : Hp) (x : V) (xs : List V) (v : Value) (us : List Value) (Q : VK), Inv X pins σ H s → RelV x v → Vals xs us → r x xs H Q →
    wpAny (model X.prog X.w) X.A (call (.builtin id) (v :: us)) (EP X pins σ Q) X.xe s

/-! ### lists of values -/
theorem Vals.one : ∀ {x : V} {us : List Value}, Vals [x] us → ∃ u, us = [u] ∧ RelV x u
  | _, _, .cons r .nil => ⟨_, rfl, r⟩
theorem Vals.two : ∀ {x y : V} {us : List Value}, Vals [x, y] us → ∃ u v, us = [u, v] ∧ RelV x u ∧ RelV y v
  | _, _, _, .cons r (.cons q .nil) => ⟨_, _, rfl, r, q⟩
theorem Vals.zero : ∀ {us : List Value}, Vals [] us → us = []
  | _, .nil => rfl
theorem Vals.dropLast {xs : List V} {us : List Value} (h : Vals xs us) : Vals xs.dropLast us.dropLast := by
  induction h with
  | nil => exact .nil
  | cons r t ih =>
    cases t with
    | nil => exact .nil
    | cons q t' => exact .cons r ih
theorem Vals.eraseIdx : ∀ {xs : List V} {us : List Value} (i : Nat), Vals xs us → Vals (xs.eraseIdx i) (us.eraseIdx i)
  | _, _, _, .nil => .nil
  | _, _, 0, .cons _ t => t
  | _, _, i + 1, .cons r t => .cons r (Vals.eraseIdx i t)
theorem Vals.reverse {xs : List V} {us : List Value} (h : Vals xs us) : Vals xs.reverse us.reverse := by
  induction h with
  | nil => exact .nil
  | cons r t ih => rw [List.reverse_cons, List.reverse_cons]; exact Vals.append ih (.cons r .nil)
theorem Vals.rep {xs : List V} {us : List Value} (h : Vals xs us) : ∀ k : Nat, Vals (List.replicate k xs).flatten (List.replicate k us).flatten
  | 0 => .nil
  | k + 1 => by
    rw [List.replicate_succ, List.replicate_succ, List.flatten_cons, List.flatten_cons]
    exact Vals.append h (Vals.rep h k)
theorem erase_last {α : Type} (l : List α) : l.eraseIdx (l.length - 1) = l.dropLast := by
  induction l with
  | nil => rfl
  | cons a r ih =>
    cases r with
    | nil => rfl
    | cons b r =>
      have e : (a :: b :: r).length - 1 = ((b :: r).length - 1) + 1 := by
        have h1 : (a :: b :: r).length = r.length + 2 := rfl
        have h2 : (b :: r).length = r.length + 1 := rfl
        omega
      rw [e, List.eraseIdx_cons_succ, ih]
      all_goals rfl
theorem len_erase {α : Type} : ∀ (l : List α) (i : Nat), (l.eraseIdx i).length ≤ l.length
  | [], _ => Nat.le_refl _
  | _ :: _, 0 => Nat.le_succ _
  | _ :: r, i + 1 => Nat.succ_le_succ (len_erase r i)
theorem foldl_rep (its : List Value) : ∀ (k : Nat) (acc : List Value),
    List.foldl (fun x1 x2 => x1 ++ x2) acc.toArray (List.replicate k its.toArray) = (acc ++ (List.replicate k its).flatten).toArray
  | 0, acc => by simp
  | k + 1, acc => by
    have e : acc.toArray ++ its.toArray = (acc ++ its).toArray := by simp
    have e2 : (acc ++ its) ++ (List.replicate k its).flatten = acc ++ (List.replicate (k + 1) its).flatten := by
      rw [List.replicate_succ, List.flatten_cons, List.append_assoc]
    rw [← e2, ← foldl_rep its k (acc ++ its), ← e, List.replicate_succ, List.foldl_cons]

section
variable {X : Cx} {pins : List (Addr × Obj)} {σ : St} {H : Hp} {s : Shared} {l b : Addr} {xs ys zs : List V}

/-! ### the two steps: a tracked list is rewritten, a new list is laid -/
theorem Inv.lset {its its' : List Value} {n : Nat} {f : Array Value → Array Value} {t' : Nat} (I : Inv X pins σ H s) (hH : H l = some (.lst xs))
    (e : s.heap.get? l = some { cls := .type "list", data := .seq its.toArray n }) (hf : f its.toArray = its'.toArray) (hv : Vals ys its') (hz : ys.length ≤ sizeLine) :
    Inv X pins σ (upd H l (.lst ys)) { s with heap := s.heap.update l (Obj.mapSeq f), toks := t' } := by
  have q := PySem.IsL.update e f
  rw [hf] at q
  refine I.write (x := l) (e := l) (by rw [hH]; exact trivial) (.inl rfl) (fun b' u hb hu => (Heap.get?_update_other s.heap (Obj.mapSeq f) (Ne.symm hb)).trans hu) ⟨_, q⟩ ?_
  exact ⟨hz, its', _, hv, q⟩
theorem Inv.lnew {its : List Value} {t' : Nat} (I : Inv X pins σ H s) (hv : Vals ys its) (hz : ys.length ≤ sizeLine) :
    Inv X pins σ (upd H s.heap.objs.size (.lst ys)) { s with heap := s.heap.push { cls := .type "list", data := .seq its.toArray }, toks := t' } :=
  I.laid (fun _ _ q => Heap.get?_push_of_some _ q) (Nat.le_refl _) ⟨hz, its, 0, hv, Heap.get?_push_size _ rfl⟩
theorem Inv.fresh (I : Inv X pins σ H s) : H s.heap.objs.size = none := I.hok.fresh (Nat.le_refl _)
theorem Inv.lstM (I : Inv X pins σ H s) (hH : H l = some (.lst xs)) : xs.length ≤ sizeLine ∧ ∃ (its : List Value) (n : Nat), Vals xs its ∧ xs.length = its.length ∧ s.heap.get? l = some { cls := .type "list", data := .seq its.toArray n } := by
  obtain ⟨z, its, n, r, e⟩ := I.hok l _ hH
  exact ⟨z, its, n, r, r.length, e⟩

theorem notLongL {n : Nat} (h : n ≤ sizeLine) : Builtin.List.listTooLong n = false := by
  unfold Builtin.List.listTooLong
  exact decide_eq_false (by omega)
end

section
variable {X : Cx}

/-! ### methods -/
def rAppend : V → List V → Hp → VK → Prop := fun x vs H Q => ∃ l xs y, x = .ref l ∧ vs = [y] ∧ H l = some (.lst xs) ∧ xs.length < sizeLine ∧ Q .non (upd H l (.lst (xs ++ [y])))
theorem mt_append : MtM X "list.append" rAppend := by
  intro pins s σ H x vs v us Q I rx rv h
  obtain ⟨l, xs, y, rfl, rfl, hH, hz, q⟩ := h
  cases rx
  obtain ⟨u, rfl, ru⟩ := rv.one
  obtain ⟨z, its, n, r, hl, e⟩ := I.lstM hH
  refine call_meets F.slot_list_append ⟨_, e, rfl⟩ F.entry_list_append (F.args_list_append_2 _ _) (PySem.list_append l its.toArray n u (by rw [List.size_toArray]; omega)) ⟨e, ?_⟩
  refine ⟨.non, _, I.lset (its' := its ++ [u]) hH e (by simp) (r.append (.cons ru .nil)) ?_, rfl, q⟩
  rw [List.length_append, List.length_singleton]
  omega

def rExtend : V → List V → Hp → VK → Prop := fun x vs H Q => ∃ l b xs zs, x = .ref l ∧ vs = [.ref b] ∧ H l = some (.lst xs) ∧ H b = some (.lst zs) ∧ xs.length + zs.length ≤ sizeLine ∧ Q .non (upd H l (.lst (xs ++ zs)))
theorem mt_extend : MtM X "list.extend" rExtend := by
  intro pins s σ H x vs v us Q I rx rv h
  obtain ⟨l, b, xs, zs, rfl, rfl, hH, hB, hz, q⟩ := h
  cases rx
  obtain ⟨u, rfl, ru⟩ := rv.one
  cases ru
  obtain ⟨z, its, n, r, hl, e⟩ := I.lstM hH
  obtain ⟨z2, its2, n2, r2, hl2, e2⟩ := I.lstM hB
  have hsz : its.toArray.size + its2.toArray.size ≤ sizeLine := by rw [List.size_toArray, List.size_toArray]; omega
  have hlong : ¬ (!its.toArray.isEmpty && Builtin.List.listTooLong (its.toArray.size + its2.toArray.size)) = true := by
    rw [notLongL hsz, Bool.and_false]
    exact Bool.false_ne_true
  refine call_meets F.slot_list_extend ⟨_, e, rfl⟩ F.entry_list_extend (F.args_list_extend_2 _ _)
    (AutoSeq1.list_extend_list_list_0 l its.toArray n b its2.toArray n2 hlong (by rw [List.size_toArray]; omega) (by omega)) ⟨e, e2, ?_⟩
  refine ⟨.non, _, I.lset (its' := its ++ its2) hH e (by simp) (r.append r2) ?_, rfl, q⟩
  rw [List.length_append]
  omega

def rPop : V → List V → Hp → VK → Prop := fun x vs H Q => ∃ l xs y, x = .ref l ∧ vs = [] ∧ H l = some (.lst xs) ∧ xs[xs.length - 1]? = some y ∧ Q y (upd H l (.lst xs.dropLast))
theorem mt_pop : MtM X "list.pop" rPop := by
  intro pins s σ H x vs v us Q I rx rv h
  obtain ⟨l, xs, y, rfl, rfl, hH, hy, q⟩ := h
  cases rx
  have hus := rv.zero
  subst hus
  obtain ⟨z, its, n, r, hl, e⟩ := I.lstM hH
  obtain ⟨u, hu, ru⟩ := r.get hy
  have hy' : its.toArray[its.toArray.size - 1]? = some u := by
    show its.toArray[its.length - 1]? = some u
    rw [← Array.getElem?_toList, ← hl]
    exact hu
  refine call_meets F.slot_list_pop ⟨_, e, rfl⟩ F.entry_list_pop (F.args_list_pop_1 _) (MeetsSeq.list_pop_last l its.toArray n u hy' (by rw [List.size_toArray]; omega)) ⟨e, ?_⟩
  refine ⟨y, _, I.lset (its' := its.dropLast) hH e ?_ r.dropLast ?_, ru, q⟩
  · show its.toArray.eraseIdxIfInBounds (its.toArray.size - 1) = its.dropLast.toArray
    rw [List.size_toArray, List.eraseIdxIfInBounds_toArray, erase_last]
  · rw [List.length_dropLast]
    omega

def rPopAt : V → List V → Hp → VK → Prop := fun x vs H Q => ∃ l xs i k y, x = .ref l ∧ vs = [.int i] ∧ H l = some (.lst xs) ∧ -(2 ^ 63) ≤ i ∧ i < 2 ^ 63 ∧ seqIndex? i xs.length = some k ∧ xs[k]? = some y ∧ Q y (upd H l (.lst (xs.eraseIdx k)))
theorem mt_popAt : MtM X "list.pop" rPopAt := by
  intro pins s σ H x vs v us Q I rx rv h
  obtain ⟨l, xs, i, k, y, rfl, rfl, hH, h1, h2, hk, hy, q⟩ := h
  cases rx
  obtain ⟨u, rfl, ru⟩ := rv.one
  obtain ⟨t, rfl⟩ := ru
  obtain ⟨z, its, n, r, hl, e⟩ := I.lstM hH
  obtain ⟨w, hw, rw'⟩ := r.get hy
  refine call_meets F.slot_list_pop ⟨_, e, rfl⟩ F.entry_list_pop (F.args_list_pop_2 _ _)
    (MeetsSeq.list_pop_at l its.toArray n i t k w (fitsIndex_both h1 h2) (by rw [List.size_toArray, ← hl]; exact hk) (by rw [← Array.getElem?_toList]; exact hw) (by rw [List.size_toArray]; omega)) ⟨e, ?_⟩
  refine ⟨y, _, I.lset (its' := its.eraseIdx k) hH e ?_ (r.eraseIdx k) ?_, rw', q⟩
  · show its.toArray.eraseIdxIfInBounds k = (its.eraseIdx k).toArray
    rw [List.eraseIdxIfInBounds_toArray]
  · have := len_erase xs k
    omega

def rReverse : V → List V → Hp → VK → Prop := fun x vs H Q => ∃ l xs, x = .ref l ∧ vs = [] ∧ H l = some (.lst xs) ∧ Q .non (upd H l (.lst xs.reverse))
theorem mt_reverse : MtM X "list.reverse" rReverse := by
  intro pins s σ H x vs v us Q I rx rv h
  obtain ⟨l, xs, rfl, rfl, hH, q⟩ := h
  cases rx
  have hus := rv.zero
  subst hus
  obtain ⟨z, its, n, r, hl, e⟩ := I.lstM hH
  refine call_meets F.slot_list_reverse ⟨_, e, rfl⟩ F.entry_list_reverse (F.args_list_reverse_1 _) (AutoSeq1.list_reverse_list_0 l its.toArray n (by rw [List.size_toArray]; omega)) ⟨e, ?_⟩
  refine ⟨.non, _, I.lset (its' := its.reverse) hH e (by simp) r.reverse ?_, rfl, q⟩
  rw [List.length_reverse]
  omega

def rClear : V → List V → Hp → VK → Prop := fun x vs H Q => ∃ l xs, x = .ref l ∧ vs = [] ∧ H l = some (.lst xs) ∧ Q .non (upd H l (.lst []))
theorem mt_clear : MtM X "list.clear" rClear := by
  intro pins s σ H x vs v us Q I rx rv h
  obtain ⟨l, xs, rfl, rfl, hH, q⟩ := h
  cases rx
  have hus := rv.zero
  subst hus
  obtain ⟨z, its, n, r, hl, e⟩ := I.lstM hH
  refine call_meets F.slot_list_clear ⟨_, e, rfl⟩ F.entry_list_clear (F.args_list_clear_1 _) (AutoSeq1.list_clear_list_0 l its.toArray n (by rw [List.size_toArray]; omega)) ⟨e, ?_⟩
  exact ⟨.non, _, I.lset (its' := []) (ys := []) hH e rfl .nil (Nat.zero_le _), rfl, q⟩

/-! ### list + list, list += list, list * int -/
def rCat : R2 := fun x y H Q => ∃ l b xs zs, x = .ref l ∧ y = .ref b ∧ H l = some (.lst xs) ∧ H b = some (.lst zs) ∧ xs.length + zs.length ≤ sizeLine ∧ ∀ p, H p = none → Q (.ref p) (upd H p (.lst (xs ++ zs)))
theorem op_cat : OpR X (binaryOp .Add) rCat := by
  intro pins s σ H x y v u Q I rx ry h
  obtain ⟨l, b, xs, zs, rfl, rfl, hH, hB, hz, q⟩ := h
  cases rx
  cases ry
  obtain ⟨z, its, n, r, hl, e⟩ := I.lstM hH
  obtain ⟨z2, its2, n2, r2, hl2, e2⟩ := I.lstM hB
  refine PySem.P.add_list e e2 ?_ (by rw [List.size_toArray, List.size_toArray]; omega)
  have ea : its.toArray ++ its2.toArray = (its ++ its2).toArray := by simp
  rw [ea]
  exact ⟨.ref _, _, I.lnew (t' := s.toks) (r.append r2) (by rw [List.length_append]; omega), rfl, q _ I.fresh⟩
/-- a list times an int (a negative one is nothing) -/
def rRep : R2 := fun x y H Q => ∃ l k xs, x = .ref l ∧ y = .int k ∧ H l = some (.lst xs) ∧ -(2 ^ 63) ≤ k ∧ k < 2 ^ 63 ∧ xs.length * k.toNat ≤ sizeLine ∧
  ∀ p, H p = none → Q (.ref p) (upd H p (.lst (List.replicate k.toNat xs).flatten))
theorem len_rep {α : Type} (xs : List α) (k : Nat) : (List.replicate k xs).flatten.length = k * xs.length := by
  induction k with
  | zero => simp
  | succ k ih => rw [List.replicate_succ, List.flatten_cons, List.length_append, ih, Nat.succ_mul, Nat.add_comm]
theorem op_rep : OpR X (binaryOp .Mult) rRep := by
  intro pins s σ H x y v u Q I rx ry h
  obtain ⟨l, k, xs, rfl, rfl, hH, h1, h2, hz, q⟩ := h
  cases rx
  obtain ⟨t, rfl⟩ := ry
  obtain ⟨z, its, n, r, hl, e⟩ := I.lstM hH
  have hlen : its.toArray.size * k.toNat ≤ sizeLine := by rw [List.size_toArray, ← hl]; exact hz
  have hcap : ¬ its.toArray.size * k.toNat > (2 ^ 63 - 1) / 8 := by
    have : (sizeLine : Nat) ≤ (2 ^ 63 - 1) / 8 := by decide
    omega
  have hfit : ¬ (!Builtin.List.listFitsIndex k) = true := by
    rw [fitsIndex_both h1 h2]
    exact Bool.false_ne_true
  have hlong : ¬ Builtin.List.listTooLong (its.toArray.size * k.toNat) = true := by
    rw [notLongL hlen]
    exact Bool.false_ne_true
  have hnew : List.foldl (fun x1 x2 => x1 ++ x2) #[] (List.replicate (if its.toArray.isEmpty = true then 0 else k.toNat) its.toArray) = (List.replicate k.toNat its).flatten.toArray := by
    have f0 : ∀ m : Nat, List.foldl (fun x1 x2 => x1 ++ x2) #[] (List.replicate m its.toArray) = (List.replicate m its).flatten.toArray := fun m => by
      have := foldl_rep its m []
      rw [List.nil_append] at this
      exact this
    rw [f0]
    cases its with
    | nil => simp
    | cons a r' => rw [if_neg (by simp)]
  refine wpAny_binaryOp_repeat_ref (T := "list") (U := "int") (by decide) ⟨_, e, rfl⟩ (fun s' => typeIs_int s' k t) noFill_list_mul F.fills_int_mul F.slot_int_rmul repeat_list F.slot_int_index.lookup
    (call_meets F.slot_int_rmul (typeIs_int s k t) F.entry_int_rmul (F.args_int_rmul_2 _ _) (int___rmul___int_list k t l its.toArray n)
      ⟨e, rfl, ⟨_, e, rfl⟩, call_meets F.slot_list_mul ⟨_, e, rfl⟩ F.entry_list_mul (F.args_list_mul_2 _ _) (AutoListH.list___mul___list_int_3 l its.toArray n k t hfit hcap hlong) ⟨e, ?_⟩⟩)
  rw [hnew]
  exact ⟨.ref _, _, I.lnew (t' := s.toks) (r.rep k.toNat) (by rw [len_rep, Nat.mul_comm]; exact hz), rfl, q _ I.fresh⟩

/-! ### del xs[i] -/
theorem del_list {pins : List (Addr × Obj)} {s : Shared} {σ : St} {H : Hp} {l : Addr} {xs : List V} {i : Int} {t : Tok} {k : Nat} {Q : Unit → Shared → Prop} (I : Inv X pins σ H s) (hH : H l = some (.lst xs))
    (h1 : -(2 ^ 63) ≤ i) (h2 : i < 2 ^ 63) (hk : seqIndex? i xs.length = some k) (h : ∀ s', Inv X pins σ (upd H l (.lst (xs.eraseIdx k))) s' → Q () s') :
    wpAny (model X.prog X.w) X.A (delItem (.ref l) (.int i t)) Q X.xe s := by
  obtain ⟨z, its, n, r, hl, e⟩ := I.lstM hH
  refine PySem.P.delItem_list (k := k) e (fitsIndex_both h1 h2) (by rw [List.size_toArray, ← hl]; exact hk) (h _ ?_) (by rw [List.size_toArray]; omega)
  refine I.lset (its' := its.eraseIdx k) (t' := s.toks) hH e ?_ (r.eraseIdx k) ?_
  · show its.toArray.eraseIdxIfInBounds k = (its.eraseIdx k).toArray
    rw [List.eraseIdxIfInBounds_toArray]
  · have := len_erase xs k
    omega
end

/-! ### xs[a:b] = ys -/
section
variable {prog : Program} {w : World} {A : Around} {E : Value → Shared → Prop} {s : Shared}
theorem splice_eq (its its2 : List Value) (a c : Nat) : its.toArray.extract 0 a ++ its2.toArray ++ its.toArray.extract c its.toArray.size = (its.take a ++ its2 ++ its.drop c).toArray := by
  apply Array.toList_inj.mp
  first
    | (simp
       exact List.take_of_length_le (by simp))
    | simp [List.take_of_length_le]
    | simp
theorem bounds_run {a c n : Nat} (hac : a ≤ c) (hc : c ≤ n) : sliceBounds (some (a : Int)) (some (c : Int)) none n = ((a : Int), (c : Int), 1) := by
  simp only [sliceBounds, Option.getD_none]
  have h1 : ¬ ((a : Int) < 0) := by omega
  have h2 : ¬ ((c : Int) < 0) := by omega
  simp only [h1, h2, if_false, show (1 : Int) > 0 by decide, if_true]
  congr 1
  · omega
  · congr 1; omega
set_option maxRecDepth 100000 in
/-- list.__setitem__ with a slice of step one and another list -/
theorem setItem_slice {l b sl : Addr} {items new : Array Value} {n n2 : Nat} {vl vu : Value} {a c : Nat} {Q : Unit → Shared → Prop}
    (e : s.heap.get? l = some { cls := .type "list", data := .seq items n }) (e2 : s.heap.get? b = some { cls := .type "list", data := .seq new n2 }) (hne : l ≠ b)
    (hs : s.heap.IsSliceOf sl vl vu .none) (pl : IsPart vl (some (a : Int))) (pu : IsPart vu (some (c : Int))) (hac : a ≤ c) (hc : c ≤ items.size)
    (hsz : items.size + new.size ≤ sizeLine) (h : Q () { s with heap := s.heap.update l (Obj.mapSeq fun xs => xs.extract 0 a ++ new ++ xs.extract c xs.size) }) :
    wpAny (model prog w) A (setItem (.ref l) (.ref sl) (.ref b)) Q E s := by
  have hl : s.heap.IsList l items := PySem.IsL.isList e
  have hb : s.heap.IsList b new := PySem.IsL.isList e2
  obtain ⟨os, hos, hcs, hds⟩ := id hs
  have hTs : s.TypeIs (.ref sl) "slice" := ⟨os, hos, hcs⟩
  have hstep : ¬ ((rawPart none == rawInt 0) = true) := Bool.false_ne_true
  have hsame : Builtin.List.listSameRef (.ref l) (.ref b) = false := by
    unfold Builtin.List.listSameRef
    exact beq_eq_false_iff_ne.mpr hne
  have hmax : (max (a : Int) (c : Int)).toNat = c := by omega
  have hz' : ((fun xs : Array Value => xs.extract 0 a ++ new ++ xs.extract c xs.size) items).size ≤ sizeLine + 1 := by
    simp only [Array.size_append, Array.size_extract]
    omega
  unfold setItem
  try with_reducible refine wpAny_holding ?_
  first | refine wpAny_bind (wpAny_pure ?_) | skip
  refine wpAny_bind (wpAny_sequenceKey hl.typeIs (by decide) ?_)
  refine wpAny_bind (wpAny_callSpecial?_slot (name := Str.ofString "__setitem__") hl.typeIs slot_list_setitem
    (wpAny_call_entry slot_list_setitem hl.typeIs entry_list_setitem ?_ (args_list_setitem _ _ _)))
  show wpAny _ _ (Builtin.List.listSubscript? (.ref sl) >>= _) _ _ s
  refine wpAny_bind ?_
  unfold Builtin.List.listSubscript?
  refine wpAny_bind (wpAny_specialOf hTs slice_no_index ?_)
  simp only [Option.isNone_none, if_true]
  refine wpAny_pure ?_
  show wpAny _ _ (typeOf (.ref sl) >>= _) _ _ s
  refine wpAny_bind (wpAny_typeOf hTs ?_)
  first
    | rw [if_neg (by decide)]
    | refine PySem.W.KFB.if_not (by decide) ?_
  rw [listSliceParts_eq]
  refine wpAny_bind (wpAny_bind (wpAny_field hos hds (x := .none) rfl (wpAny_bind (wpAny_listPart .none ?_))))
  rw [if_neg hstep]
  refine wpAny_bind (wpAny_field hos hds (x := vl) rfl (wpAny_bind (wpAny_listPart pl ?_)))
  refine wpAny_bind (wpAny_field hos hds (x := vu) rfl (wpAny_bind (wpAny_listPart pu (wpAny_pure ?_))))
  first
    | simp only [hsame, Bool.false_eq_true, if_false]
    | refine PySem.W.KFB.if_not hsame ?_
    | (dsimp only
       rw [if_neg (by rw [hsame]; exact Bool.false_ne_true)])
  refine wpAny_bind (m := Builtin.List.listAllItems (.ref b) "must assign iterable to extended slice") ?_
  unfold Builtin.List.listAllItems
  refine wpAny_bind (wpAny_typeOf hb.typeIs ?_)
  first
    | refine PySem.W.KFB.if_so (by decide) ?_
    | rw [if_pos (by decide)]
    | simp only [beq_self_eq_true, Bool.true_or, if_true]
  unfold Builtin.List.listItems
  refine wpAny_bind (wpAny_seqItems e2 rfl (wpAny_pure ?_))
  refine wpAny_bind (wpAny_bind (wpAny_seqItems e rfl (wpAny_pure ?_)))
  refine wpAny_bind (wpAny_of_eq ((sliceIndices_raw (some (a : Int)) (some (c : Int)) none items.size (by simp)).trans (congrArg (pure : Int × Int × Int → Sem (Int × Int × Int)) (bounds_run hac hc))) ?_)
  show wpAny _ _ (if ((1 : Int) == 1) = true then _ else _) _ _ s
  rw [if_pos (by decide)]
  refine wpAny_bind (wpAny_rule ?_)
  first
    | simp only [notLongL hsz, Bool.false_eq_true, if_false]
    | refine PySem.W.KFB.if_not (notLongL hsz) ?_
  first | refine wpAny_bind (wpAny_pure ?_) | skip
  show wpAny _ _ (updateSeq l (fun xs => xs.extract 0 ((a : Int)).toNat ++ new ++ xs.extract (max (a : Int) (c : Int)).toNat xs.size) >>= _) _ _ s
  rw [hmax, Int.toNat_natCast]
  refine wpAny_bind (wpAny_updateSeq (hz := Nat.le_trans (Nat.le_add_right _ _) hsz) (_hz' := hz') e rfl ?_)
  refine wpAny_bind (wpAny_letGo ?_)
  first
    | exact wpAny_bind (wpAny_pure (wpAny_pure ⟨.none, rfl, wpAny_pure h⟩))
    | exact wpAny_pure ⟨.none, rfl, wpAny_pure h⟩
end

section
variable {X : Cx}
/-- xs[a:c] = ys of another list, at the value level: sl is the slice object that was just made -/
theorem set_slice {pins : List (Addr × Obj)} {s : Shared} {σ : St} {H : Hp} {l b sl : Addr} {xs ys : List V} {a c : Int} {vl vu : Value} {Q : Unit → Shared → Prop} (I : Inv X pins σ H s)
    (hH : H l = some (.lst xs)) (hB : H b = some (.lst ys)) (hne : l ≠ b) (hs : s.heap.IsSliceOf sl vl vu .none) (ra : RelV (.int a) vl) (rc : RelV (.int c) vu) (h0 : 0 ≤ a) (hac : a ≤ c) (hc : c ≤ xs.length)
    (hz : xs.length + ys.length ≤ sizeLine) (h : ∀ s', Inv X pins σ (upd H l (.lst (xs.take a.toNat ++ ys ++ xs.drop c.toNat))) s' → Q () s') :
    wpAny (model X.prog X.w) X.A (setItem (.ref l) (.ref sl) (.ref b)) Q X.xe s := by
  obtain ⟨ta, rfl⟩ := ra
  obtain ⟨tc, rfl⟩ := rc
  obtain ⟨z, its, n, r, hl, e⟩ := I.lstM hH
  obtain ⟨z2, its2, n2, r2, hl2, e2⟩ := I.lstM hB
  obtain ⟨a', rfl⟩ := Int.eq_ofNat_of_zero_le h0
  obtain ⟨c', rfl⟩ := Int.eq_ofNat_of_zero_le (Int.le_trans h0 hac)
  simp only [Int.toNat_natCast] at h
  refine setItem_slice (a := a') (c := c') e e2 hne hs (.int _ _) (.int _ _) (by omega) (by rw [List.size_toArray]; omega) (by rw [List.size_toArray, List.size_toArray]; omega) (h _ ?_)
  refine I.lset (its' := its.take a' ++ its2 ++ its.drop c') (t' := s.toks) hH e ?_ (Vals.append (Vals.append (r.take _) r2) (r.drop _)) ?_
  · exact splice_eq its its2 a' c'
  · rw [List.length_append, List.length_append, List.length_take, List.length_drop]
    omega
end
end L2

namespace Att
open PySem PySem.W PySem.Calls PyProof.Rows

/-! ### the script -/
theorem ints_of_wellAll {P : Params} {h : Heap} : ∀ (ns : List Int) (vs : List Value), WellAll P h vs (ns.map WData.int) → IntsAre vs ns := by
  intro ns
  induction ns with
  | nil =>
    intro vs w
    rw [List.map_nil] at w
    cases w
    exact .nil
  | cons n ns ih =>
    intro vs w
    rw [List.map_cons] at w
    cases w with
    | cons a b =>
      cases a
      exact .cons _ _ (ih _ b)

theorem script_of {l : OpenLaw} {n : Nat} (hn : l.most = some n) {P : Params} {h : Heap} {args : List WData} {vals : List Value}
    (hpre : l.row.toRowW.claim.pre args = true) (hwl : WellAll P h vals args) :
    ∃ a vs ns, vals = [Value.ref a] ∧ args = [WData.list (ns.map WData.int)] ∧ h.get? a = some { cls := .type "list", data := .seq vs.toArray } ∧ IntsAre vs ns ∧ ns.length ≤ n := by
  have hsh : WShape.hasAll [] args [.list .int] = true := (pre_splitW hpre).1
  have hc : l.pre.holds [] { args := args } = true := (pre_splitW hpre).2
  obtain ⟨d, r, rfl, h1, h2⟩ := hasAllW_cons hsh
  obtain rfl := hasAllW_nil h2
  obtain ⟨xs, rfl, h3⟩ := hasW_list h1
  obtain ⟨ns, rfl⟩ := items_int h3
  have hlen : ns.length ≤ n := by
    unfold OpenLaw.pre at hc
    have h4 : (WTm.not (.lt (.lit (.int (n : Int))) (.len (.arg 0)))).holds [] { args := [.list (ns.map .int)] } = true := by
      have h4 := (holds_andW hc).1
      rw [hn] at h4
      exact h4
    have h5 := condW_of h4 (w_not (w_lt w_lit (w_len_list (w_arg rfl))))
    rw [List.length_map] at h5
    refine Nat.le_of_not_lt fun q => ?_
    have q' : (n : Int) < ((ns.length : Nat) : Int) := by omega
    first
      | (rw [decide_eq_true q'] at h5; exact absurd h5 (by decide))
      | (simp at h5; omega)
  cases hwl with
  | cons w1 w2 =>
    cases w2
    cases w1 with
    | list ho hall => exact ⟨_, _, ns, rfl, rfl, ho, ints_of_wellAll ns _ hall, hlen⟩

theorem post_true (l : OpenLaw) (args : List WData) : l.row.toRowW.claim.post args (.bool true) args = true :=
  postW_of (r := l.row.toRowW) (X := (true == true))
    (show WShape.has [] (.bool true) .bool = true by first | rfl | decide | simp [WShape.has, WShape.arms, WShape.armsAll])
    (show (WTm.eq .res (.lit (.bool true))).value [] { args := args, res := some (.bool true), after := args } = some (.bool (true == true)) from w_eq_bool (w_res rfl) w_lit) rfl

/-! ### the attachment: holds_open's last premise (the goal 'hc' behind k_head) from a wpAny of the law's body -/
theorem attach {l : OpenLaw} {n : Nat} {q : Program} {loose : List Str} {XP : (Str → Option Value) → Heap → Prop} {YP : World → Heap → Prop} {d : DefRec} {x : Str}
    (hn : l.most = some n) (hdf : d.params.defaults = [])
    (hbind : ∀ pm cd doc v : Value, bindArgs (docDef d.name d.params d.body d.scope pm cd doc) ⟨[v], []⟩ = pure [(x, v)])
    (hx : d.scope.names.lookup x = some .local ∨ d.scope.names.lookup x = some .cell)
    (hk : d.scope.kind = .function) (hco : d.scope.isCoroutine = false) (hgen : d.scope.isGenerator = false)
    (body : ∀ (w : World) (s₀ s₁ s : Shared) (mg mb : Str → Option Value) (fa : Addr) (o : Obj) (pm cd doc : Value) (a : Addr) (vs : List Value) (ns : List Int),
      Ground q loose [] XP w s₀ mg mb s₁.heap → YP w s₁.heap →
      s₁.heap.get? fa = some o → o.data = .func (docDef d.name d.params d.body d.scope pm cd doc) → s₁.heap.CodeRec cd d.name → mg d.name = some (.ref fa) →
      s₁.heap.get? a = some { cls := .type "list", data := .seq vs.toArray } → IntsAre vs ns → ns.length ≤ n →
      s.gens = #[] → s.os = s₁.os →
      Fr s₁.heap s₁.heap.objs.size s.heap (bindL (envOfC d.name d.scope s₁.heap.objs.size fa cd).kindOf [(x, .ref a)] fun _ => none) →
      Cl s₁.heap.objs.size (cellsFrom (s₁.heap.objs.size + 1) d.scope.names []) s.heap (bindC (envOfC d.name d.scope s₁.heap.objs.size fa cd).kindOf [(x, .ref a)] fun _ => none) →
      wpAny (model l.prog w) (callerA.deeper (envOfC d.name d.scope s₁.heap.objs.size fa cd)) (execs d.body (envOfC d.name d.scope s₁.heap.objs.size fa cd))
        (fun f s' => f = .ret (.bool true) ∧ OldK s₁.heap s'.heap ∧ s'.os = s₁.os ∧ AllBare s'.gens) (fun _ _ => False) s) :
    WalkO q loose XP YP l.row.toRowW d [] (fun f vs => PySem.call f vs) := by
  intro w s₀ s₁ mg mb G Y fa o pm cd doc dV kV ho hd hcd hD hmg hg args vals as hpre hlay hrd hwl hlo
  obtain rfl : dV = .none := Dflts.none hD hdf
  obtain rfl : kV = .none := Dflts.noKw hD
  obtain ⟨a, vs, ns, rfl, rfl, hobj, hints, hlen⟩ := script_of hn hpre hwl
  refine enter_call ?_
  refine call_cells_ret (o := o) (by rw [depth_caller]; decide) ho (fd_plain hd) G.T.nolimit hcd (hbind pm cd doc (.ref a)) (fun y hy => ?_) (fun h₁ tk F X => ?_) hco hgen hk
  · obtain rfl : y = (x, Value.ref a) := List.mem_singleton.mp hy
    rcases hx with e | e
    · exact .inl e
    · exact .inr ⟨e, cellsFrom_some _ _ _ (.inl e)⟩
  · refine wpAny_mono (body w s₀ s₁ { s₁ with heap := h₁, toks := tk } mg mb fa o pm cd doc a vs ns G Y ho (fd_plain hd) hcd hmg hobj hints hlen hg rfl F X) (fun f s' hq => ?_) (fun _ _ hq => hq)
    obtain ⟨rfl, h2, h3, h4⟩ := hq
    exact ⟨.inl ⟨.bool true, .bool true, [], rfl, fun _ => rfl, .bool true, post_true l _, fun _ => ⟨List.Pairwise.nil, fun _ hm => (nomatch hm)⟩⟩, h2, h3, h4⟩

/-- the same from a codeAny of the CALL (for a layer whose function contracts speak of calls) -/
theorem attach_call {l : OpenLaw} {n : Nat} {q : Program} {loose : List Str} {XP : (Str → Option Value) → Heap → Prop} {YP : World → Heap → Prop} {d : DefRec}
    (hn : l.most = some n) (hdf : d.params.defaults = [])
    (call : ∀ (w : World) (s₀ s₁ : Shared) (mg mb : Str → Option Value) (fa : Addr) (o : Obj) (pm cd doc : Value) (a : Addr) (vs : List Value) (ns : List Int),
      Ground q loose [] XP w s₀ mg mb s₁.heap → YP w s₁.heap →
      s₁.heap.get? fa = some o → o.data = .func (docDef d.name d.params d.body d.scope pm cd doc) → s₁.heap.CodeRec cd d.name → mg d.name = some (.ref fa) →
      s₁.heap.get? a = some { cls := .type "list", data := .seq vs.toArray } → IntsAre vs ns → ns.length ≤ n → s₁.gens = #[] →
      codeAny (model l.prog w) callerA (.call (.ref fa) ⟨[.ref a], []⟩) (fun r s' => r = .ok (.ret (.bool true)) ∧ OldK s₁.heap s'.heap ∧ s'.os = s₁.os ∧ AllBare s'.gens) s₁) :
    WalkO q loose XP YP l.row.toRowW d [] (fun f vs => PySem.call f vs) := by
  intro w s₀ s₁ mg mb G Y fa o pm cd doc dV kV ho hd hcd hD hmg hg args vals as hpre hlay hrd hwl hlo
  obtain rfl : dV = .none := Dflts.none hD hdf
  obtain rfl : kV = .none := Dflts.noKw hD
  obtain ⟨a, vs, ns, rfl, rfl, hobj, hints, hlen⟩ := script_of hn hpre hwl
  refine enter_call (codeAny_mono (call w s₀ s₁ mg mb fa o pm cd doc a vs ns G Y ho (fd_plain hd) hcd hmg hobj hints hlen hg) fun r s' hq => ?_)
  obtain ⟨rfl, h2, h3, h4⟩ := hq
  exact ⟨.inl ⟨.bool true, .bool true, [], rfl, fun _ => rfl, .bool true, post_true l _, fun _ => ⟨List.Pairwise.nil, fun _ hm => (nomatch hm)⟩⟩, h2, h3, h4⟩

/-- the same where the top left finished generators (o_head chose holds_openN): nothing may have changed at all and no generator may be left -/
theorem attachN {l : OpenLaw} {n : Nat} {q : Program} {loose : List Str} {XP : (Str → Option Value) → Heap → Prop} {YP : World → Heap → Prop} {d : DefRec} {x : Str}
    (hn : l.most = some n) (hdf : d.params.defaults = [])
    (hbind : ∀ pm cd doc v : Value, bindArgs (docDef d.name d.params d.body d.scope pm cd doc) ⟨[v], []⟩ = pure [(x, v)])
    (hx : d.scope.names.lookup x = some .local ∨ d.scope.names.lookup x = some .cell)
    (hk : d.scope.kind = .function) (hco : d.scope.isCoroutine = false) (hgen : d.scope.isGenerator = false)
    (body : ∀ (w : World) (s₀ s₁ s : Shared) (mg mb : Str → Option Value) (fa : Addr) (o : Obj) (pm cd doc : Value) (a : Addr) (vs : List Value) (ns : List Int),
      Ground q loose [] XP w s₀ mg mb s₁.heap → YP w s₁.heap →
      s₁.heap.get? fa = some o → o.data = .func (docDef d.name d.params d.body d.scope pm cd doc) → s₁.heap.CodeRec cd d.name → mg d.name = some (.ref fa) →
      s₁.heap.get? a = some { cls := .type "list", data := .seq vs.toArray } → IntsAre vs ns → ns.length ≤ n →
      s.gens = #[] → s.os = s₁.os →
      Fr s₁.heap s₁.heap.objs.size s.heap (bindL (envOfC d.name d.scope s₁.heap.objs.size fa cd).kindOf [(x, .ref a)] fun _ => none) →
      Cl s₁.heap.objs.size (cellsFrom (s₁.heap.objs.size + 1) d.scope.names []) s.heap (bindC (envOfC d.name d.scope s₁.heap.objs.size fa cd).kindOf [(x, .ref a)] fun _ => none) →
      wpAny (model l.prog w) (callerA.deeper (envOfC d.name d.scope s₁.heap.objs.size fa cd)) (execs d.body (envOfC d.name d.scope s₁.heap.objs.size fa cd))
        (fun f s' => f = .ret (.bool true) ∧ (∀ b o, s₁.heap.get? b = some o → s'.heap.get? b = some o) ∧ s'.os = s₁.os ∧ s'.gens = #[]) (fun _ _ => False) s) :
    WalkN q loose XP YP l.row.toRowW d [] (fun f vs => PySem.call f vs) := by
  intro w s₀ s₁ mg mb G Y fa o pm cd doc dV kV ho hd hcd hD hmg hg args vals as hpre hlay hrd hwl hlo
  obtain rfl : dV = .none := Dflts.none hD hdf
  obtain rfl : kV = .none := Dflts.noKw hD
  obtain ⟨a, vs, ns, rfl, rfl, hobj, hints, hlen⟩ := script_of hn hpre hwl
  refine enter_callW ?_
  refine call_cells_ret (o := o) (by rw [depth_caller]; decide) ho (fd_plain hd) G.T.nolimit hcd (hbind pm cd doc (.ref a)) (fun y hy => ?_) (fun h₁ tk F X => ?_) hco hgen hk
  · obtain rfl : y = (x, Value.ref a) := List.mem_singleton.mp hy
    rcases hx with e | e
    · exact .inl e
    · exact .inr ⟨e, cellsFrom_some _ _ _ (.inl e)⟩
  · refine wpAny_mono (body w s₀ s₁ { s₁ with heap := h₁, toks := tk } mg mb fa o pm cd doc a vs ns G Y ho (fd_plain hd) hcd hmg hobj hints hlen hg rfl F X) (fun f s' hq => ?_) (fun _ _ hq => hq)
    obtain ⟨rfl, h2, h3, h4⟩ := hq
    exact ⟨.inl ⟨.bool true, .bool true, [], rfl, fun _ => rfl, .bool true, post_true l _, fun _ => ⟨List.Pairwise.nil, fun _ hm => (nomatch hm)⟩⟩, h2, h3, h4⟩

/-! ### rules over ANY heap (no ledger) from facts about the written part K: the library's own take a ledger (News) for what they write -/
section
variable {prog : Program} {w : World} {A : Around} {E : Value → Shared → Prop} {s : Shared} {K : Frag}

/-- a def of the module, or a method (qual 'C.m'), entered: the frame is the next address; cells behind it -/
theorem call_fn {R : Result → Shared → Prop} {name qual : Str} {params : Arguments} {body : List Stmt} {scope : Scope} {dV kV doc pm cdv ct oc : Value} {an od : Option Addr} {osl : Array (Option Value)} {f : Addr} {args : Args} {binds : List (Str × Value)}
    (X : K.In s.heap) (hlim : s.heap.NoLimit) (ho : K.lookup f = some ⟨oc, od, .func (fnOf name qual params body scope dV kV doc pm an cdv ct), osl⟩) (hcd : codeIn K cdv qual = true) (hroom : A.depth < recursionLimit)
    (hbind : BindsTo s (fnOf name qual params body scope dV kV doc pm an cdv ct) args binds)
    (hkind : (binds.all fun y => scope.names.lookup y.1 == some .local || scope.names.lookup y.1 == some .cell) = true)
    (h : ∀ s₁, InCallC s s.heap.objs.size (bindL (envOfC qual scope s.heap.objs.size f cdv).kindOf binds fun _ => none) (cellsFrom (s.heap.objs.size + 1) scope.names [])
        (bindC (envOfC qual scope s.heap.objs.size f cdv).kindOf binds fun _ => none) s₁ →
      wpAny (model prog w) (A.deeper (envOfC qual scope s.heap.objs.size f cdv)) (execs body (envOfC qual scope s.heap.objs.size f cdv))
        (fun fl s' => R (.ok (.ret (match fl with | .ret v => v | _ => .none))) s')
        (fun e s' => wpAny (model prog w) (A.deeper (envOfC qual scope s.heap.objs.size f cdv)) (leaving (envOfC qual scope s.heap.objs.size f cdv) e) (fun _ s'' => R (.error e) s'') (fun e' s'' => R (.error e') s'') s') s₁)
    (hco : scope.isCoroutine = false) (hgen : scope.isGenerator = false) (hk : scope.kind = .function) : codeAny (model prog w) A (.call (.ref f) args) R s := by
  refine codeAny_call_function hroom (X _ _ ho) rfl hco hgen rfl (codeRec_of X hcd) (hbind _ _ _ _ ?_)
  refine wpAny_newFunctionEnv_cells hk (kindsX hkind _) fun env he s₁ x => ?_
  subst he
  exact ⟨hlim.keeps x.toInCall.keep, codeAny_func (h s₁ x)⟩

/-- C(..): dict at size, instance at size + 1, then __init__ -/
theorem make_obj {R : Result → Shared → Prop} {C fI : Addr} {rest : List Value} {kw : List (Str × Value)}
    (X : K.In s.heap) (hm : makesIn K C = true) (hi : findIn K (.ref C) "__init__" = some (some (.ref fI))) (hf : isFn K (.ref fI) = true)
    (h : codeAny (model prog w) (A.under (.builtin "type.__call__" ⟨.ref C :: rest, kw⟩)) (.call (.ref fI) ⟨.ref (s.heap.objs.size + 1) :: rest, kw⟩) (InitBack (s.heap.objs.size + 1) R)
      { s with heap := (s.heap.push emptyDict).push (instObj C s.heap.objs.size) }) : codeAny (model prog w) A (.call (.ref C) ⟨rest, kw⟩) R s := by
  obtain ⟨hh, g, d, t, os⟩ := s
  exact make_core (makes_of X hm) (looks_findIn X hi) (fun self => bind_fn X self (beq_iff_eq.mp hf)) (.inl rfl) h

/-- x.name where the instance's dict holds the name and the class does not -/
theorem get_field {x C : Addr} {ox : Obj} {es : List DictEntry} {n : Nat} {name : Str} {expr : Bool} {v : Value} {Q : Value → Shared → Prop}
    (X : K.In s.heap) (I : PySem.W.InstAt s.heap x ox C (some (dictOf es n))) (hg : plainGet K C name = true) (hh : hasDictIn K C = true) (ha : findIn K (.ref C) name = some none)
    (hl : getL name es = some (some v)) (hv : handedIn v = true) (h : Q v { s with toks := s.toks + 1 }) : wpAny (model prog w) A (getAttr (.ref x) name expr) Q E s :=
  get_value X I (plainGet_of hg).1 (findObj_own hh ha rfl hl) hv h

/-- x.m(..): the method found in the class -/
theorem get_method {x C f : Addr} {ox : Obj} {es : List DictEntry} {n : Nat} {name : Str} {pl : Sem Bool} {Q : Value × List Value → Shared → Prop}
    (X : K.In s.heap) (I : PySem.W.InstAt s.heap x ox C (some (dictOf es n))) (hg : plainGet K C name = true) (hf : findIn K (.ref C) name = some (some (.ref f))) (ht : isFn K (.ref f) = true)
    (hl : getL name es = some none) (h : Q (.ref f, [.ref x]) s) : wpAny (model prog w) A (getMethod (.ref x) name pl) Q E s :=
  method_fn X I (plainGet_of hg).1 (plainGet_of hg).2 hf (beq_iff_eq.mp ht) (by show (lookIn name (dictOf es n)).map _ = _; rw [lookIn_dict, hl]; rfl) h

/-! the whole heap as the ledger: makes every rule that writes through a ledger a rule over any heap -/
def noObjs (h : Heap) : Heap := { h with objs := #[] }
theorem noObjs_get (h : Heap) (b : Addr) : (noObjs h).get? b = none := by
  cases e : (noObjs h).get? b with
  | none => rfl
  | some o => exact absurd (Heap.lt_size e) (Nat.not_lt_zero _)
def ledger (h : Heap) (L d : Addr) : List (Addr × Obj) := (List.range h.objs.size).filterMap fun a => if a = L ∨ a = d then none else (h.get? a).map fun o => (a, o)
theorem mem_ledger {h : Heap} {L d a : Addr} {o : Obj} : (a, o) ∈ ledger h L d ↔ a ≠ L ∧ a ≠ d ∧ h.get? a = some o := by
  unfold ledger
  rw [List.mem_filterMap]
  constructor
  · rintro ⟨b, _, e⟩
    split at e
    · cases e
    · rename_i hb
      obtain ⟨o', ho, e'⟩ := Option.map_eq_some_iff.mp e
      cases e'
      exact ⟨fun q => hb (.inl q), fun q => hb (.inr q), ho⟩
  · rintro ⟨n1, n2, ho⟩
    refine ⟨a, List.mem_range.mpr (Heap.lt_size ho), ?_⟩
    rw [if_neg (show ¬ (a = L ∨ a = d) from fun q => q.elim n1 n2), ho] <;> rfl
theorem news_ledger {h : Heap} {L d : Addr} {od : Obj} (hne : d ≠ L) (ho : h.get? d = some od) : News (noObjs h) L h ([] ++ (d, od) :: ledger h L d) := by
  rintro ⟨a, o⟩ hp
  rcases List.mem_cons.mp hp with e | hp
  · cases e
    exact ⟨ho, hne, noObjs_get _ _⟩
  · obtain ⟨n1, n2, e⟩ := mem_ledger.mp hp
    exact ⟨e, n1, noObjs_get _ _⟩
theorem fr_all {h : Heap} {L : Addr} {m : Str → Option Value} (n : h.Ns L m) : Fr (noObjs h) L h m :=
  ⟨n, fun b o e => (by rw [noObjs_get] at e; cases e), Nat.zero_le _⟩
/-- Upd of the head entry (for append_K, setItem_K ..) -/
theorem upd_ledger {h : Heap} {L d : Addr} {o o' : Obj} : Upd d o o' ((d, o) :: ledger h L d) ((d, o') :: ledger h L d) :=
  .head fun ⟨_, _⟩ hp => (mem_ledger.mp hp).2.1

/-- x.name = v over any heap: L is any namespace of the heap (the frame's, say): its map stays, its object is not told; all else but the dict stays -/
theorem set_field {x C dx L : Addr} {ox : Obj} {m : Str → Option Value} {es es' : List DictEntry} {n n' : Nat} {name : Str} {v : Value} {Q : Unit → Shared → Prop}
    (X : K.In s.heap) (I : PySem.W.InstAt s.heap x ox C (some (dictOf es n))) (hd : ox.dict = some dx) (hL : s.heap.Ns L m) (hne : dx ≠ L)
    (hs : findIn K (.ref C) "__setattr__" = some (some (.builtin "object.__setattr__"))) (hp : plainOver K C = true) (ht : takerIn K C name = some none) (hh : hasDictIn K C = true) (hl : (getL name es).isSome = true)
    (e : (putL name (PyData.keyHash w.params name) (.str name (s.toks + 1)) v es, putN name es n) = (es', n')) (hz : es'.length ≤ 1000)
    (h : ∀ h' : Heap, h'.Ns L m → h'.get? dx = some (dictOf es' n') → (∀ b o, b ≠ dx → b ≠ L → s.heap.get? b = some o → h'.get? b = some o) → Q () { s with heap := h', toks := s.toks + 2 }) :
    wpAny (model prog w) A (setAttr (.ref x) name v) Q E s := by
  obtain ⟨e1, e2⟩ := Prod.mk.inj e
  have hdx : s.heap.get? dx = some (dictOf es n) := by
    have := I.dict
    rw [hd] at this
    exact this
  refine set_plain X I hs (osa_dict (s := { s with toks := s.toks + 1 }) (h₀ := noObjs s.heap) (L := L) (m := m) (od := dictOf es n) (od' := dictOf es' n') (es := es') (n := n') (pre := []) (post := ledger s.heap L dx)
    (fr_all hL) (news_ledger hne hdx) X I hd hp ht hh hl (fun _ q => nomatch q) (fun ⟨_, _⟩ q => (mem_ledger.mp q).2.1) (by rw [putName_dict, e1, e2]) rfl hz fun h' F' N' => ?_)
  exact h h' F'.ns (N'.get (List.Mem.head _)) fun b o n1 n2 ho => N'.get (List.Mem.tail _ (mem_ledger.mpr ⟨n2, n1, ho⟩))
end
end Att

namespace L2
open PySem PySem.Spec PyProof.Rows

theorem vals_ints : ∀ {vs : List Value} {ns : List Int}, IntsAre vs ns → Vals (ns.map V.int) vs
  | _, _, .nil => .nil
  | _, _, .cons n t h => .cons ⟨t, rfl⟩ (vals_ints h)

/-- nothing is tracked but the script, known to the object (or it is an object of the module) -/
def Only (H : Hp) : Prop := ∀ b, H b = none ∨ ∃ o xs, H b = some (.frz o (.lst xs))

/-- THE HEAD: the law's promise, at the heap behind the top. F, the promise of the law's def, may use that base is part of the heap (so K.In base, base.Ns mainGlobals mg stand in Mod) -/
theorem law_call {P : Program} {w : World} {K : PySem.W.Frag} {mg mb : Str → Option Value} {CX : CXT} {k : Nat} {fa a : Addr} {fd : FuncData} {x : Str} {sp : Sp} {s₁ : Shared} {vs : List Value} {ns : List Int}
    (KX : K.In s₁.heap) (hns : s₁.heap.Ns mainGlobals mg) (hb : s₁.heap.Ns builtinsNs mb) (hbb : ∀ x : Str, x ≠ "__name__" → mb x = bootBuiltins x) (hlim : s₁.heap.NoLimit) (hg : s₁.gens = #[])
    (ha : s₁.heap.get? a = some { cls := .type "list", data := .seq vs.toArray }) (hi : IntsAre vs ns) (hl : ns.length ≤ sizeLine) (hr : Room k callerA)
    (F : ∀ base : Heap, K.In base → base.Ns mainGlobals mg → FnOk P w K mg base CX k fa fd [x] sp) (hbind : ∀ (s : Shared) (u : Value), BindsTo s fd ⟨[u], []⟩ [(x, u)])
    (hsp : ∀ H : Hp, Only H → SqL K H a (ns.map V.int) → sp [.ref a] H (fun v _ => v = .bl true) fun _ _ _ => False)
    (hCX : ∀ H e s', CX [] H s₁ (fun _ _ _ => False) e s' → False) :
    codeAny (model P w) callerA (.call (.ref fa) ⟨[.ref a], []⟩) (fun r s' => r = .ok (.ret (.bool true)) ∧ OldK s₁.heap s'.heap ∧ s'.os = s₁.os ∧ AllBare s'.gens) s₁ := by
  have rv := vals_ints hi
  have lenV := hi.length
  -- from an abstract heap in which nothing but the script may be tracked
  have core : ∀ H : Hp, Only H → SqL K H a (ns.map V.int) → HOk P w H s₁.heap → (∀ b, H b ≠ none → b = a) → (H a ≠ none → K.lookup a = none) →
      codeAny (model P w) callerA (.call (.ref fa) ⟨[.ref a], []⟩) (fun r s' => r = .ok (.ret (.bool true)) ∧ OldK s₁.heap s'.heap ∧ s'.os = s₁.os ∧ AllBare s'.gens) s₁ := by
    intro H hO hS hok hA hK
    have base_of : ∀ {b : Addr} {o : Obj}, s₁.heap.get? b = some o → H b = none → (hidT s₁.heap H).get? b = some o := fun e n => hidT_get e n
    have noA : ∀ {b : Addr} {o : Obj} {es : Array DictEntry} {ep : Nat}, s₁.heap.get? b = some o → o.data = .dict es ep → H b = none := fun {b o es ep} e d => by
      cases q : H b with
      | none => rfl
      | some u =>
        have e' : b = a := hA b (by rw [q]; simp)
        subst e'
        rw [ha] at e; cases e
        have d' : Data.seq vs.toArray _ = Data.dict es ep := d
        cases d'
    have nsK : ∀ {b : Addr} {m : Str → Option Value}, s₁.heap.Ns b m → (hidT s₁.heap H).Ns b m := fun {b m} ⟨o, es, ep, e, d, r⟩ => ⟨o, es, ep, base_of e (noA e d), d, r⟩
    have hKb : K.In (hidT s₁.heap H) := fun b o e => base_of (KX b o e) (by
      cases q : H b with
      | none => rfl
      | some u =>
        have e' : b = a := hA b (by rw [q]; simp)
        subst e'
        rw [hK (by rw [q]; simp)] at e; cases e)
    have hM : Mod K mg (hidT s₁.heap H) := ⟨hKb, nsK hns, ⟨mb, nsK hb, hbb⟩, let ⟨mc, h1, h2⟩ := hlim; ⟨mc, nsK h1, h2⟩⟩
    have e0 : Env0 P w K mg (hidT s₁.heap H) callerA [] s₁ H := ⟨rfl, hM, fun b o e => of_hidT e, Nat.le_of_eq (hidT_size _ _), trivial, fun b hb => absurd (show b ∈ ([] : List Addr) from hb) (by simp), hok, .of_eq hg⟩
    refine codeAny_mono ((F _ hKb (nsK hns)).run callerA [] s₁ H ⟨[.ref a], []⟩ [.ref a] [.ref a] _ _ hr e0 (hbind s₁ (.ref a)) (.cons rfl .nil) (hsp H hO hS)) fun r s' h => ?_
    cases r with
    | error e => exact (hCX H e s' h).elim
    | ok fl =>
      cases fl with
      | next => exact False.elim h
      | brk => exact False.elim h
      | cont => exact False.elim h
      | ret u =>
        obtain ⟨v, H', os, bare, un, hok', r', q⟩ := h
        have q' : v = .bl true := q
        subst q'
        obtain rfl : u = Value.bool true := r'
        refine ⟨rfl, OldK.of_keep fun b o e => ?_, os, bare⟩
        cases q : H b with
        | none => exact un.keep b o e q (by intro z; exact absurd (show b ∈ ([] : List Addr) from z) (by simp)) (by simp)
        | some u =>
          rcases hO b with z | ⟨ob, xs, z⟩
          · rw [q] at z; cases z
          · have z2 := un.frzs b ob _ z
            obtain ⟨e1, _⟩ := hok b _ z
            obtain ⟨e2, _⟩ := hok' b _ z2
            rw [e] at e1; cases e1
            exact e2
  cases hk : K.lookup a with
  | some o =>
    -- the script is one of the module's own objects
    have e := KX a o hk
    rw [ha] at e
    cases e
    refine core (fun _ => none) (fun _ => .inl rfl) (.inr ⟨_, vs.toArray, _, hk, rfl, rfl, rfl, by rw [List.size_toArray, lenV]; exact hl, by simpa using rv⟩) (fun b u z => by have z' : (none : Option HO) = some u := z; cases z') (fun b z => absurd rfl z) fun z => absurd rfl z
  | none =>
    refine core (fun b => if b = a then some (.frz { cls := .type "list", data := .seq vs.toArray } (.lst (ns.map V.int))) else none) (fun b => ?_) (.inl (.inr ⟨{ cls := .type "list", data := .seq vs.toArray }, if_pos rfl⟩)) (fun b u z => ?_) (fun b z => ?_) fun _ => hk
    · by_cases hb : b = a
      · exact .inr ⟨_, _, if_pos hb⟩
      · exact .inl (if_neg hb)
    · by_cases hb : b = a
      · have z' := (if_pos hb).symm.trans z
        cases z'
        subst hb
        exact ⟨ha, by rw [List.length_map]; exact hl, vs, _, rv, ha⟩
      · have z' := (if_neg hb).symm.trans z
        cases z'
    · by_cases hb : b = a
      · exact hb
      · exact absurd (if_neg hb) z
end L2

namespace L2
open PySem PySem.Spec PyProof.Rows

abbrev KOf {K : PySem.W.Frag} {h : Heap} (_ : K.In h) : PySem.W.Frag := K

/-- the goal that k_head leaves (case hc), from the law's promise. F gives the function object fd (K's own) once, then the promise over every base -/
theorem walk_of {l : PySem.W.OpenLaw} {n k : Nat} {q : Program} {loose : List Str} {XP : (Str → Option Value) → Heap → Prop} {YP : World → Heap → Prop} {d : DefRec} {K : Params → PySem.W.Frag} {CX : World → CXT} {sp : World → Sp} {x : Str}
    (hn : l.most = some n) (hn2 : n ≤ sizeLine) (hdf : d.params.defaults = []) (hr : Room k callerA)
    (hY : ∀ (w : World) (h : Heap), YP w h → (K w.params).In h)
    (F : ∀ (w : World) (mg : Str → Option Value) (fa : Addr) (h : Heap), (K w.params).In h → h.Ns mainGlobals mg → mg d.name = some (.ref fa) →
      ∃ fd : FuncData, (∀ (s : Shared) (u : Value), BindsTo s fd ⟨[u], []⟩ [(x, u)]) ∧
        ∀ base : Heap, (K w.params).In base → base.Ns mainGlobals mg → FnOk l.prog w (K w.params) mg base (CX w) k fa fd [x] (sp w))
    (hsp : ∀ (w : World) (H : Hp) (a : Addr) (ns : List Int), ns.length ≤ n → Only H → SqL (K w.params) H a (ns.map V.int) → sp w [.ref a] H (fun v _ => v = .bl true) fun _ _ _ => False)
    (hCX : ∀ (w : World) (H : Hp) (s : Shared) (e : Value) (s' : Shared), CX w [] H s (fun _ _ _ => False) e s' → False) :
    PySem.W.WalkO q loose XP YP l.row.toRowW d [] (fun f vs => PySem.call f vs) := by
  refine Att.attach_call hn hdf fun w s₀ s₁ mg mb fa o pm cd doc a vs ns G Y ho hd hcd hmg hobj hints hlen hg => ?_
  have KX := hY w _ Y
  obtain ⟨fd, hb, hF⟩ := F w mg fa _ KX G.T.g hmg
  exact law_call KX G.T.g G.T.b G.T.builtins G.T.nolimit hg hobj hints (Nat.le_trans hlen hn2) hr hF hb (fun H hO hS => hsp w H a ns hlen hO hS) fun H e s' => hCX w H s₁ e s'
/-- the same where the promise hangs on the written part alone: (sp := My.sp_law), no hole under a binder -/
theorem walk_ofK {l : PySem.W.OpenLaw} {n k : Nat} {q : Program} {loose : List Str} {XP : (Str → Option Value) → Heap → Prop} {YP : World → Heap → Prop} {d : DefRec} {K : Params → PySem.W.Frag} {CX : CXT} {sp : PySem.W.Frag → Sp} {x : Str}
    (hn : l.most = some n) (hn2 : n ≤ sizeLine) (hdf : d.params.defaults = []) (hr : Room k callerA)
    (hY : ∀ (w : World) (h : Heap), YP w h → (K w.params).In h)
    (F : ∀ (w : World) (mg : Str → Option Value) (fa : Addr) (h : Heap), (K w.params).In h → h.Ns mainGlobals mg → mg d.name = some (.ref fa) →
      ∃ fd : FuncData, (∀ (s : Shared) (u : Value), BindsTo s fd ⟨[u], []⟩ [(x, u)]) ∧
        ∀ base : Heap, (K w.params).In base → base.Ns mainGlobals mg → FnOk l.prog w (K w.params) mg base CX k fa fd [x] (sp (K w.params)))
    (hsp : ∀ (K : PySem.W.Frag) (H : Hp) (a : Addr) (ns : List Int), ns.length ≤ n → Only H → SqL K H a (ns.map V.int) → sp K [.ref a] H (fun v _ => v = .bl true) fun _ _ _ => False)
    (hCX : ∀ (H : Hp) (s : Shared) (e : Value) (s' : Shared), CX [] H s (fun _ _ _ => False) e s' → False) :
    PySem.W.WalkO q loose XP YP l.row.toRowW d [] (fun f vs => PySem.call f vs) :=
  walk_of (K := K) (CX := fun _ => CX) (sp := fun w => sp (K w.params)) hn hn2 hdf hr hY F (fun w H a ns h1 h2 h3 => hsp (K w.params) H a ns h1 h2 h3) fun _ H s e s' => hCX H s e s'
end L2

/- THE LAST THEOREM (shape; LID, My.* are yours):
   My.Adr: a structure of the addresses that your layer names (classes, functions); My.Txt K t: a structure (Prop) of the equations over K;
   My.txt_mk : {K} {implicit addresses ..} (e1 : nsIn K mainGlobals "law" = some (some (.ref f))) (e2 : K.lookup f = some ⟨oc, od, .func (fnOf "law" "law" params body scope dV kV doc pm an cdv ct), sl⟩) (e3 : codeIn K cdv "law" = true) .. : ∃ t, My.Txt K t

set_option maxRecDepth 100000 in
set_option maxHeartbeats 0 in
theorem PySem.Challenge.cw_LID_holds : PySem.Challenge.rw_LID.Holds := by
  w_on; o_law; k_head; (case hw => w_witness2)
  k_fill
  refine L2.walk_of (l := PySem.Challenge.rw_LID) (n := 63) (k := 40) (x := "script") (CX := fun w => ..) (sp := fun _ => My.sp_law) rfl (by decide) rfl ⟨rfl, by decide, by decide⟩ (fun w h Y => PySem.W.kIn_of Y) ?F ?S ?C
  case F =>
    intro w mg fa h KX G hmg
    have T : ∃ t, My.Txt (L2.KOf KX) t := by
      dsimp only [L2.KOf]                          -- K must stand as «<heap const> w.params» for k_is
      refine' My.txt_mk ?e1 ?e2 ?e3 ..
      (case e1 => PySem.W.k_is)                    -- in the order: a name -> its address -> its object -> its parts
      (case e2 => PySem.W.k_is)
      ..
    obtain ⟨t, T⟩ := T
    have e0 := hmg.symm.trans (PySem.W.mg_of KX G T.law)
    cases e0                                       -- fa is the law's own address
    exact ⟨_, fun s u => .of_eq rfl, fun base kb nb => My.law_fn T kb nb⟩     -- if «.of_eq rfl» comes too early: refine' ⟨_, ?b, fun base kb nb => My.law_fn T kb nb⟩; exact fun s u => .of_eq rfl
  case S => exact fun w H a ns hl hO hS => ..
  case C => exact ..
(the tactic k_is has no namespace: write k_is) -/

/-! SHORT WORDS over the layer: a def of the text, its body, what a loop and a test want. -/
namespace L2
open PySem PySem.Spec PyProof.Rows

/-! ### the text by places -/
/-- the j-th statement of a class's body -/
def inClass (s : Stmt) (j : Nat) : Stmt := match s with
  | .ClassDef _ _ _ body _ _ _ _ _ _ _ => body.getD j (.Pass ⟨0, 0, 0, 0⟩)
  | _ => .Pass ⟨0, 0, 0, 0⟩
def defArgs (s : Stmt) : Arguments := match s with
  | .FunctionDef _ a _ _ _ _ _ _ _ _ => a
  | _ => { posonlyargs := [], args := [], vararg := none, kwonlyargs := [], kw_defaults := [], kwarg := none, defaults := [] }
def defBody (s : Stmt) : List Stmt := match s with
  | .FunctionDef _ _ b _ _ _ _ _ _ _ => b
  | _ => []
def defScope (s : Stmt) : Scope := match s with
  | .FunctionDef _ _ _ _ _ _ sc _ _ _ => sc
  | _ => { kind := .function, names := [], isGenerator := false, isCoroutine := false }

/-! ### no exception leaves a def -/
abbrev CX0 : CXT := fun _ _ _ _ _ _ => False
abbrev E0 : XK := fun _ _ _ => False
theorem pass0 {X : Cx} : Passes CX0 X E0 := fun _ _ _ _ _ _ _ h => h.elim

/-! ### a def (or method) of the text as it stands behind the top -/
structure Fun (K : PySem.W.Frag) (x qual : Str) (st : Stmt) (f : Addr) (fd : FuncData) : Prop where
  ex : ∃ (oc : Value) (od : Option Addr) (kV doc pm : Value) (an : Option Addr) (cdv ct : Value) (osl : Array (Option Value)),
    fd = PySem.W.fnOf x qual (defArgs st) (defBody st) (defScope st) .none kV doc pm an cdv ct ∧ K.lookup f = some ⟨oc, od, .func fd, osl⟩ ∧ PySem.W.codeIn K cdv qual = true
  kp : PySem.W.keepIn K (.ref f) = true
section
variable {P : Program} {w : World} {K : PySem.W.Frag} {mg : Str → Option Value} {base : Heap}
/-- THE RULE for a def: its body as a term of rules, and the reading of that term -/
theorem Fun.ok {x qual : Str} {st : Stmt} {f : Addr} {fd : FuncData} {N ps : List Str} {k : Nat} {sp : Sp} (F : Fun K x qual st f fd) (S : FnScope N ps (defScope st)) (len : ∀ vs H Q E, sp vs H Q E → vs.length = ps.length)
    (hbody : ∀ (cdv : Value) (A : Around) (outer : List Env) (s : Shared) (H : Hp) (vs : List V) (Q : VK) (E : XK), Room k (A.deeper (envOfC qual (defScope st) s.heap.objs.size f cdv)) → sp vs H Q E →
      ∃ t, PSs (cxOf CX0 P w K mg base N qual (defScope st) f cdv A outer s H E).nox (defBody st) t ∧ t { nx := fun _ H' => Q .non H', rt := Q } (start N vs) H) : FnOk P w K mg base CX0 (k + 1) f fd ps sp := by
  obtain ⟨oc, od, kV, doc, pm, an, cdv, ct, osl, rfl, lk, hcd⟩ := F.ex
  refine fn_of lk hcd S len fun A outer s H vs Q E hr hsp => ?_
  obtain ⟨t, h, q⟩ := hbody cdv A outer s H vs Q E hr hsp
  exact ⟨t, h.nox, q⟩
/-- how its arguments bind (no defaults): h is «fun _ _ _ _ _ _ us hl => match us, hl with | [_, _], _ => rfl», one _ a parameter -/
theorem Fun.binds {x qual : Str} {st : Stmt} {f : Addr} {fd : FuncData} {ps : List Str} (F : Fun K x qual st f fd)
    (h : ∀ (kV doc pm : Value) (an : Option Addr) (cdv ct : Value) (us : List Value), us.length = ps.length → bindArgs (PySem.W.fnOf x qual (defArgs st) (defBody st) (defScope st) .none kV doc pm an cdv ct) ⟨us, []⟩ = pure (ps.zip us)) : Binds K fd ps [] := by
  obtain ⟨oc, od, kV, doc, pm, an, cdv, ct, osl, rfl, lk, hcd⟩ := F.ex
  exact .all (h kV doc pm an cdv ct)
theorem fun_mk {x qual : Str} {st : Stmt} {f : Addr} {oc : Value} {od an : Option Addr} {osl : Array (Option Value)} {kV doc pm cdv ct : Value} (l : K.lookup f = some ⟨oc, od, .func (PySem.W.fnOf x qual (defArgs st) (defBody st) (defScope st) .none kV doc pm an cdv ct), osl⟩)
    (c : PySem.W.codeIn K cdv qual = true) (k : PySem.W.keepIn K (.ref f) = true) : Fun K x qual st f (PySem.W.fnOf x qual (defArgs st) (defBody st) (defScope st) .none kV doc pm an cdv ct) := ⟨⟨oc, od, kV, doc, pm, an, cdv, ct, osl, rfl, l, c⟩, k⟩
end
theorem hu_of {A : Around} {k : Nat} (hr : Room k A) : A.units + 1 < cLine := Nat.lt_of_le_of_lt (Nat.add_le_add_left (by decide : 1 ≤ 64) _) hr.units
theorem small1000 {n : Nat} (h : n ≤ 1000) : n < sizeLine := Nat.lt_of_le_of_lt h (by decide)

/-! ### expressions in short: the name that stands in the i-th slot -/
section
variable {X : Cx}
theorem pv (i : Nat) {x : Str} {pos : Pos} (hN : X.N[i]? = some x := by rfl) (hv : Vis X.env.scope x := by first | exact Or.inl rfl | exact Or.inr (Or.inl rfl) | exact Or.inr (Or.inr rfl)) (hd : (x == ("__debug__" : Str)) = false := by decide)
    (hcd : (x == ("__classdict__" : Str)) = false := by decide) : PE X (.Name x pos) (tVar i) := pe_var hN hv hd hcd
end

/-! ### tests -/
theorem iteF {A B : Prop} (h : B) : if false = true then A else B := by
  rw [if_neg Bool.false_ne_true]
  exact h
theorem iteT {A B : Prop} (h : A) : if true = true then A else B := by
  rw [if_pos rfl]
  exact h
theorem ite2 {c A B : Prop} [Decidable c] (h1 : c → A) (h2 : ¬ c → B) : if c then A else B := by
  by_cases h : c
  · rw [if_pos h]
    exact h1 h
  · rw [if_neg h]
    exact h2 h
theorem iteNS {c A B : Prop} [Decidable c] (hc : c) (h : B) : if (!decide c) = true then A else B := by
  rw [decide_eq_true hc]
  exact iteF h

/-! ### heaps -/
/-- all that was tracked is as it was -/
def Same (H H' : Hp) : Prop := ∀ b o, H b = some o → H' b = some o
theorem Same.refl (H : Hp) : Same H H := fun _ _ h => h
theorem Same.trans {H H1 H2 : Hp} (a : Same H H1) (b : Same H1 H2) : Same H H2 := fun c o h => b c o (a c o h)
theorem Same.free {H H' : Hp} (e : Same H H') {l : Addr} (h : H' l = Option.none) : H l = Option.none := by
  cases q : H l with
  | none => rfl
  | some o =>
    rw [e l o q] at h
    cases h
theorem Same.seq {K : PySem.W.Frag} {H H' : Hp} {a : Addr} {xs : List V} (e : Same H H') (h : SqL K H a xs) : SqL K H' a xs := by
  rcases h with (h | ⟨o, h⟩) | h
  · exact .inl (.inl (e _ _ h))
  · exact .inl (.inr ⟨o, e _ _ h⟩)
  · exact .inr h

end L2
set_option Elab.async false
set_option linter.all false
set_option maxRecDepth 100000
/-! More rules over the layer: isinstance, sum, list comprehensions, a downward range, == of lists and tuples. -/
namespace L2
open PySem PySem.Spec PyProof.Rows
section
variable {X : Cx}
/-! ### isinstance -/
def rIsi (K : PySem.W.Frag) : List V → Hp → VK → Prop := fun xs H Q => ∃ (x : V) (T : String) (t : Value) (b : Bool), xs = [x, .ty T] ∧ TyOf K H x t ∧ PySem.W.kitOne K t (.type T) = some b ∧ Q (.bl b) H
theorem call_isi : CallR X (.builtin "isinstance") (rIsi X.K) := by
  intro pins s σ H vs us Q I r h
  obtain ⟨x, T, t, b, rfl, ty, e, q⟩ := h
  obtain ⟨u, u', rfl, r1, r2⟩ := r.two
  cases r2
  exact isinst_ok I r1 ty e fun tk => ⟨.bl b, H, I.tok tk, rfl, q⟩
/-! ### sum -/
def rSum (K : PySem.W.Frag) : List V → Hp → VK → Prop := fun xs H Q => ∃ (p : Addr) (ns : List Int), xs = [.ref p] ∧ SqL K H p (ns.map V.int) ∧ Q (.int ns.sum) H
theorem call_sumL (hc : X.calm = true) : CallR X (.builtin "sum") (rSum X.K) := by
  intro pins s σ H vs us Q I r h
  obtain ⟨p, ns, rfl, hS, q⟩ := h
  obtain ⟨u, rfl, r1⟩ := r.one
  cases r1
  obtain ⟨its, rv, pl, hz⟩ := I.list hS
  have hi : IntsAre its ns := intsAre_of rv
  obtain ⟨xs, e⟩ := hi.allInts.items
  have hl := pl.isList
  rw [e] at hl
  refine sum_intListG (I.ok.hd hc) hl fun h' tk t' hk => ?_
  refine ⟨.int ns.sum, H, I.kept hk, ⟨t', ?_⟩, q⟩
  have e2 : ns = xs.toList.map (·.1) := by rw [← hi.numsOf, ← nums_intItems, ← e]
  rw [preSum_eq, List.take_of_length_le (by simp), e2]
end
end L2

/-! ### list comprehensions: [e for x in it], [e for x in it if c] -/
namespace L2
open PySem PySem.Spec PyProof.Rows
/-- the cells that a block takes along -/
def clOf (env : Env) : List (Str × NameKind) → List (Str × Addr) → List (Str × Addr)
  | [], acc => acc
  | (n, k) :: r, acc => if k == .free then clOf env r ((n, (env.cells.lookup n).getD 0) :: acc) else clOf env r acc
theorem clOf_cons {env : Env} (n : Str) (k : NameKind) (r : List (Str × NameKind)) (acc : List (Str × Addr)) :
    clOf env ((n, k) :: r) acc = if (k == NameKind.free) = true then clOf env r ((n, (env.cells.lookup n).getD 0) :: acc) else clOf env r acc := rfl
theorem clos_go {env : Env} : ∀ (names : List (Str × NameKind)) (acc : List (Str × Addr)), (∀ y ∈ names, y.2 = .free → ∃ c, env.cells.lookup y.1 = some c) →
    (forIn names acc fun (x : Str × NameKind) (r : List (Str × Addr)) => match x with
      | (name, kind) => if (kind == NameKind.free) = true then do let c ← cellOf env name; pure (ForInStep.yield ((name, c) :: r)) else pure (ForInStep.yield r) : Sem (List (Str × Addr))) = pure (clOf env names acc)
  | [], acc, _ => rfl
  | (n, k) :: r, acc, h => by
    rw [List.forIn_cons]
    by_cases hk : (k == NameKind.free) = true
    · obtain ⟨c, hc⟩ := h (n, k) (by simp) (by simpa using hk)
      have e1 : cellOf env n = pure c := by unfold cellOf; rw [hc]
      have ih := clos_go (env := env) r ((n, c) :: acc) fun y hy => h y (List.mem_cons_of_mem _ hy)
      dsimp only
      rw [if_pos hk, e1]
      show (forIn r ((n, c) :: acc) _ : Sem _) = _
      have hc' : List.lookup n env.cells = some c := hc
      rw [ih, clOf_cons, if_pos hk, hc']
      rfl
    · have ih := clos_go (env := env) r acc fun y hy => h y (List.mem_cons_of_mem _ hy)
      dsimp only
      rw [if_neg hk]
      show (forIn r acc _ : Sem _) = _
      rw [ih, clOf_cons, if_neg hk]
theorem clos_is {env : Env} {scope : Scope} (h : ∀ y ∈ scope.names, y.2 = .free → ∃ c, env.cells.lookup y.1 = some c) : closureFor scope env = pure (clOf env scope.names []) := by
  have q := clos_go scope.names [] h
  simp only [closureFor]
  rw [q]
  rfl
theorem cl_from {env : Env} : ∀ (names : List (Str × NameKind)) (acc : List (Str × Addr)) {y : Str} {c : Addr}, (∀ z ∈ names, z.2 = .free → ∃ c, env.cells.lookup z.1 = some c) →
    (clOf env names acc).lookup y = some c → acc.lookup y = some c ∨ env.cells.lookup y = some c
  | [], acc, y, c, _, e => .inl e
  | (n, k) :: r, acc, y, c, h, e => by
    rw [clOf_cons] at e
    by_cases hk : (k == NameKind.free) = true
    · rw [if_pos hk] at e
      obtain ⟨d, hd⟩ := h (n, k) (by simp) (by simpa using hk)
      rcases cl_from r _ (fun z hz => h z (List.mem_cons_of_mem _ hz)) e with q | q
      · rw [List.lookup_cons] at q
        by_cases hy : (y == n) = true
        · rw [hy, hd] at q
          have ey : y = n := by simpa using hy
          cases q
          exact .inr (by rw [ey]; exact hd)
        · have hy' : (y == n) = false := by simpa using hy
          rw [hy'] at q
          exact .inl q
      · exact .inr q
    · rw [if_neg hk] at e
      exact cl_from r acc (fun z hz => h z (List.mem_cons_of_mem _ hz)) e
theorem cl_acc {env : Env} : ∀ (names : List (Str × NameKind)) (acc : List (Str × Addr)) {y : Str}, (∃ c, acc.lookup y = some c) → ∃ c, (clOf env names acc).lookup y = some c
  | [], acc, y, h => h
  | (n, k) :: r, acc, y, h => by
    rw [clOf_cons]
    by_cases hk : (k == NameKind.free) = true
    · rw [if_pos hk]
      refine cl_acc r _ ?_
      rw [List.lookup_cons]
      cases hy : y == n with
      | true => exact ⟨_, rfl⟩
      | false => exact h
    · rw [if_neg hk]
      exact cl_acc r _ h
theorem cl_has {env : Env} : ∀ (names : List (Str × NameKind)) (acc : List (Str × Addr)) {y : Str}, (y, NameKind.free) ∈ names → ∃ c, (clOf env names acc).lookup y = some c
  | [], acc, y, h => nomatch h
  | (n, k) :: r, acc, y, h => by
    rw [clOf_cons]
    rcases List.mem_cons.mp h with e | h
    · cases e
      rw [if_pos (by decide)]
      refine cl_acc r _ ⟨(env.cells.lookup n).getD 0, ?_⟩
      rw [List.lookup_cons]
      have : (n == n) = true := by simp
      rw [this]
    · by_cases hk : (k == NameKind.free) = true
      · rw [if_pos hk]
        exact cl_has r _ h
      · rw [if_neg hk]
        exact cl_has r _ h
theorem lookup_rel {env : Env} {y : Str} : ∀ {names : List (Str × NameKind)} {k : NameKind},
    (names.map fun (n, k) => if (k == NameKind.free && env.scope.kind == .function && env.kindOf n == some .cell) then (n, NameKind.cell) else (n, k)).lookup y = some k →
    ∃ k0, names.lookup y = some k0 ∧ (k = k0 ∨ (k0 = .free ∧ k = .cell))
  | [], k, h => by simp at h
  | (n, k1) :: r, k, h => by
    rw [List.map_cons, List.lookup_cons] at h
    rw [List.lookup_cons]
    by_cases hc : (k1 == NameKind.free && env.scope.kind == .function && env.kindOf n == some .cell) = true
    · have hf : k1 = .free := by
        have q : (k1 == NameKind.free) = true := by
          rw [Bool.and_eq_true, Bool.and_eq_true] at hc
          exact hc.1.1
        simpa using q
      rw [if_pos hc] at h
      cases hy : y == n with
      | true =>
        rw [hy] at h
        cases h
        exact ⟨k1, rfl, .inr ⟨hf, rfl⟩⟩
      | false =>
        rw [hy] at h
        exact lookup_rel h
    · rw [if_neg hc] at h
      cases hy : y == n with
      | true =>
        rw [hy] at h
        cases h
        exact ⟨k1, rfl, .inl rfl⟩
      | false =>
        rw [hy] at h
        exact lookup_rel h
/-- the names of the block: its own, then those of the slots ns of the def -/
def namesC (X : Cx) (x : Str) (ns : List Nat) : List Str := x :: ns.map fun j => X.N.getD j Str.empty
def slotsC (ns : List Nat) (σ : St) (v : Option V) : St := v :: ns.map fun j => (σ[j]?).join
/-- the block's context -/
def cxC (X : Cx) (scope : Scope) (x : Str) (ns : List Nat) (s : Shared) (H : Hp) (fp : List Addr) : Cx :=
  { X with N := namesC X x ns, s₀ := s, H₀ := H, env := compEnvC scope (clOf X.env scope.names []) s.heap.objs.size X.env, outer := X.stack, ex := fp, fn := fun _ => false, pn := [], xe := fun _ _ => False }
/-- what is asked of the block's table -/
structure Blk (X : Cx) (scope : Scope) (x : Str) (ns : List Nat) : Prop where
  kind : scope.kind = .function
  nocell : (scope.names.all fun y => y.2 != .cell) = true
  loc : (scope.names.all fun y => y.2 != .local || scope.names.lookup y.1 == some .local) = true
  own : scope.names.lookup x = some .local
  fr : (scope.names.all fun y => y.2 != .free || X.env.kindOf y.1 == some .cell) = true
  nd : (namesC X x ns).Nodup
  up : (ns.all fun j => scope.names.lookup (X.N.getD j Str.empty) == some .free) = true
section
variable {X : Cx} {scope : Scope} {x : Str} {ns : List Nat} {pins : List (Addr × Obj)} {σ : St} {H : Hp} {s : Shared}
theorem Blk.cells (B : Blk X scope x ns) (ok : X.Ok) : ∀ y ∈ scope.names, y.2 = .free → ∃ c, X.env.cells.lookup y.1 = some c := fun y hy hk => by
  have q := List.all_eq_true.mp B.fr y hy
  rw [hk] at q
  refine ok.has y.1 (.inl ?_)
  simpa using q
theorem Blk.from (B : Blk X scope x ns) (ok : X.Ok) {y : Str} {c : Addr} (e : (clOf X.env scope.names []).lookup y = some c) : X.env.cells.lookup y = some c := by
  rcases cl_from scope.names [] (B.cells ok) e with q | q
  · cases q
  · exact q
theorem Blk.has (B : Blk X scope x ns) {y : Str} {k : NameKind} (e : (relabel scope X.env).names.lookup y = some k) (hk : k = .cell ∨ k = .free) : ∃ c, (clOf X.env scope.names []).lookup y = some c := by
  obtain ⟨k0, e0, h0⟩ := lookup_rel (env := X.env) e
  have hm := PySem.mem_of_lookup e0
  have nc := List.all_eq_true.mp B.nocell _ hm
  have hf : k0 = .free := by
    rcases h0 with q | ⟨q, _⟩
    · subst q
      rcases hk with q | q
      · rw [q] at nc; cases nc
      · exact q
    · exact q
  subst hf
  exact cl_has scope.names [] hm
/-- the block's beginning: behind the new list (tracked), the block's own table just laid -/
theorem Inv.block (I : Inv X pins σ H s) (B : Blk X scope x ns) {fp : List Addr} (hfp : ∀ b ∈ fp, FpOk X pins H b) (hlt : ∀ b ∈ fp, b < s.heap.objs.size) {h1 : Heap} {m : Str → Option Value} {tk : Nat} (hn : h1.Ns s.heap.objs.size m)
    (hk : ∀ b o, s.heap.get? b = some o → h1.get? b = some o) : Inv (cxC X scope x ns s H fp) [] (slotsC ns σ none) H { s with heap := h1, toks := tk } := by
  have nofs : ∀ b ∈ fp, b ∉ frs X.stack := fun b hb hz => by
    rcases List.mem_cons.mp (I.stkSub b hz) with e | e
    · exact (hfp b hb).2.1 e
    · exact (hfp b hb).2.2.1 e
  refine ⟨⟨I.ok.mod, B.kind, I.ok.glob, I.ok.blt, Nat.le_refl _, fun y z c e1 e2 => I.ok.inj y z c (B.from I.ok e1) (B.from I.ok e2), fun y hy => ?_, fun y c hy _ => absurd hy (by simp [cxC]), I.ok.hd, I.ok.frames, .inl rfl, fun b hb => ⟨Nat.ne_of_lt (hlt b hb), fun y c e => (hfp b hb).2.2.2.2.1 y c (B.from I.ok e)⟩,
    I.bs, Nat.le_trans I.ok.bsz I.sz, fun b o e hb => ?_, nofs, I.stack, I.stkFree⟩, rfl, I.bare, Un.kept hk, ⟨m, hn, fun i y v e1 e2 e3 => ?_⟩, fun y c e => ?_, I.hok.fresh (Nat.le_refl _), fun y c e => I.freeC y c (B.from I.ok e), fun p hp => absurd (show p ∈ ([] : List (Addr × Obj)) from hp) (by simp), I.hok.kept hk, ?_⟩
  · rcases hy with hy | hy
    · exact B.has hy (.inl rfl)
    · exact B.has hy (.inr rfl)
  · rcases (hfp b hb).2.2.2.1 with z | z
    · exact I.ok.noex b o e z
    · exact absurd (Nat.lt_of_lt_of_le (Heap.lt_size e) (Nat.le_trans I.ok.bsz z)) (Nat.lt_irrefl _)
  · cases i with
    | zero => simp [slotsC] at e2
    | succ i =>
      have e1' : (ns.map fun j => X.N.getD j Str.empty)[i]? = some y := e1
      have e2' : (ns.map fun j => (σ[j]?).join)[i]? = some (some v) := e2
      rw [List.getElem?_map] at e1' e2'
      cases ej : ns[i]? with
      | none => rw [ej] at e1'; cases e1'
      | some j =>
        rw [ej] at e1' e2'
        have ey : X.N.getD j Str.empty = y := Option.some.inj e1'
        have ev : (σ[j]?).join = some v := Option.some.inj e2'
        have ev' : σ[j]? = some (some v) := by
          cases q : σ[j]? with
          | none => rw [q] at ev; cases ev
          | some o => rw [q] at ev; exact congrArg some ev
        have hj : j < X.N.length := by
          rw [← I.len]
          exact (List.getElem?_eq_some_iff.mp ev').1
        have hNy : X.N[j]? = some y := by
          rw [List.getElem?_eq_getElem hj, ← ey, List.getD_eq_getElem?_getD, List.getElem?_eq_getElem hj]; rfl
        have hup := List.all_eq_true.mp B.up j (List.mem_of_getElem? ej)
        rw [ey] at hup
        have hfree : scope.names.lookup y = some .free := by simpa using hup
        have hm := PySem.mem_of_lookup hfree
        have hcell : X.env.kindOf y = some .cell := by
          have q := List.all_eq_true.mp B.fr _ hm
          simpa using q
        obtain ⟨m0, hn0, hl0⟩ := I.loc
        obtain ⟨u, ru, look⟩ := hl0 j y v hNy ev' (.inr (.inl hcell))
        obtain ⟨c', ec'⟩ := cl_has (env := X.env) scope.names [] hm
        refine ⟨u, ru, .inr ⟨?_, c', ec', ?_⟩⟩
        · rcases e3 with e3 | e3 | e3
          · obtain ⟨k0, e0, h0⟩ := lookup_rel (env := X.env) e3
            rw [hfree] at e0
            cases e0
            rcases h0 with h0 | ⟨_, h0⟩ <;> cases h0
          · exact .inl e3
          · exact .inr e3
        · have ec := B.from I.ok ec'
          rcases look with ⟨hk1, _⟩ | ⟨_, c, e, hc⟩
          · rw [hcell] at hk1; cases hk1
          · rw [ec] at e
            cases e
            obtain ⟨o, ho, hd⟩ := hc
            exact ⟨o, hk _ _ ho, hd⟩
  · obtain ⟨v, o, ho, hd⟩ := I.cell y c (B.from I.ok e)
    exact ⟨v, o, hk _ _ ho, hd⟩
  · show (slotsC ns σ none).length = (namesC X x ns).length
    simp [slotsC, namesC]
/-- behind the block -/
theorem Inv.unblock {fp : List Addr} {σ' : St} {H' : Hp} {s' : Shared} (I : Inv X pins σ H s) (hfp : ∀ b ∈ fp, FpOk X pins H b) (J : Inv (cxC X scope x ns s H fp) [] σ' H' s') {h2 : Heap} (hs : Heap.SameBut s.heap.objs.size s'.heap h2) :
    Inv X pins σ H' { s' with heap := h2 } := by
  have hC : H' s.heap.objs.size = none := J.free
  have st : ∀ b o, b ≠ s.heap.objs.size → s'.heap.get? b = some o → h2.get? b = some o := fun b o hb e => (hs.2 b hb).trans e
  have ne : ∀ b o, s.heap.get? b = some o → b ≠ s.heap.objs.size := fun b o e => Nat.ne_of_lt (Heap.lt_size e)
  have U := J.base
  refine I.call' (s' := { s' with heap := h2 }) (ch := fp) J.os ⟨fun b o e n hb hx => st b o (ne b o e) (U.keep b o e n hb hx), fun b o e n hb hx => ?_, U.free, fun b o e hx => ?_, U.tups, U.frzs, U.tbls⟩ (fun b u e => ?_) J.bare fun b hb => ⟨(hfp b hb).2.2.2.1, (hfp b hb).2.1, (hfp b hb).2.2.2.2.1, (hfp b hb).2.2.2.2.2⟩
  · obtain ⟨sl, q⟩ := U.slot b o e n hb hx
    exact ⟨sl, st b _ (ne b o e) q⟩
  · obtain ⟨o', q⟩ := U.there b o e hx
    exact ⟨o', st b _ (ne b o e) q⟩
  · refine (J.hok b u e).stay (fun c v hc q => st c v ?_ q) (fun _ q => q) fun _ _ q => q
    rintro rfl
    rcases hc with z | z
    · rw [← z, hC] at e; cases e
    · rw [hC] at z; cases z
end
/-- the clause's test, or none -/
def PTs (X : Cx) (ifs : List Expr) (t : TT) : Prop :=
  ∀ (pins : List (Addr × Obj)) (s : Shared) (σ : St) (H : Hp) (Q : Bool → Hp → Prop), Inv X pins σ H s → t σ H Q →
    wpAny (model X.prog X.w) X.A (forIn ifs true fun c r => if r = true then do let ok ← isTrue c X.env (eval c X.env); pure (ForInStep.yield ok) else pure (ForInStep.yield r)) (TP X pins σ Q) X.xe s
def tNoIf : TT := fun _ H Q => Q true H
theorem pts_nil {X : Cx} : PTs X [] tNoIf := fun _ _ _ H _ I h => wpAny_tests_nil ⟨H, I, h⟩
theorem pts_one {X : Cx} {c : Expr} {t : TT} (h : PT X c t) : PTs X [c] t := fun pins s σ H Q I q => wpAny_tests_one (h pins s σ H Q I q)
/-- W: by the turn, a measure and the heap, in which the new list stands at D -/
def CompOk (J : It) (ns : List Nat) (tt : TT) (te : TE) (σ : St) (H1 : Hp) (Q : VK) : Prop := ∀ D, H1 D = none → ∃ W : Nat → Nat → Hp → Prop, (∃ m, W 0 m (upd H1 D (.lst []))) ∧ ∀ i m H2, W i m H2 →
  (J.stop i H2 ∧ Q (.ref D) H2) ∨ (J.go i H2 ∧ ∀ v H3, J.yld i H2 v H3 → tt (slotsC ns σ (some v)) H3 fun b H4 => if b = true then te (slotsC ns σ (some v)) H4 fun y H5 =>
    ∃ ys, H5 D = some (.lst ys) ∧ ys.length < sizeLine ∧ ∃ m', m' < m ∧ W (i + 1) m' (upd H5 D (.lst (ys ++ [y]))) else ∃ m', m' < m ∧ W (i + 1) m' H4)
def tComp (wi : TI) (ns : List Nat) (tt : TT) (te : TE) : TE := fun σ H Q => wi σ H fun J H1 => CompOk J ns tt te σ H1 Q
theorem letGo_then {M : Model} {A : Around} {E : Value → Shared → Prop} {α : Type} {t : Sem α} {Q : α → Shared → Prop} {s : Shared} (h : wpAny M A (pure ()) (fun _ s2 => wpAny M A t Q E s2) E s) : wpAny M A t Q E s := fun G p hG => (h G p hG : wpAny M A t Q E s) G p hG
section
variable {X : Cx} {scope : Scope} {x : Str} {ns : List Nat} {iter elt : Expr} {ifs : List Expr} {px pos : Pos} {wi : TI} {tt : TT} {te : TE}
theorem comp_any {use : Option (Value → Sem Unit)} {Q0 : Value → Shared → Prop} {p0 : Pos} {pins : List (Addr × Obj)} {s : Shared} {σ : St} {H : Hp} {Q : VK} (hc : X.calm = true) (B : Blk X scope x ns) (hi : PI X (.Name x px) iter wi) (ht : ∀ s H fp, PTs (cxC X scope x ns s H fp) ifs tt) (he : ∀ s H fp, PE (cxC X scope x ns s H fp) elt te)
    (hs : ∀ v, foldedSetIterable iter X.env v = pure v) (I : Inv X pins σ H s) (h : tComp wi ns tt te σ H Q)
    (fin : ∀ (s3 s6 : Shared) (H3 H6 : Hp) (fp : List Addr) (D : Addr), Inv X pins σ H3 s3 → (∀ b ∈ fp, FpOk X pins H3 b) → Inv (cxC X scope x ns s3 H3 fp) [] (slotsC ns σ none) H6 s6 → Q (.ref D) H6 → compPost (model X.prog X.w) X.A X.xe use Q0 (.ref D) s3.heap.objs.size (.ok .next) s6) :
    wpAny (model X.prog X.w) X.A (comprehension (.ListComp elt [⟨.Name x px, iter, ifs, 0⟩] scope pos) scope X.env p0 (newList []) false (eval iter X.env) use) Q0 X.xe s := by
  have hloc : ∀ y ∈ scope.names, y.2 = .local → scope.names.lookup y.1 = some .local := fun y hy hk => by
    have q := List.all_eq_true.mp B.loc y hy
    rw [hk] at q
    simpa using q
  have hcell : ∀ y ∈ scope.names, y.2 ≠ .cell := fun y hy hk => by
    have q := List.all_eq_true.mp B.nocell y hy
    rw [hk] at q
    cases q
  refine wpAny_comprehension_free (use := use) rfl hs (clos_is (B.cells I.ok)) B.kind hloc (thn (hi pins s σ H _ I h) fun v s1 h1 => thn h1 fun itv s2 h2 => ?_)
  obtain ⟨it, fp, tn, J, H2, e, I2, T, st2, f2, q2⟩ := h2
  subst e
  refine wpAny_newObj_type ?_
  obtain ⟨W, ⟨m0, w0⟩, turn⟩ := q2 s2.heap.objs.size I2.fresh
  have I3 := I2.lnew (ys := []) (its := []) (t' := s2.toks) .nil (Nat.zero_le _)
  generalize hs3 : ({ s2 with heap := s2.heap.push { cls := .type "list", data := .seq ([] : List Value).toArray }, toks := s2.toks } : Shared) = s3 at I3
  have e3 : s3.heap = s2.heap.push { cls := .type "list", data := .seq ([] : List Value).toArray } := by rw [← hs3]
  have lt2 : ∀ b ∈ fp, b < s2.heap.objs.size := fun b hb => by
    obtain ⟨o, q, _⟩ := T.obj _ _ st2 b hb
    exact Heap.lt_size q
  have f3 : ∀ b ∈ fp, FpOk X pins (upd H2 s2.heap.objs.size (.lst [])) b := fun b hb => ⟨by rw [upd_ne (Nat.ne_of_lt (lt2 b hb))]; exact (f2 b hb).1, (f2 b hb).2⟩
  have lt3 : ∀ b ∈ fp, b < s3.heap.objs.size := fun b hb => by
    rw [e3, Heap.size_push]
    exact Nat.lt_succ_of_lt (lt2 b hb)
  have st3 : tn 0 s3.heap := T.keep _ _ _ st2 fun b hb o q => by rw [e3]; exact Heap.get?_push_of_some _ q
  refine wpAny_newFunctionEnv hcell (fun y hy => nomatch hy) (fun h1 hn1 hb1 => ?_) B.kind
  have k1 : ∀ b o, s3.heap.get? b = some o → h1.get? b = some o := fun b o q => hb1.extBut b o (Nat.ne_of_lt (Heap.lt_size q)) (Heap.get?_push_of_some _ q)
  have I4 := I3.block B f3 lt3 (tk := s3.toks + ([] : List (Str × Value)).length) hn1 k1
  have st4 : tn 0 h1 := T.keep _ _ _ st3 fun b _ o q => k1 b o q
  have hkeep : ∀ {v : Option V} {H' : Hp} {s' : Shared}, Inv (cxC X scope x ns s3 (upd H2 s2.heap.objs.size (.lst [])) fp) [] (slotsC ns σ v) H' s' → Inv (cxC X scope x ns s3 (upd H2 s2.heap.objs.size (.lst [])) fp) [] (slotsC ns σ none) H' s' := fun {v H' s'} J' =>
    J'.weak (by simp [slotsC]) fun i w' q => by
      cases i with
      | zero => simp [slotsC] at q
      | succ i => exact q
  have fpC : ∀ {H' : Hp}, (∀ b ∈ fp, H' b = none) → ∀ b ∈ fp, FpOk (cxC X scope x ns s3 (upd H2 s2.heap.objs.size (.lst [])) fp) [] H' b := fun {H'} hn b hb =>
    ⟨hn b hb, Nat.ne_of_lt (lt3 b hb), I4.ok.exfs b hb, .inl hb, fun y c q => (f3 b hb).2.2.2.2.1 y c (B.from I3.ok q), fun p hp => absurd (show p ∈ ([] : List (Addr × Obj)) from hp) (by simp)⟩
  have loop : codeAny (model X.prog X.w) X.A (.compLoop (.ListComp elt [⟨.Name x px, iter, ifs, 0⟩] scope pos) 0 (.ref it) (.ref s2.heap.objs.size) (cxC X scope x ns s3 (upd H2 s2.heap.objs.size (.lst [])) fp).env)
      (compPost (model X.prog X.w) X.A X.xe use Q0 (.ref s2.heap.objs.size) s3.heap.objs.size) { s3 with heap := h1, toks := s3.toks + ([] : List (Str × Value)).length } := by
    refine codeAny_compLoop_tests (fun n s' => ∃ i H', Inv (cxC X scope x ns s3 (upd H2 s2.heap.objs.size (.lst [])) fp) [] (slotsC ns σ none) H' s' ∧ tn i s'.heap ∧ (∀ b ∈ fp, H' b = none) ∧ W i n H') ?_ m0 ⟨0, _, I4, st4, fun b hb => (f3 b hb).1, w0⟩
    rintro n s5 ⟨i, H5, I5, st5, fr5, w5⟩
    rcases turn i n H5 w5 with ⟨stop, qn⟩ | ⟨go, step⟩
    · refine thn (T.done (cxC X scope x ns s3 (upd H2 s2.heap.objs.size (.lst [])) fp) rfl rfl rfl hc i [] s5 _ H5 _ I5 (fpC fr5) st5 stop) fun r s6 ⟨hr, I6⟩ => ?_
      subst hr
      exact fin s3 s6 _ H5 fp _ I3 f3 I6 qn
    · refine thn (T.item (cxC X scope x ns s3 (upd H2 s2.heap.objs.size (.lst [])) fp) rfl rfl rfl hc i [] s5 _ H5 _ I5 (fpC fr5) st5 go) fun r s6 ⟨u, hr, h6⟩ => ?_
      subst hr
      refine letGo_then (thn h6 fun _ s7 ⟨v, H7, I7, r7, y7, st7, fr7⟩ => ?_)
      have I7' := I7.pinned (fpC fr7) (T.obj _ _ st7)
      have hxl : Loc (cxC X scope x ns s3 (upd H2 s2.heap.objs.size (.lst [])) fp).env.scope x := .inl (lookup_relabel_local B.own)
      refine wpAny_assign_Name (store_ok (i := 0) I7' B.nd rfl hxl r7 (fun s8 I8 => ?_) (.inr (lookup_relabel_local B.own)))
      have I8' : Inv (cxC X scope x ns s3 (upd H2 s2.heap.objs.size (.lst [])) fp) ([] ++ pinsAt fp s7.heap) (slotsC ns σ (some v)) H7 s8 := I8
      have again : ∀ {H' : Hp} {s' : Shared} {m' : Nat}, Inv (cxC X scope x ns s3 (upd H2 s2.heap.objs.size (.lst [])) fp) ([] ++ pinsAt fp s7.heap) (slotsC ns σ (some v)) H' s' → m' < n → W (i + 1) m' H' →
          ∃ m, m < n ∧ ∃ i H', Inv (cxC X scope x ns s3 (upd H2 s2.heap.objs.size (.lst [])) fp) [] (slotsC ns σ none) H' s' ∧ tn i s'.heap ∧ (∀ b ∈ fp, H' b = none) ∧ W i m H' := fun {H' s' m'} J' hm w' => by
        refine ⟨m', hm, i + 1, H', hkeep J'.unpinned, T.keep _ _ _ st7 fun b hb o e => (J'.pin (b, o) (List.mem_append_right _ (List.mem_append_right _ (mem_pinsAt hb e)))).1, fun b hb => ?_, w'⟩
        obtain ⟨o, e, d⟩ := T.obj _ _ st7 b hb
        exact (J'.pin (b, o) (List.mem_append_right _ (List.mem_append_right _ (mem_pinsAt hb e)))).2.1
      refine wpAny_mono (ht s3 _ fp _ s8 _ H7 _ I8' (step v H7 y7)) (fun b s9 ⟨H9, I9, q9⟩ => ?_) fun _ _ f => f.elim
      cases b with
      | false =>
        obtain ⟨m', hm, w'⟩ := q9
        exact again I9 hm w'
      | true =>
        refine wpAny_mono (he s3 _ fp _ s9 _ H9 _ I9 q9) (fun y s10 ⟨yv, H10, I10, r10, ys, hD, hz, m', hm, w'⟩ => ?_) fun _ _ f => f.elim
        refine wpAny_mono (mt_append (X := cxC X scope x ns s3 (upd H2 s2.heap.objs.size (.lst [])) fp) _ s10 _ H10 (.ref s2.heap.objs.size) [yv] (.ref s2.heap.objs.size) [y] (fun _ H' => H' = upd H10 s2.heap.objs.size (.lst (ys ++ [yv]))) I10 rfl (.cons r10 .nil) ⟨_, ys, yv, rfl, rfl, hD, hz, rfl⟩)
          (fun _ s11 ⟨_, H11, I11, _, e11⟩ => ?_) fun _ _ f => f.elim
        subst e11
        exact again I11 hm w'
  have start : codeAny (model X.prog X.w) X.A (.compStart (.ListComp elt [⟨.Name x px, iter, ifs, 0⟩] scope pos) 0 (.ref it) (.ref s2.heap.objs.size) (cxC X scope x ns s3 (upd H2 s2.heap.objs.size (.lst [])) fp).env)
      (compPost (model X.prog X.w) X.A X.xe use Q0 (.ref s2.heap.objs.size) s3.heap.objs.size) { s3 with heap := h1, toks := s3.toks + ([] : List (Str × Value)).length } :=
    codeAny_compStart_list loop (T.self _ 0 _ _ _ st4 loop)
  exact start
theorem pe_comp (hc : X.calm = true) (B : Blk X scope x ns) (hi : PI X (.Name x px) iter wi) (ht : ∀ s H fp, PTs (cxC X scope x ns s H fp) ifs tt) (he : ∀ s H fp, PE (cxC X scope x ns s H fp) elt te)
    (hs : ∀ v, foldedSetIterable iter X.env v = pure v := by intro _; rfl) : PE X (.ListComp elt [⟨.Name x px, iter, ifs, 0⟩] scope pos) (tComp wi ns tt te) := by
  intro pins s σ H Q I h
  rw [eval_ListComp]
  refine comp_any hc B hi ht he hs I h fun s3 s6 H3 H6 fp D I3 f3 I6 q => ?_
  obtain ⟨m6, hn6, _⟩ := I6.loc
  exact ⟨m6, hn6, fun h' hs' => ⟨.ref D, H6, I3.unblock f3 I6 hs', rfl, q⟩⟩
/-- y = [e for x in it ..]: the list is stored ahead of the block's end -/
theorem ps_setComp {i : Nat} {y : Str} {py spos : Pos} (hc : X.calm = true) (hN : X.N.Nodup) (hi' : X.N[i]? = some y) (hy : Loc X.env.scope y) (B : Blk X scope x ns) (hi : PI X (.Name x px) iter wi) (ht : ∀ s H fp, PTs (cxC X scope x ns s H fp) ifs tt) (he : ∀ s H fp, PE (cxC X scope x ns s H fp) elt te)
    (hsw : swapsWith (.ListComp elt [⟨.Name x px, iter, ifs, 0⟩] scope pos) (some (.Name y py)) spos.line X.env = pure true := by rfl) (hf : X.fn y = true ∨ X.env.scope.names.lookup y = some .local := by first | exact .inl rfl | exact .inr rfl | assumption)
    (hs : ∀ v, foldedSetIterable iter X.env v = pure v := by intro _; rfl) : PS X (.Assign [.Name y py] (.ListComp elt [⟨.Name x px, iter, ifs, 0⟩] scope pos) spos) (tAsg (tComp wi ns tt te) (gName i)) := by
  intro pins s σ H D I h
  rw [exec_Assign_Name_used _ _ _ _ hsw]
  refine wpAny_bind (wpAny_standAt (wpAny_bind ?_))
  show wpAny _ X.A (do let _ ← comprehension (.ListComp elt [⟨.Name x px, iter, ifs, 0⟩] scope pos) scope X.env _ (newList []) false (eval iter X.env) (some (assign (.Name y py) X.env))) _ _ s
  refine wpAny_bind (thn (comp_any (use := some (assign (.Name y py) X.env)) (Q0 := fun _ s' => SP X pins D .next s') (Q := fun v H1 => gName i v σ H1 D.nx) hc B hi ht he hs I h fun s3 s6 H3 H6 fp Dl I3 f3 I6 q => ?_) fun _ s' hq => wpAny_pure (wpAny_pure hq))
  obtain ⟨m6, hn6, _⟩ := I6.loc
  have IX : Inv X pins σ H6 s6 := I3.unblock (h2 := s6.heap) f3 I6 ⟨rfl, fun _ _ => rfl⟩
  show wpAny _ _ (assign (.Name y py) X.env (.ref Dl)) _ _ s6
  refine wpAny_assign_Name (store_ok2 IX hN hi' hy (v := .ref Dl) rfl (fun s7 I7 ⟨b, sb, hb⟩ => ?_) hf)
  have lt : ∀ c : Addr, c < s3.heap.objs.size → c ≠ s3.heap.objs.size := fun c h => Nat.ne_of_lt h
  have hbC : s3.heap.objs.size ≠ b := by
    rcases hb with e | e
    · rw [e]
      exact (lt _ I3.lt).symm
    · obtain ⟨v, q⟩ := I3.cell y b e
      exact (lt _ q.lt).symm
  refine ⟨m6, hn6.sameBut sb hbC, fun h' hs' => ⟨_, H6, ?_, q⟩⟩
  refine I7.turned (t' := s7.toks) (it := s3.heap.objs.size) (fun c o hc e => (hs'.2 c hc).trans e) I6.free (lt _ I3.lt).symm (.inr I3.sz) (fun z c e => ?_) fun p hp => ?_
  · obtain ⟨v, q⟩ := I3.cell z c e
    exact lt _ q.lt
  · exact lt _ (Heap.lt_size (I3.pin p hp).1)
end
end L2

/-! ### comprehensions, the forms one uses -/
namespace L2
open PySem PySem.Spec PyProof.Rows
theorem same_upd {H H' : Hp} {p : Addr} (h : Same H H') (hn : H p = none) (o : HO) : Same H (upd H' p o) := fun b u q => by rw [upd_ne (ne_of_none q hn)]; exact h b u q
theorem same_new {H : Hp} {p : Addr} (h : H p = none) (o : HO) : Same H (upd H p o) := same_upd (Same.refl H) h o
def resC (n : Nat) (p : Nat → Bool) (f : Nat → V) : List V := ((List.range n).filter p).map f
theorem resC_zero (p : Nat → Bool) (f : Nat → V) : resC 0 p f = [] := rfl
theorem resC_succ (n : Nat) (p : Nat → Bool) (f : Nat → V) : resC (n + 1) p f = resC n p f ++ (if p n = true then [f n] else []) := by
  unfold resC
  rw [List.range_succ, List.filter_append, List.map_append]
  congr 1
  by_cases h : p n = true
  · rw [if_pos h, List.filter_cons_of_pos h]; rfl
  · rw [if_neg h, List.filter_cons_of_neg h]; rfl
theorem resC_len (n : Nat) (p : Nat → Bool) (f : Nat → V) : (resC n p f).length ≤ n := by
  unfold resC
  rw [List.length_map]
  have := List.length_filter_le p (List.range n)
  rwa [List.length_range] at this
theorem resC_all (n : Nat) (f : Nat → V) : resC n (fun _ => true) f = (List.range n).map f := by
  unfold resC
  rw [List.filter_eq_self.mpr fun _ _ => rfl]
theorem range_map_get {α : Type} (xs : List α) (g : α → V) (f : Nat → V) (h : ∀ (i : Nat) (x : α), xs[i]? = some x → f i = g x) : (List.range xs.length).map f = xs.map g := by
  apply List.ext_getElem?
  intro i
  rw [List.getElem?_map, List.getElem?_map]
  by_cases hi : i < xs.length
  · rw [List.getElem?_range hi, List.getElem?_eq_getElem hi]
    exact congrArg some (h i xs[i] (List.getElem?_eq_getElem hi))
  · have e1 : (List.range xs.length)[i]? = none := by rw [List.getElem?_eq_none_iff, List.length_range]; omega
    have e2 : xs[i]? = none := by rw [List.getElem?_eq_none_iff]; omega
    rw [e1, e2]; rfl
theorem comp_go {J : It} {n : Nat} {x f : Nat → V} {p : Nat → Bool} {ns : List Nat} {tt : TT} {te : TE} {σ : St} {H1 : Hp} {Q : VK}
    (hz : n ≤ sizeLine) (hstop : ∀ H', Same H1 H' → J.stop n H') (hgo : ∀ i H', i < n → Same H1 H' → J.go i H') (hy : ∀ i H' v H'', i < n → Same H1 H' → J.yld i H' v H'' → H'' = H' ∧ v = x i)
    (htest : ∀ i H' (R : Bool → Hp → Prop), i < n → Same H1 H' → (∀ H'', Same H' H'' → R (p i) H'') → tt (slotsC ns σ (some (x i))) H' R)
    (helt : ∀ i H' (R : VK), i < n → p i = true → Same H1 H' → (∀ H'', Same H' H'' → R (f i) H'') → te (slotsC ns σ (some (x i))) H' R)
    (q : ∀ D H', H1 D = none → Same H1 H' → H' D = some (.lst (resC n p f)) → Q (.ref D) H') :
    CompOk J ns tt te σ H1 Q := by
  intro D hD
  refine ⟨fun i m H' => m = n - i ∧ i ≤ n ∧ Same H1 H' ∧ H' D = some (.lst (resC i p f)), ⟨n, by omega, Nat.zero_le _, same_new hD _, upd_same⟩, ?_⟩
  rintro i m H2 ⟨rfl, hi, hs, hl⟩
  by_cases hlt : i < n
  · refine .inr ⟨hgo i H2 hlt hs, fun v H3 y => ?_⟩
    obtain ⟨e1, e2⟩ := hy i H2 v H3 hlt hs y
    subst e1 e2
    refine htest i _ _ hlt hs fun H4 h4 => ?_
    cases hp : p i with
    | false =>
      refine iteF ⟨n - (i + 1), by omega, rfl, hlt, hs.trans h4, ?_⟩
      rw [resC_succ, hp, h4 _ _ hl, if_neg Bool.false_ne_true, List.append_nil]
    | true =>
      refine iteT (helt i _ _ hlt hp (hs.trans h4) fun H5 h5 => ⟨resC i p f, h5 _ _ (h4 _ _ hl), ?_, n - (i + 1), by omega, rfl, hlt, same_upd ((hs.trans h4).trans h5) hD _, ?_⟩)
      · have := resC_len i p f; omega
      · rw [upd_same, resC_succ, hp, if_pos rfl]
  · have e : i = n := by omega
    subst e
    exact .inl ⟨hstop H2 hs, q D H2 hD hs hl⟩
/-- over a list -/
theorem comp_list {K : PySem.W.Frag} {a : Addr} {xs : List V} {f : Nat → V} {p : Nat → Bool} {ns : List Nat} {tt : TT} {te : TE} {σ : St} {H1 : Hp} {Q : VK} (hS : SqL K H1 a xs) (hz : xs.length ≤ sizeLine)
    (htest : ∀ i v H' (R : Bool → Hp → Prop), xs[i]? = some v → Same H1 H' → (∀ H'', Same H' H'' → R (p i) H'') → tt (slotsC ns σ (some v)) H' R)
    (helt : ∀ i v H' (R : VK), xs[i]? = some v → p i = true → Same H1 H' → (∀ H'', Same H' H'' → R (f i) H'') → te (slotsC ns σ (some v)) H' R)
    (q : ∀ D H', H1 D = none → Same H1 H' → H' D = some (.lst (resC xs.length p f)) → Q (.ref D) H') :
    CompOk (Itl K a) ns tt te σ H1 Q := by
  have get : ∀ i, i < xs.length → xs[i]? = some (xs.getD i .non) := fun i hi => by rw [List.getD_eq_getElem?_getD, List.getElem?_eq_getElem hi]; rfl
  refine comp_go (x := fun i => xs.getD i .non) (f := f) (p := p) hz (fun H' h => ⟨xs, h.seq hS, Nat.le_refl _⟩) (fun i H' hi h => ⟨xs, _, h.seq hS, get i hi⟩) (fun i H' v H'' hi h y => ⟨y.1, ?_⟩)
    (fun i H' R hi h k => htest i _ H' R (get i hi) h k) (fun i H' R hi hp h k => helt i _ H' R (get i hi) hp h k) q
  have := y.2 xs (h.seq hS)
  rw [get i hi] at this
  exact (Option.some.inj this).symm
/-- over a range upward -/
theorem comp_rng {lo : Int} {n : Nat} {f : Nat → V} {p : Nat → Bool} {ns : List Nat} {tt : TT} {te : TE} {σ : St} {H1 : Hp} {Q : VK} (hz : n ≤ sizeLine)
    (htest : ∀ (i : Nat) H' (R : Bool → Hp → Prop), i < n → Same H1 H' → (∀ H'', Same H' H'' → R (p i) H'') → tt (slotsC ns σ (some (.int (lo + i)))) H' R)
    (helt : ∀ (i : Nat) H' (R : VK), i < n → p i = true → Same H1 H' → (∀ H'', Same H' H'' → R (f i) H'') → te (slotsC ns σ (some (.int (lo + i)))) H' R)
    (q : ∀ D H', H1 D = none → Same H1 H' → H' D = some (.lst (resC n p f)) → Q (.ref D) H') :
    CompOk (Itr lo n) ns tt te σ H1 Q :=
  comp_go (x := fun i => .int (lo + i)) hz (fun _ _ => Nat.le_refl _) (fun _ _ hi _ => hi) (fun _ _ _ _ _ _ y => y) htest helt q

/-! ### range(a, b, -1) -/
def Itd (hi : Int) (n : Nat) : It := ⟨fun i _ => i < n, fun i H x H' => H' = H ∧ x = .int (hi - i), fun i _ => n ≤ i⟩
theorem turn_down {P : Program} {w : World} {K : PySem.W.Frag} {tg : Expr} (it : Addr) (hi : Int) (n : Nat) : Turn P w K tg (Itd hi n) [it] it (fun i h => IsRangeIter h it (hi + (i : Nat) * (-1)) ((n : Int) - (i : Nat)) (-1)) where
  mem := by simp
  obj := fun i h st b hb => by
    have e : b = it := by simpa using hb
    subst e
    exact ⟨_, st, fun v z => by
      have z' : Data.fields _ = Data.cell v := z
      cases z'⟩
  keep := fun i h h' st k => k it (by simp) _ st
  item := by
    intro X hP hw hK hc i pins s σ H E I hf st hg
    subst hP hw hK
    obtain ⟨f0, f1, f2, f3, f4, f5⟩ := hf it (by simp)
    have W := Walks.range (prog := X.prog) (w := X.w) (I.ok.hd hc) it hi (-1) n
    refine W.item i s _ _ hg st fun v h' tk hv st' kk => ?_
    obtain ⟨t, rfl⟩ := hv
    have I1 : Inv X pins σ H { s with heap := h', toks := tk } := I.turned (fun b o hb e => kk b o (by simpa using hb) e) f0 f1 f3 f4 f5
    refine ⟨_, rfl, go_of (s := { s with heap := h', toks := tk }) (n := "range_iterator") st' rfl rfl (by decide) ⟨.int (hi - i), H, I1, ⟨t, ?_⟩, ⟨rfl, rfl⟩, st', fun b hb => (hf b hb).1⟩⟩
    rw [show hi + (i : Int) * (-1) = hi - i by omega]
  done := by
    intro X hP hw hK hc i pins s σ H E I hf st hg
    subst hP hw hK
    obtain ⟨f0, f1, f2, f3, f4, f5⟩ := hf it (by simp)
    exact wpAny_pyNext_range_end (I.ok.hd hc) st (by have : n ≤ i := hg; omega) fun h' eb => ⟨rfl, I.turned (t' := s.toks) (fun b o hb e => eb b o hb e) f0 f1 f3 f4 f5⟩
  self := fun _ _ _ _ _ st h => wpAny_pyIter_rangeiter st h
section
variable {X : Cx} {tg : Expr}
theorem range_dn {pins : List (Addr × Obj)} {σ : St} {H : Hp} {s : Shared} {R : It → Hp → Prop} {E : Value → Shared → Prop} {lo hi : Int} {t u v : Tok} {tk : Nat} (I : Inv X pins σ H s) (h1 : -(2 ^ 62) ≤ hi) (h2 : hi < 2 ^ 62) (h3 : -(2 ^ 62) ≤ lo) (h4 : lo < 2 ^ 62)
    (q : R (Itd hi (hi - lo).toNat) H) : wpAny (model X.prog X.w) X.A (pyIter (.ref s.heap.objs.size)) (PIE X pins σ tg R) E { s with heap := s.heap.push { cls := .type "range", data := .fields #[.int hi t, .int lo u, .int (-1) v] }, toks := tk } := by
  refine wpAny_pyIter_range (IsRange.new ..) (PySem.W.small_down h1 h2 h3 h4) ?_
  have I1 : Inv X pins σ H { s with heap := s.heap.push { cls := .type "range", data := .fields #[.int hi t, .int lo u, .int (-1) v] }, toks := tk } := I.kept fun b o e => Heap.get?_push_of_some _ e
  refine ⟨(s.heap.push { cls := .type "range", data := .fields #[.int hi t, .int lo u, .int (-1) v] }).objs.size, [(s.heap.push { cls := .type "range", data := .fields #[.int hi t, .int lo u, .int (-1) v] }).objs.size], _, _, H, rfl,
    I1.kept (t' := tk) fun b o e => Heap.get?_push_of_some _ e, turn_down _ hi (hi - lo).toNat, ?_, fun b hb => ?_, q⟩
  · have e1 : hi + ((0 : Nat) : Int) * (-1) = hi := by simp
    have e2 : (((hi - lo).toNat : Nat) : Int) - ((0 : Nat) : Int) = Builtin.Range.rangeSize hi lo (-1) := by rw [PySem.W.rangeSize_downNat]; omega
    show IsRangeIter _ _ (hi + ((0 : Nat) : Int) * (-1)) ((((hi - lo).toNat : Nat) : Int) - ((0 : Nat) : Int)) (-1)
    rw [e1, e2]
    exact Heap.get?_push_size _ rfl
  · have e : b = (s.heap.push { cls := .type "range", data := .fields #[.int hi t, .int lo u, .int (-1) v] }).objs.size := by simpa using hb
    subst e
    exact I1.fpOk (Nat.le_refl _) (I1.hok.fresh (Nat.le_refl _))
def iRngD (ta : TA) : TI := fun σ H R => ta σ H fun vs H1 => ∃ i j : Int, vs = [.int i, .int j, .int (-1)] ∧ (-(2 ^ 62) ≤ i ∧ i < 2 ^ 62 ∧ -(2 ^ 62) ≤ j ∧ j < 2 ^ 62) ∧ R (Itd i (i - j).toNat) H1
theorem pi_rangeD {a b c : Expr} {ta : TA} {p pos : Pos} (hg : Gl X "range") (hm : X.mg "range" = none) (ha : PA X [a, b, c] ta) (hs : starEach [a, b, c] X.env = (false, eval a X.env) :: starEach [b, c] X.env := by rfl) (hs2 : (backTo pos (starEach [b, c] X.env)).any (·.1) = false := by rfl) :
    PI X tg (.Call (.Name "range" p) [a, b, c] [] pos) (iRngD ta) := by
  intro pins s σ H R I h
  refine Call_ (ld_blt I hg hm boot_range (PyProof.Rows.callWith_type1 (thn (ha pos pins s σ H _ I h) fun us s1 ⟨vs, H1, I1, r1, q1⟩ => ?_) hs hs2))
  obtain ⟨i, j, e, ⟨q1, q2, q3, q4⟩, q⟩ := q1
  subst e
  cases r1 with
  | cons r rr =>
    cases rr with
    | cons r' rr =>
      cases rr with
      | cons r'' rr =>
        cases rr
        obtain ⟨t, rfl⟩ := r
        obtain ⟨t', rfl⟩ := r'
        obtain ⟨t'', rfl⟩ := r''
        exact call_range_3 (by decide) (range_dn I1 q1 q2 q3 q4 q) (.inl (PyProof.noPylong_small (by decide)))
end
theorem for_down {hi : Int} {n : Nat} {g : TG} {tb : TS} {D : Ends} {σ : St} {H : Hp} (Pv : Nat → St → Hp → Prop) (h0 : Pv 0 σ H)
    (hs : ∀ (i : Nat) σ H, i < n → Pv i σ H → g (.int (hi - i)) σ H fun σ2 H2 => tb { D with nx := Pv (i + 1), ct := Pv (i + 1), bk := D.nx } σ2 H2) (hd : ∀ σ H, Pv n σ H → D.nx σ H) :
    ∃ W : Nat → Nat → St → Hp → Prop, (∃ m, W 0 m σ H) ∧ ∀ i m σ H, W i m σ H →
      ((Itd hi n).stop i H ∧ D.nx σ H) ∨ ((Itd hi n).go i H ∧ ∃ N : St → Hp → Prop, (∀ σ' H', N σ' H' → ∃ m', m' < m ∧ W (i + 1) m' σ' H') ∧ ∀ x H', (Itd hi n).yld i H x H' → g x σ H' fun σ2 H2 => tb { D with nx := N, ct := N, bk := D.nx } σ2 H2) := by
  refine ⟨fun i m σ H => m = n - i ∧ i ≤ n ∧ Pv i σ H, ⟨n, by simp, Nat.zero_le _, h0⟩, ?_⟩
  rintro i m σ H ⟨rfl, hi, p⟩
  by_cases hlt : i < n
  · refine .inr ⟨hlt, Pv (i + 1), fun σ' H' p' => ⟨n - (i + 1), by omega, rfl, hlt, p'⟩, fun x H' y => ?_⟩
    obtain ⟨e, y⟩ := y
    subst e y
    exact hs i σ _ hlt p
  · have e : i = n := by omega
    subst e
    exact .inl ⟨Nat.le_refl _, hd σ H p⟩

/-! ### xs.insert(0, e) -/
section
variable {X : Cx}
def rIns0 : V → List V → Hp → VK → Prop := fun x vs H Q => ∃ l xs y, x = .ref l ∧ vs = [.int 0, y] ∧ H l = some (.lst xs) ∧ xs.length < sizeLine ∧ Q .non (upd H l (.lst (y :: xs)))
theorem mt_ins0 : MtM X "list.insert" rIns0 := by
  intro pins s σ H x vs v us Q I rx rv h
  obtain ⟨l, xs, y, rfl, rfl, hH, hz, q⟩ := h
  cases rx
  obtain ⟨u0, u, rfl, r0, ru⟩ := rv.two
  obtain ⟨t0, rfl⟩ := r0
  obtain ⟨z, its, n, r, hl, e⟩ := I.lstM hH
  refine call_meets F.slot_list_insert ⟨_, e, rfl⟩ F.entry_list_insert (F.args_list_insert_3 _ _ _) (AutoSeq1.list_insert_list_int_val_1 l its.toArray n 0 t0 u (by decide) (by rw [List.size_toArray]; omega)) ⟨e, ?_⟩
  refine ⟨.non, _, I.lset (its' := u :: its) hH e ?_ (.cons ru r) ?_, rfl, q⟩
  · simp
  · rw [List.length_cons]
    omega

/-! ### == and != of lists, of tuples; their items ints, bools, texts, None -/
def eqAll : List V → List V → Bool
  | [], [] => true
  | x :: xs, y :: ys => eqV x y && eqAll xs ys
  | _, _ => false
theorem eqV_ints (i j : Int) : eqV (.int i) (.int j) = decide (i = j) := by
  by_cases h : i = j
  · subst h; simp [eqV]
  · simp [eqV, h]
theorem eqAll_ints : ∀ (a b : List Int), eqAll (a.map V.int) (b.map V.int) = decide (a = b)
  | [], [] => by simp [eqAll]
  | [], _ :: _ => by simp [eqAll]
  | _ :: _, [] => by simp [eqAll]
  | x :: a, y :: b => by
    show (eqV (.int x) (.int y) && eqAll (a.map V.int) (b.map V.int)) = _
    rw [eqV_ints, eqAll_ints a b]
    by_cases h1 : x = y <;> by_cases h2 : a = b <;> simp [h1, h2]
theorem eqAll_get : ∀ (xs ys : List V), eqAll xs ys = ((List.range (min xs.length ys.length)).all (fun j => eqV (xs.getD j .non) (ys.getD j .non)) && xs.length == ys.length)
  | [], [] => by simp [eqAll]
  | [], _ :: _ => by simp [eqAll]
  | _ :: _, [] => by simp [eqAll]
  | x :: xs, y :: ys => by
    have ih := eqAll_get xs ys
    show (eqV x y && eqAll xs ys) = _
    rw [ih, List.length_cons, List.length_cons, Nat.add_min_add_right, List.range_succ_eq_map, List.all_cons, List.all_map]
    have e : ((xs.length + 1 == ys.length + 1) : Bool) = (xs.length == ys.length) := by
      by_cases h : xs.length = ys.length <;> simp [h]
    rw [e, Bool.and_assoc]
    rfl
theorem flat_at {xs : List V} (h : xs.all flatV = true) {j : Nat} (hj : j < xs.length) : flatV (xs.getD j .non) = true := by
  rw [List.getD_eq_getElem?_getD, List.getElem?_eq_getElem hj]
  exact List.all_eq_true.mp h _ (List.getElem_mem hj)
theorem vals_at {xs : List V} {us : List Value} (r : Vals xs us) {j : Nat} (hj : j < us.toArray.size) : RelV (xs.getD j .non) (us.toArray[j]) := by
  have hj' : j < us.length := by simpa using hj
  have hx : j < xs.length := by rw [r.length]; exact hj'
  obtain ⟨u, h1, h2⟩ := r.get (List.getElem?_eq_getElem hx)
  rw [List.getElem?_eq_getElem hj'] at h1
  rw [List.getD_eq_getElem?_getD, List.getElem?_eq_getElem hx]
  have : us.toArray[j] = u := by simpa using Option.some.inj h1
  rw [this]
  exact h2
def rEqS (K : PySem.W.Frag) (neg : Bool) : R2 := fun x y H Q => ∃ a b xs ys, x = .ref a ∧ y = .ref b ∧ ((SqL K H a xs ∧ SqL K H b ys) ∨ (SqT K H a xs ∧ SqT K H b ys)) ∧ xs.all flatV = true ∧ ys.all flatV = true ∧ Q (.bl (if neg then !eqAll xs ys else eqAll xs ys)) H
theorem op_eqS (hu : X.A.units < cLine) : OpR X (compareOp .Eq) (rEqS X.K false) := by
  intro pins s σ H x y v u Q I rx ry h
  obtain ⟨a, b, xs, ys, rfl, rfl, hS, fx, fy, q⟩ := h
  cases rx
  cases ry
  rcases hS with ⟨ha, hb⟩ | ⟨ha, hb⟩
  · obtain ⟨ia, ra, pa, _⟩ := I.list ha
    obtain ⟨ib, rb, pb, _⟩ := I.list hb
    have la := ra.length
    have lb := rb.length
    by_cases hl : xs.length = ys.length
    · refine SeqAt.eq_listAt (e := fun j => eqV (xs.getD j .non) (ys.getD j .non)) pa.isList pb.isList (by simp; omega) hu (fun j h1 h2 => ?_) ⟨.bl _, H, I, rfl, ?_⟩
      · have h1' : j < ia.length := by simpa using h1
        have h2' : j < ib.length := by simpa using h2
        exact eqAt_V (vals_at ra h1) (vals_at rb h2) (flat_at fx (by omega)) (flat_at fy (by omega))
      · have e : eqAll xs ys = (List.range ia.toArray.size).all fun j => eqV (xs.getD j .non) (ys.getD j .non) := by
          rw [eqAll_get, hl, Nat.min_self, List.size_toArray, ← la, hl]
          simp
        rw [← e]
        exact q
    · refine SeqAt.eq_list_lengthsAt pa.isList pb.isList (by simp; omega) hu ⟨.bl _, H, I, rfl, ?_⟩
      have e : eqAll xs ys = false := by
        rw [eqAll_get]
        simp [hl]
      rw [← e]
      exact q
  · obtain ⟨ia, ra, pa, _⟩ := I.tuple ha
    obtain ⟨ib, rb, pb, _⟩ := I.tuple hb
    have la := ra.length
    have lb := rb.length
    refine SeqAt.eq_tupleAt (e := fun j => eqV (xs.getD j .non) (ys.getD j .non)) (show s.heap.IsTuple a ia.toArray from pa) (show s.heap.IsTuple b ib.toArray from pb) hu (fun j h1 h2 => ?_) ⟨.bl _, H, I, rfl, ?_⟩
    · have h1' : j < ia.length := by simpa using h1
      have h2' : j < ib.length := by simpa using h2
      exact eqAt_V (vals_at ra h1) (vals_at rb h2) (flat_at fx (by omega)) (flat_at fy (by omega))
    · have e := eqAll_get xs ys
      rw [la, lb] at e
      rw [List.size_toArray, List.size_toArray, ← e]
      exact q
theorem op_neS (hu : X.A.units < cLine) : OpR X (compareOp .NotEq) (rEqS X.K true) := by
  intro pins s σ H x y v u Q I rx ry h
  obtain ⟨a, b, xs, ys, rfl, rfl, hS, fx, fy, q⟩ := h
  cases rx
  cases ry
  rcases hS with ⟨ha, hb⟩ | ⟨ha, hb⟩
  · obtain ⟨ia, ra, pa, _⟩ := I.list ha
    obtain ⟨ib, rb, pb, _⟩ := I.list hb
    have la := ra.length
    have lb := rb.length
    by_cases hl : xs.length = ys.length
    · refine SeqAt.RcNeAt.lists (e := fun j => eqV (xs.getD j .non) (ys.getD j .non)) pa.isList pb.isList (by simp; omega) hu (fun j h1 h2 => ?_) X.prog X.w X.xe _ ⟨.bl _, H, I, rfl, ?_⟩
      · have h1' : j < ia.length := by simpa using h1
        have h2' : j < ib.length := by simpa using h2
        exact eqAt_V (vals_at ra h1) (vals_at rb h2) (flat_at fx (by omega)) (flat_at fy (by omega))
      · have e : eqAll xs ys = (List.range ia.toArray.size).all fun j => eqV (xs.getD j .non) (ys.getD j .non) := by
          rw [eqAll_get, hl, Nat.min_self, List.size_toArray, ← la, hl]
          simp
        rw [← e]
        exact q
    · refine SeqAt.RcNeAt.lists_lengths pa.isList pb.isList (by simp; omega) hu X.prog X.w X.xe _ ⟨.bl _, H, I, rfl, ?_⟩
      have e : eqAll xs ys = false := by
        rw [eqAll_get]
        simp [hl]
      rw [e] at q
      exact q
  · obtain ⟨ia, ra, pa, _⟩ := I.tuple ha
    obtain ⟨ib, rb, pb, _⟩ := I.tuple hb
    have la := ra.length
    have lb := rb.length
    refine SeqAt.RcNeAt.tuples (e := fun j => eqV (xs.getD j .non) (ys.getD j .non)) (show s.heap.IsTuple a ia.toArray from pa) (show s.heap.IsTuple b ib.toArray from pb) hu (fun j h1 h2 => ?_) X.prog X.w X.xe _ ⟨.bl _, H, I, rfl, ?_⟩
    · have h1' : j < ia.length := by simpa using h1
      have h2' : j < ib.length := by simpa using h2
      exact eqAt_V (vals_at ra h1) (vals_at rb h2) (flat_at fx (by omega)) (flat_at fy (by omega))
    · have e := eqAll_get xs ys
      rw [la, lb] at e
      rw [List.size_toArray, List.size_toArray, ← e]
      exact q
end
end L2

/-! ### a def of the text, ready to be called -/
namespace L2
open PySem PySem.Spec PyProof.Rows
def Cal (P : Program) (w : World) (K : PySem.W.Frag) (mg : Str → Option Value) (base : Heap) (k : Nat) (x : Str) (ps : List Str) (sp : Sp) : Prop :=
  ∃ (g : Addr) (gd : FuncData), FnOk P w K mg base CX0 k g gd ps sp ∧ Binds K gd ps [] ∧ PySem.W.keepIn K (.ref g) = true ∧ mg x = some (.ref g)
section
variable {P : Program} {w : World} {K : PySem.W.Frag} {mg : Str → Option Value} {base : Heap} {k j : Nat} {x : Str} {ps : List Str} {sp sp' : Sp}
theorem Cal.mono (C : Cal P w K mg base j x ps sp) (h : j ≤ k) : Cal P w K mg base k x ps sp := by
  obtain ⟨g, gd, F, b, kp, m⟩ := C
  exact ⟨g, gd, F.mono h, b, kp, m⟩
theorem Cal.imp (C : Cal P w K mg base k x ps sp) (h : ∀ vs H Q E, sp' vs H Q E → sp vs H Q E) : Cal P w K mg base k x ps sp' := by
  obtain ⟨g, gd, F, b, kp, m⟩ := C
  exact ⟨g, gd, F.imp h, b, kp, m⟩
end
section
variable {X : Cx} {k : Nat} {x : Str} {ps : List Str} {sp : Sp} {e : Expr} {es : List Expr} {t : TA} {p pos : Pos}
theorem pe_cal (C : Cal X.prog X.w X.K X.mg X.base k x ps sp) (hr : Room k X.A) (hg : Gl X x) (ha : PA X (e :: es) t) (hdb : (x == ("__debug__" : Str)) = false := by decide) (he : starEach (e :: es) X.env = (false, eval e X.env) :: starEach es X.env := by rfl)
    (hpl : (backTo pos (starEach es X.env)).any (·.1) = false := by rfl) : PE X (.Call (.Name x p) (e :: es) [] pos) (tCall sp [] E0 t) := by
  obtain ⟨g, gd, F, b, kp, m⟩ := C
  exact pe_call F hr hg m kp b .nil pass0 ha hdb he hpl
end
/-- the names of Python's own that the text calls: none of them is bound at the top -/
structure Blt (mg : Str → Option Value) : Prop where
  len : mg "len" = none
  isi : mg "isinstance" = none
  int : mg "int" = none
  bool : mg "bool" = none
  sum : mg "sum" = none
  max : mg "max" = none
  min : mg "min" = none
  range : mg "range" = none
  list : mg "list" = none
  tuple : mg "tuple" = none
  str : mg "str" = none
  zip : mg "zip" = none
  all : mg "all" = none
  reversed : mg "reversed" = none
  sorted : mg "sorted" = none
  any : mg "any" = none
  enumerate : mg "enumerate" = none
  divmod : mg "divmod" = none
  valueError : mg "ValueError" = none
  set : mg "set" = none
theorem small {n : Nat} (h : n ≤ 100000) : n < sizeLine := Nat.lt_of_le_of_lt h (by decide)
end L2

/-! ### the fragment said by its name (within a block) -/
namespace L2
open PySem PySem.Spec PyProof.Rows
theorem ix_listK {X : Cx} {K : PySem.W.Frag} (h : X.K = K := by rfl) : IxR X (rIxL K) := by
  subst h
  exact ix_list
end L2

/-! ### all(list of bools); a product of two great numbers -/
namespace L2
open PySem PySem.Spec PyProof.Rows
section
variable {X : Cx}
def rAll (K : PySem.W.Frag) : List V → Hp → VK → Prop := fun xs H Q => ∃ (p : Addr) (bs : List Bool), xs = [.ref p] ∧ SqL K H p (bs.map V.bl) ∧ Q (.bl (bs.all id)) H
theorem call_allL (hc : X.calm = true) : CallR X (.builtin "all") (rAll X.K) := by
  intro pins s σ H vs us Q I r h
  obtain ⟨p, bs, rfl, hS, q⟩ := h
  obtain ⟨u, rfl, r1⟩ := r.one
  cases r1
  obtain ⟨its, rv, pl, hz⟩ := I.list hS
  have hlen := rv.length
  rw [List.length_map] at hlen
  have hl := pl.isList
  have hlt : p < s.heap.objs.size := by obtain ⟨_, e, _⟩ := hl; exact Heap.lt_size e
  refine call_all_walk (wpAny_pyIter_list hl ?_)
  refine ⟨s.heap.objs.size, _, _, _, _, _, fun i => bs.getD i false, rfl, Walks.list (A := X.A.in1) (I.ok.hd hc) _ p (Nat.ne_of_lt hlt) its.toArray, ⟨⟨_, Heap.get?_push_size _ rfl, rfl, rfl⟩, hl.push _⟩, fun i v s2 Q2 E2 hv q2 => ?_, fun h' tk keep => ?_⟩
  · have hv' : its[i]? = some v := by simpa using hv
    have hi : i < bs.length := by
      have := (List.getElem?_eq_some_iff.mp hv').1
      omega
    obtain ⟨u, h1, h2⟩ := rv.get (i := i) (x := V.bl (bs.getD i false)) (by rw [List.getElem?_map, List.getElem?_eq_getElem hi, List.getD_eq_getElem?_getD, List.getElem?_eq_getElem hi]; rfl)
    rw [hv'] at h1
    cases h1
    cases h2
    exact wpAny_truthy_bool q2
  · have e : (List.range its.toArray.size).all (fun i => bs.getD i false) = bs.all id := by
      rw [List.size_toArray, ← hlen]
      apply Bool.eq_iff_iff.mpr
      rw [List.all_eq_true, List.all_eq_true]
      constructor
      · intro h x hx
        obtain ⟨i, hi, rfl⟩ := List.getElem_of_mem hx
        have := h i (List.mem_range.mpr hi)
        rwa [List.getD_eq_getElem?_getD, List.getElem?_eq_getElem hi] at this
      · intro h i hi
        have hi' := List.mem_range.mp hi
        rw [List.getD_eq_getElem?_getD, List.getElem?_eq_getElem hi']
        exact h _ (List.getElem_mem hi')
    rw [e]
    refine ⟨.bl _, H, I.kept (fun b o ob => keep b o (fun hm => ?_) (Heap.get?_push_of_some _ ob)), rfl, q⟩
    have lt := Heap.lt_size ob
    rw [List.mem_singleton.mp hm] at lt
    exact Nat.lt_irrefl _ lt
theorem op_mulG : OpR X (binaryOp .Mult) (rI IntMulOk fun i j => .int (i * j)) := opI fun _ _ _ _ _ _ _ hc q => mul_int q hc
end
end L2
set_option Elab.async false
set_option linter.all false
set_option maxRecDepth 100000
set_option maxHeartbeats 4000000
/-! max(xs, default = d) of a list of ints -/
namespace Mxd
open PySem PyProof.Rows
theorem args_dflt (a v : Value) : argsOk "max" ⟨[a], [(Str.ofString "default", v)]⟩ := by
  unfold argsOk
  kernel_rfl
theorem nm : (toString "max" ++ toString ".loop" : String) = "max.loop" := by decide
section
variable {prog : Program} {w : World} {A : Around} {R : Result → Shared → Prop} {it : Addr} {fp wr : List Addr} {n : Nat} {P : Nat → Value → Prop} {St : Nat → Heap → Prop} {kw : List (Str × Value)}
theorem go (W : Walks prog w A.in1 it fp wr n P St) (g : Nat → Nat → Bool) (hg : CmpOf prog w A.in1 .Gt P g) (B : Addr) (hB : B ∉ fp) :
    ∀ (d i : Nat) (z : Shared) (best : Value) (c : Nat), n = i + 1 + d → St (i + 1) z.heap → P (argBest g i) best → z.heap.get? B = some { cls := .type "list", dict := none, data := .seq #[best, best] c, slots := #[] } →
      (∀ v h2 k2, P (argBest g (n - 1)) v → (∀ b o, b ∉ wr → b ≠ B → z.heap.get? b = some o → h2.get? b = some o) → R (.ok (.ret v)) { z with heap := h2, toks := k2 }) →
      codeAny (model prog w) A (.builtin "max.loop" ⟨[.ref it, .none, .ref B], kw⟩) R z := by
  have hw : B ∉ wr := fun h => hB (W.sub _ h)
  intro d
  induction d with
  | zero =>
    intro i z best c en st pb eB fin
    refine codeAny_builtin F.entry_max_loop ?_
    rw [Around.under_plainId F.plain_max_loop _]
    show wpAny _ A.in1 (seqItems? (.ref B) >>= _) _ _ z
    refine wpAny_bind (wpAny_seqItems eB rfl ?_)
    show wpAny _ A.in1 (tryCatch (pyNext (.ref it)) _ >>= _) _ _ z
    have st' : St n z.heap := by rw [en]; exact st
    refine wpAny_bind (wpAny_tryCatch (W.done z _ _ st' fun h2 k2 keep => ?_))
    have eB2 := keep B _ hw eB
    show wpAny _ A.in1 (updateSeq B (fun _ => #[]) >>= _) _ _ _
    refine wpAny_bind ?_
    refine wpAny_updateSeq eB2 rfl (wpAny_bind (wpAny_letGo (wpAny_pure ?_)))
    have en2 : n - 1 = i := by omega
    exact fin best _ k2 (by rw [en2]; exact pb) fun b o b1 b2 e => (Heap.get?_update_other _ _ (Ne.symm b2)).trans (keep b o b1 e)
  | succ d ih =>
    intro i z best c en st pb eB fin
    refine codeAny_builtin F.entry_max_loop ?_
    rw [Around.under_plainId F.plain_max_loop _]
    show wpAny _ A.in1 (seqItems? (.ref B) >>= _) _ _ z
    refine wpAny_bind (wpAny_seqItems eB rfl ?_)
    show wpAny _ A.in1 (tryCatch (pyNext (.ref it)) _ >>= _) _ _ z
    refine wpAny_bind (wpAny_tryCatch (W.item (i + 1) z _ _ (by omega) st fun v h2 k2 pv st2 keep => ?_))
    have eB2 := keep B _ hw eB
    show wpAny _ A.in1 (tryCatch (holding [v, v] (richCompare .Gt v best >>= _)) _ >>= _) _ _ _
    refine wpAny_bind (wpAny_tryCatch (wpAny_holding (wpAny_bind (hg (i + 1) (argBest g i) v best _ _ _ pv pb ?_))))
    refine wpAny_bind (wpAny_holding (wpAny_truthy_bool (wpAny_bind (wpAny_letGo (wpAny_pure ?_)))))
    cases hb : g (i + 1) (argBest g i) with
    | true =>
      simp only [if_true]
      refine wpAny_bind (wpAny_updateSeq eB2 rfl (wpAny_bind (wpAny_letGo ?_)))
      rw [nm]
      have pa : P (argBest g (i + 1)) v := by
        unfold argBest
        rw [hb, if_pos rfl]
        exact pv
      refine wpAny_pure ⟨plainId_quiet F.plain_max_loop _, ih (i + 1) _ v _ (by omega) (W.frame _ _ _ st2 fun b b1 o e => ?_) pa (Heap.get?_update_self _ eB2 rfl) fun v3 h3 k3 p3 keep3 => ?_⟩
      · exact (Heap.get?_update_other _ _ (fun h : B = b => hB (h ▸ b1))).trans e
      · exact fin v3 h3 k3 p3 fun b o b1 b2 e => keep3 b o b1 b2 ((Heap.get?_update_other _ _ (Ne.symm b2)).trans (keep b o b1 e))
    | false =>
      simp only [Bool.false_eq_true, if_false]
      refine wpAny_bind (wpAny_letGo ?_)
      rw [nm]
      have pa : P (argBest g (i + 1)) best := by
        unfold argBest
        rw [hb, if_neg Bool.false_ne_true]
        exact pb
      refine wpAny_pure ⟨plainId_quiet F.plain_max_loop _, ih (i + 1) _ best c (by omega) st2 pa eB2 fun v3 h3 k3 p3 keep3 => ?_⟩
      exact fin v3 h3 k3 p3 fun b o b1 b2 e => keep3 b o b1 b2 (keep b o b1 e)
theorem go0 (W : Walks prog w A.in1 it fp wr n P St) (g : Nat → Nat → Bool) (hg : CmpOf prog w A.in1 .Gt P g) (B : Addr) (hB : B ∉ fp) (hn : 0 < n) {z : Shared} {c : Nat} (st : St 0 z.heap)
    (eB : z.heap.get? B = some { cls := .type "list", dict := none, data := .seq #[] c, slots := #[] })
    (fin : ∀ v h2 k2, P (argBest g (n - 1)) v → (∀ b o, b ∉ wr → b ≠ B → z.heap.get? b = some o → h2.get? b = some o) → R (.ok (.ret v)) { z with heap := h2, toks := k2 }) :
    codeAny (model prog w) A (.builtin "max.loop" ⟨[.ref it, .none, .ref B], kw⟩) R z := by
  have hw : B ∉ wr := fun h => hB (W.sub _ h)
  refine codeAny_builtin F.entry_max_loop ?_
  rw [Around.under_plainId F.plain_max_loop _]
  show wpAny _ A.in1 (seqItems? (.ref B) >>= _) _ _ z
  refine wpAny_bind (wpAny_seqItems eB rfl ?_)
  show wpAny _ A.in1 (tryCatch (pyNext (.ref it)) _ >>= _) _ _ z
  refine wpAny_bind (wpAny_tryCatch (W.item 0 z _ _ hn st fun v h2 k2 pv st2 keep => ?_))
  have eB2 := keep B _ hw eB
  show wpAny _ A.in1 (updateSeq B (fun _ => #[v, v]) >>= _) _ _ _
  refine wpAny_bind (wpAny_updateSeq eB2 rfl ?_)
  rw [nm]
  refine wpAny_pure ⟨plainId_quiet F.plain_max_loop _, go W g hg B hB (n - 1) 0 _ v _ (by omega) (W.frame _ _ _ st2 fun b b1 o e => ?_) pv (Heap.get?_update_self _ eB2 rfl) fun v3 h3 k3 p3 keep3 => ?_⟩
  · exact (Heap.get?_update_other _ _ (fun h : B = b => hB (h ▸ b1))).trans e
  · exact fin v3 h3 k3 p3 fun b o b1 b2 e => keep3 b o b1 b2 ((Heap.get?_update_other _ _ (Ne.symm b2)).trans (keep b o b1 e))
theorem none0 (W : Walks prog w A.in1 it fp wr n P St) (B : Addr) (hB : B ∉ fp) (hn : n = 0) {z : Shared} {c : Nat} {x : Str} {d : Value} (st : St 0 z.heap)
    (eB : z.heap.get? B = some { cls := .type "list", dict := none, data := .seq #[] c, slots := #[] })
    (fin : ∀ h2 k2, (∀ b o, b ∉ wr → b ≠ B → z.heap.get? b = some o → h2.get? b = some o) → R (.ok (.ret d)) { z with heap := h2, toks := k2 }) :
    codeAny (model prog w) A (.builtin "max.loop" ⟨[.ref it, .none, .ref B], [(x, d)]⟩) R z := by
  subst hn
  refine codeAny_builtin F.entry_max_loop ?_
  rw [Around.under_plainId F.plain_max_loop _]
  show wpAny _ A.in1 (seqItems? (.ref B) >>= _) _ _ z
  refine wpAny_bind (wpAny_seqItems eB rfl ?_)
  show wpAny _ A.in1 (tryCatch (pyNext (.ref it)) _ >>= _) _ _ z
  refine wpAny_bind (wpAny_tryCatch (W.done z _ _ st fun h2 k2 keep => ?_))
  show wpAny _ A.in1 (rule _ >>= _) _ _ _
  exact wpAny_bind (wpAny_rule (wpAny_pure (fin h2 k2 fun b o b1 _ e => keep b o b1 e)))
end
section
variable {prog : Program} {w : World} {A : Around} {E : Value → Shared → Prop} {s : Shared} {l : Addr} {xs : Array (Int × Tok)} {Q : Value → Shared → Prop} {d : Value}
theorem call_maxd (hh : A.handled = none) (hl : s.heap.IsList l (intItems xs))
    (h0 : xs.size = 0 → ∀ h2 k2, (∀ b o, s.heap.get? b = some o → h2.get? b = some o) → Q d { s with heap := h2, toks := k2 })
    (h1 : 0 < xs.size → ∀ v h2 k2, (intItems xs)[argBest (fun i j => decide (numAt xs i > numAt xs j)) (xs.size - 1)]? = some v → (∀ b o, s.heap.get? b = some o → h2.get? b = some o) → Q v { s with heap := h2, toks := k2 }) :
    wpAny (model prog w) A (call (.builtin "max") [.ref l] [(Str.ofString "default", d)]) Q E s := by
  refine kmk_tree F.kind_max F.plain_max F.entry_max (args_dflt _ _) ?_
  show wpAny _ A.in1 (Builtin.Builtins.bindParams "max" ["key", "default"] 0 ⟨[], [(Str.ofString "default", d)]⟩ >>= _) _ _ s
  refine wpAny_bind (wpAny_of_eq (show Builtin.Builtins.bindParams "max" ["key", "default"] 0 ⟨[], [(Str.ofString "default", d)]⟩ = pure [none, some d] from rfl) ?_)
  refine wpAny_bind (wpAny_pure (wpAny_bind (iter_intList hl fun s2 e2 st hfp hlI => ?_)))
  subst e2
  refine wpAny_bind (wpAny_newObj_type ?_)
  have W := Walks.list (prog := prog) (w := w) (A := A.in1) hh s.heap.objs.size l hlI (intItems xs)
  have hB : (s.heap.push { cls := .type "list_iterator", data := .fields #[.ref l, .int 0 0] }).objs.size ∉ [s.heap.objs.size, l] := fun hm => Nat.lt_irrefl _ (hfp _ hm)
  have st2 := W.frame _ _ _ st fun b _ o e => Heap.get?_push_of_some { cls := .type "list", dict := none, data := .seq ([] : List Value).toArray } e
  have old : ∀ {h2 : Heap}, (∀ b o, b ∉ [s.heap.objs.size] → b ≠ (s.heap.push { cls := .type "list_iterator", data := .fields #[.ref l, .int 0 0] }).objs.size →
      ((s.heap.push { cls := .type "list_iterator", data := .fields #[.ref l, .int 0 0] }).push { cls := .type "list", dict := none, data := .seq ([] : List Value).toArray }).get? b = some o → h2.get? b = some o) →
      ∀ b o, s.heap.get? b = some o → h2.get? b = some o := fun {h2} k b o e => by
    have lt := Heap.lt_size e
    refine k b o (fun hm => ?_) ?_ (Heap.get?_push_of_some _ (Heap.get?_push_of_some _ e))
    · rw [List.mem_singleton.mp hm] at lt
      exact Nat.lt_irrefl _ lt
    · rw [Heap.size_push]
      exact Nat.ne_of_lt (Nat.lt_succ_of_lt lt)
  rw [nm]
  refine wpAny_pure ⟨plainId_quiet F.plain_max_loop _, ?_⟩
  have esz : (intItems xs).size = xs.size := by simp [intItems]
  rcases Nat.eq_zero_or_pos xs.size with c | c
  · exact none0 W _ hB (esz.trans c) st2 (Heap.get?_push_size _ rfl) fun h2 k2 keep => h0 c h2 k2 (old keep)
  · refine go0 W _ (CmpOf.ints_gt (numAt xs) (fun _ _ => intItems_at)) _ hB (by omega) st2 (Heap.get?_push_size _ rfl) fun v h2 k2 pv keep => h1 c v h2 k2 ?_ (old keep)
    rw [esz] at pv
    exact pv
end
end Mxd
namespace L2
open PySem PySem.Spec PyProof.Rows
def rMaxD (K : PySem.W.Frag) : List V → List V → Hp → VK → Prop := fun xs zs H Q => ∃ (a : Addr) (ns : List Int) (i : Int), xs = [.ref a] ∧ zs = [.int i] ∧ SqL K H a (ns.map V.int) ∧ (ns = [] → Q (.int i) H) ∧ ∀ M, M ∈ ns → (∀ z ∈ ns, z ≤ M) → Q (.int M) H
section
variable {X : Cx} {e d : Expr} {t tk : TA} {p pos kp : Pos}
theorem pe_maxD (hc : X.calm = true) (hg : Gl X "max") (hm : X.mg "max" = none) (ha : PA X [e] t) (hk : PK X [⟨some "default", d, kp⟩] tk) (he : backTo pos (starEach [e] X.env) = (false, eval e X.env) :: backTo pos (starEach [] X.env) := by rfl)
    (hpl : (backTo pos (starEach [e] X.env)).any (·.1) = false := by rfl) : PE X (.Call (.Name "max" p) [e] [⟨some "default", d, kp⟩] pos) (fun σ H Q => t σ H fun vs H1 => tk σ H1 fun zs H2 => rMaxD X.K vs zs H2 Q) := by
  intro pins s σ H Q I h
  refine wpAny_Call_Name_kw (ld_blt I hg hm boot_max ?_)
  refine callWith_kw (thn (ha pos pins s σ H _ I h) fun us s1 ⟨vs, H1, I1, r1, q1⟩ => thn (hk pos pins s1 σ H1 _ I1 q1) fun ws s2 ⟨zs, H2, I2, r2, q2⟩ => ?_) he hpl
  obtain ⟨a, ns, i, rfl, rfl, hS, q0, qM⟩ := q2
  obtain ⟨u, rfl, ru⟩ := r1.one
  cases ru
  obtain ⟨u2, rfl, ru2⟩ := r2.one
  obtain ⟨t2, rfl⟩ := ru2
  show wpAny _ _ (call (.builtin "max") [.ref a] [(Str.ofString "default", .int i t2)]) _ _ s2
  obtain ⟨its, rv, pl, hz⟩ := I2.list hS
  have hi : IntsAre its ns := intsAre_of rv
  obtain ⟨xs, e1⟩ := hi.allInts.items
  have hl := pl.isList
  rw [e1] at hl
  have e2 : ns = xs.toList.map (·.1) := by rw [← hi.numsOf, ← nums_intItems, ← e1]
  refine Mxd.call_maxd (I2.ok.hd hc) hl (fun c h2 k2 keep => ?_) fun c v h2 k2 hv keep => ?_
  · refine ⟨.int i, H2, I2.kept keep, ⟨t2, rfl⟩, q0 ?_⟩
    rw [e2, Array.eq_empty_of_size_eq_zero c]
    rfl
  · obtain ⟨tv, rfl⟩ := intItems_at hv
    obtain ⟨b1, b2⟩ := argBest_gt (numAt xs) (xs.size - 1)
    refine ⟨.int _, H2, I2.kept keep, ⟨tv, rfl⟩, qM _ ?_ fun z hz => ?_⟩
    · rw [e2, numAt_eq]
      exact getD_mem (by rw [List.length_map, Array.length_toList]; omega)
    · rw [e2] at hz
      obtain ⟨j, hj, rfl⟩ := mem_getD hz
      rw [List.length_map, Array.length_toList] at hj
      rw [← numAt_eq]
      exact b2 j (by omega)
end
end L2
set_option Elab.async false
set_option linter.all false
set_option maxRecDepth 100000
set_option maxHeartbeats 4000000
/-! for a, b in zip(xs, ys) -/
namespace L2
open PySem PySem.Spec PyProof.Rows
def Itz (K : PySem.W.Frag) (l1 l2 : Addr) : It :=
  ⟨fun i H => ∃ xs ys x y, SqL K H l1 xs ∧ SqL K H l2 ys ∧ xs[i]? = some x ∧ ys[i]? = some y,
   fun i H v H' => ∃ p x y, v = .ref p ∧ H p = none ∧ H' = upd H p (.tup [x, y]) ∧ (∀ xs, SqL K H l1 xs → xs[i]? = some x) ∧ ∀ ys, SqL K H l2 ys → ys[i]? = some y,
   fun i H => ∃ xs ys, SqL K H l1 xs ∧ SqL K H l2 ys ∧ (xs.length ≤ i ∨ ys.length ≤ i)⟩
structure ZipTn (z TI TO i1 i2 l1 l2 : Addr) (i : Nat) (h : Heap) : Prop where
  zp : IsZip h z TI TO .none
  ti : IsPair h TI (.ref i1) (.ref i2)
  to : ∃ a b, IsPair h TO a b
  a1 : h.IsListIter i1 l1 i
  a2 : h.IsListIter i2 l2 i
theorem turn_zip {P : Program} {w : World} {K : PySem.W.Frag} {es : List Expr} {k : Nat} {pos : Pos} {z TI TO i1 i2 l1 l2 : Addr} (D : ZipApart z TI TO i1 i2 l1 l2) :
    Turn P w K (.Tuple es k pos) (Itz K l1 l2) [z, TI, TO, i1, i2] z (ZipTn z TI TO i1 i2 l1 l2) where
  mem := by simp
  obj := fun i h st b hb => by
    obtain ⟨a, b', e⟩ := st.to
    obtain ⟨o1, e1, c1, d1⟩ := st.a1
    obtain ⟨o2, e2, c2, d2⟩ := st.a2
    simp only [List.mem_cons, List.not_mem_nil, or_false] at hb
    rcases hb with rfl | rfl | rfl | rfl | rfl
    · exact ⟨_, st.zp, fun v q => by simp at q⟩
    · exact ⟨_, st.ti, fun v q => by simp at q⟩
    · exact ⟨_, e, fun v q => by simp at q⟩
    · exact ⟨o1, e1, fun v q => by rw [d1] at q; cases q⟩
    · exact ⟨o2, e2, fun v q => by rw [d2] at q; cases q⟩
  keep := fun i h h' st k => by
    obtain ⟨a, b', e⟩ := st.to
    exact ⟨k z (by simp) _ st.zp, k TI (by simp) _ st.ti, ⟨a, b', k TO (by simp) _ e⟩, st.a1.at fun o e => k i1 (by simp) o e, st.a2.at fun o e => k i2 (by simp) o e⟩
  item := by
    intro X hP hw hK hc i pins s σ H E I hf st hg
    subst hP hw hK
    obtain ⟨xs, ys, x, y, sq1, sq2, hx, hy⟩ := hg
    obtain ⟨t1, r1, p1, _⟩ := I.list sq1
    obtain ⟨t2, r2, p2, _⟩ := I.list sq2
    obtain ⟨u1, g1, q1⟩ := r1.get hx
    obtain ⟨u2, g2, q2⟩ := r2.get hy
    obtain ⟨a, b, e⟩ := st.to
    refine wpAny_pyNext_zip_item D st.zp st.ti e st.a1 st.a2 p1.isList p2.isList (x := u1) (y := u2) (by simpa using g1) (by simpa using g2) fun h' z1 z2 z3 z4 z5 z6 z7 => ?_
    refine ⟨_, rfl, wpAny_letOwnedTupleGo_zip z1 fun h2 y1 y2 => ?_⟩
    have zlt : z < s.heap.objs.size := Heap.lt_size st.zp
    have TOlt : TO < s.heap.objs.size := Heap.lt_size e
    have i1lt : i1 < s.heap.objs.size := by obtain ⟨o, q, _⟩ := st.a1; exact Heap.lt_size q
    have i2lt : i2 < s.heap.objs.size := by obtain ⟨o, q, _⟩ := st.a2; exact Heap.lt_size q
    have TIlt : TI < s.heap.objs.size := Heap.lt_size st.ti
    have fr : H s.heap.objs.size = none := I.fresh
    have keep : ∀ b o, b ∉ [z, TI, TO, i1, i2] → s.heap.get? b = some o → h2.get? b = some o := fun b o hb q => by
      simp only [List.mem_cons, List.not_mem_nil, or_false, not_or] at hb
      exact y2.extBut b o hb.1 (z7 b o hb.1 hb.2.2.1 hb.2.2.2.1 hb.2.2.2.2 q)
    have keepTI : h2.get? TI = some { cls := .type "tuple", data := .seq #[.ref i1, .ref i2] } := y2.extBut _ _ D.TIz (z7 _ _ D.TIz D.TITO D.TIi1 D.TIi2 st.ti)
    have newT : h2.get? s.heap.objs.size = some { cls := .type "tuple", data := .seq #[u1, u2] } := y2.extBut _ _ (Nat.ne_of_gt zlt) z5
    have fnone : ∀ b ∈ [z, TI, TO, i1, i2], upd H s.heap.objs.size (.tup [x, y]) b = none := fun b hb => by
      have hlt : b < s.heap.objs.size := by
        simp only [List.mem_cons, List.not_mem_nil, or_false] at hb
        rcases hb with rfl | rfl | rfl | rfl | rfl <;> assumption
      rw [upd_ne (Nat.ne_of_lt hlt)]
      exact (hf b hb).1
    have tn2 : ZipTn z TI TO i1 i2 l1 l2 (i + 1) h2 := ⟨y1, keepTI, ⟨u1, u2, y2.extBut _ _ D.TOz z2⟩, z3.at fun o q => y2.extBut _ _ D.i1z q, z4.at fun o q => y2.extBut _ _ D.i2z q⟩
    have I1 : Inv X pins σ (upd H s.heap.objs.size (.tup [x, y])) { s with heap := h2 } := by
      have hnotr : ∀ b u, H b = some u → b ∉ [z, TI, TO, i1, i2] := fun b u q hb => by rw [(hf b hb).1] at q; cases q
      refine I.step (g' := s.gens) (d' := s.drawn) (t' := s.toks) (ch := [z, TI, TO, i1, i2]) (fun b hb => ⟨(hf b hb).2.2.2.1, (hf b hb).2.1, (hf b hb).2.2.2.2.1, (hf b hb).2.2.2.2.2⟩) (fun b o _ _ hc q _ => keep b o hc q) (fun b o _ _ hc q _ => ⟨o.slots, keep b o hc q⟩)
        (fun b o _ q n => by rw [upd_ne (Nat.ne_of_lt (Heap.lt_size q))]; exact n) (fun b o hc q => ⟨o, keep b o hc q⟩) (fun b ts q => by rw [upd_ne (ne_of_none q fr)]; exact q) (fun b o u q => by rw [upd_ne (ne_of_none q fr)]; exact q) (fun b ps q => ⟨#[], by rw [upd_ne (ne_of_none q fr), q]; simp⟩) (fun m hm => ?_) (fun b u q => ?_) I.bare
      · obtain ⟨o, es', ep, ho, r⟩ := hm
        exact ⟨o, es', ep, keep _ o (fun hb => (hf _ hb).2.1 rfl) ho, r⟩
      · by_cases hb : b = s.heap.objs.size
        · subst hb
          rw [upd_same] at q
          cases q
          exact ⟨by show 2 ≤ sizeLine; decide, [u1, u2], .cons q1 (.cons q2 .nil), _, newT, rfl, _, rfl⟩
        · rw [upd_ne hb] at q
          exact (I.hok b u q).stay (fun c v hc qc => keep c v (hc.elim (fun e => by rw [e]; exact hnotr b u q) fun e => hnotr c _ e) qc) (fun c qc => by rw [upd_ne (ne_of_none qc fr)]; exact qc) fun c ts qc => by rw [upd_ne (ne_of_none qc fr)]; exact qc
    exact ⟨.ref s.heap.objs.size, _, I1, rfl, ⟨_, x, y, rfl, fr, rfl, fun xs' h' => by rw [I.list_inj h' sq1]; exact hx, fun ys' h' => by rw [I.list_inj h' sq2]; exact hy⟩, tn2, fnone⟩
  done := by
    intro X hP hw hK hc i pins s σ H E I hf st hg
    subst hP hw hK
    obtain ⟨xs, ys, h1, h2, hend⟩ := hg
    obtain ⟨t1, r1, p1, _⟩ := I.list h1
    obtain ⟨t2, r2, p2, _⟩ := I.list h2
    obtain ⟨a, b, e⟩ := st.to
    have n1 := r1.length
    have n2 := r2.length
    refine wpAny_pyNext_zip_end (I.ok.hd hc) D st.zp st.ti e st.a1 st.a2 p1.isList p2.isList (by simp; omega) fun h' kk => ⟨rfl, ?_⟩
    have keep : ∀ b o, b ∉ [z, TI, TO, i1, i2] → s.heap.get? b = some o → h'.get? b = some o := fun b o hb q => by
      simp only [List.mem_cons, List.not_mem_nil, or_false, not_or] at hb
      exact kk b o hb.1 hb.2.2.1 hb.2.2.2.1 hb.2.2.2.2 q
    have hnotr : ∀ b u, H b = some u → b ∉ [z, TI, TO, i1, i2] := fun b u q hb => by rw [(hf b hb).1] at q; cases q
    refine I.step (g' := s.gens) (d' := s.drawn) (t' := s.toks) (ch := [z, TI, TO, i1, i2]) (fun b hb => ⟨(hf b hb).2.2.2.1, (hf b hb).2.1, (hf b hb).2.2.2.2.1, (hf b hb).2.2.2.2.2⟩) (fun b o _ _ hc q _ => keep b o hc q) (fun b o _ _ hc q _ => ⟨o.slots, keep b o hc q⟩)
      (fun b o _ q n => n) (fun b o hc q => ⟨o, keep b o hc q⟩) (fun b ts q => q) (fun b o u q => q) (fun b ps q => ⟨#[], by rw [q]; simp⟩) (fun m hm => ?_) (fun b u q => ?_) I.bare
    · obtain ⟨o, es', ep, ho, r⟩ := hm
      exact ⟨o, es', ep, keep _ o (fun hb => (hf _ hb).2.1 rfl) ho, r⟩
    · exact (I.hok b u q).stay (fun c v hc qc => keep c v (hc.elim (fun e => by rw [e]; exact hnotr b u q) fun e => hnotr c _ e) qc) (fun c qc => qc) fun c ts qc => qc
  self := fun _ _ _ _ _ st h => wpAny_pyIter_zip st.zp h
section
variable {X : Cx} {es : List Expr} {k : Nat} {tpos : Pos}
def iZip (K : PySem.W.Frag) (ta : TA) : TI := fun σ H R => ta σ H fun vs H1 => ∃ l1 l2, vs = [.ref l1, .ref l2] ∧ (∃ xs, SqL K H1 l1 xs) ∧ (∃ ys, SqL K H1 l2 ys) ∧ R (Itz K l1 l2) H1
theorem pi_zip {a b : Expr} {ta : TA} {p pos : Pos} (hg : Gl X "zip") (hm : X.mg "zip" = none) (ha : PA X [a, b] ta) (hs : starEach [a, b] X.env = (false, eval a X.env) :: starEach [b] X.env := by rfl) (hs2 : (backTo pos (starEach [b] X.env)).any (·.1) = false := by rfl) :
    PI X (.Tuple es k tpos) (.Call (.Name "zip" p) [a, b] [] pos) (iZip X.K ta) := by
  intro pins s σ H R I h
  refine Call_ (ld_blt I hg hm boot_zip (PyProof.Rows.callWith_type1 (thn (ha pos pins s σ H _ I h) fun us s1 ⟨vs, H1, I1, r1, q1⟩ => ?_) hs hs2))
  obtain ⟨l1, l2, e, ⟨xs, h1⟩, ⟨ys, h2⟩, q⟩ := q1
  subst e
  obtain ⟨u, u', rfl, r, r'⟩ := r1.two
  cases r
  cases r'
  obtain ⟨t1, g1, p1, _⟩ := I1.list h1
  obtain ⟨t2, g2, p2, _⟩ := I1.list h2
  have lt1 : l1 < s1.heap.objs.size := by obtain ⟨_, e, _⟩ := p1.isList; exact Heap.lt_size e
  have lt2 : l2 < s1.heap.objs.size := by obtain ⟨_, e, _⟩ := p2.isList; exact Heap.lt_size e
  refine call_zip_2 p1.isList p2.isList fun h' z1 z2 z3 z4 z5 z6 z7 => ?_
  refine wpAny_pyIter_zip z1 ?_
  have I2 : Inv X pins σ H1 { s1 with heap := h' } := I1.kept (t' := s1.toks) z7
  refine ⟨_, _, _, _, H1, rfl, I2, turn_zip (zipApart_new lt1 lt2), ⟨z1, z2, ⟨_, _, z3⟩, z4, z5⟩, fun b hb => ?_, q⟩
  have hge : s1.heap.objs.size ≤ b := by
    simp only [List.mem_cons, List.not_mem_nil, or_false] at hb
    rcases hb with e | e | e | e | e <;> rw [e]
    · exact Nat.le_add_right _ _
    · exact Nat.le_add_right _ _
    · exact Nat.le_add_right _ _
    · exact Nat.le_refl _
    · exact Nat.le_add_right _ _
  exact I1.fpOk hge (I1.hok.fresh hge)
end
/-- over two lists that the body leaves as they are -/
theorem for_zip {K : PySem.W.Frag} {l1 l2 : Addr} {xs ys : List V} {g : TG} {tb : TS} {D : Ends} {σ : St} {H : Hp} (Pv : Nat → St → Hp → Prop) (n : Nat) (hn : n = min xs.length ys.length) (h0 : Pv 0 σ H) (hl : ∀ i σ H, Pv i σ H → SqL K H l1 xs ∧ SqL K H l2 ys)
    (hs : ∀ i x y p σ H, xs[i]? = some x → ys[i]? = some y → H p = none → Pv i σ H → g (.ref p) σ (upd H p (.tup [x, y])) fun σ2 H2 => tb { D with nx := Pv (i + 1), ct := Pv (i + 1), bk := D.nx } σ2 H2) (hd : ∀ σ H, Pv n σ H → D.nx σ H) :
    ∃ W : Nat → Nat → St → Hp → Prop, (∃ m, W 0 m σ H) ∧ ∀ i m σ H, W i m σ H →
      ((Itz K l1 l2).stop i H ∧ D.nx σ H) ∨ ((Itz K l1 l2).go i H ∧ ∃ N : St → Hp → Prop, (∀ σ' H', N σ' H' → ∃ m', m' < m ∧ W (i + 1) m' σ' H') ∧ ∀ x H', (Itz K l1 l2).yld i H x H' → g x σ H' fun σ2 H2 => tb { D with nx := N, ct := N, bk := D.nx } σ2 H2) := by
  refine ⟨fun i m σ H => m = n - i ∧ i ≤ n ∧ Pv i σ H, ⟨n, by simp, Nat.zero_le _, h0⟩, ?_⟩
  rintro i m σ H ⟨rfl, hi, p⟩
  obtain ⟨q1, q2⟩ := hl i σ H p
  by_cases hlt : i < n
  · have b1 : i < xs.length := by omega
    have b2 : i < ys.length := by omega
    refine .inr ⟨⟨xs, ys, xs[i], ys[i], q1, q2, by simp [b1], by simp [b2]⟩, Pv (i + 1), fun σ' H' p' => ⟨n - (i + 1), by omega, rfl, hlt, p'⟩, fun v H' y => ?_⟩
    obtain ⟨a, x', y', rfl, ha, rfl, y1, y2⟩ := y
    exact hs i x' y' a σ H (y1 xs q1) (y2 ys q2) ha p
  · have e : i = n := by omega
    subst e
    exact .inl ⟨⟨xs, ys, q1, q2, by omega⟩, hd σ H p⟩
end L2
set_option Elab.async false
set_option linter.all false
set_option maxRecDepth 100000
set_option maxHeartbeats 4000000
/-! a range as a value; list(range(a, b)) -/
namespace L2
open PySem PySem.Spec PyProof.Rows
section
variable {X : Cx}
theorem pe_rng2 {a b : Expr} {ta : TA} {p pos : Pos} (hg : Gl X "range") (hm : X.mg "range" = none) (ha : PA X [a, b] ta) (hs : starEach [a, b] X.env = (false, eval a X.env) :: starEach [b] X.env := by rfl) (hs2 : (backTo pos (starEach [b] X.env)).any (·.1) = false := by rfl) :
    PE X (.Call (.Name "range" p) [a, b] [] pos) (fun σ H Q => ta σ H fun vs H1 => ∃ i j : Int, vs = [.int i, .int j] ∧ ∀ r, H1 r = none → Q (.ref r) (upd H1 r (.rng i j))) := by
  intro pins s σ H Q I h
  refine Call_ (ld_blt I hg hm boot_range (PyProof.Rows.callWith_type1 (thn (ha pos pins s σ H _ I h) fun us s1 ⟨vs, H1, I1, r1, q1⟩ => ?_) hs hs2))
  obtain ⟨i, j, rfl, q⟩ := q1
  obtain ⟨u, u', rfl, ru, ru'⟩ := r1.two
  obtain ⟨t, rfl⟩ := ru
  obtain ⟨t', rfl⟩ := ru'
  exact call_range_2 ⟨.ref _, _, I1.laid (o := .rng i j) (fun _ _ e => Heap.get?_push_of_some _ e) (Nat.le_refl _) ⟨t, t', _, Heap.get?_push_size _ rfl⟩, rfl, q _ I1.fresh⟩
def rListR : List V → Hp → VK → Prop := fun xs H Q => ∃ (r : Addr) (i j : Int), xs = [.ref r] ∧ H r = some (.rng i j) ∧ (-(2 ^ 62) ≤ i ∧ i < 2 ^ 62 ∧ -(2 ^ 62) ≤ j ∧ j < 2 ^ 62) ∧ (j - i).toNat ≤ 100000 ∧ ∀ l, H l = none → Q (.ref l) (upd H l (.lst ((List.range (j - i).toNat).map fun (k : Nat) => V.int (i + k))))
theorem items_vals {i : Int} : ∀ (n : Nat) (its : List Value), its.length = n → (∀ (k : Nat) (v : Value), its[k]? = some v → ∃ t, v = Value.int (i + k) t) → Vals ((List.range n).map fun (k : Nat) => V.int (i + k)) its := by
  intro n
  induction n with
  | zero =>
    intro its hl _
    have : its = [] := List.eq_nil_of_length_eq_zero hl
    subst this
    exact .nil
  | succ n ih =>
    intro its hl h
    rcases List.eq_nil_or_concat its with e | ⟨S, x, e⟩
    · subst e
      simp at hl
    · have e' : its = S ++ [x] := by simpa using e
      subst e'
      have hS : S.length = n := by simpa using hl
      rw [List.range_succ, List.map_append]
      refine (ih S hS fun k v hk => h k v ?_).append (.cons ?_ .nil)
      · rw [List.getElem?_append_left (List.getElem?_eq_some_iff.mp hk).1]
        exact hk
      · obtain ⟨t, e⟩ := h n x (by rw [List.getElem?_append_right (by omega), hS]; simp)
        exact ⟨t, e⟩
theorem call_listR (hc : X.calm = true) : CallR X (.type "list") rListR := by
  intro pins s σ H vs us Q I r h
  obtain ⟨a, i, j, rfl, hr, ⟨b1, b2, b3, b4⟩, hn, q⟩ := h
  obtain ⟨u, rfl, r1⟩ := r.one
  cases r1
  obtain ⟨t1, t2, t3, e⟩ := (show ObjOk X.prog X.w H s.heap a (.rng i j) from I.hok a _ hr)
  have hsz : Builtin.Range.rangeSize i j 1 = ((j - i).toNat : Int) := rangeSize_nat i j
  refine call_list_range (I.ok.hd hc) (show IsRange s.heap a i j 1 t1 t2 t3 from e) (small_one b1 b2 b3 b4) hsz (Nat.le_trans hn (by decide)) fun h' tk acc c hk hl hit => ?_
  have fr := I.fresh
  have hv := items_vals (i := i) (j - i).toNat acc.toList (by rw [Array.length_toList]; exact hit.1) fun k v hkv => by
    obtain ⟨t, e⟩ := hit.2 k v (by simpa using hkv)
    exact ⟨t, by rw [e, Int.mul_one]⟩
  refine ⟨.ref s.heap.objs.size, _, I.laid (o := .lst ((List.range (j - i).toNat).map fun (k : Nat) => V.int (i + k))) hk (Nat.le_refl _) ⟨?_, acc.toList, c, hv, by simpa using hl⟩, rfl, q _ fr⟩
  rw [List.length_map, List.length_range]
  exact Nat.le_trans hn (by decide)
end
end L2
set_option Elab.async false
set_option linter.all false
set_option maxRecDepth 100000
set_option maxHeartbeats 4000000
/-! texts: by the list of their codes -/
namespace L2
open PySem PySem.Spec PyProof.Rows
/-- the text of these codes -/
def tx (l : List Nat) : Str := ⟨l.toArray⟩
theorem tx_length (l : List Nat) : (tx l).length = l.length := by simp [tx, PySem.Str.length]
theorem tx_cps (l : List Nat) : (tx l).cps.toList = l := by simp [tx]
theorem tx_of (x : Str) : tx x.cps.toList = x := by simp [tx]
theorem tx_app (l m : List Nat) : tx l ++ tx m = tx (l ++ m) := by
  show (⟨l.toArray ++ m.toArray⟩ : Str) = ⟨(l ++ m).toArray⟩
  rw [List.append_toArray]
theorem tx_inj {l m : List Nat} (h : tx l = tx m) : l = m := by
  have := congrArg (fun x : Str => x.cps.toList) h
  simpa [tx] using this
theorem tx_eq {l m : List Nat} : decide (V.str (tx l) = V.str (tx m)) = decide (l = m) := by
  by_cases h : l = m
  · subst h; simp
  · rw [decide_eq_false h, decide_eq_false fun z => h (tx_inj (by injection z))]
theorem eqV_tx {l m : List Nat} : eqV (.str (tx l)) (.str (tx m)) = decide (l = m) := by
  by_cases h : l = m
  · subst h; simp [eqV]
  · have : ¬ tx l = tx m := fun z => h (tx_inj z)
    simp [eqV, h, this]
/-! ### slices -/
def cutN (l : List Nat) (lo hi : Option Int) : List Nat := (l.drop (HT.sIx l.length 0 lo)).take (HT.sIx l.length l.length hi - HT.sIx l.length 0 lo)
theorem pickN (xs : Array Nat) (i k : Nat) : ((List.range k).map fun (m : Nat) => i + m).filterMap (fun (j : Nat) => xs[j]?) = (xs.toList.drop i).take k := by
  induction k with
  | zero => simp
  | succ k ih =>
    rw [List.range_succ, List.map_append, List.filterMap_append, ih, List.take_add_one]
    congr 1
    rw [List.getElem?_drop]
    simp
    cases h : xs[i + k]? <;> simp [h]
theorem clip_is (v : Int) (n d : Nat) : max 0 (min (if v < 0 then v + (n : Int) else v) (n : Int)) = ((HT.sIx n d (some v) : Nat) : Int) := by
  rw [← HT.clip_eq v n d]
  split <;> omega
theorem ix_is (lo hi : Option Int) (n : Nat) : Builtin.Str.strSliceIndices lo hi 1 n = (List.range (HT.sIx n n hi - HT.sIx n 0 lo)).map (fun (m : Nat) => HT.sIx n 0 lo + m) := by
  rw [← PySem.sliceRange_one]
  unfold Builtin.Str.strSliceIndices
  have e1 : (match lo with | none => (0 : Int) | some i => max 0 (min (if i < 0 then i + (n : Int) else i) (n : Int))) = ((HT.sIx n 0 lo : Nat) : Int) := by
    cases lo with
    | none => rfl
    | some v => exact clip_is v n 0
  have e2 : (match hi with | none => (n : Int) | some i => max 0 (min (if i < 0 then i + (n : Int) else i) (n : Int))) = ((HT.sIx n n hi : Nat) : Int) := by
    cases hi with
    | none => rfl
    | some v => exact clip_is v n n
  rw [← e1, ← e2]
  cases lo <;> cases hi <;> rfl
theorem slice_is (x : Str) (lo hi : Option Int) : Txt.slice x lo hi = tx (cutN x.cps.toList lo hi) := by
  have hl : x.cps.toList.length = x.length := by simp [PySem.Str.length]
  have e : (Builtin.Str.strSliceIndices lo hi 1 x.length).filterMap (x.cps[·]?) = cutN x.cps.toList lo hi := by
    rw [ix_is, pickN]
    unfold cutN
    rw [hl]
  unfold Txt.slice
  split
  · rename_i h
    have h2 : (Builtin.Str.strSliceIndices lo hi 1 x.length).length = x.length := by simpa using h
    rw [ix_is, List.length_map, List.length_range] at h2
    have b1 := HT.sIx_le x.length x.length (Nat.le_refl _) hi
    unfold cutN
    rw [hl, h2]
    rcases Nat.eq_zero_or_pos x.length with z | z
    · have : x.cps.toList = [] := List.eq_nil_of_length_eq_zero (by omega)
      rw [this]
      simp
      rw [← tx_of x, this]
    · rw [show HT.sIx x.length 0 lo = 0 by omega, List.drop_zero, List.take_of_length_le (by omega), tx_of]
  · show (⟨_⟩ : Str) = tx _
    unfold tx
    rw [← e]
section
variable {X : Cx}
def rSlS : V → Option Int → Option Int → Hp → VK → Prop := fun x lo hi H Q => ∃ l : List Nat, x = .str (tx l) ∧ l.length ≤ sizeLine ∧ Q (.str (tx (cutN l lo hi))) H
theorem sl_str : SlR X rSlS := by
  intro pins s σ H x v vl vu lo hi sl Q I rx hs pl pu h
  obtain ⟨l, rfl, hz, q⟩ := h
  obtain ⟨t, rfl⟩ := rx
  have fin : ∀ t' k, EP X pins σ Q (.str (Txt.slice (tx l) lo hi) t') { s with toks := k } := fun t' k => ⟨.str _, H, I.tok k, ⟨t', rfl⟩, by rw [slice_is, tx_cps]; exact q⟩
  have hz' : (tx l).length ≤ sizeLine := by rw [tx_length]; exact hz
  refine ⟨"str", _, F.slot_str_getitem.lookup, typeIs_str _ _ _, ?_⟩
  cases pl with
  | none =>
    cases pu with
    | none => exact wpAny_getItem_str_slice (l := none) (u := none) (st := none) hs rfl (post_val_or_str ⟨Nat.le_trans (Txt.slice_le (tx l) _ _) hz', fin⟩)
    | int j uj => exact wpAny_getItem_str_slice (l := none) (u := some (j, uj)) (st := none) hs rfl (post_val_or_str ⟨Nat.le_trans (Txt.slice_le (tx l) _ _) hz', fin⟩)
  | int i ui =>
    cases pu with
    | none => exact wpAny_getItem_str_slice (l := some (i, ui)) (u := none) (st := none) hs rfl (post_val_or_str ⟨Nat.le_trans (Txt.slice_le (tx l) _ _) hz', fin⟩)
    | int j uj => exact wpAny_getItem_str_slice (l := some (i, ui)) (u := some (j, uj)) (st := none) hs rfl (post_val_or_str ⟨Nat.le_trans (Txt.slice_le (tx l) _ _) hz', fin⟩)
/-! ### an item, + -/
def rIxTx : R2 := fun x y H Q => ∃ (l : List Nat) (i : Int) (c : Nat), x = .str (tx l) ∧ y = .int i ∧ l.length ≤ sizeLine ∧ atI l i = some c ∧ Q (.str (tx [c])) H
theorem ix_tx : IxR X rIxTx := by
  intro value slice pins s σ H x y v u Q I rx ry h hs
  obtain ⟨l, i, c, rfl, rfl, hz, ha, q⟩ := h
  exact ix_str value slice pins s σ H _ _ v u Q I rx ry ⟨tx l, i, c, rfl, rfl, by rw [tx_length]; exact hz, by rw [tx_cps]; exact ha, q⟩ hs
def rAddTx : R2 := fun x y H Q => ∃ l m : List Nat, x = .str (tx l) ∧ y = .str (tx m) ∧ l.length + m.length ≤ sizeLine ∧ Q (.str (tx (l ++ m))) H
theorem op_addTx : OpR X (binaryOp .Add) rAddTx := by
  intro pins s σ H x y v u Q I rx ry h
  obtain ⟨l, m, rfl, rfl, hz, q⟩ := h
  exact op_add_str pins s σ H _ _ v u Q I rx ry ⟨tx l, tx m, rfl, rfl, by rw [tx_length, tx_length]; exact hz, by rw [tx_app]; exact q⟩
/-! ### methods -/
theorem strsAre_of {ls : List (List Nat)} : ∀ {us : List Value}, Vals (ls.map fun l => V.str (tx l)) us → StrsAre us (ls.map tx) := by
  induction ls with
  | nil => intro us r; cases r; exact .nil
  | cons l ls ih =>
    intro us r
    cases r with
    | cons r1 r2 =>
      obtain ⟨t, rfl⟩ := r1
      exact .cons _ t (ih r2)
theorem join_is : ∀ ls : List (List Nat), PySem.Str.join (tx []) (ls.map tx) = tx ls.flatten
  | [] => rfl
  | l :: ls => by
    show PySem.Str.join ⟨#[]⟩ (tx l :: ls.map tx) = _
    rw [join_nil_cons, List.flatten_cons, ← tx_app, ← join_is ls]
    rfl
theorem sum_tx : ∀ ls : List (List Nat), ((ls.map tx).map (·.length)).sum = ls.flatten.length
  | [] => rfl
  | l :: ls => by
    have := sum_tx ls
    simp only [List.map_cons, List.sum_cons, List.flatten_cons, List.length_append, tx_length]
    rw [this]
def rJoin (K : PySem.W.Frag) : V → List V → Hp → VK → Prop := fun x vs H Q => ∃ (p : Addr) (ls : List (List Nat)), x = .str (tx []) ∧ vs = [.ref p] ∧ SqL K H p (ls.map fun l => V.str (tx l)) ∧ ls.flatten.length ≤ 1000000 ∧ Q (.str (tx ls.flatten)) H
theorem mt_join : MtM X "str.join" (rJoin X.K) := by
  intro pins s σ H x vs v us Q I rx rv h
  obtain ⟨p, ls, rfl, rfl, hS, hz, q⟩ := h
  obtain ⟨t, rfl⟩ := rx
  obtain ⟨u, rfl, ru⟩ := rv.one
  cases ru
  obtain ⟨its, r, pl, _⟩ := I.list hS
  refine join_list pl.isList (by simpa using strsAre_of r) (by rw [sum_tx, tx_length, List.length_nil, Nat.mul_zero, Nat.add_zero]; exact Nat.le_trans hz (by decide)) fun t' k => ⟨.str (tx ls.flatten), H, I.tok k, ⟨t', ?_⟩, q⟩
  have e : Txt.join (tx []) (ls.map tx) = tx ls.flatten := by
    have z := join_plain_closes (tx []) (ls.map tx)
    rw [← join_is]
    exact eq_of_beq z
  rw [e]
def rFind : V → List V → Hp → VK → Prop := fun x vs H Q => ∃ z y, x = .str z ∧ vs = [.str y] ∧ Q (.int (Txt.find z y)) H
theorem mt_find : MtM X "str.find" rFind := by
  intro pins s σ H x vs v us Q I rx rv h
  obtain ⟨z, y, rfl, rfl, q⟩ := h
  obtain ⟨t, rfl⟩ := rx
  obtain ⟨u, rfl, ru⟩ := rv.one
  obtain ⟨t', rfl⟩ := ru
  exact SC.find ⟨.int _, H, I.tok _, ⟨_, rfl⟩, q⟩
def rCount : V → List V → Hp → VK → Prop := fun x vs H Q => ∃ z y, x = .str z ∧ vs = [.str y] ∧ Q (.int (Txt.count z y)) H
theorem mt_count : MtM X "str.count" rCount := by
  intro pins s σ H x vs v us Q I rx rv h
  obtain ⟨z, y, rfl, rfl, q⟩ := h
  obtain ⟨t, rfl⟩ := rx
  obtain ⟨u, rfl, ru⟩ := rv.one
  obtain ⟨t', rfl⟩ := ru
  exact SC.count ⟨.int _, H, I.tok _, ⟨_, rfl⟩, q⟩
def rStarts : V → List V → Hp → VK → Prop := fun x vs H Q => ∃ l m : List Nat, x = .str (tx l) ∧ vs = [.str (tx m)] ∧ Q (.bl (decide (m <+: l))) H
theorem starts_is (l m : List Nat) : Txt.startswith (tx l) (tx m) = decide (m <+: l) := by
  unfold Txt.startswith Builtin.Str.subAt
  rw [tx_length, tx_length, Nat.zero_add]
  have e : (tx l).cps.extract 0 m.length = (l.take m.length).toArray := by simp [tx]
  rw [e]
  by_cases h : m <+: l
  · rw [decide_eq_true h, decide_eq_true h.length_le]
    have := (List.prefix_iff_eq_take.mp h)
    simp [tx, ← this]
  · rw [decide_eq_false h]
    by_cases hl : m.length ≤ l.length
    · rw [decide_eq_true hl]
      have : ¬ l.take m.length = m := fun z => h (List.prefix_iff_eq_take.mpr z.symm)
      simp [tx, this]
    · rw [decide_eq_false hl]
      rfl
theorem mt_starts : MtM X "str.startswith" rStarts := by
  intro pins s σ H x vs v us Q I rx rv h
  obtain ⟨l, m, rfl, rfl, q⟩ := h
  obtain ⟨t, rfl⟩ := rx
  obtain ⟨u, rfl, ru⟩ := rv.one
  obtain ⟨t', rfl⟩ := ru
  exact SC.startswith ⟨.bl _, H, I, rfl, by rw [starts_is]; exact q⟩
end
/-! ### for c in text -/
def Its (l : List Nat) : It := ⟨fun i _ => i < l.length, fun i H x H' => H' = H ∧ ∃ c, l[i]? = some c ∧ x = .str (tx [c]), fun i _ => l.length ≤ i⟩
theorem turn_str {P : Program} {w : World} {K : PySem.W.Frag} {tg : Expr} {l : List Nat} {ty : String} {t : Tok} (it : Addr) (hty : ty = "str_ascii_iterator" ∨ ty = "str_iterator") : Turn P w K tg (Its l) [it] it (fun i h => h.IsStrIter it ty (tx l) t i) := by
  have wk : ∀ A : Around, A.handled = none → Walks P w A it [it] [it] (tx l).cps.size (SignAt (tx l)) (fun i h => h.IsStrIter it ty (tx l) t i) := fun A hA => by
    rcases hty with e | e
    · subst e; exact Walks.strAscii hA it (tx l) t
    · subst e; exact Walks.strWide hA it (tx l) t
  have hsz : (tx l).cps.size = l.length := by simp [tx]
  have nin : ["enumerate", "zip", "dict_itemiterator", "dict_reverseitemiterator", "odict_iterator", "itertools.zip_longest", "itertools.pairwise"].contains ty = false := by rcases hty with e | e <;> subst e <;> decide
  exact {
    mem := by simp
    obj := fun i h st b hb => by
      have e : b = it := by simpa using hb
      subst e
      obtain ⟨o, e, c, d⟩ := st
      exact ⟨o, e, fun v z => by rw [d] at z; cases z⟩
    keep := fun i h h' st k => by
      obtain ⟨o, e, r⟩ := st
      exact ⟨o, k it (by simp) o e, r⟩
    item := by
      intro X hP hw hK hc i pins s σ H E I hf st hg
      subst hP hw hK
      obtain ⟨f0, f1, f2, f3, f4, f5⟩ := hf it (by simp)
      refine (wk X.A (I.ok.hd hc)).item i s _ _ (by rw [hsz]; exact hg) st fun v h' tk hv st' kk => ?_
      obtain ⟨c, u, hcu, rfl⟩ := hv
      have I1 : Inv X pins σ H { s with heap := h', toks := tk } := I.turned (fun b o hb e => kk b o (by simpa using hb) e) f0 f1 f3 f4 f5
      obtain ⟨o, e, oc, od⟩ := id st'
      refine ⟨_, rfl, go_of (s := { s with heap := h', toks := tk }) e oc od nin ⟨.str (tx [c]), H, I1, ⟨u, rfl⟩, ⟨rfl, c, by simpa [tx] using hcu, rfl⟩, st', fun b hb => (hf b hb).1⟩⟩
    done := by
      intro X hP hw hK hc i pins s σ H E I hf st hg
      subst hP hw hK
      obtain ⟨f0, f1, f2, f3, f4, f5⟩ := hf it (by simp)
      have hi : l.length ≤ i := hg
      rcases hty with e | e
      · subst e
        exact wpAny_pyNext_ascii_end (I.ok.hd hc) st (by simp [tx]; omega) fun h' eb => ⟨rfl, I.turned (t' := s.toks) (fun b o hb e => eb b o hb e) f0 f1 f3 f4 f5⟩
      · subst e
        exact wpAny_pyNext_wide_end (I.ok.hd hc) st (by simp [tx]; omega) fun h' eb => ⟨rfl, I.turned (t' := s.toks) (fun b o hb e => eb b o hb e) f0 f1 f3 f4 f5⟩
    self := fun A i s Q E st h => by
      rcases hty with e | e
      · subst e; exact wpAny_pyIter_striter_ascii st h
      · subst e; exact wpAny_pyIter_striter_wide st h }
section
variable {X : Cx} {tg : Expr}
def iStr (tl : TE) : TI := fun σ H R => tl σ H fun x H1 => ∃ l, x = .str (tx l) ∧ R (Its l) H1
theorem pi_str {e : Expr} {tl : TE} (hl : PE X e tl) : PI X tg e (iStr tl) := by
  intro pins s σ H R I h
  refine thn (hl pins s σ H _ I h) fun v s1 ⟨x, H1, I1, r1, q1⟩ => ?_
  obtain ⟨l, rfl, q⟩ := q1
  obtain ⟨t, rfl⟩ := r1
  refine wpAny_pyIter_strU ?_
  have hty : strIterType (tx l) = "str_ascii_iterator" ∨ strIterType (tx l) = "str_iterator" := by
    unfold strIterType
    split
    · exact .inl rfl
    · exact .inr rfl
  refine ⟨s1.heap.objs.size, [s1.heap.objs.size], _, _, H1, rfl, I1.kept (t' := s1.toks) fun b o e => Heap.get?_push_of_some _ e, turn_str (t := t) _ hty, ⟨_, Heap.get?_push_size _ rfl, rfl, rfl⟩, fun b hb => ?_, q⟩
  have e : b = s1.heap.objs.size := by simpa using hb
  subst e
  exact I1.fpOk (Nat.le_refl _) (I1.hok.fresh (Nat.le_refl _))
end
theorem for_str {l : List Nat} {g : TG} {tb : TS} {D : Ends} {σ : St} {H : Hp} (Pv : Nat → St → Hp → Prop) (h0 : Pv 0 σ H)
    (hs : ∀ (i c : Nat) σ H, l[i]? = some c → Pv i σ H → g (.str (tx [c])) σ H fun σ2 H2 => tb { D with nx := Pv (i + 1), ct := Pv (i + 1), bk := D.nx } σ2 H2) (hd : ∀ σ H, Pv l.length σ H → D.nx σ H) :
    ∃ W : Nat → Nat → St → Hp → Prop, (∃ m, W 0 m σ H) ∧ ∀ i m σ H, W i m σ H →
      ((Its l).stop i H ∧ D.nx σ H) ∨ ((Its l).go i H ∧ ∃ N : St → Hp → Prop, (∀ σ' H', N σ' H' → ∃ m', m' < m ∧ W (i + 1) m' σ' H') ∧ ∀ x H', (Its l).yld i H x H' → g x σ H' fun σ2 H2 => tb { D with nx := N, ct := N, bk := D.nx } σ2 H2) := by
  refine ⟨fun i m σ H => m = l.length - i ∧ i ≤ l.length ∧ Pv i σ H, ⟨l.length, by simp, Nat.zero_le _, h0⟩, ?_⟩
  rintro i m σ H ⟨rfl, hi, p⟩
  by_cases hlt : i < l.length
  · refine .inr ⟨hlt, Pv (i + 1), fun σ' H' p' => ⟨l.length - (i + 1), by omega, rfl, hlt, p'⟩, fun x H' y => ?_⟩
    obtain ⟨e, c, hc, rfl⟩ := y
    subst e
    exact hs i c σ _ hc p
  · have e : i = l.length := by omega
    subst e
    exact .inl ⟨Nat.le_refl _, hd σ H p⟩
end L2
set_option Elab.async false
set_option linter.all false
set_option maxRecDepth 100000
set_option maxHeartbeats 4000000
/-! where a text stands first in another; how often a sign stands in it -/
namespace L2
open PySem PySem.StrLaws PySem.Builtin PySem.Builtin.Str
def Hit (s sub : Str) (hi i : Nat) : Prop := i + sub.length ≤ hi ∧ subAt s sub i = true
theorem occ_full (s sub : Str) (hi : Nat) : ∀ (l : List Nat) (a : Array Nat) (f : Nat), 1 ≤ a.size → (forIn l (a, f) (occBody s sub hi 1)).run.fst = a
  | [], a, f, _ => rfl
  | x :: l, a, f, h => by
    rw [List.forIn_cons]
    unfold occBody
    rw [if_neg (fun z => by have : a.size < 1 := z.1.1.1; omega)]
    exact occ_full s sub hi l a f h
theorem occ_first (s sub : Str) (hi : Nat) : ∀ (n lo free : Nat), free ≤ lo →
    ((forIn (List.range' lo n) ((#[] : Array Nat), free) (occBody s sub hi 1)).run.fst = #[] ∧ ∀ i, lo ≤ i → i < lo + n → ¬ Hit s sub hi i) ∨
    ∃ i, lo ≤ i ∧ i < lo + n ∧ Hit s sub hi i ∧ (∀ i', lo ≤ i' → i' < i → ¬ Hit s sub hi i') ∧ (forIn (List.range' lo n) ((#[] : Array Nat), free) (occBody s sub hi 1)).run.fst = #[i]
  | 0, lo, free, h => .inl ⟨rfl, fun i a b => by omega⟩
  | n + 1, lo, free, h => by
    rw [List.range'_succ, List.forIn_cons]
    by_cases hc : Hit s sub hi lo
    · refine .inr ⟨lo, Nat.le_refl _, by omega, hc, fun i' a b => by omega, ?_⟩
      have e : occBody s sub hi 1 lo ((#[] : Array Nat), free) = pure (ForInStep.yield (#[lo], lo + sub.length)) := by
        unfold occBody
        rw [if_pos ⟨⟨⟨by simp, h⟩, hc.1⟩, hc.2⟩]
        rfl
      rw [e]
      exact occ_full s sub hi _ _ _ (by simp)
    · have e : occBody s sub hi 1 lo ((#[] : Array Nat), free) = pure (ForInStep.yield (#[], free)) := by
        unfold occBody
        rw [if_neg fun z => hc ⟨z.1.2, z.2⟩]
      rw [e]
      rcases occ_first s sub hi n (lo + 1) free (by omega) with ⟨a, b⟩ | ⟨i, a, b, c, d, f⟩
      · refine .inl ⟨a, fun i i1 i2 => ?_⟩
        rcases Nat.eq_or_lt_of_le i1 with z | z
        · rw [← z]; exact hc
        · exact b i z (by omega)
      · refine .inr ⟨i, by omega, by omega, c, fun i' i1 i2 => ?_, f⟩
        rcases Nat.eq_or_lt_of_le i1 with z | z
        · rw [← z]; exact hc
        · exact d i' z i2
theorem hit_tx (l m : List Nat) (i : Nat) : Hit (tx l) (tx m) l.length i ↔ i + m.length ≤ l.length ∧ (l.drop i).take m.length = m := by
  unfold Hit
  rw [subAt_eq, tx_length, tx_cps, tx_cps, beq_iff_eq]
theorem find_is (l m : List Nat) : (Txt.find (tx l) (tx m) = -1 ∧ ∀ i, i + m.length ≤ l.length → ¬ (l.drop i).take m.length = m) ∨
    ∃ i : Nat, Txt.find (tx l) (tx m) = (i : Int) ∧ i + m.length ≤ l.length ∧ (l.drop i).take m.length = m ∧ ∀ i', i' < i → ¬ (l.drop i').take m.length = m := by
  unfold Txt.find
  rw [occ_eq, tx_length, Nat.sub_zero]
  rcases occ_first (tx l) (tx m) l.length (l.length + 1) 0 0 (Nat.le_refl _) with ⟨a, b⟩ | ⟨i, a, b, c, d, f⟩
  · refine .inl ⟨by rw [a], fun i hi z => b i (Nat.zero_le _) (by omega) ((hit_tx l m i).mpr ⟨hi, z⟩)⟩
  · have c' := (hit_tx l m i).mp c
    refine .inr ⟨i, by rw [f], c'.1, c'.2, fun i' hi z => d i' (Nat.zero_le _) hi ((hit_tx l m i').mpr ⟨by omega, z⟩)⟩
/-- one sign, counted -/
theorem occ_all (s sub : Str) (hi lim : Nat) (h1 : sub.length = 1) : ∀ (n lo : Nat) (a : Array Nat) (free : Nat), free ≤ lo → a.size + n ≤ lim →
    (forIn (List.range' lo n) (a, free) (occBody s sub hi lim)).run.fst.size = a.size + ((List.range' lo n).filter fun i => decide (i + 1 ≤ hi) && subAt s sub i).length
  | 0, lo, a, free, h, hs => rfl
  | n + 1, lo, a, free, h, hs => by
    rw [List.range'_succ, List.forIn_cons, List.filter_cons]
    by_cases hc : lo + 1 ≤ hi ∧ subAt s sub lo = true
    · have e : occBody s sub hi lim lo (a, free) = pure (ForInStep.yield (a.push lo, lo + sub.length)) := by
        unfold occBody
        rw [if_pos ⟨⟨⟨by show a.size < lim; omega, h⟩, by rw [h1]; exact hc.1⟩, hc.2⟩]
      rw [e, decide_eq_true hc.1, hc.2]
      have ih := occ_all s sub hi lim h1 n (lo + 1) (a.push lo) (lo + sub.length) (by omega) (by rw [Array.size_push]; omega)
      rw [Array.size_push] at ih
      refine ih.trans ?_
      simp
      omega
    · have e : occBody s sub hi lim lo (a, free) = pure (ForInStep.yield (a, free)) := by
        unfold occBody
        rw [if_neg fun z => hc ⟨by have := z.1.2; rw [h1] at this; exact this, z.2⟩]
      have f : (decide (lo + 1 ≤ hi) && subAt s sub lo) = false := by
        rw [Bool.and_eq_false_iff]
        by_cases z : lo + 1 ≤ hi
        · exact .inr (Bool.eq_false_iff.mpr fun y => hc ⟨z, y⟩)
        · exact .inl (decide_eq_false z)
      rw [e, f, if_neg Bool.false_ne_true]
      exact occ_all s sub hi lim h1 n (lo + 1) a free (by omega) (by omega)
theorem range_count (l : List Nat) (c : Nat) : ((List.range l.length).filter fun i => decide (l[i]? = some c)).length = l.count c := by
  induction l with
  | nil => rfl
  | cons x l ih =>
    rw [List.length_cons, List.range_succ_eq_map, List.filter_cons, List.filter_map, List.count_cons, ← ih]
    by_cases h : x = c
    · subst h
      simp [Function.comp_def]
    · simp [Function.comp_def, h]
theorem count_is (l : List Nat) (c : Nat) : Txt.count (tx l) (tx [c]) = ((l.count c : Nat) : Int) := by
  unfold Txt.count
  rw [occ_eq, tx_length, Nat.sub_zero, Array.length_toList, occ_all (tx l) (tx [c]) l.length (l.length + 1) rfl (l.length + 1) 0 #[] 0 (Nat.le_refl _) (by simp)]
  rw [← range_count, ← List.range_eq_range', List.range_succ, List.filter_append]
  have e1 : ([l.length].filter fun i => decide (i + 1 ≤ l.length) && subAt (tx l) (tx [c]) i) = [] := by
    rw [List.filter_cons, decide_eq_false (by omega)]
    rfl
  rw [e1, List.append_nil]
  have e2 : (List.range l.length).filter (fun i => decide (i + 1 ≤ l.length) && subAt (tx l) (tx [c]) i) = (List.range l.length).filter fun i => decide (l[i]? = some c) := by
    apply List.filter_congr
    intro i hi
    have hi' := List.mem_range.mp hi
    rw [decide_eq_true (by omega), Bool.true_and, subAt_eq, tx_cps, tx_cps, tx_length]
    have := take1_drop (l := l) (c := c) (i := i)
    by_cases z : l[i]? = some c
    · rw [decide_eq_true z]; exact this.mpr z
    · rw [decide_eq_false z]; exact Bool.eq_false_iff.mpr fun y => z (this.mp y)
  rw [e2]
  simp
end L2
set_option Elab.async false
set_option linter.all false
set_option maxRecDepth 100000
set_option maxHeartbeats 4000000
/-! [.. for i, c in enumerate(text) if ..] -/
namespace L2
open PySem PySem.Spec PyProof.Rows
/-- i, c behind one another: the text's signs by their places -/
def Ite (l : List Nat) : It := ⟨fun i _ => i < l.length, fun i H v H' => ∃ p c, v = .ref p ∧ H p = none ∧ l[i]? = some c ∧ H' = upd H p (.tup [.int (i : Int), .str (tx [c])]), fun i _ => i = l.length⟩
theorem draws_tx {prog : Program} {w : World} {A : Around} {l : List Nat} {t : Tok} (hh : A.handled = none) (it : Addr) {ty : String} (hty : ty = "str_ascii_iterator" ∨ ty = "str_iterator") :
    Draws prog w A it [it] l.length (fun i v => ∃ c t', l[i]? = some c ∧ v = .str (tx [c]) t') (fun i h => h.IsStrIter it ty (tx l) t i) := by
  have hsz : (tx l).cps.size = l.length := tx_length l
  have hget : ∀ i : Nat, (tx l).cps[i]? = l[i]? := fun i => by simp [tx]
  rcases hty with rfl | rfl
  · have D := Draws.strAscii (prog := prog) (w := w) (A := A) hh it (tx l) t
    rw [hsz] at D
    exact ⟨D.live, D.frame, fun i s Q E hi st hQ => D.item i s Q E hi st fun x h' tk hP a b => hQ x h' tk (by obtain ⟨c, t', hc, rfl⟩ := hP; exact ⟨c, t', by rw [← hget]; exact hc, rfl⟩) a b, D.done⟩
  · have D := Draws.strWide (prog := prog) (w := w) (A := A) hh it (tx l) t
    rw [hsz] at D
    exact ⟨D.live, D.frame, fun i s Q E hi st hQ => D.item i s Q E hi st fun x h' tk hP a b => hQ x h' tk (by obtain ⟨c, t', hc, rfl⟩ := hP; exact ⟨c, t', by rw [← hget]; exact hc, rfl⟩) a b, D.done⟩
theorem turn_enum {P : Program} {w : World} {K : PySem.W.Frag} {es : List Expr} {k : Nat} {pos : Pos} {l : List Nat} {t : Tok} {ty : String} (e it : Addr) (hei : e ≠ it) (hty : ty = "str_ascii_iterator" ∨ ty = "str_iterator") :
    Turn P w K (.Tuple es k pos) (Ite l) [e, it] e (fun i h => (∃ old, IsEnum h e it i old) ∧ h.IsStrIter it ty (tx l) t i) where
  mem := by simp
  obj := fun i h st b hb => by
    obtain ⟨⟨old, he⟩, o1, e1, c1, d1⟩ := st
    simp only [List.mem_cons, List.not_mem_nil, or_false] at hb
    rcases hb with rfl | rfl
    · exact ⟨_, he, fun v q => by simp at q⟩
    · exact ⟨o1, e1, fun v q => by rw [d1] at q; cases q⟩
  keep := fun i h h' st k => by
    obtain ⟨⟨old, he⟩, hs⟩ := st
    exact ⟨⟨old, k e (by simp) _ he⟩, by obtain ⟨o, q, r⟩ := hs; exact ⟨o, k it (by simp) o q, r⟩⟩
  item := by
    intro X hP hw hK hc i pins s σ H E I hf st hg
    subst hP hw hK
    obtain ⟨⟨old, he⟩, hs⟩ := st
    have D := draws_tx (prog := X.prog) (w := X.w) (A := X.A.in1) (l := l) (t := t) (I.ok.hd hc) it hty
    refine wpAny_pyNext_enum_itemD D he hs hg hei (by simpa using hei) fun x h1 tk hx ho hs1 hT hsz hk => ?_
    obtain ⟨c, t', hlc, rfl⟩ := hx
    refine ⟨_, rfl, wpAny_letOwnedTupleGo_enum ho fun h2 he2 hb2 => ?_⟩
    have elt : e < s.heap.objs.size := Heap.lt_size he
    have ilt : it < s.heap.objs.size := by obtain ⟨o, q, _⟩ := hs; exact Heap.lt_size q
    have fr : H s.heap.objs.size = none := I.fresh
    have keep : ∀ b o, b ∉ [e, it] → s.heap.get? b = some o → h2.get? b = some o := fun b o hb q => by
      simp only [List.mem_cons, List.not_mem_nil, or_false, not_or] at hb
      exact (hb2.2 b hb.1).trans (hk b o hb.1 hb.2 q)
    have newT : h2.get? s.heap.objs.size = some { cls := .type "tuple", data := .seq #[.int i tk, .str (tx [c]) t'] } := (hb2.2 _ (Nat.ne_of_gt elt)).trans hT
    have fnone : ∀ b ∈ [e, it], upd H s.heap.objs.size (.tup [.int (i : Int), .str (tx [c])]) b = none := fun b hb => by
      have hlt : b < s.heap.objs.size := by
        simp only [List.mem_cons, List.not_mem_nil, or_false] at hb
        rcases hb with rfl | rfl <;> assumption
      rw [upd_ne (Nat.ne_of_lt hlt)]
      exact (hf b hb).1
    have tn2 : (∃ old, IsEnum h2 e it ((i + 1 : Nat) : Int) old) ∧ h2.IsStrIter it ty (tx l) t (i + 1) := ⟨⟨_, he2⟩, by obtain ⟨o, q, r⟩ := hs1; exact ⟨o, (hb2.2 it (Ne.symm hei)).trans q, r⟩⟩
    have I1 : Inv X pins σ (upd H s.heap.objs.size (.tup [.int (i : Int), .str (tx [c])])) { s with heap := h2, toks := tk + 1 } := by
      have hnotr : ∀ b u, H b = some u → b ∉ [e, it] := fun b u q hb => by rw [(hf b hb).1] at q; cases q
      refine I.step (g' := s.gens) (d' := s.drawn) (t' := tk + 1) (ch := [e, it]) (fun b hb => ⟨(hf b hb).2.2.2.1, (hf b hb).2.1, (hf b hb).2.2.2.2.1, (hf b hb).2.2.2.2.2⟩) (fun b o _ _ hc q _ => keep b o hc q) (fun b o _ _ hc q _ => ⟨o.slots, keep b o hc q⟩)
        (fun b o _ q n => by rw [upd_ne (Nat.ne_of_lt (Heap.lt_size q))]; exact n) (fun b o hc q => ⟨o, keep b o hc q⟩) (fun b ts q => by rw [upd_ne (ne_of_none q fr)]; exact q) (fun b o u q => by rw [upd_ne (ne_of_none q fr)]; exact q) (fun b ps q => ⟨#[], by rw [upd_ne (ne_of_none q fr), q]; simp⟩) (fun m hm => ?_) (fun b u q => ?_) I.bare
      · obtain ⟨o, es', ep, ho, r⟩ := hm
        exact ⟨o, es', ep, keep _ o (fun hb => (hf _ hb).2.1 rfl) ho, r⟩
      · by_cases hb : b = s.heap.objs.size
        · subst hb
          rw [upd_same] at q
          cases q
          exact ⟨by show 2 ≤ sizeLine; decide, [.int i tk, .str (tx [c]) t'], .cons ⟨_, rfl⟩ (.cons ⟨_, rfl⟩ .nil), _, newT, rfl, _, rfl⟩
        · rw [upd_ne hb] at q
          exact (I.hok b u q).stay (fun c v hc qc => keep c v (hc.elim (fun e => by rw [e]; exact hnotr b u q) fun e => hnotr c _ e) qc) (fun c qc => by rw [upd_ne (ne_of_none qc fr)]; exact qc) fun c ts qc => by rw [upd_ne (ne_of_none qc fr)]; exact qc
    exact ⟨.ref s.heap.objs.size, _, I1, rfl, ⟨_, c, rfl, fr, hlc, rfl⟩, tn2, fnone⟩
  done := by
    intro X hP hw hK hc i pins s σ H E I hf st hg
    subst hP hw hK
    obtain ⟨⟨old, he⟩, hs⟩ := st
    have hi : i = l.length := hg
    subst hi
    have D := draws_tx (prog := X.prog) (w := X.w) (A := X.A.in1) (l := l) (t := t) (I.ok.hd hc) it hty
    obtain ⟨f0, f1, f2, f3, f4, f5⟩ := hf it (by simp)
    exact wpAny_pyNext_enum_endD D he hs fun h' eb => ⟨rfl, I.turned (t' := s.toks) (fun b o hb e => eb b o hb e) f0 f1 f3 f4 f5⟩
  self := fun A i s Q E st h => by
    obtain ⟨⟨old, he⟩, _⟩ := st
    exact wpAny_pyIter_enum he h
/-- the names of the block: its own, then those of the slots ns of the def -/
def namesD (x z : Str) : List Str := [x, z]
def slotsD (v w : Option V) : St := [v, w]
/-- the block's context -/
def cxD (X : Cx) (scope : Scope) (x z : Str) (s : Shared) (H : Hp) (fp : List Addr) : Cx :=
  { X with N := namesD x z, s₀ := s, H₀ := H, env := compEnvC scope (clOf X.env scope.names []) s.heap.objs.size X.env, outer := X.stack, ex := fp, fn := fun _ => false, pn := [], xe := fun _ _ => False }
/-- what is asked of the block's table -/
structure BlkD (X : Cx) (scope : Scope) (x z : Str) : Prop where
  kind : scope.kind = .function
  nocell : (scope.names.all fun y => y.2 != .cell) = true
  loc : (scope.names.all fun y => y.2 != .local || scope.names.lookup y.1 == some .local) = true
  own : scope.names.lookup x = some .local
  fr : (scope.names.all fun y => y.2 != .free || X.env.kindOf y.1 == some .cell) = true
  own2 : scope.names.lookup z = some .local
  nd : (namesD x z).Nodup
section
variable {X : Cx} {scope : Scope} {x z : Str} {pins : List (Addr × Obj)} {σ : St} {H : Hp} {s : Shared}
theorem BlkD.cells (B : BlkD X scope x z) (ok : X.Ok) : ∀ y ∈ scope.names, y.2 = .free → ∃ c, X.env.cells.lookup y.1 = some c := fun y hy hk => by
  have q := List.all_eq_true.mp B.fr y hy
  rw [hk] at q
  refine ok.has y.1 (.inl ?_)
  simpa using q
theorem BlkD.from (B : BlkD X scope x z) (ok : X.Ok) {y : Str} {c : Addr} (e : (clOf X.env scope.names []).lookup y = some c) : X.env.cells.lookup y = some c := by
  rcases cl_from scope.names [] (B.cells ok) e with q | q
  · cases q
  · exact q
theorem BlkD.has (B : BlkD X scope x z) {y : Str} {k : NameKind} (e : (relabel scope X.env).names.lookup y = some k) (hk : k = .cell ∨ k = .free) : ∃ c, (clOf X.env scope.names []).lookup y = some c := by
  obtain ⟨k0, e0, h0⟩ := lookup_rel (env := X.env) e
  have hm := PySem.mem_of_lookup e0
  have nc := List.all_eq_true.mp B.nocell _ hm
  have hf : k0 = .free := by
    rcases h0 with q | ⟨q, _⟩
    · subst q
      rcases hk with q | q
      · rw [q] at nc; cases nc
      · exact q
    · exact q
  subst hf
  exact cl_has scope.names [] hm
/-- the block's beginning: behind the new list (tracked), the block's own table just laid -/
theorem Inv.blockD (I : Inv X pins σ H s) (B : BlkD X scope x z) {fp : List Addr} (hfp : ∀ b ∈ fp, FpOk X pins H b) (hlt : ∀ b ∈ fp, b < s.heap.objs.size) {h1 : Heap} {m : Str → Option Value} {tk : Nat} (hn : h1.Ns s.heap.objs.size m)
    (hk : ∀ b o, s.heap.get? b = some o → h1.get? b = some o) : Inv (cxD X scope x z s H fp) [] (slotsD none none) H { s with heap := h1, toks := tk } := by
  have nofs : ∀ b ∈ fp, b ∉ frs X.stack := fun b hb hz => by
    rcases List.mem_cons.mp (I.stkSub b hz) with e | e
    · exact (hfp b hb).2.1 e
    · exact (hfp b hb).2.2.1 e
  refine ⟨⟨I.ok.mod, B.kind, I.ok.glob, I.ok.blt, Nat.le_refl _, fun y z c e1 e2 => I.ok.inj y z c (B.from I.ok e1) (B.from I.ok e2), fun y hy => ?_, fun y c hy _ => absurd hy (by simp [cxD]), I.ok.hd, I.ok.frames, .inl rfl, fun b hb => ⟨Nat.ne_of_lt (hlt b hb), fun y c e => (hfp b hb).2.2.2.2.1 y c (B.from I.ok e)⟩,
    I.bs, Nat.le_trans I.ok.bsz I.sz, fun b o e hb => ?_, nofs, I.stack, I.stkFree⟩, rfl, I.bare, Un.kept hk, ⟨m, hn, fun i y v e1 e2 e3 => ?_⟩, fun y c e => ?_, I.hok.fresh (Nat.le_refl _), fun y c e => I.freeC y c (B.from I.ok e), fun p hp => absurd (show p ∈ ([] : List (Addr × Obj)) from hp) (by simp), I.hok.kept hk, ?_⟩
  · rcases hy with hy | hy
    · exact B.has hy (.inl rfl)
    · exact B.has hy (.inr rfl)
  · rcases (hfp b hb).2.2.2.1 with z | z
    · exact I.ok.noex b o e z
    · exact absurd (Nat.lt_of_lt_of_le (Heap.lt_size e) (Nat.le_trans I.ok.bsz z)) (Nat.lt_irrefl _)
  · cases i with
    | zero => simp [slotsD] at e2
    | succ i => cases i with
      | zero => simp [slotsD] at e2
      | succ i => simp [slotsD] at e2
  · obtain ⟨v, o, ho, hd⟩ := I.cell y c (B.from I.ok e)
    exact ⟨v, o, hk _ _ ho, hd⟩
  · show (slotsD none none).length = (namesD x z).length
    simp [slotsD, namesD]
/-- behind the block -/
theorem Inv.unblockD {fp : List Addr} {σ' : St} {H' : Hp} {s' : Shared} (I : Inv X pins σ H s) (hfp : ∀ b ∈ fp, FpOk X pins H b) (J : Inv (cxD X scope x z s H fp) [] σ' H' s') {h2 : Heap} (hs : Heap.SameBut s.heap.objs.size s'.heap h2) :
    Inv X pins σ H' { s' with heap := h2 } := by
  have hC : H' s.heap.objs.size = none := J.free
  have st : ∀ b o, b ≠ s.heap.objs.size → s'.heap.get? b = some o → h2.get? b = some o := fun b o hb e => (hs.2 b hb).trans e
  have ne : ∀ b o, s.heap.get? b = some o → b ≠ s.heap.objs.size := fun b o e => Nat.ne_of_lt (Heap.lt_size e)
  have U := J.base
  refine I.call' (s' := { s' with heap := h2 }) (ch := fp) J.os ⟨fun b o e n hb hx => st b o (ne b o e) (U.keep b o e n hb hx), fun b o e n hb hx => ?_, U.free, fun b o e hx => ?_, U.tups, U.frzs, U.tbls⟩ (fun b u e => ?_) J.bare fun b hb => ⟨(hfp b hb).2.2.2.1, (hfp b hb).2.1, (hfp b hb).2.2.2.2.1, (hfp b hb).2.2.2.2.2⟩
  · obtain ⟨sl, q⟩ := U.slot b o e n hb hx
    exact ⟨sl, st b _ (ne b o e) q⟩
  · obtain ⟨o', q⟩ := U.there b o e hx
    exact ⟨o', st b _ (ne b o e) q⟩
  · refine (J.hok b u e).stay (fun c v hc q => st c v ?_ q) (fun _ q => q) fun _ _ q => q
    rintro rfl
    rcases hc with z | z
    · rw [← z, hC] at e; cases e
    · rw [hC] at z; cases z
end
def CompOkD (K : PySem.W.Frag) (J : It) (tt : TT) (te : TE) (H1 : Hp) (Q : VK) : Prop := ∀ D, H1 D = none → ∃ W : Nat → Nat → Hp → Prop, (∃ m, W 0 m (upd H1 D (.lst []))) ∧ ∀ i m H2, W i m H2 →
  (J.stop i H2 ∧ Q (.ref D) H2) ∨ (J.go i H2 ∧ ∀ v H3, J.yld i H2 v H3 → ∃ p a b, v = .ref p ∧ SqT K H3 p [a, b] ∧ tt (slotsD (some a) (some b)) H3 fun c H4 => if c = true then te (slotsD (some a) (some b)) H4 fun y H5 =>
    ∃ ys, H5 D = some (.lst ys) ∧ ys.length < sizeLine ∧ ∃ m', m' < m ∧ W (i + 1) m' (upd H5 D (.lst (ys ++ [y]))) else ∃ m', m' < m ∧ W (i + 1) m' H4)
def tCompD (K : PySem.W.Frag) (wi : TI) (tt : TT) (te : TE) : TE := fun σ H Q => wi σ H fun J H1 => CompOkD K J tt te H1 Q
theorem loop_testsD {prog : Program} {w : World} {A : Around} {R : Result → Shared → Prop} {s : Shared} {elt tg iter : Expr} {ifs : List Expr} {scope : Scope} {pos : Pos} {it acc : Value} {env : Env} (I : Nat → Shared → Prop)
    (turn : ∀ n s, I n s → wpAny (model prog w) A (pyNext it) (fun r s1 => match r with
      | none => R (.ok .next) s1
      | some v => wpAny (model prog w) A (letOwnedTupleGo tg it v) (fun _ s1' => wpAny (model prog w) A (assign tg env v) (fun _ s2 =>
          wpAny (model prog w) A (forIn ifs true fun c r => if r = true then do let ok ← isTrue c env (eval c env); pure (ForInStep.yield ok) else pure (ForInStep.yield r)) (fun ok s3 =>
            if ok = true then wpAny (model prog w) A (eval elt env) (fun x s4 =>
              wpAny (model prog w) A (call (.builtin "list.append") [acc, x]) (fun _ s5 => ∃ m, m < n ∧ I m s5) (notedBy (model prog w) A env fun e s' => R (.error e) s') s4) (notedBy (model prog w) A env fun e s' => R (.error e) s') s3
            else ∃ m, m < n ∧ I m s3) (notedBy (model prog w) A env fun e s' => R (.error e) s') s2) (notedBy (model prog w) A env fun e s' => R (.error e) s') s1') (notedBy (model prog w) A env fun e s' => R (.error e) s') s1) (notedBy (model prog w) A env fun e s' => R (.error e) s') s)
    (n : Nat) (h : I n s) : codeAny (model prog w) A (.compLoop (.ListComp elt [⟨tg, iter, ifs, 0⟩] scope pos) 0 it acc env) R s := by
  refine codeAny_loop rfl I (fun n s hI => ?_) n h
  show wpAny _ A ((compTurn (.ListComp elt [⟨tg, iter, ifs, 0⟩] scope pos) 0 it acc env).onRaise (fun x => do noteFrame x env; theTreesLotGoes x)) _ _ s
  refine wpAny_noted ?_
  rw [compTurn_list]
  refine wpAny_bind (wpAny_standAt (wpAny_bind (wpAny_mono (turn n s hI) (fun r s1 h1 => ?_) fun _ _ z => z)))
  cases r with
  | none => exact wpAny_pure h1
  | some v =>
    refine wpAny_bind (wpAny_mono h1 (fun _ s1' h1' => ?_) fun _ _ z => z)
    refine wpAny_bind (wpAny_mono h1' (fun _ s2 h2 => wpAny_bind (wpAny_mono h2 (fun ok s3 h3 => ?_) fun _ _ z => z)) fun _ _ z => z)
    cases ok with
    | false => exact wpAny_pure ⟨rfl, h3⟩
    | true => exact wpAny_bind (wpAny_bind (wpAny_mono h3 (fun x s4 h4 => wpAny_bind (wpAny_mono h4 (fun _ s5 h5 => wpAny_pure (wpAny_pure ⟨rfl, h5⟩)) fun _ _ z => z)) fun _ _ z => z))
section
variable {X : Cx} {scope : Scope} {x z : Str} {iter elt : Expr} {ifs : List Expr} {px pz tp pos : Pos} {kk : Nat} {wi : TI} {tt : TT} {te : TE}
theorem comp_anyD {use : Option (Value → Sem Unit)} {Q0 : Value → Shared → Prop} {p0 : Pos} {pins : List (Addr × Obj)} {s : Shared} {σ : St} {H : Hp} {Q : VK} (hc : X.calm = true) (B : BlkD X scope x z) (hi : PI X (.Tuple [.Name x px, .Name z pz] kk tp) iter wi) (ht : ∀ s H fp, PTs (cxD X scope x z s H fp) ifs tt) (he : ∀ s H fp, PE (cxD X scope x z s H fp) elt te)
    (hs : ∀ v, foldedSetIterable iter X.env v = pure v) (I : Inv X pins σ H s) (h : tCompD X.K wi tt te σ H Q)
    (fin : ∀ (s3 s6 : Shared) (H3 H6 : Hp) (fp : List Addr) (D : Addr), Inv X pins σ H3 s3 → (∀ b ∈ fp, FpOk X pins H3 b) → Inv (cxD X scope x z s3 H3 fp) [] (slotsD none none) H6 s6 → Q (.ref D) H6 → compPost (model X.prog X.w) X.A X.xe use Q0 (.ref D) s3.heap.objs.size (.ok .next) s6) :
    wpAny (model X.prog X.w) X.A (comprehension (.ListComp elt [⟨.Tuple [.Name x px, .Name z pz] kk tp, iter, ifs, 0⟩] scope pos) scope X.env p0 (newList []) false (eval iter X.env) use) Q0 X.xe s := by
  have hloc : ∀ y ∈ scope.names, y.2 = .local → scope.names.lookup y.1 = some .local := fun y hy hk => by
    have q := List.all_eq_true.mp B.loc y hy
    rw [hk] at q
    simpa using q
  have hcell : ∀ y ∈ scope.names, y.2 ≠ .cell := fun y hy hk => by
    have q := List.all_eq_true.mp B.nocell y hy
    rw [hk] at q
    cases q
  refine wpAny_comprehension_free (use := use) rfl hs (clos_is (B.cells I.ok)) B.kind hloc (thn (hi pins s σ H _ I h) fun v s1 h1 => thn h1 fun itv s2 h2 => ?_)
  obtain ⟨it, fp, tn, J, H2, e, I2, T, st2, f2, q2⟩ := h2
  subst e
  refine wpAny_newObj_type ?_
  obtain ⟨W, ⟨m0, w0⟩, turn⟩ := q2 s2.heap.objs.size I2.fresh
  have I3 := I2.lnew (ys := []) (its := []) (t' := s2.toks) .nil (Nat.zero_le _)
  generalize hs3 : ({ s2 with heap := s2.heap.push { cls := .type "list", data := .seq ([] : List Value).toArray }, toks := s2.toks } : Shared) = s3 at I3
  have e3 : s3.heap = s2.heap.push { cls := .type "list", data := .seq ([] : List Value).toArray } := by rw [← hs3]
  have lt2 : ∀ b ∈ fp, b < s2.heap.objs.size := fun b hb => by
    obtain ⟨o, q, _⟩ := T.obj _ _ st2 b hb
    exact Heap.lt_size q
  have f3 : ∀ b ∈ fp, FpOk X pins (upd H2 s2.heap.objs.size (.lst [])) b := fun b hb => ⟨by rw [upd_ne (Nat.ne_of_lt (lt2 b hb))]; exact (f2 b hb).1, (f2 b hb).2⟩
  have lt3 : ∀ b ∈ fp, b < s3.heap.objs.size := fun b hb => by
    rw [e3, Heap.size_push]
    exact Nat.lt_succ_of_lt (lt2 b hb)
  have st3 : tn 0 s3.heap := T.keep _ _ _ st2 fun b hb o q => by rw [e3]; exact Heap.get?_push_of_some _ q
  refine wpAny_newFunctionEnv hcell (fun y hy => nomatch hy) (fun h1 hn1 hb1 => ?_) B.kind
  have k1 : ∀ b o, s3.heap.get? b = some o → h1.get? b = some o := fun b o q => hb1.extBut b o (Nat.ne_of_lt (Heap.lt_size q)) (Heap.get?_push_of_some _ q)
  have I4 := I3.blockD B f3 lt3 (tk := s3.toks + ([] : List (Str × Value)).length) hn1 k1
  have st4 : tn 0 h1 := T.keep _ _ _ st3 fun b _ o q => k1 b o q
  have hkeep : ∀ {v w : Option V} {H' : Hp} {s' : Shared}, Inv (cxD X scope x z s3 (upd H2 s2.heap.objs.size (.lst [])) fp) [] (slotsD v w) H' s' → Inv (cxD X scope x z s3 (upd H2 s2.heap.objs.size (.lst [])) fp) [] (slotsD none none) H' s' := fun {v w H' s'} J' =>
    J'.weak (by simp [slotsD]) fun i w' q => by
      cases i with
      | zero => simp [slotsD] at q
      | succ i => cases i with
        | zero => simp [slotsD] at q
        | succ i => simp [slotsD] at q
  have fpC : ∀ {H' : Hp}, (∀ b ∈ fp, H' b = none) → ∀ b ∈ fp, FpOk (cxD X scope x z s3 (upd H2 s2.heap.objs.size (.lst [])) fp) [] H' b := fun {H'} hn b hb =>
    ⟨hn b hb, Nat.ne_of_lt (lt3 b hb), I4.ok.exfs b hb, .inl hb, fun y c q => (f3 b hb).2.2.2.2.1 y c (B.from I3.ok q), fun p hp => absurd (show p ∈ ([] : List (Addr × Obj)) from hp) (by simp)⟩
  have loop : codeAny (model X.prog X.w) X.A (.compLoop (.ListComp elt [⟨.Tuple [.Name x px, .Name z pz] kk tp, iter, ifs, 0⟩] scope pos) 0 (.ref it) (.ref s2.heap.objs.size) (cxD X scope x z s3 (upd H2 s2.heap.objs.size (.lst [])) fp).env)
      (compPost (model X.prog X.w) X.A X.xe use Q0 (.ref s2.heap.objs.size) s3.heap.objs.size) { s3 with heap := h1, toks := s3.toks + ([] : List (Str × Value)).length } := by
    refine loop_testsD (fun n s' => ∃ i H', Inv (cxD X scope x z s3 (upd H2 s2.heap.objs.size (.lst [])) fp) [] (slotsD none none) H' s' ∧ tn i s'.heap ∧ (∀ b ∈ fp, H' b = none) ∧ W i n H') ?_ m0 ⟨0, _, I4, st4, fun b hb => (f3 b hb).1, w0⟩
    rintro n s5 ⟨i, H5, I5, st5, fr5, w5⟩
    rcases turn i n H5 w5 with ⟨stop, qn⟩ | ⟨go, step⟩
    · refine thn (T.done (cxD X scope x z s3 (upd H2 s2.heap.objs.size (.lst [])) fp) rfl rfl rfl hc i [] s5 _ H5 _ I5 (fpC fr5) st5 stop) fun r s6 ⟨hr, I6⟩ => ?_
      subst hr
      exact fin s3 s6 _ H5 fp _ I3 f3 I6 qn
    · refine thn (T.item (cxD X scope x z s3 (upd H2 s2.heap.objs.size (.lst [])) fp) rfl rfl rfl hc i [] s5 _ H5 _ I5 (fpC fr5) st5 go) fun r s6 ⟨u, hr, h6⟩ => ?_
      subst hr
      refine wpAny_mono h6 (fun _ s7 ⟨v, H7, I7, r7, y7, st7, fr7⟩ => ?_) fun _ _ f => f
      have I7' := I7.pinned (fpC fr7) (T.obj _ _ st7)
      obtain ⟨p, a, b, rfl, hq, hw⟩ := step v H7 y7
      have PGt : PG (cxD X scope x z s3 (upd H2 s2.heap.objs.size (.lst [])) fp) (.Tuple [.Name x px, .Name z pz] kk tp) (gTup X.K 2 (gCons (gName 0) (gCons (gName 1) gNil))) :=
        pg_tup (X := (cxD X scope x z s3 (upd H2 s2.heap.objs.size (.lst [])) fp)) hc (pgs_cons (pg_name (i := 0) B.nd rfl (.inl (lookup_relabel_local B.own)) (.inr (lookup_relabel_local B.own))) (pgs_cons (pg_name (i := 1) B.nd rfl (.inl (lookup_relabel_local B.own2)) (.inr (lookup_relabel_local B.own2))) pgs_nil))
      refine wpAny_mono (PGt _ s7 _ H7 (.ref p) u (fun σ2 H2' => σ2 = slotsD (some a) (some b) ∧ H2' = H7) I7' r7 ⟨p, [a, b], rfl, hq, rfl, a, [b], rfl, b, [], rfl, rfl, rfl, rfl⟩) (fun _ s8 ⟨σ8, H8, I8', e1, e2⟩ => ?_) fun _ _ f => f.elim
      subst e1 e2
      have again : ∀ {H' : Hp} {s' : Shared} {m' : Nat}, Inv (cxD X scope x z s3 (upd H2 s2.heap.objs.size (.lst [])) fp) ([] ++ pinsAt fp s7.heap) (slotsD (some a) (some b)) H' s' → m' < n → W (i + 1) m' H' →
          ∃ m, m < n ∧ ∃ i H', Inv (cxD X scope x z s3 (upd H2 s2.heap.objs.size (.lst [])) fp) [] (slotsD none none) H' s' ∧ tn i s'.heap ∧ (∀ b ∈ fp, H' b = none) ∧ W i m H' := fun {H' s' m'} J' hm w' => by
        refine ⟨m', hm, i + 1, H', hkeep J'.unpinned, T.keep _ _ _ st7 fun b hb o e => (J'.pin (b, o) (List.mem_append_right _ (List.mem_append_right _ (mem_pinsAt hb e)))).1, fun b hb => ?_, w'⟩
        obtain ⟨o, e, d⟩ := T.obj _ _ st7 b hb
        exact (J'.pin (b, o) (List.mem_append_right _ (List.mem_append_right _ (mem_pinsAt hb e)))).2.1
      refine wpAny_mono (ht s3 _ fp _ s8 _ _ _ I8' hw) (fun b s9 ⟨H9, I9, q9⟩ => ?_) fun _ _ f => f.elim
      cases b with
      | false =>
        obtain ⟨m', hm, w'⟩ := q9
        exact again I9 hm w'
      | true =>
        refine wpAny_mono (he s3 _ fp _ s9 _ H9 _ I9 q9) (fun y s10 ⟨yv, H10, I10, r10, ys, hD, hz, m', hm, w'⟩ => ?_) fun _ _ f => f.elim
        refine wpAny_mono (mt_append (X := cxD X scope x z s3 (upd H2 s2.heap.objs.size (.lst [])) fp) _ s10 _ H10 (.ref s2.heap.objs.size) [yv] (.ref s2.heap.objs.size) [y] (fun _ H' => H' = upd H10 s2.heap.objs.size (.lst (ys ++ [yv]))) I10 rfl (.cons r10 .nil) ⟨_, ys, yv, rfl, rfl, hD, hz, rfl⟩)
          (fun _ s11 ⟨_, H11, I11, _, e11⟩ => ?_) fun _ _ f => f.elim
        subst e11
        exact again I11 hm w'
  have start : codeAny (model X.prog X.w) X.A (.compStart (.ListComp elt [⟨.Tuple [.Name x px, .Name z pz] kk tp, iter, ifs, 0⟩] scope pos) 0 (.ref it) (.ref s2.heap.objs.size) (cxD X scope x z s3 (upd H2 s2.heap.objs.size (.lst [])) fp).env)
      (compPost (model X.prog X.w) X.A X.xe use Q0 (.ref s2.heap.objs.size) s3.heap.objs.size) { s3 with heap := h1, toks := s3.toks + ([] : List (Str × Value)).length } :=
    codeAny_compStart_list loop (T.self _ 0 _ _ _ st4 loop)
  exact start
theorem pe_compD (hc : X.calm = true) (B : BlkD X scope x z) (hi : PI X (.Tuple [.Name x px, .Name z pz] kk tp) iter wi) (ht : ∀ s H fp, PTs (cxD X scope x z s H fp) ifs tt) (he : ∀ s H fp, PE (cxD X scope x z s H fp) elt te)
    (hs : ∀ v, foldedSetIterable iter X.env v = pure v := by intro _; rfl) : PE X (.ListComp elt [⟨.Tuple [.Name x px, .Name z pz] kk tp, iter, ifs, 0⟩] scope pos) (tCompD X.K wi tt te) := by
  intro pins s σ H Q I h
  rw [eval_ListComp]
  refine comp_anyD hc B hi ht he hs I h fun s3 s6 H3 H6 fp D I3 f3 I6 q => ?_
  obtain ⟨m6, hn6, _⟩ := I6.loc
  exact ⟨m6, hn6, fun h' hs' => ⟨.ref D, H6, I3.unblockD f3 I6 hs', rfl, q⟩⟩
end

section
variable {X : Cx} {es : List Expr} {k : Nat} {tpos : Pos}
def iEnum (ta : TA) : TI := fun σ H R => ta σ H fun vs H1 => ∃ l, vs = [.str (tx l)] ∧ R (Ite l) H1
theorem pi_enum {a : Expr} {ta : TA} {p pos : Pos} (hg : Gl X "enumerate") (hm : X.mg "enumerate" = none) (ha : PA X [a] ta) (hs : starEach [a] X.env = [(false, eval a X.env)] := by rfl) : PI X (.Tuple es k tpos) (.Call (.Name "enumerate" p) [a] [] pos) (iEnum ta) := by
  intro pins s σ H R I h
  refine Call_ (ld_blt I hg hm boot_enumerate (PyProof.Rows.callWith_type1 (thn (ha pos pins s σ H _ I h) fun us s1 ⟨vs, H1, I1, r1, q1⟩ => ?_) hs rfl))
  obtain ⟨l, e, q⟩ := q1
  subst e
  cases r1 with
  | cons r rr =>
    cases rr
    obtain ⟨t, rfl⟩ := r
    refine call_enumerate_str fun h' z1 z2 z3 z4 => ?_
    refine wpAny_pyIter_enum z1 ?_
    have hty : strIterType (tx l) = "str_ascii_iterator" ∨ strIterType (tx l) = "str_iterator" := by unfold strIterType; split <;> simp
    have I2 : Inv X pins σ H1 { s1 with heap := h' } := I1.kept (t' := s1.toks) z4
    refine ⟨_, _, _, _, H1, rfl, I2, turn_enum (l := l) (t := t) (s1.heap.objs.size + 1) s1.heap.objs.size (Nat.succ_ne_self _) hty, ⟨⟨_, z1⟩, z2⟩, fun b hb => ?_, q⟩
    have hge : s1.heap.objs.size ≤ b := by
      simp only [List.mem_cons, List.not_mem_nil, or_false] at hb
      rcases hb with e | e <;> rw [e]
      · exact Nat.le_add_right _ _
      · exact Nat.le_refl _
    exact I1.fpOk hge (I1.hok.fresh hge)
end
/-- over a text's signs and their places -/
theorem comp_enum {K : PySem.W.Frag} {l : List Nat} {f : Nat → V} {p : Nat → Bool} {tt : TT} {te : TE} {H1 : Hp} {Q : VK} (hz : l.length ≤ sizeLine)
    (htest : ∀ (i c : Nat) H' (R : Bool → Hp → Prop), l[i]? = some c → Same H1 H' → (∀ H'', Same H' H'' → R (p i) H'') → tt (slotsD (some (.int (i : Int))) (some (.str (tx [c])))) H' R)
    (helt : ∀ (i c : Nat) H' (R : VK), l[i]? = some c → p i = true → Same H1 H' → (∀ H'', Same H' H'' → R (f i) H'') → te (slotsD (some (.int (i : Int))) (some (.str (tx [c])))) H' R)
    (q : ∀ D H', H1 D = none → Same H1 H' → H' D = some (.lst (resC l.length p f)) → Q (.ref D) H') :
    CompOkD K (Ite l) tt te H1 Q := by
  intro D hD
  refine ⟨fun i m H' => m = l.length - i ∧ i ≤ l.length ∧ Same H1 H' ∧ H' D = some (.lst (resC i p f)), ⟨l.length, by omega, Nat.zero_le _, same_new hD _, upd_same⟩, ?_⟩
  rintro i m H2 ⟨rfl, hi, hs, hl⟩
  by_cases hlt : i < l.length
  · refine .inr ⟨hlt, fun v H3 y => ?_⟩
    obtain ⟨a, c, rfl, ha, hc, rfl⟩ := y
    have hs3 : Same H2 (upd H2 a (.tup [.int (i : Int), .str (tx [c])])) := same_new ha _
    refine ⟨a, _, _, rfl, SqT.of upd_same, htest i c _ _ hc (hs.trans hs3) fun H4 h4 => ?_⟩
    cases hp : p i with
    | false =>
      refine iteF ⟨l.length - (i + 1), by omega, rfl, hlt, (hs.trans hs3).trans h4, ?_⟩
      rw [resC_succ, hp, h4 _ _ (hs3 _ _ hl), if_neg Bool.false_ne_true, List.append_nil]
    | true =>
      refine iteT (helt i c _ _ hc hp ((hs.trans hs3).trans h4) fun H5 h5 => ⟨resC i p f, h5 _ _ (h4 _ _ (hs3 _ _ hl)), ?_, l.length - (i + 1), by omega, rfl, hlt, same_upd (((hs.trans hs3).trans h4).trans h5) hD _, ?_⟩)
      · have := resC_len i p f; omega
      · rw [upd_same, resC_succ, hp, if_pos rfl]
  · have e : i = l.length := by omega
    subst e
    exact .inl ⟨rfl, q D H2 hD hs hl⟩
end L2
set_option Elab.async false
set_option linter.all false
/-! tokens only rise -/
namespace L2
open PySem
theorem runs_tk {M : Model} {Γ : Ctx} {p : Pos} {t : Sem Fin} {fs : List Frame} {s : Shared} {e : End} {s' : Shared} (h : Runs M Γ p t fs s e s') : s.toks ≤ s'.toks := by
  induction h <;> first
    | exact Nat.le_refl _
    | assumption
    | (rename_i ih; exact ih)
    | (rename_i ih; exact Nat.le_trans (Nat.le_succ _) ih)
    | (rename_i ih1 ih2; exact Nat.le_trans ih1 ih2)
    | (rename_i ih1 _ ih2; exact Nat.le_trans ih1 ih2)
    | skip
theorem wakes_tk {M : Model} {Γ : Ctx} {p : Pos} {g : Nat} {r : Resume} {s : Shared} {res : GenResult} {s' : Shared} (h : Wakes M Γ p g r s res s') : s.toks ≤ s'.toks := by
  unfold Wakes at h
  split at h
  · exact h.elim
  · split at h
    · obtain ⟨e1, s1, hr, _, _, rfl⟩ := h
      have := runs_tk hr
      exact this
    · obtain ⟨_, rfl⟩ := h
      exact Nat.le_refl _
    · obtain ⟨_, rfl⟩ := h
      exact Nat.le_refl _
  · obtain ⟨e1, s1, hr, _, _, rfl⟩ := h
    have := runs_tk hr
    exact this
  all_goals first | (obtain ⟨_, rfl⟩ := h; exact Nat.le_refl _) | skip
theorem wp_tk {α : Type} {M : Model} {Γ : Ctx} (n : Nat) (t : Sem α) : ∀ {Q : α → Pos → Shared → Prop} {E : Value → Pos → Shared → Prop} {p : Pos} {s : Shared}, n ≤ s.toks → Sem.wp M Γ t Q E p s → Sem.wp M Γ t (fun a p' s' => Q a p' s' ∧ n ≤ s'.toks) (fun e p' s' => E e p' s' ∧ n ≤ s'.toks) p s := by
  induction t with
  | pure a => exact fun hn h => ⟨h, hn⟩
  | raise e => exact fun hn h => ⟨h, hn⟩
  | unsupported _ => exact fun _ h => h
  | finish _ => exact fun _ h => h
  | rule _ k ih => exact fun hn h => ih () hn h
  | «at» _ k ih => exact fun hn h => ih () hn h
  | load _ _ k ih => exact fun hn ⟨o, e, h⟩ => ⟨o, e, ih o hn h⟩
  | update _ _ _ k ih => exact fun hn ⟨e, h⟩ => ⟨e, ih () hn h⟩
  | alloc _ k ih => exact fun hn h => ih _ hn h
  | loadIfAlive _ k ih => exact fun hn h => ih _ hn h
  | point _ k ih => exact fun hn h => ih () hn h
  | register _ _ _ => exact fun _ h => h
  | fresh k ih => exact fun hn h => ih _ (Nat.le_succ_of_le hn) h
  | ask k ih => exact fun hn h => ih _ hn h
  | choose _ _ k ih => exact fun hn ⟨e, h⟩ => ⟨e, ih _ hn h⟩
  | os _ _ k ih => exact fun hn h => ih _ hn h
  | call c hd _ _ k ih => exact fun hn ⟨r, s1, hr, h⟩ => ⟨r, s1, hr, ih r (Nat.le_trans hn (runs_tk hr)) h⟩
  | handled _ k ih => exact fun hn h => ih _ hn h
  | newGen _ k ih => exact fun hn h => ih _ hn h
  | genState _ k ih => exact fun hn ⟨st, e, h⟩ => ⟨st, e, ih _ hn h⟩
  | resume _ _ _ k ih => exact fun hn ⟨r, s1, hw, h⟩ => ⟨r, s1, hw, ih r (Nat.le_trans hn (wakes_tk hw)) h⟩
  | yield _ _ _ _ _ => exact fun _ h => h
  | stack k ih => exact fun hn h => ih _ hn h
  | fork _ _ _ => exact fun _ h => h
  | thread k ih => exact fun hn h => ih _ hn h
  | await _ _ _ _ _ _ => exact fun _ h => h
/-- what was once reached by the tokens stays reached -/
theorem wpAny_tk {α : Type} {M : Model} {A : Around} {t : Sem α} {Q : α → Shared → Prop} {E : Value → Shared → Prop} {s : Shared} {n : Nat} (hn : n ≤ s.toks) (h : wpAny M A t Q E s) : wpAny M A t (fun a s' => Q a s' ∧ n ≤ s'.toks) (fun e s' => E e s' ∧ n ≤ s'.toks) s :=
  fun Γ p hG => wp_tk n t hn (h Γ p hG)
end L2
set_option Elab.async false
set_option linter.all false
set_option maxRecDepth 100000
set_option maxHeartbeats 4000000
/-! a def of one parameter: its body begins behind a token; text.replace(c, "") with written texts; text.find(sub, start) -/
namespace L2
open PySem PySem.Spec PyProof.Rows
def PEk (X : Cx) (e : Expr) (t : TE) : Prop :=
  ∀ (pins : List (Addr × Obj)) (s : Shared) (σ : St) (H : Hp) (Q : VK), 1 ≤ s.toks → Inv X pins σ H s → t σ H Q → wpAny (model X.prog X.w) X.A (eval e X.env) (EP X pins σ Q) X.xe s
def PTk (X : Cx) (e : Expr) (t : TT) : Prop :=
  ∀ (pins : List (Addr × Obj)) (s : Shared) (σ : St) (H : Hp) (Q : Bool → Hp → Prop), 1 ≤ s.toks → Inv X pins σ H s → t σ H Q → wpAny (model X.prog X.w) X.A (isTrue e X.env (eval e X.env)) (TP X pins σ Q) X.xe s
def PSk (X : Cx) (st : Stmt) (t : TS) : Prop :=
  ∀ (pins : List (Addr × Obj)) (s : Shared) (σ : St) (H : Hp) (D : Ends), 1 ≤ s.toks → Inv X pins σ H s → t D σ H → wpAny (model X.prog X.w) X.A (exec st X.env) (SP X pins D) X.xe s
def PSsk (X : Cx) (st : List Stmt) (t : TS) : Prop :=
  ∀ (pins : List (Addr × Obj)) (s : Shared) (σ : St) (H : Hp) (D : Ends), 1 ≤ s.toks → Inv X pins σ H s → t D σ H → wpAny (model X.prog X.w) X.A (execs st X.env) (SP X pins D) X.xe s
section
variable {X : Cx} {st : Stmt} {rest : List Stmt} {t u : TS} {e a b o : Expr} {te ta tb to : TE} {pos apos cpos : Pos}
theorem PE.k (h : PE X e te) : PEk X e te := fun pins s σ H Q _ I q => h pins s σ H Q I q
theorem PSsk.nox {sts : List Stmt} (h : PSsk X.nox sts t) : PSsk X sts t := fun pins s σ H D hk I hw =>
  wpAny_mono (h pins s σ H D hk (I.wish _) hw) (fun _ _ q => q.unwish) fun _ _ z => False.elim z
theorem pssk_cons (h1 : PSk X st t) (h2 : PSs X rest u) : PSsk X (st :: rest) (tSeq t u) := by
  intro pins s σ H D hk I h
  refine wpAny_execs_cons (thn (h1 pins s σ H { D with nx := u D } hk I h) fun f s1 q => ?_)
  cases f with
  | next =>
    obtain ⟨σ', H', I', q⟩ := q
    exact h2 pins s1 σ' H' D I' q
  | ret v => exact q
  | brk => exact q
  | cont => exact q
theorem psk_if {c : Expr} {as bs : List Stmt} {tc : TT} (hc : PTk X c tc) (ha : PSs X as t) (hb : PSs X bs u) : PSk X (.If c as bs pos) (tIfS tc t u) := by
  intro pins s σ H D hk I h
  refine wpAny_If (thn (hc pins s σ H _ hk I h) fun d s1 ⟨H1, I1, q1⟩ => ?_)
  cases d with
  | true => exact ha pins s1 σ H1 D I1 q1
  | false => exact hb pins s1 σ H1 D I1 q1
theorem ptk_cmpR {op : CmpOp} {r : R2} (ho : OpR X (compareOp op) r) (ha : PEk X a ta) (hb : PE X b tb) (hm : behindInMarks op b = false) : PTk X (.Compare a [op] [b] pos) (tTest (tOp r ta tb)) := by
  intro pins s σ H Q hk I h
  refine wpAny_isTrue_Compare1 (thn (ha pins s σ H _ hk I h) fun v s1 ⟨x, H1, I1, r1, q1⟩ => thn (hb pins s1 σ H1 _ I1 q1) fun u s2 ⟨y, H2, I2, r2, q2⟩ =>
    thn (ho pins s2 σ H2 x y v u _ I2 r1 r2 q2) fun c s3 ⟨z, H3, I3, r3, k, e, q3⟩ => ?_) hm
  subst e
  cases r3
  exact wpAny_truthy_bool ⟨H3, I3, q3⟩
def tRepl (to : TE) (y z : Str) : TE := fun σ H Q => to σ H fun x H1 => ∃ x0, x = .str x0 ∧ x0.length ≤ 1048576 ∧ Q (.str (Txt.replace x0 y z)) H1
theorem pek_replace {y z : Str} {ky kz : Nat} {py pz : Pos} (ho : PEk X o to) (hyz : (y == z) = false) (hz : z.length ≤ 14)
    (hbase : attributeBase o "replace" X.env (eval o X.env) = eval o X.env := by rfl)
    (hfew : ((backTo cpos (starEach [.Constant (.str y) ky py, .Constant (.str z) kz pz] X.env)).all (fun x => !x.1) && (backToKw cpos (keywordEach [] X.env)).all (fun x => x.1.isSome)
      && decide (([.Constant (.str y) ky py, .Constant (.str z) kz pz] : List Expr).length + ([] : List Keyword).length + (if ([] : List Keyword).isEmpty then 0 else 1) < 30)) = true := by rfl)
    (hline : (apos.endLine == cpos.line) = true := by rfl) :
    PEk X (.Call (.Attribute o "replace" apos) [.Constant (.str y) ky py, .Constant (.str z) kz pz] [] cpos) (tRepl to y z) := by
  intro pins s σ H Q hk I h
  refine wpAny_Call_method_late hbase hfew hline rfl (wpAny_mono (wpAny_tk hk (ho pins s σ H _ hk I h)) (fun v s1 ⟨⟨x, H1, I1, r1, x0, ex, hx, q1⟩, hk1⟩ => ?_) fun _ _ w => w.1)
  subst ex
  obtain ⟨h1, h2⟩ := tyV_is (T := "str") I1 r1 rfl
  refine ⟨"str", "str.replace", PySem.F.plainAttrs_str, PySem.F.slot_str_replace, PySem.F.type_str_replace, h1, h2, ?_⟩
  obtain ⟨t0, rfl⟩ := r1
  refine Calls.callWith_builtin rfl (Calls.evalArgs_plain ?_)
  show wpAny _ _ (spliced [(false, eval (.Constant (.str y) ky py) X.env), (false, eval (.Constant (.str z) kz pz) X.env)]) _ _ s1
  refine Calls.spliced_cons (Calls.Constant_str (Calls.spliced_cons (Calls.Constant_str (Calls.spliced_nil ?_))))
  refine SC.replaceW (s := { s1 with toks := s1.toks + 1 + 1 }) (by show @Ne Nat s1.toks 0; omega) (by show @Ne Nat (s1.toks + 1) 0; omega) (by show @Ne Nat s1.toks (s1.toks + 1); omega) hyz hx hz fun t' k => ⟨.str _, H1, (I1.tok _), ⟨_, rfl⟩, q1⟩
end
/-- a def of one parameter, no cell -/
theorem no_cells : ∀ (names : List (Str × NameKind)) (n : Nat) (acc : List (Str × Addr)), (∀ y ∈ names, y.2 ≠ .cell) → cellsFrom n names acc = acc
  | [], _, _, _ => rfl
  | (x, k) :: r, n, acc, h => by
    have hk : (k == NameKind.cell) = false := by
      have := h (x, k) List.mem_cons_self
      cases k <;> first | rfl | exact absurd rfl this
    unfold cellsFrom
    rw [hk, if_neg Bool.false_ne_true]
    exact no_cells r n acc fun y hy => h y (List.mem_cons_of_mem _ hy)
theorem fn_of1 {CX : CXT} {P : Program} {w : World} {K : PySem.W.Frag} {mg : Str → Option Value} {base : Heap} {k : Nat} {f : Addr} {name qual px : Str} {params : Arguments} {body : List Stmt} {scope : Scope} {dV kV doc pm cdv ct oc : Value} {an od : Option Addr}
    {osl : Array (Option Value)} {N : List Str} {sp : Sp} (lk : K.lookup f = some ⟨oc, od, .func (PySem.W.fnOf name qual params body scope dV kV doc pm an cdv ct), osl⟩) (hcd : PySem.W.codeIn K cdv qual = true) (S : FnScope N [px] scope)
    (hnc : ∀ y ∈ scope.names, y.2 ≠ .cell) (hloc : scope.names.lookup px = some .local) (len : ∀ vs H Q E, sp vs H Q E → vs.length = [px].length)
    (hbody : ∀ (A : Around) (outer : List Env) (s : Shared) (H : Hp) (vs : List V) (Q : VK) (E : XK), Room k (A.deeper (envOfC qual scope s.heap.objs.size f cdv)) → sp vs H Q E →
      ∃ t, PSsk (cxOf CX P w K mg base N qual scope f cdv A outer s H E) body t ∧ t { nx := fun _ H' => Q .non H', rt := Q } (start N vs) H) :
    FnOk P w K mg base CX (k + 1) f (PySem.W.fnOf name qual params body scope dV kV doc pm an cdv ct) [px] sp := by
  refine ⟨len, fun A outer s H args us vs Q E hr e0 hb r hsp => ?_⟩
  have hl := len _ _ _ _ hsp
  have KX : K.In s.heap := e0.mod.kin.keeps fun b o e => (e0.bs b o e).1
  have lim : s.heap.NoLimit := e0.mod.nolimit.keeps fun b o e => (e0.bs b o e).1
  have hul : us.length = 1 := by rw [← r.length]; exact hl
  obtain ⟨u, rfl⟩ : ∃ u, us = [u] := List.length_eq_one_iff.mp hul
  have hcs := no_cells scope.names (s.heap.objs.size + 1) [] hnc
  refine codeAny_call_function hr.depth (KX _ _ lk) rfl S.co S.gen rfl (PySem.W.codeRec_of KX hcd) (hb _ _ _ _ ?_)
  refine wpAny_newFunctionEnv (scope := scope) (closure := []) (binds := [px].zip [u]) (around := none) hnc (fun y hy => ?_) (fun h' hn hsb => ?_) S.kind
  · have : y = (px, u) := by simpa using hy
    rw [this]
    exact hloc
  have kk : ∀ b o, s.heap.get? b = some o → h'.get? b = some o := fun b o e => hsb.extBut b o (Nat.ne_of_lt (Heap.lt_size e)) (Heap.get?_push_of_some _ e)
  have hkl : (envOfC qual scope s.heap.objs.size f cdv).kindOf px = some .local := hloc
  have hbl : bindL (envOfC qual scope s.heap.objs.size f cdv).kindOf ([px].zip [u]) (fun _ => none) = fun x => ([px].zip [u]).reverse.lookup x := by
    funext y
    show (if (envOfC qual scope s.heap.objs.size f cdv).kindOf px = some .local then fun z => if z = px then some u else none else fun _ => none) y = [(px, u)].lookup y
    rw [if_pos hkl]
    by_cases e : y = px
    · subst e
      simp
    · have : (y == px) = false := by simpa using e
      simp [List.lookup, this, e]
  have x : InCallC s s.heap.objs.size (bindL (envOfC qual scope s.heap.objs.size f cdv).kindOf ([px].zip [u]) fun _ => none) (cellsFrom (s.heap.objs.size + 1) scope.names []) (bindC (envOfC qual scope s.heap.objs.size f cdv).kindOf ([px].zip [u]) fun _ => none) { s with heap := h', toks := s.toks + ([px].zip [u]).length } := by
    rw [hbl, hcs]
    exact ⟨⟨⟨_, _, rfl⟩, hn, kk, Nat.le_refl _⟩, (fun n c q => nomatch q), List.Pairwise.nil, (fun n c q => nomatch q)⟩
  have henv : newEnv scope s.heap.objs.size mainGlobals [] (qual ++ ".<locals>.") (some f) cdv none builtinsNs = envOfC qual scope s.heap.objs.size f cdv := by
    unfold envOfC newEnv
    rw [hcs]
  refine ⟨lim.keeps kk, ?_⟩
  obtain ⟨t, ht, hq⟩ := hbody A outer s H vs Q E (hr.deeper _) hsp
  have I : Inv (cxOf CX P w K mg base N qual scope f cdv A outer s H E) [] (start N vs) H { s with heap := h', toks := s.toks + ([px].zip [u]).length } := inv_start S hr.hd e0 hl r x
  show codeAny _ _ (.func body (newEnv scope s.heap.objs.size mainGlobals [] (qual ++ ".<locals>.") (some f) cdv none builtinsNs)) _ _
  rw [henv]
  refine codeAny_func (wpAny_mono (ht [] _ (start N vs) H _ (by show 1 ≤ s.toks + 1; omega) I hq) (fun fl s' hs => ?_) fun e s' hs => hs)
  have fin : ∀ {σ' : St} {H' : Hp} {v : V} {u : Value}, Inv (cxOf CX P w K mg base N qual scope f cdv A outer s H E) [] σ' H' s' → RelV v u → Q v H' → CE outer P w H s Q u s' :=
    fun {σ' H' v u} J rv q => ⟨v, H', J.os, J.bare, J.base, J.hok, rv, q⟩
  cases fl with
  | ret u =>
    obtain ⟨v, σ', H', J, rv, q⟩ := hs
    exact fin J rv q
  | next =>
    obtain ⟨σ', H', J, q⟩ := hs
    exact fin (v := V.non) (u := Value.none) J rfl q
  | brk =>
    obtain ⟨_, _, _, q⟩ := hs
    exact False.elim q
  | cont =>
    obtain ⟨_, _, _, q⟩ := hs
    exact False.elim q
theorem Fun.ok1 {P : Program} {w : World} {K : PySem.W.Frag} {mg : Str → Option Value} {base : Heap} {x qual px : Str} {st : Stmt} {f : Addr} {fd : FuncData} {N : List Str} {k : Nat} {sp : Sp} (F : Fun K x qual st f fd) (S : FnScope N [px] (defScope st)) (hnc : ∀ y ∈ (defScope st).names, y.2 ≠ .cell) (hloc : (defScope st).names.lookup px = some .local) (len : ∀ vs H Q E, sp vs H Q E → vs.length = [px].length)
    (hbody : ∀ (cdv : Value) (A : Around) (outer : List Env) (s : Shared) (H : Hp) (vs : List V) (Q : VK) (E : XK), Room k (A.deeper (envOfC qual (defScope st) s.heap.objs.size f cdv)) → sp vs H Q E →
      ∃ t, PSsk (cxOf CX0 P w K mg base N qual (defScope st) f cdv A outer s H E).nox (defBody st) t ∧ t { nx := fun _ H' => Q .non H', rt := Q } (start N vs) H) : FnOk P w K mg base CX0 (k + 1) f fd [px] sp := by
  obtain ⟨oc, od, kV, doc, pm, an, cdv, ct, osl, rfl, lk, hcd⟩ := F.ex
  refine fn_of1 lk hcd S hnc hloc len fun A outer s H vs Q E hr hsp => ?_
  obtain ⟨t, h, q⟩ := hbody cdv A outer s H vs Q E hr hsp
  exact ⟨t, h.nox, q⟩
/-! ### what replace(c, "") leaves -/
theorem join_none : ∀ parts : List Str, (PySem.Str.join (tx []) parts).cps.toList = (parts.map fun p => p.cps.toList).flatten
  | [] => rfl
  | [p] => by simp [PySem.Str.join]
  | p :: q :: r => by
    have ih := join_none (q :: r)
    show (p ++ tx [] ++ PySem.Str.join (tx []) (q :: r)).cps.toList = _
    simp only [PySem.Str.cps_append, Array.toList_append]
    rw [ih]
    simp [tx]
theorem join_filter (c : Nat) : ∀ parts : List Str, (∀ p ∈ parts, c ∉ p.cps.toList) → (PySem.Str.join ⟨#[c]⟩ parts).cps.toList.filter (· != c) = (parts.map fun p => p.cps.toList).flatten
  | [], _ => rfl
  | [p], h => by
    have hp := h p List.mem_cons_self
    simp only [PySem.Str.join, List.map_cons, List.map_nil, List.flatten_cons, List.flatten_nil, List.append_nil]
    rw [List.filter_eq_self]
    intro a ha
    simp only [bne_iff_ne, ne_eq]
    exact fun e => hp (e ▸ ha)
  | p :: q :: r, h => by
    have ih := join_filter c (q :: r) fun a ha => h a (List.mem_cons_of_mem _ ha)
    have hp := h p List.mem_cons_self
    have hf : p.cps.toList.filter (· != c) = p.cps.toList := by
      rw [List.filter_eq_self]
      intro a ha
      simp only [bne_iff_ne, ne_eq]
      exact fun e => hp (e ▸ ha)
    show (p ++ ⟨#[c]⟩ ++ PySem.Str.join ⟨#[c]⟩ (q :: r)).cps.toList.filter (· != c) = _
    simp only [PySem.Str.cps_append, Array.toList_append, List.filter_append]
    rw [ih, hf]
    simp
theorem replace_none (l : List Nat) (c : Nat) : Txt.replace (tx l) (tx [c]) (tx []) = tx (l.filter (· != c)) := by
  have e : tx [c] = ⟨#[c]⟩ := rfl
  rw [e, StrLaws.replace_one]
  have h := join_none (Txt.split (tx l) ⟨#[c]⟩)
  have h2 := join_filter c (Txt.split (tx l) ⟨#[c]⟩) (StrLaws.split_free (tx l) c)
  rw [StrLaws.join_split, tx_cps] at h2
  rw [← h2] at h
  rw [← h, tx_of]
/-! ### text.find(sub, start) -/
section
variable {X : Cx}
def rFind3 : V → List V → Hp → VK → Prop := fun x vs H Q => ∃ z y i, x = .str z ∧ vs = [.str y, .int i] ∧ Q (.int (Txt.find3 z y i)) H
theorem mt_find3 : MtM X "str.find" rFind3 := by
  intro pins s σ H x vs v us Q I rx rv h
  obtain ⟨z, y, i, rfl, rfl, q⟩ := h
  obtain ⟨t, rfl⟩ := rx
  obtain ⟨u, u', rfl, ru, ru'⟩ := rv.two
  obtain ⟨t', rfl⟩ := ru
  obtain ⟨t'', rfl⟩ := ru'
  exact SC.find3 ⟨.int _, H, I.tok _, ⟨_, rfl⟩, q⟩
end
theorem find3_is (l m : List Nat) (b : Nat) (hb : b ≤ l.length) : (Txt.find3 (tx l) (tx m) (b : Int) = -1 ∧ ∀ i, b ≤ i → i + m.length ≤ l.length → ¬ (l.drop i).take m.length = m) ∨
    ∃ i : Nat, Txt.find3 (tx l) (tx m) (b : Int) = (i : Int) ∧ b ≤ i ∧ i + m.length ≤ l.length ∧ (l.drop i).take m.length = m ∧ ∀ i', b ≤ i' → i' < i → ¬ (l.drop i').take m.length = m := by
  unfold Txt.find3
  have hfi : fromIndex (tx l).length (b : Int) = b := by
    rw [tx_length]
    unfold fromIndex
    omega
  rw [hfi, StrLaws.occ_eq, tx_length]
  rcases occ_first (tx l) (tx m) l.length (l.length + 1 - b) b b (Nat.le_refl _) with ⟨a, z⟩ | ⟨i, a, z, c, d, f⟩
  · refine .inl ⟨by rw [a], fun i h1 hi y => z i h1 (by omega) ((hit_tx l m i).mpr ⟨hi, y⟩)⟩
  · have c' := (hit_tx l m i).mp c
    refine .inr ⟨i, by rw [f], a, c'.1, c'.2, fun i' h1 hi y => d i' h1 hi ((hit_tx l m i').mpr ⟨by omega, y⟩)⟩
end L2
set_option Elab.async false
set_option linter.all false
set_option maxRecDepth 100000
set_option maxHeartbeats 1000000
/-! an own error raised, and caught by the caller -/
namespace L2
open PySem PySem.Spec PyProof.Rows
abbrev veM : List Value := [.type "ValueError", .type "Exception", .type "BaseException", .type "object"]
/-- an own class over ValueError, of the kept part -/
structure OwnV (K : PySem.W.Frag) (mg : Str → Option Value) (x : Str) (C : Addr) : Prop where
  at' : mg x = some (.ref C)
  is' : PySem.W.excIn K C veM "ValueError.__new__" = true
theorem own_obj {K : PySem.W.Frag} {h : Heap} {C : Addr} {mroB : List Value} {nid : String} (KX : K.In h) (q : PySem.W.excIn K C mroB nid = true) :
    ∃ bm N nm q bs hdct sn sub ab col dd k0 k1 k2 k3 k5 mN, h.get? C = some (excClassObj nm q C N bs bm hdct sn sub ab col dd k0 k1 k2 k3 k5 nid) ∧ h.Ns N mN ∧ mN "__init__" = none ∧ OwnTail h mroB bm := by
  unfold PySem.W.excIn at q
  split at q
  case h_2 => cases q
  case h_1 dd0 cd0 sl0 hobj =>
    split at q
    case h_2 => cases q
    case h_1 C1 bm1 j0 j1 j2 j3 n1 j5 hmro hsl =>
      rw [Bool.and_eq_true, Bool.and_eq_true, Bool.and_eq_true, Bool.and_eq_true, Bool.and_eq_true, beq_iff_eq, beq_iff_eq, beq_iff_eq, Bool.not_eq_true'] at q
      obtain ⟨⟨⟨⟨⟨eC, en⟩, edel⟩, etail⟩, eok⟩, eni⟩ := q
      subst eC en
      obtain ⟨c1, c2, c3, c4, c5, c6, c7, c8, c9, c10, c11⟩ := cd0
      dsimp only at hmro edel eok eni
      subst hmro edel
      obtain ⟨ll⟩ := sl0
      simp only at hsl
      subst hsl
      exact ⟨bm1, c4, c1, c5, c2, c6, c7, c8, c9, c10, dd0, j0, j1, j2, j3, j5, _, KX _ _ hobj, .of_isNs (PySem.W.isNs_of_in KX eok), PySem.W.nsMap_none_of_in KX eok eni, PySem.W.tail_of_in KX etail⟩
theorem ho_there {P : Program} {w : World} {H : Hp} {h : Heap} {a : Addr} {o : HO} (x : ObjOk P w H h a o) : ∃ u, h.get? a = some u := by
  cases o with
  | lst xs => obtain ⟨_, _, _, _, y⟩ := x; exact ⟨_, y⟩
  | tup xs => obtain ⟨_, _, _, _, y, _⟩ := x; exact ⟨_, y⟩
  | dK kvs => obtain ⟨_, _, _, _, _, _, _, y, _⟩ := x; exact ⟨_, y⟩
  | dT kvs => obtain ⟨_, _, _, _, _, _, _, y, _⟩ := x; exact ⟨_, y⟩
  | set S n => obtain ⟨_, _, _, _, y, _⟩ := x; exact ⟨_, y⟩
  | ins C dx fs => obtain ⟨_, _, _, y, _⟩ := x; exact ⟨_, y⟩
  | own z => exact x
  | xd fs => obtain ⟨_, ⟨_, _, _, y, _⟩, _⟩ := x; exact ⟨_, y⟩
  | rng lo hi => obtain ⟨_, _, _, y⟩ := x; exact ⟨_, y⟩
  | frz ob u => obtain ⟨y, _⟩ := x; exact ⟨_, y⟩
  | tbl ps => exact ⟨_, x⟩
  | met f z => exact ⟨_, x⟩
  | ext φ => obtain ⟨_, y, _⟩ := x; exact y
/-- an error of the class at C has left a def: what was there ahead of the call (s, H) and what is there now (s', H') -/
structure Flown (P : Program) (w : World) (C : Addr) (outer : List Env) (H H' : Hp) (s s' : Shared) (x : Addr) : Prop where
  os : s'.os = s.os
  bare : AllBare s'.gens
  same : Same H H'
  free : ∀ b o, s.heap.get? b = some o → H b = none → H' b = none
  hok : HOk P w H' s'.heap
  fr : ∀ b o, s.heap.get? b = some o → b ∈ frs outer → (∀ vs, o.data ≠ .fields vs) → ∃ sl, s'.heap.get? b = some { o with slots := sl }
  fly : ∃ (B : Heap) (t : Addr), (∀ b o, s.heap.get? b = some o → H b = none → b ∉ frs outer → B.get? b = some o) ∧ (∀ b u o, H' b = some u → s'.heap.get? b = some o → B.get? b = some o) ∧ Heap.FlyingW B outer x (.ref C) (.ref t) s'.heap
def CXB (C : Addr) (P : Program) (w : World) : CXT := fun outer H s E e s' => ∃ x H', e = .ref x ∧ Flown P w C outer H H' s s' x ∧ E (.ref C) none H'
section
variable {X : Cx} {pins : List (Addr × Obj)} {σ : St} {H H' : Hp} {s s' : Shared} {C x : Addr}
theorem frs_cons {env : Env} {outer : List Env} {L : Addr} (hf : env.frame = some L) : frs (env :: outer) = L :: frs outer := by
  unfold frs
  rw [List.filterMap_cons, hf]
/-- where the error came from: the state behind it, on this side -/
theorem fly_inv (I : Inv X pins σ H s) (hst : X.stack = X.env :: X.outer) (hf : X.env.frame = some X.env.locals) (F : Flown X.prog X.w C X.stack H H' s s' x) {B h6 : Heap}
    (b1 : ∀ b o, s.heap.get? b = some o → H b = none → b ∉ frs X.stack → B.get? b = some o) (b2 : ∀ b u o, H' b = some u → s'.heap.get? b = some o → B.get? b = some o) (st : B.StaysIn h6) (sm : s'.heap.UpToSlots h6) : Inv X pins σ H' { s' with heap := h6 } := by
  have hfs : frs X.stack = X.env.locals :: X.fs := by rw [hst]; exact frs_cons hf
  have sub : ∀ b, b ∈ X.fs → b ∈ frs X.stack := fun b hb => by rw [hfs]; exact List.mem_cons_of_mem _ hb
  have up : ∀ b o, s.heap.get? b = some o → b ∈ frs X.stack → ∃ sl, h6.get? b = some { o with slots := sl } := fun b o ho hb => by
    obtain ⟨_, o1, ho1, nf⟩ := I.stack.mem hb
    rw [ho] at ho1
    cases ho1
    obtain ⟨sl, h1⟩ := F.fr b o ho hb nf
    exact sm b { o with slots := sl } h1 nf
  have any : ∀ b o, s.heap.get? b = some o → H b = none → ∃ sl, h6.get? b = some { o with slots := sl } := fun b o ho hn => by
    by_cases hb : b ∈ frs X.stack
    · exact up b o ho hb
    · exact ⟨o.slots, st b o (b1 b o ho hn hb)⟩
  have neL : ∀ b o, X.s₀.heap.get? b = some o → b ≠ X.env.locals := fun b o e => Nat.ne_of_lt (Nat.lt_of_lt_of_le (Heap.lt_size e) I.ok.above)
  have cellK : ∀ y c, X.env.cells.lookup y = some c → ∀ v, s.heap.IsCell c v → h6.IsCell c v := fun y c e v ⟨o, ho, hd⟩ => by
    obtain ⟨sl, q⟩ := any c o ho (I.freeC y c e)
    exact ⟨_, q, hd⟩
  refine ⟨I.ok, F.os.trans I.os, F.bare, ⟨fun b o e n hb hx => ?_, fun b o e n hb hx => ?_, fun b o e n hx => ?_, fun b o e hx => ?_, fun b xs e => F.same _ _ (I.base.tups b xs e), fun b o u e => F.same _ _ (I.base.frzs b o u e), fun b ps e => ?_⟩, ?_, fun y c e => ?_, ?_, fun y c e => ?_, fun p hp => ?_, fun b u e => ?_, I.len⟩
  · refine st b o (b1 b o (I.base.keep b o e n hb hx) (I.base.free b o e n hx) ?_)
    rw [hfs]
    intro z
    rcases List.mem_cons.mp z with z | z
    · exact neL b o e z
    · exact hb z
  · obtain ⟨sl, e1⟩ := I.base.slot b o e n hb hx
    obtain ⟨sl', e2⟩ := up b _ e1 (sub b hb)
    exact ⟨sl', e2⟩
  · obtain ⟨o', e1⟩ := I.base.there b o e hx
    exact F.free b o' e1 (I.base.free b o e n hx)
  · obtain ⟨o', e1⟩ := I.base.there b o e hx
    cases hb : H b with
    | none =>
      obtain ⟨sl, e2⟩ := any b o' e1 hb
      exact ⟨_, e2⟩
    | some u =>
      have h1 := F.same b u hb
      obtain ⟨o2, e2⟩ := ho_there (F.hok b u h1)
      exact ⟨o2, st b o2 (b2 b u o2 h1 e2)⟩
  · obtain ⟨m1, e1⟩ := I.base.tbls b ps e
    exact ⟨m1, F.same _ _ e1⟩
  · obtain ⟨m, hn, hl⟩ := I.loc
    obtain ⟨o, es, ep, ho, hd, r⟩ := hn
    obtain ⟨sl, e1⟩ := up X.env.locals o ho (by rw [hfs]; exact List.mem_cons_self)
    refine ⟨m, ⟨_, es, ep, e1, hd, r⟩, fun i y v e1 e2 e3 => ?_⟩
    obtain ⟨u, r, l⟩ := hl i y v e1 e2 e3
    refine ⟨u, r, ?_⟩
    rcases l with l | ⟨k, c, e, z⟩
    · exact .inl l
    · exact .inr ⟨k, c, e, cellK y c e _ z⟩
  · obtain ⟨v, z⟩ := I.cell y c e
    exact ⟨v, cellK y c e v z⟩
  · obtain ⟨m, ⟨o, _, _, ho, _⟩, _⟩ := I.loc
    exact F.free _ o ho I.free
  · obtain ⟨v, o, ho, hd⟩ := I.cell y c e
    exact F.free c o ho (I.freeC y c e)
  · obtain ⟨e, n, ne, nf, d⟩ := I.pin p hp
    have nfs : p.1 ∉ frs X.stack := by
      rw [hfs]
      intro z
      rcases List.mem_cons.mp z with z | z
      · exact ne z
      · exact nf z
    exact ⟨st _ _ (b1 _ _ e n nfs), F.free _ _ e n, ne, nf, d⟩
  · refine (F.hok b u e).stay (fun c v hc q => ?_) (fun _ q => q) fun _ _ q => q
    rcases hc with z | z
    · rw [z] at q ⊢
      exact st _ _ (b2 b u v e q)
    · exact st _ _ (b2 c _ v z q)
/-- within an except suite -/
abbrev Cx.marked (X : Cx) (e : Value) : Cx := { X with A := X.A.mark (some e), calm := false }
theorem Inv.mark (I : Inv X pins σ H s) (e : Value) : Inv (X.marked e) pins σ H s :=
  ⟨⟨I.ok.mod, I.ok.kind, I.ok.glob, I.ok.blt, I.ok.above, I.ok.inj, I.ok.has, I.ok.cab, (fun z => nomatch z), I.ok.frames, I.ok.stk, I.ok.exf, I.ok.bs, I.ok.bsz, I.ok.noex, I.ok.exfs, I.ok.funs, I.ok.frf⟩, I.os, I.bare, I.base, I.loc, I.cell, I.free, I.freeC, I.pin, I.hok, I.len⟩
theorem Inv.unmark {e : Value} (ok : X.Ok) (I : Inv (X.marked e) pins σ H s) : Inv X pins σ H s := ⟨ok, I.os, I.bare, I.base, I.loc, I.cell, I.free, I.freeC, I.pin, I.hok, I.len⟩
theorem SP.unmark {e : Value} {D : Ends} {f : Flow} (ok : X.Ok) (h : SP (X.marked e) pins D f s) : SP X pins D f s := by
  cases f with
  | next => obtain ⟨σ', G, I, q⟩ := h; exact ⟨σ', G, I.unmark ok, q⟩
  | brk => obtain ⟨σ', G, I, q⟩ := h; exact ⟨σ', G, I.unmark ok, q⟩
  | cont => obtain ⟨σ', G, I, q⟩ := h; exact ⟨σ', G, I.unmark ok, q⟩
  | ret u => obtain ⟨v, σ', G, I, r, q⟩ := h; exact ⟨v, σ', G, I.unmark ok, r, q⟩
end
/-! ### raise C("..") -/
section
variable {X : Cx} {C : Addr} {cn : Str} {np cpos pos : Pos} {e₀ : Expr} {t0 : TE}
def sRaise (C : Addr) (H0 : Hp) (E : XK) (te : TE) : TS := fun _ σ H => te σ H fun _ H1 => Same H0 H1 ∧ E (.ref C) none H1
theorem ps_raise (O : OwnV X.K X.mg cn C) (hc : X.calm = true) (hg : Gl X cn) (hst : X.stack = X.env :: X.outer) (hf : X.env.frame = some X.env.locals) (hex : X.ex = []) {E : XK}
    (hxe : ∀ e s', wpAny (model X.prog X.w) X.A (leaving X.env e) (fun _ s'' => CXB C X.prog X.w X.outer X.H₀ X.s₀ E e s'') (fun _ _ => False) s' → X.xe e s') (ha : PE X e₀ t0)
    (hs : starEach [e₀] X.env = (false, eval e₀ X.env) :: starEach [] X.env := by rfl) (hdb : (cn == ("__debug__" : Str)) = false := by decide) :
    PS X (.Raise (some (.Call (.Name cn np) [e₀] [] cpos)) none pos) (sRaise C X.H₀ E t0) := by
  intro pins s σ H D I h
  obtain ⟨bm, N, nm, q, bs, hdct, sn, sub, ab, col, dd, k0, k1, k2, k3, k5, mN, hC, hN, hni, T⟩ := own_obj (I.ok.mod.kin) O.is'
  refine wpAny_Raise_call_subT (C := C) (nm := nm) (q := q) (N := N) (bs := bs) (bm := bm) (hdct := hdct) (sn := sn) (sub := sub) (ab := ab) (col := col) (dd := dd) (k0 := k0) (k1 := k1) (k2 := k2) (k3 := k3) (k5 := k5) (mN := mN)
    PySem.F.excBase_ValueError (T.hasType PySem.F.excBase_ValueError.hasBase) (I.ok.hd hc) (by rw [hs]; rfl) hni (ld_glob I hg O.at' ⟨rfl, ?_⟩ hdb)
  rw [hs]
  refine Calls.evalArgs_plain (Calls.spliced_cons (thn (ha pins s σ H _ I h) fun u s1 ⟨y, H1, I1, _, hsame, hE⟩ => ?_))
  refine Calls.spliced_nil ⟨rfl, (by show 1 ≤ sizeLine; decide), I1.bk _ _ hC, hN.keeps I1.bk, T.keeps I1.bk, fun h' e hm => hxe _ _ ?_⟩
  have hfs : frs X.stack = X.env.locals :: X.fs := by rw [hst]; exact frs_cons hf
  have hin : ∀ env ∈ X.stack, ∀ b, env.frame = some b → b ∈ frs X.stack := fun env he b hb => List.mem_filterMap.mpr ⟨env, he, hb⟩
  have hfr : X.A.frames = some (X.env :: X.outer) := by rw [← hst]; exact I1.ok.frames
  have hFF : s1.heap.FunFrames (PySem.W.hideAll s1.heap (frs X.stack)) (X.env :: X.outer) := by
    have := PySem.W.funFrames_hide I1.stack hin
    rw [hst] at this ⊢
    exact this
  refine wpAny_leaves_madeW (base := PySem.W.hideAll s1.heap (frs X.stack)) (h := s1.heap) hfr hf (fun b o z => PySem.W.of_hideAll _ z) hFF hm fun h2 t fl tup tn sm => ?_
  have stays : ∀ b o, s1.heap.get? b = some o → b ∉ frs X.stack → h2.get? b = some o := fun b o hb hn => fl.1 b o (PySem.W.hideAll_get _ hb hn)
  have trk : ∀ b u, H1 b = some u → b ∉ frs X.stack := fun b u hb z => by rw [I1.stkFree b z] at hb; cases hb
  refine ⟨e, H1, rfl, ⟨I1.os, I1.bare, hsame, fun b o hb hn => I1.base.free b o hb hn (by rw [hex]; simp), fun b u hb => ?_, fun b o hb hbf nf => ?_, ⟨_, t, fun b o hb hn hbf => ?_, fun b u o hb ho => ?_, fl⟩⟩, hE⟩
  · refine (I1.hok b u hb).stay (fun c v hcc z => ?_) (fun _ z => z) fun _ _ z => z
    rcases hcc with y | y
    · rw [y] at z ⊢
      exact stays b v z (trk b u hb)
    · exact stays c v z (trk c _ y)
  · obtain ⟨sl, e1⟩ := I1.base.slot b o hb (I1.ok.frf b hbf) hbf (by rw [hex]; simp)
    exact sm b { o with slots := sl } (hm.keeps _ _ e1) nf
  · refine PySem.W.hideAll_get _ (I1.base.keep b o hb hn hbf (by rw [hex]; simp)) ?_
    rw [hfs]
    intro z
    rcases List.mem_cons.mp z with z | z
    · exact Nat.ne_of_lt (Nat.lt_of_lt_of_le (Heap.lt_size hb) I1.ok.above) z
    · exact hbf z
  · obtain ⟨o1, e1⟩ := ho_there (I1.hok b u hb)
    have e2 := stays b o1 e1 (trk b u hb)
    rw [show ({ s1 with heap := h2 } : Shared).heap = h2 from rfl] at ho
    rw [e2] at ho
    cases ho
    exact PySem.W.hideAll_get _ e1 (trk b u hb)
end
/-! ### try: f(..) except C: .. -/
section
variable {X : Cx} {C f : Addr} {fd : FuncData} {k : Nat} {ps : List Str} {sp : Sp} {fn cn : Str} {p np cpos epos hpos pos : Pos} {e : Expr} {es : List Expr} {ta : TA} {b₀ : Stmt} {suite : List Stmt} {th : TS}
def sTry (sp : Sp) (ta : TA) (th : TS) : TS := fun D σ H => ta σ H fun vs H1 => sp vs H1 (fun _ H2 => D.nx σ H2) (fun _ _ H2 => th D σ H2)
theorem ps_tryE (hst : X.stack = X.env :: X.outer) (hf : X.env.frame = some X.env.locals) (O : OwnV X.K X.mg cn C) (hg : Gl X cn) (F : FnOk X.prog X.w X.K X.mg X.base (CXB C X.prog X.w) k f fd ps sp) (hr : Room k X.A) (hgf : Gl X fn) (hm : X.mg fn = some (.ref f)) (hk : PySem.W.keepIn X.K (.ref f) = true)
    (hb : Binds X.K fd ps []) (ha : PA X.nox (e :: es) ta) (hh : ∀ ev, PSs (X.marked ev).nox (b₀ :: suite) th) (hdb : (fn == ("__debug__" : Str)) = false := by decide) (hdb2 : (cn == ("__debug__" : Str)) = false := by decide)
    (he : starEach (e :: es) X.env = (false, eval e X.env) :: starEach es X.env := by rfl) (hpl : (backTo cpos (starEach es X.env)).any (·.1) = false := by rfl) (hsw : swapsWith (.Call (.Name fn p) (e :: es) [] cpos) none epos.line X.env = pure false := by rfl) :
    PS X (.Try [.Expr (.Call (.Name fn p) (e :: es) [] cpos) epos] [.ExceptHandler (some (.Name cn np)) none (b₀ :: suite) hpos] [] [] pos) (sTry sp ta th) := by
  intro pins s σ H D I h
  refine wpAny_Try_except (wpAny_execs_cons (wpAny_Expr_any ?_ I.quiet hsw))
  refine wpAny_Call_Name_kw (ld_glob I hgf hm ?_ hdb)
  refine PySem.W.callWith_K (h₀ := X.base) I.ok.mod.kin hk (wpAny_mono (ha cpos pins s σ H _ (I.wish _) h) (fun us s1 ⟨vs, H1, J1, r, q⟩ => ?_) fun _ _ z => z.elim) he hpl
  have I1 : Inv X pins σ H1 s1 := J1.unwish
  refine ⟨I1.kIn, ?_⟩
  have hl : us.length = ps.length := by rw [← r.length]; exact F.len _ _ _ _ q
  refine wpAny_call (codeAny_mono (F.run X.A X.stack s1 H1 ⟨us, []⟩ us vs _ _ hr I1.env0 (by have := hb s1 us I1.kIn (by rw [List.append_nil]; exact hl); rw [List.append_nil] at this; exact this) r q) fun r s' hq => ?_)
  cases r with
  | ok fl =>
    cases fl with
    | ret u =>
      obtain ⟨v, H2, I2, _, q2⟩ := I1.after hq
      exact wpAny_execs_nil (wpAny_execs_nil ⟨σ, H2, I2, q2⟩)
    | next => exact False.elim hq
    | brk => exact False.elim hq
    | cont => exact False.elim hq
  | error ev =>
    obtain ⟨x, H2, rfl, Fl, q2⟩ := hq
    obtain ⟨B, t, b1, b2, fl⟩ := id Fl.fly
    have hfr : X.A.frames = some (X.env :: X.outer) := by rw [← hst]; exact I1.ok.frames
    have fl' : Heap.FlyingW B (X.env :: X.outer) x (.ref C) (.ref t) s'.heap := by rw [hst] at fl; exact fl
    refine wpAny_looks_onW hfr hf fl' fun h4 held sm4 => ?_
    refine wpAny_landsW held fun h5 fl5 sm5 => ?_
    have I5 := (fly_inv I1 hst hf Fl b1 b2 fl5.1 (sm4.trans sm5)).mark (.ref x)
    obtain ⟨hp0, g0, d0, t0, os0⟩ := s'
    refine wpAny_handleBy_cons (codeAny_handlers_test (ld_glob I5 hg O.at' ?_ hdb2)) (by intro z; cases z)
    obtain ⟨bm, N, nm, q, bs, hdct, sn, sub, ab, col, dd, k0, k1, k2, k3, k5, mN, hC, hN, hni, T⟩ := own_obj I5.kIn O.is'
    obtain ⟨oe, hoe, hoc⟩ := fl5.there
    refine wpAny_excMatches_sub_self hC hoe hoc (T.hasType PySem.F.excBase_ValueError.hasBase) (codeAny_handlers_suite ?_)
    refine lands_againW fl5 fun h6 fl6 sm6 => ?_
    have I6 := (fly_inv I1 hst hf Fl b1 b2 fl6.1 ((sm4.trans sm5).trans sm6)).mark (.ref x)
    refine wpAny_mono (hh (.ref x) pins _ σ H2 D (I6.wish _) q2) (fun fl7 s7 z => ?_) fun _ _ z => z.elim
    exact SP.unmark I.ok (SP.unwish z)
end
/-! ### a def that may raise, as it is called -/
theorem Fun.ok1X {CX : CXT} {P : Program} {w : World} {K : PySem.W.Frag} {mg : Str → Option Value} {base : Heap} {x qual px : Str} {st : Stmt} {f : Addr} {fd : FuncData} {N : List Str} {k : Nat} {sp : Sp} (F : Fun K x qual st f fd) (S : FnScope N [px] (defScope st)) (hnc : ∀ y ∈ (defScope st).names, y.2 ≠ .cell) (hloc : (defScope st).names.lookup px = some .local) (len : ∀ vs H Q E, sp vs H Q E → vs.length = [px].length)
    (hbody : ∀ (cdv : Value) (A : Around) (outer : List Env) (s : Shared) (H : Hp) (vs : List V) (Q : VK) (E : XK), Room k (A.deeper (envOfC qual (defScope st) s.heap.objs.size f cdv)) → sp vs H Q E →
      ∃ t, PSsk (cxOf CX P w K mg base N qual (defScope st) f cdv A outer s H E) (defBody st) t ∧ t { nx := fun _ H' => Q .non H', rt := Q } (start N vs) H) : FnOk P w K mg base CX (k + 1) f fd [px] sp := by
  obtain ⟨oc, od, kV, doc, pm, an, cdv, ct, osl, rfl, lk, hcd⟩ := F.ex
  exact fn_of1 lk hcd S hnc hloc len fun A outer s H vs Q E hr hsp => hbody cdv A outer s H vs Q E hr hsp
def CalX (C : Addr) (P : Program) (w : World) (K : PySem.W.Frag) (mg : Str → Option Value) (base : Heap) (k : Nat) (x : Str) (ps : List Str) (sp : Sp) : Prop :=
  ∃ (g : Addr) (gd : FuncData), FnOk P w K mg base (CXB C P w) k g gd ps sp ∧ Binds K gd ps [] ∧ PySem.W.keepIn K (.ref g) = true ∧ mg x = some (.ref g)
section
variable {P : Program} {w : World} {K : PySem.W.Frag} {mg : Str → Option Value} {base : Heap} {k j : Nat} {x : Str} {ps : List Str} {sp : Sp} {C : Addr}
theorem CalX.mono (c : CalX C P w K mg base j x ps sp) (h : j ≤ k) : CalX C P w K mg base k x ps sp := by
  obtain ⟨g, gd, F, b, kp, m⟩ := c
  exact ⟨g, gd, F.mono h, b, kp, m⟩
end
section
variable {X : Cx} {C : Addr} {k : Nat} {ps : List Str} {sp : Sp} {x fn cn : Str} {p np pos cpos epos hpos : Pos} {e : Expr} {es : List Expr} {t ta : TA} {b₀ : Stmt} {suite : List Stmt} {th : TS}
theorem passB : Passes (CXB C X.prog X.w) X E0 := fun _ _ _ _ _ _ _ ⟨_, _, _, _, h⟩ => h.elim
theorem pe_calX (c : CalX C X.prog X.w X.K X.mg X.base k x ps sp) (hr : Room k X.A) (hg : Gl X x) (ha : PA X (e :: es) t) (hdb : (x == ("__debug__" : Str)) = false := by decide) (he : starEach (e :: es) X.env = (false, eval e X.env) :: starEach es X.env := by rfl)
    (hpl : (backTo pos (starEach es X.env)).any (·.1) = false := by rfl) : PE X (.Call (.Name x p) (e :: es) [] pos) (tCall sp [] E0 t) := by
  obtain ⟨g, gd, F, b, kp, m⟩ := c
  exact pe_call F hr hg m kp b .nil passB ha hdb he hpl
theorem ps_tryC (hst : X.stack = X.env :: X.outer) (hf : X.env.frame = some X.env.locals) (O : OwnV X.K X.mg cn C) (hg : Gl X cn) (c : CalX C X.prog X.w X.K X.mg X.base k fn ps sp) (hr : Room k X.A) (hgf : Gl X fn)
    (ha : PA X.nox (e :: es) ta) (hh : ∀ ev, PSs (X.marked ev).nox (b₀ :: suite) th) (hdb : (fn == ("__debug__" : Str)) = false := by decide) (hdb2 : (cn == ("__debug__" : Str)) = false := by decide)
    (he : starEach (e :: es) X.env = (false, eval e X.env) :: starEach es X.env := by rfl) (hpl : (backTo cpos (starEach es X.env)).any (·.1) = false := by rfl) (hsw : swapsWith (.Call (.Name fn p) (e :: es) [] cpos) none epos.line X.env = pure false := by rfl) :
    PS X (.Try [.Expr (.Call (.Name fn p) (e :: es) [] cpos) epos] [.ExceptHandler (some (.Name cn np)) none (b₀ :: suite) hpos] [] [] pos) (sTry sp ta th) := by
  obtain ⟨g, gd, F, b, kp, m⟩ := c
  exact ps_tryE hst hf O hg F hr hgf m kp b ha hh hdb hdb2 he hpl hsw
end
end L2
set_option Elab.async false
set_option linter.all false
set_option maxRecDepth 100000
set_option maxHeartbeats 1000000
/-! an own error caught by its base's name, held by a name; a def called from the except suite -/
namespace L2
open PySem PySem.Spec PyProof.Rows
/-- an error that was caught, of the class at C -/
def ExcO (x C : Addr) : HO := HO.ext fun h => ∃ o, h.get? x = some o ∧ o.cls = .ref C
theorem matches_up {M : Model} {A : Around} {E : Value → Shared → Prop} {K : PySem.W.Frag} {h : Heap} {g : Array GenState} {d : Drawn} {t : Nat} {os : OsState} {e C D : Addr} {oe : Obj} {Q : Bool → Shared → Prop} (KX : K.In h) (he : h.get? e = some oe) (hcls : oe.cls = .ref C)
    (q : PySem.W.excIn K D veM "ValueError.__new__" = true) (hm : PySem.W.mroIn K C (.ref D) = some true) (hq : Q true ⟨h, g, d, t, os⟩) : wpAny M A (excMatches (.ref e) (.ref D)) Q E ⟨h, g, d, t, os⟩ := by
  obtain ⟨bm, N, nm, q, bs, hdct, sn, sub, ab, col, dd, k0, k1, k2, k3, k5, mN, hD, hN, hni, T⟩ := own_obj KX q
  have hb := T.hasType (X := "BaseException") PySem.F.excBase_ValueError.hasBase
  have hcB : (Value.ref D :: bm).contains (.type "BaseException") = true := by rw [List.contains_cons, hb, Bool.or_true]
  have f := tc_notTuple
  have L := PySem.W.looks_mroIn (M := M) KX hm
  unfold excMatches
  repeat (first | (with_reducible refine wpAny_loadPart_at he ?_; rw [hcls]) | with_reducible refine wpAny_loadPart_at hD ?_ | (with_reducible refine wpAny_isSubtype_exc hD ?_; rw [hcB]) | wp_step)
  refine L _ _ _ _ (fun _ _ z => z) ?_
  repeat wp_step
  exact hq
section
variable {X : Cx} {pins : List (Addr × Obj)} {σ : St} {H H' : Hp} {s s' : Shared} {C x : Addr}
/-- the caught error, tracked from now on -/
theorem fly_track (I : Inv X pins σ H s) (F : Flown X.prog X.w C X.stack H H' s s' x) {B : Heap} {t : Addr} {s6 : Shared}
    (b1 : ∀ b o, s.heap.get? b = some o → H b = none → b ∉ frs X.stack → B.get? b = some o) (b2 : ∀ b u o, H' b = some u → s'.heap.get? b = some o → B.get? b = some o) (f6 : Heap.FlyingW B X.stack x (.ref C) (.ref t) s6.heap) (f0 : Heap.FlyingW B X.stack x (.ref C) (.ref t) s'.heap) (I6 : Inv X pins σ H' s6) :
    H' x = none ∧ Inv X pins σ (upd H' x (ExcO x C)) s6 := by
  have hx0 : H' x = none := by
    cases e : H' x with
    | none => rfl
    | some u =>
      obtain ⟨o, ho⟩ := ho_there (F.hok x u e)
      have := b2 x u o e ho
      rw [f0.2.1] at this
      cases this
  have hH : H x = none := by
    cases e : H x with
    | none => rfl
    | some u => rw [F.same x u e] at hx0; cases hx0
  obtain ⟨oe, vs, hoe, hcl, hod, _⟩ := f6.first
  have hnf : x ∉ frs X.stack := fun z => by
    obtain ⟨_, o, ho, nf⟩ := f6.2.2.1.mem z
    rw [hoe] at ho
    cases ho
    exact nf vs hod
  have hs0 : s.heap.get? x = none := by
    cases e : s.heap.get? x with
    | none => rfl
    | some o =>
      have := b1 x o e hH hnf
      rw [f0.2.1] at this
      cases this
  have hne : ∀ b o, s.heap.get? b = some o → b ≠ x := fun b o e z => by rw [z, hs0] at e; cases e
  have dn : ∀ b, b ≠ x → (upd H' x (ExcO x C)) b = H' b := fun b z => upd_ne z
  have tr : ∀ b u, H' b = some u → (upd H' x (ExcO x C)) b = some u := fun b u e => by rw [dn b fun z => by rw [z, hx0] at e; cases e]; exact e
  obtain ⟨m, ⟨oL, _, _, hoL, _⟩, _⟩ := id I.loc
  refine ⟨hx0, ⟨I6.ok, I6.os, I6.bare, ⟨I6.base.keep, I6.base.slot, fun b o e n hx => ?_, I6.base.there, fun b xs e => tr _ _ (I6.base.tups b xs e), fun b o u e => tr _ _ (I6.base.frzs b o u e), fun b ps e => ?_⟩, I6.loc, I6.cell, ?_, fun y c e => ?_, fun p hp => ?_, fun b u e => ?_, I6.len⟩⟩
  · obtain ⟨o', e1⟩ := I.base.there b o e hx
    rw [dn b (hne b o' e1)]
    exact I6.base.free b o e n hx
  · obtain ⟨m1, e1⟩ := I6.base.tbls b ps e
    exact ⟨m1, tr _ _ e1⟩
  · rw [dn _ (hne _ oL hoL)]
    exact I6.free
  · obtain ⟨v, o, ho, _⟩ := I.cell y c e
    rw [dn _ (hne c o ho)]
    exact I6.freeC y c e
  · obtain ⟨e1, n1, ne1, nf1, d1⟩ := I6.pin p hp
    obtain ⟨e0, _⟩ := I.pin p hp
    exact ⟨e1, by rw [dn _ (hne _ _ e0)]; exact n1, ne1, nf1, d1⟩
  · by_cases z : b = x
    · subst z
      rw [upd_same] at e
      cases e
      exact ⟨⟨oe, hoe, hcl⟩, ⟨oe, hoe⟩, fun h1 h2 ⟨o, g1, g2⟩ kk => ⟨o, kk o g1, g2⟩⟩
    · rw [dn b z] at e
      refine (I6.hok b u e).stay (fun c v hc q => q) (fun c q => tr _ _ q) fun c xs q => tr _ _ q
/-- a name goes: behind the suite of `except .. as name` -/
theorem gone_ok {M : Model} {A : Around} {E : Value → Shared → Prop} {j : Nat} {n : Str} {pos : Pos} {Q : Unit → Shared → Prop} (I : Inv X pins σ H s) (hN : X.N.Nodup) (hj : X.N[j]? = some n) (hk : X.env.kindOf n = some .local)
    (h : ∀ s1, Inv X pins (σ.set j none) H s1 → Q () s1) : wpAny M A (do bindName X.env n .none; unbindBehindTheSuite X.env n pos) Q E s := by
  obtain ⟨m, hn, hl⟩ := id I.loc
  have hcls : (X.env.scope.kind == .class || (X.env.scope.kind == .module && X.env.locals != X.env.globals)) = false := by rw [I.ok.kind]; rfl
  have lower : ∀ b o, X.s₀.heap.get? b = some o → b ≠ X.env.locals := fun b o e => Nat.ne_of_lt (Nat.lt_of_lt_of_le (Heap.lt_size e) I.ok.above)
  refine wpAny_nameGoes_keeps hk hn hcls fun h1 v hn1 hs => h _ ⟨I.ok, I.os, I.bare, ⟨fun b o e z hb hx => (hs.2 b (lower b o e)).trans (I.base.keep b o e z hb hx), fun b o e z hb hx => ?_, I.base.free, fun b o e hx => ?_, I.base.tups, I.base.frzs, I.base.tbls⟩, ⟨_, hn1, fun i y w e1 e2 e3 => ?_⟩, fun y c e => ?_, I.free, I.freeC, fun p hp => ?_, fun b u e => ?_, by simpa using I.len⟩
  · obtain ⟨sl, e1⟩ := I.base.slot b o e z hb hx
    exact ⟨sl, (hs.2 b (lower b o e)).trans e1⟩
  · obtain ⟨o1, e1⟩ := I.base.there b o e hx
    exact ⟨o1, (hs.2 b (lower b o e)).trans e1⟩
  · have hij : i ≠ j := fun z => by
      subst z
      rw [List.getElem?_set] at e2
      simp at e2
    rw [List.getElem?_set_ne (Ne.symm hij)] at e2
    obtain ⟨u1, r1, q1⟩ := hl i y w e1 e2 e3
    refine ⟨u1, r1, ?_⟩
    rcases q1 with ⟨k1, g1⟩ | ⟨k1, c, g1, z⟩
    · refine .inl ⟨k1, ?_⟩
      have : y ≠ n := fun z => hij (nodup_ix hN e1 (z ▸ hj))
      simp [this, g1]
    · exact .inr ⟨k1, c, g1, z.sameBut hs (I.cne y c g1)⟩
  · obtain ⟨w, z⟩ := I.cell y c e
    exact ⟨w, z.sameBut hs (I.cne y c e)⟩
  · obtain ⟨e, z, ne, nf, d⟩ := I.pin p hp
    exact ⟨(hs.2 p.1 ne).trans e, z, ne, nf, d⟩
  · refine (I.hok b u e).stay (fun c w hc q => (hs.2 c ?_).trans q) (fun _ q => q) fun _ _ q => q
    rintro rfl
    rcases hc with z | z
    · rw [← z, I.free] at e; cases e
    · rw [I.free] at z; cases z
end
/-! ### isinstance of a caught error -/
section
variable {X : Cx}
def rIsiE (CB : Addr) : List V → Hp → VK → Prop := fun xs H Q => ∃ x, H x = some (ExcO x CB) ∧ (xs = [.ref x, .ref CB] ∨ xs = [.ref x, .ty "ValueError"]) ∧ Q (.bl true) H
theorem call_isiE {cn : Str} {CB : Addr} (O : OwnV X.K X.mg cn CB) : CallR X (.builtin "isinstance") (rIsiE CB) := by
  intro pins s σ H vs us Q I r h
  obtain ⟨x, hx, hxs, q⟩ := h
  obtain ⟨oe, hoe, hoc⟩ := (I.hok x _ hx).1
  obtain ⟨bm, N, nm, q1, bs, hdct, sn, sub, ab, col, dd, k0, k1, k2, k3, k5, mN, hC, hN, hni, T⟩ := own_obj I.kIn O.is'
  have hv : (Value.ref CB :: bm).contains (.type "ValueError") = true := by rw [List.contains_cons, T.hasType (X := "ValueError") (b := true) (by decide +kernel), Bool.or_true]
  have fin : EP X pins σ Q (.bool true) s := ⟨.bl true, H, I, rfl, q⟩
  rcases hxs with rfl | rfl
  · obtain ⟨u, u', rfl, r1, r2⟩ := r.two
    cases r1
    cases r2
    refine call_isinstance_of ?_ (by intro e; cases e)
    unfold Builtin.«isinstance.nested»
    obtain ⟨hh, g, d, t, os⟩ := s
    repeat (first | (with_reducible refine wpAny_loadPart_at hoe ?_; rw [hoc]) | wp_step)
    exact fin
  · obtain ⟨u, u', rfl, r1, r2⟩ := r.two
    cases r1
    cases r2
    refine call_isinstance_of ?_ (by intro e; cases e)
    unfold Builtin.«isinstance.nested»
    obtain ⟨hh, g, d, t, os⟩ := s
    repeat (first | (with_reducible refine wpAny_loadPart_at hoe ?_; rw [hoc]) | (with_reducible refine wpAny_isSubtype_exc hC ?_; rw [hv]) | wp_step)
    exact fin
end
end L2
set_option Elab.async false
set_option linter.all false
set_option maxRecDepth 100000
set_option maxHeartbeats 1000000
/-! a def called from within an except suite; try: x = f(..) except C as e: ..; a cut between statements -/
namespace L2
open PySem PySem.Spec PyProof.Rows
section
variable {P : Program} {w : World} {K : PySem.W.Frag} {mg : Str → Option Value} {base : Heap}
def CalM (P : Program) (w : World) (K : PySem.W.Frag) (mg : Str → Option Value) (base : Heap) (k : Nat) (x : Str) (ps : List Str) (sp : Sp) : Prop :=
  ∃ (g : Addr) (gd : FuncData), (∀ vs H Q E, sp vs H Q E → vs.length = ps.length) ∧
    (∀ (A : Around) (outer : List Env) (s : Shared) (H : Hp) (args : Args) (us : List Value) (vs : List V) (Q : VK) (E : XK) (ev : Value), Room k A → Env0 P w K mg base A outer s H → BindsTo s gd args (ps.zip us) → Vals vs us → sp vs H Q E →
      codeAny (model P w) (A.mark (some ev)) (.call (.ref g) args) (CR CX0 outer P w H s Q E) s) ∧ Binds K gd ps [] ∧ PySem.W.keepIn K (.ref g) = true ∧ mg x = some (.ref g)
theorem Fun.okM {x qual nmx : Str} {st : Stmt} {f : Addr} {fd : FuncData} {N ps : List Str} {k : Nat} {sp : Sp} (F : Fun K x qual st f fd) (S : FnScope N ps (defScope st)) (len : ∀ vs H Q E, sp vs H Q E → vs.length = ps.length) (hb0 : Binds K fd ps []) (hmg : mg nmx = some (.ref f))
    (hbody : ∀ (cdv : Value) (A : Around) (outer : List Env) (s : Shared) (H : Hp) (vs : List V) (Q : VK) (E : XK) (ev : Value), Room k (A.deeper (envOfC qual (defScope st) s.heap.objs.size f cdv)) → sp vs H Q E →
      ∃ t, PSs ((cxOf CX0 P w K mg base N qual (defScope st) f cdv A outer s H E).nox.marked ev) (defBody st) t ∧ t { nx := fun _ H' => Q .non H', rt := Q } (start N vs) H) : CalM P w K mg base (k + 1) nmx ps sp := by
  refine ⟨f, fd, len, fun A outer s H args us vs Q E ev hr e0 hb r hsp => ?_, hb0, F.kp, hmg⟩
  obtain ⟨oc, od, kV, doc, pm, an, cdv, ct, osl, rfl, lk, hcd⟩ := F.ex
  have hl := len _ _ _ _ hsp
  have KX : K.In s.heap := e0.mod.kin.keeps fun b o e => (e0.bs b o e).1
  have lim : s.heap.NoLimit := e0.mod.nolimit.keeps fun b o e => (e0.bs b o e).1
  have hkind : ∀ y ∈ ps.zip us, (defScope st).names.lookup y.1 = some .local ∨ ((defScope st).names.lookup y.1 = some .cell ∧ ((cellsFrom (s.heap.objs.size + 1) (defScope st).names []).lookup y.1).isSome = true) := fun ⟨n, v⟩ hy => by
    rcases S.par n (List.of_mem_zip hy).1 with q | q
    · exact .inl q
    · exact .inr ⟨q, PySem.W.cellsFrom_some _ _ _ (.inl q)⟩
  refine codeAny_call_function (A := A.mark (some ev)) (show A.depth < recursionLimit from hr.depth) (KX _ _ lk) rfl S.co S.gen rfl (PySem.W.codeRec_of KX hcd) (hb _ _ _ _ ?_)
  refine wpAny_newFunctionEnv_cells S.kind hkind fun env he s1 x => ?_
  subst he
  refine ⟨lim.keeps x.toInCall.keep, codeAny_func ?_⟩
  obtain ⟨t, ht, hq⟩ := hbody cdv A outer s H vs Q E ev (hr.deeper _) hsp
  have I : Inv (cxOf CX0 P w K mg base N qual (defScope st) f cdv A outer s H E) [] (start N vs) H s1 := inv_start S hr.hd e0 hl r x
  have J := (I.wish fun _ _ => False).mark ev
  have ok := I.ok
  refine wpAny_mono (ht [] s1 (start N vs) H _ J hq) (fun fl s' hs => ?_) fun e s' hs => hs.elim
  have hs := SP.unwish (SP.unmark (ok.wish _) hs)
  have fin : ∀ {σ' : St} {H' : Hp} {v : V} {u : Value}, Inv (cxOf CX0 P w K mg base N qual (defScope st) f cdv A outer s H E) [] σ' H' s' → RelV v u → Q v H' → CE outer P w H s Q u s' :=
    fun {σ' H' v u} J rv q => ⟨v, H', J.os, J.bare, J.base, J.hok, rv, q⟩
  cases fl with
  | ret u =>
    obtain ⟨v, σ', H', J, rv, q⟩ := hs
    exact fin J rv q
  | next =>
    obtain ⟨σ', H', J, q⟩ := hs
    exact fin (v := V.non) (u := Value.none) J rfl q
  | brk =>
    obtain ⟨_, _, _, q⟩ := hs
    exact False.elim q
  | cont =>
    obtain ⟨_, _, _, q⟩ := hs
    exact False.elim q
end
section
variable {X : Cx} {k : Nat} {ps : List Str} {sp : Sp} {x : Str} {p pos : Pos} {e : Expr} {es : List Expr} {t : TA} {ev : Value}
theorem pe_calM (c : CalM X.prog X.w X.K X.mg X.base k x ps sp) (hr : Room k X.A) (hg : Gl X x) (ha : PA (X.marked ev) (e :: es) t) (hdb : (x == ("__debug__" : Str)) = false := by decide) (he : starEach (e :: es) X.env = (false, eval e X.env) :: starEach es X.env := by rfl)
    (hpl : (backTo pos (starEach es X.env)).any (·.1) = false := by rfl) : PE (X.marked ev) (.Call (.Name x p) (e :: es) [] pos) (tCall sp [] E0 t) := by
  obtain ⟨g, gd, len, F, b, kp, m⟩ := c
  intro pins s σ H Q I h
  refine wpAny_Call_Name_kw (ld_glob I hg m ?_ hdb)
  refine PySem.W.callWith_K (h₀ := X.base) I.ok.mod.kin kp (thn (ha pos pins s σ H _ I h) fun us s1 ⟨vs, H1, I1, r, q⟩ => ⟨I1.kIn, ?_⟩) he hpl
  have q : sp vs H1 Q E0 := by have := q; dsimp only at this; rw [List.append_nil] at this; exact this
  have hl : us.length = ps.length := by rw [← r.length]; exact len _ _ _ _ q
  have e0 : Env0 X.prog X.w X.K X.mg X.base X.A X.stack s1 H1 := ⟨I1.env0.frames, I1.env0.mod, I1.env0.bs, I1.env0.bsz, I1.env0.funs, I1.env0.frf, I1.env0.hok, I1.env0.bare⟩
  refine wpAny_call (codeAny_mono (F X.A X.stack s1 H1 ⟨us, []⟩ us vs Q E0 ev hr e0 (by have := b s1 us I1.kIn (by rw [List.append_nil]; exact hl); rw [List.append_nil] at this; exact this) r q) fun r s' hq => ?_)
  cases r with
  | error e => exact hq.elim
  | ok fl =>
    cases fl with
    | ret u => exact I1.after hq
    | next => exact False.elim hq
    | brk => exact False.elim hq
    | cont => exact False.elim hq
end
/-! ### try: x = f(..) except C as n: .. -/
section
variable {X : Cx} {CB CT : Addr} {k i j : Nat} {ps : List Str} {sp : Sp} {xf fn cb cn n : Str} {p np pf cpos apos hpos pos : Pos} {e : Expr} {es : List Expr} {ta : TA} {b₀ : Stmt} {suite : List Stmt} {th : TS}
def sTryAs (CB : Addr) (i j : Nat) (sp : Sp) (ta : TA) (th : TS) : TS := fun D σ H => ta σ H fun vs H1 => sp vs H1 (fun v H2 => D.nx (σ.set i (some v)) H2)
  (fun _ _ H2 => ∀ x, H2 x = none → th { nx := fun σ' H' => D.nx (σ'.set j none) H', rt := fun _ _ => False } (σ.set j (some (.ref x))) (upd H2 x (ExcO x CB)))
theorem ps_tryAs (hst : X.stack = X.env :: X.outer) (hf : X.env.frame = some X.env.locals) (OB : OwnV X.K X.mg cb CB) (OT : OwnV X.K X.mg cn CT) (hmro : PySem.W.mroIn X.K CB (.ref CT) = some true) (hg : Gl X cn) (c : CalX CB X.prog X.w X.K X.mg X.base k fn ps sp) (hr : Room k X.A) (hgf : Gl X fn)
    (hN : X.N.Nodup) (hi : X.N[i]? = some xf) (hx : Loc X.env.scope xf) (hfx : X.fn xf = true) (hj : X.N[j]? = some n) (hn : X.env.kindOf n = some .local) (hxn : Loc X.env.scope n) (hfn : X.fn n = true)
    (ha : PA X.nox (e :: es) ta) (hh : ∀ ev, PSs (X.nox.marked ev) (b₀ :: suite) th) (hdb : (fn == ("__debug__" : Str)) = false := by decide) (hdb2 : (cn == ("__debug__" : Str)) = false := by decide)
    (he : starEach (e :: es) X.env = (false, eval e X.env) :: starEach es X.env := by rfl) (hpl : (backTo cpos (starEach es X.env)).any (·.1) = false := by rfl) (hsw : swapsWith (.Call (.Name fn p) (e :: es) [] cpos) (some (.Name xf pf)) apos.line X.env = pure false := by rfl) :
    PS X (.Try [.Assign [.Name xf pf] (.Call (.Name fn p) (e :: es) [] cpos) apos] [.ExceptHandler (some (.Name cn np)) (some n) (b₀ :: suite) hpos] [] [] pos) (sTryAs CB i j sp ta th) := by
  obtain ⟨f, fd, F, hb, hk, hm⟩ := c
  intro pins s σ H D I h
  refine wpAny_Try_except (wpAny_execs_cons (wpAny_Assign_Name ?_ hsw))
  refine wpAny_Call_Name_kw (ld_glob I hgf hm ?_ hdb)
  refine PySem.W.callWith_K (h₀ := X.base) I.ok.mod.kin hk (wpAny_mono (ha cpos pins s σ H _ (I.wish _) h) (fun us s1 ⟨vs, H1, J1, r, q⟩ => ?_) fun _ _ z => z.elim) he hpl
  have I1 : Inv X pins σ H1 s1 := J1.unwish
  refine ⟨I1.kIn, ?_⟩
  have hl : us.length = ps.length := by rw [← r.length]; exact F.len _ _ _ _ q
  refine wpAny_call (codeAny_mono (F.run X.A X.stack s1 H1 ⟨us, []⟩ us vs _ _ hr I1.env0 (by have := hb s1 us I1.kIn (by rw [List.append_nil]; exact hl); rw [List.append_nil] at this; exact this) r q) fun r s' hq => ?_)
  cases r with
  | ok fl =>
    cases fl with
    | ret u =>
      obtain ⟨v, H2, I2, rv, q2⟩ := I1.after hq
      exact store_ok I2 hN hi hx rv (fun s3 I3 => wpAny_execs_nil (wpAny_execs_nil ⟨_, H2, I3, q2⟩)) (.inl hfx)
    | next => exact False.elim hq
    | brk => exact False.elim hq
    | cont => exact False.elim hq
  | error ev =>
    obtain ⟨x, H2, rfl, Fl, q2⟩ := hq
    obtain ⟨B, t, b1, b2, fl⟩ := id Fl.fly
    have hfr : X.A.frames = some (X.env :: X.outer) := by rw [← hst]; exact I1.ok.frames
    have fl' : Heap.FlyingW B (X.env :: X.outer) x (.ref CB) (.ref t) s'.heap := by rw [hst] at fl; exact fl
    refine wpAny_looks_onW hfr hf fl' fun h4 held sm4 => ?_
    refine wpAny_landsW held fun h5 fl5 sm5 => ?_
    have I5 := (fly_inv I1 hst hf Fl b1 b2 fl5.1 (sm4.trans sm5)).mark (.ref x)
    have track := fun (h6 : Heap) (f6 : Heap.FlyingW B X.stack x (.ref CB) (.ref t) h6) (J : Inv X pins σ H2 { s' with heap := h6 }) => fly_track I1 Fl b1 b2 (s6 := { s' with heap := h6 }) f6 fl J
    have again := fun (h6 : Heap) (f6 : Heap.FlyingW B (X.env :: X.outer) x (.ref CB) (.ref t) h6) (sm6 : h5.UpToSlots h6) => fly_inv I1 hst hf Fl b1 b2 f6.1 ((sm4.trans sm5).trans sm6)
    obtain ⟨hp0, g0, d0, t0, os0⟩ := s'
    refine wpAny_handleBy_cons (codeAny_handlers_test (ld_glob I5 hg OT.at' ?_ hdb2)) (by intro z; cases z)
    obtain ⟨oe, hoe, hoc⟩ := fl5.there
    refine matches_up I5.kIn hoe hoc OT.is' hmro (codeAny_handlers_suite_as ?_)
    refine lands_againW fl5 fun h6 fl6 sm6 => ?_
    have I6 := again h6 fl6 sm6
    obtain ⟨hx0, I7⟩ := track h6 (by rw [hst]; exact fl6) I6
    refine store_ok I7 hN hj hxn (v := .ref x) rfl (fun s9 I9 => ?_) (.inl hfn)
    refine wpAny_mono (hh (.ref x) pins s9 _ _ _ ((I9.wish fun _ _ => False).mark (.ref x)) (q2 x hx0)) (fun fl9 s10 z => ?_) fun _ _ z => z.elim
    cases fl9 with
    | next =>
      obtain ⟨σ', H', J, q9⟩ := z
      have J' : Inv X pins σ' H' s10 := (J.unmark (I.ok.wish _)).unwish
      exact gone_ok J' hN hj hn fun s11 I11 => ⟨_, H', I11, q9⟩
    | ret v => obtain ⟨_, _, _, _, _, w⟩ := z; exact w.elim
    | brk => obtain ⟨_, _, _, w⟩ := z; exact w.elim
    | cont => obtain ⟨_, _, _, w⟩ := z; exact w.elim
end
/-! ### a cut behind a statement -/
section
variable {X : Cx} {st : Stmt} {rest : List Stmt} {t u : TS}
def tMid (R : St → Hp → Prop) (t u : TS) : TS := fun D σ H => t { D with nx := R } σ H ∧ ∀ σ' H', R σ' H' → u D σ' H'
theorem pss_mid (R : St → Hp → Prop) (h1 : PS X st t) (h2 : PSs X rest u) : PSs X (st :: rest) (tMid R t u) := by
  intro pins s σ H D I h
  refine wpAny_execs_cons (thn (h1 pins s σ H { D with nx := R } I h.1) fun f s1 q => ?_)
  cases f with
  | next =>
    obtain ⟨σ', H', I', q⟩ := q
    exact h2 pins s1 σ' H' D I' (h.2 σ' H' q)
  | ret v => exact q
  | brk => exact q
  | cont => exact q
end
end L2
set_option linter.all false
namespace Tw
/-! ### marks -/
def mk : Nat → Int
  | 0 => 1
  | 1 => 2
  | n + 2 => mk (n + 1) + mk n
theorem mk_step (n : Nat) : mk (n + 2) = mk (n + 1) + mk n := by rw [mk]
theorem mk_pos2 : ∀ n : Nat, 1 ≤ mk n ∧ 1 ≤ mk (n + 1) ∧ mk n < mk (n + 1)
  | 0 => by decide
  | n + 1 => by
    have h := mk_pos2 n
    have e := mk_step n
    refine ⟨h.2.1, ?_, ?_⟩ <;> (show _ ; rw [show n + 1 + 1 = n + 2 from rfl, e]; omega)
theorem mk_pos (n : Nat) : 1 ≤ mk n := (mk_pos2 n).1
theorem mk_lt (n : Nat) : mk n < mk (n + 1) := (mk_pos2 n).2.2
theorem mk_mono {a b : Nat} (h : a ≤ b) : mk a ≤ mk b := by
  induction b with
  | zero => have : a = 0 := by omega
            subst this; exact Int.le_refl _
  | succ b ih =>
    rcases Nat.lt_or_ge b a with hb | hb
    · have : a = b + 1 := by omega
      subst this; exact Int.le_refl _
    · have := ih hb
      have := mk_lt b
      omega
theorem mk_gt (n : Nat) : (n : Int) < mk n := by
  induction n with
  | zero => decide
  | succ n ih =>
    have := mk_lt n
    omega
def ms (n : Nat) : List Int := (List.range n).map mk
theorem ms_length (n : Nat) : (ms n).length = n := by simp [ms]
theorem ms_get {n i : Nat} (h : i < n) : (ms n)[i]? = some (mk i) := by simp [ms, h]
theorem ms_succ (n : Nat) : ms (n + 1) = ms n ++ [mk n] := by simp [ms, List.range_succ]
theorem ms_two : ms 2 = [1, 2] := by decide
theorem ms_more (n : Nat) : ms (n + 2) ++ [mk (n + 1) + mk n] = ms (n + 2 + 1) := by rw [ms_succ (n + 2), mk_step]
theorem ms_take {m n : Nat} (h : m ≤ n) : (ms n).take m = ms m := by
  unfold ms
  rw [← List.map_take, List.take_range, Nat.min_eq_left h]
/-! ### rows -/
def wth (R : List Nat) : Int := (R.map mk).sum
theorem wth_nil : wth [] = 0 := rfl
theorem wth_cons (x : Nat) (R : List Nat) : wth (x :: R) = mk x + wth R := by simp [wth]
theorem wth_app (R S : List Nat) : wth (R ++ S) = wth R + wth S := by simp [wth]
theorem wth_snoc (x : Nat) (R : List Nat) : wth (R ++ [x]) = wth R + mk x := by simp [wth]
theorem wth_nn (R : List Nat) : 0 ≤ wth R := by
  induction R with
  | nil => exact Int.le_refl _
  | cons x R ih => rw [wth_cons]; have := mk_pos x; omega
def TW (R : List Nat) : Prop := R.Pairwise (fun a b => a + 2 ≤ b)
theorem TW_nil : TW [] := List.Pairwise.nil
theorem TW_cons {x : Nat} {R : List Nat} : TW (x :: R) ↔ (∀ y ∈ R, x + 2 ≤ y) ∧ TW R := List.pairwise_cons
theorem TW_snoc {x : Nat} {R : List Nat} : TW (R ++ [x]) ↔ TW R ∧ ∀ y ∈ R, y + 2 ≤ x := by
  unfold TW
  rw [List.pairwise_append]
  constructor
  · rintro ⟨h1, _, h3⟩
    exact ⟨h1, fun y hy => h3 y hy x (by simp)⟩
  · rintro ⟨h1, h2⟩
    exact ⟨h1, List.pairwise_singleton _ _, fun a ha b hb => by
      have e : b = x := by simpa using hb
      subst e
      exact h2 a ha⟩
theorem snoc_cases (R : List Nat) : R = [] ∨ ∃ S x, R = S ++ [x] := by
  rcases List.eq_nil_or_concat R with h | ⟨S, x, h⟩
  · exact .inl h
  · exact .inr ⟨S, x, by simpa using h⟩
/-- a twinless row of places below n comes to less than mark n -/
theorem wth_lt : ∀ (k : Nat) (R : List Nat) (n : Nat), R.length ≤ k → TW R → (∀ x ∈ R, x < n) → wth R < mk n
  | 0, R, n, hl, _, _ => by
    have : R = [] := List.eq_nil_of_length_eq_zero (by omega)
    subst this
    have := mk_pos n
    rw [wth_nil]; omega
  | k + 1, R, n, hl, ht, hb => by
    rcases snoc_cases R with rfl | ⟨S, m, rfl⟩
    · have := mk_pos n
      rw [wth_nil]; omega
    · obtain ⟨hs, hg⟩ := TW_snoc.mp ht
      have hm : m < n := hb m (by simp)
      have hl' : S.length ≤ k := by simp at hl; omega
      rw [wth_snoc]
      cases m with
      | zero =>
        have : S = [] := by
          cases S with
          | nil => rfl
          | cons y S => have := hg y (by simp); omega
        subst this
        rw [wth_nil]
        have h1 : mk 1 ≤ mk n := mk_mono (by omega)
        have h2 : mk 1 = 2 := rfl
        have h3 : mk 0 = 1 := rfl
        omega
      | succ m =>
        have ih := wth_lt k S m hl' hs (fun x hx => by have := hg x hx; omega)
        have h1 : mk (m + 2) ≤ mk n := mk_mono (by omega)
        have h2 := mk_step m
        omega
theorem wth_below {R : List Nat} {n : Nat} (ht : TW R) (hb : ∀ x ∈ R, x < n) : wth R < mk n := wth_lt R.length R n (Nat.le_refl _) ht hb
/-- the greatest marks first -/
def gr : Nat → Int → List Nat
  | 0, _ => []
  | n + 1, r => if mk n ≤ r then gr n (r - mk n) ++ [n] else gr n r
theorem gr_pos {n : Nat} {r : Int} (h : mk n ≤ r) : gr (n + 1) r = gr n (r - mk n) ++ [n] := by rw [gr, if_pos h]
theorem gr_neg {n : Nat} {r : Int} (h : ¬ mk n ≤ r) : gr (n + 1) r = gr n r := by rw [gr, if_neg h]
theorem gr_lt : ∀ (n : Nat) (r : Int), ∀ x ∈ gr n r, x < n
  | 0, r, x, h => by simp [gr] at h
  | n + 1, r, x, h => by
    by_cases c : mk n ≤ r
    · rw [gr_pos c] at h
      rcases List.mem_append.mp h with h | h
      · have := gr_lt n _ x h; omega
      · have : x = n := by simpa using h
        omega
    · rw [gr_neg c] at h
      have := gr_lt n _ x h; omega
theorem gr_le {n m : Nat} {r : Int} (h : r < mk n) (hm : n ≤ m) : gr m r = gr n r := by
  induction m with
  | zero => have : n = 0 := by omega
            subst this; rfl
  | succ m ih =>
    rcases Nat.lt_or_ge m n with hb | hb
    · have : n = m + 1 := by omega
      subst this; rfl
    · have := mk_mono hb
      rw [gr_neg (by omega), ih hb]
theorem gr_ok : ∀ (n : Nat) (r : Int), 0 ≤ r → r < mk n → TW (gr n r) ∧ wth (gr n r) = r
  | 0, r, h0, h => by
    have : r = 0 := by have : mk 0 = 1 := rfl
                       omega
    subst this
    exact ⟨TW_nil, rfl⟩
  | n + 1, r, h0, h => by
    by_cases c : mk n ≤ r
    · rw [gr_pos c]
      cases n with
      | zero =>
        have h1 : mk 1 = 2 := rfl
        have h2 : mk 0 = 1 := rfl
        have : r = 1 := by have : mk (0 + 1) = 2 := rfl
                           omega
        subst this
        have e : gr 0 (1 - mk 0) = [] := rfl
        rw [e]
        exact ⟨List.pairwise_singleton _ _, rfl⟩
      | succ n =>
        have e := mk_step n
        have hr : r - mk (n + 1) < mk n := by
          have : mk (n + 1 + 1) = mk (n + 2) := rfl
          omega
        have e2 := gr_le (n := n) (m := n + 1) hr (by omega)
        obtain ⟨t, q⟩ := gr_ok n (r - mk (n + 1)) (by omega) hr
        rw [e2]
        refine ⟨TW_snoc.mpr ⟨t, fun y hy => ?_⟩, by rw [wth_snoc, q]; omega⟩
        have := gr_lt n _ y hy
        omega
    · rw [gr_neg c]
      exact gr_ok n r h0 (by omega)
theorem gr_one : ∀ (n : Nat) (R : List Nat), TW R → (∀ x ∈ R, x < n) → gr n (wth R) = R
  | 0, R, _, hb => by
    cases R with
    | nil => rfl
    | cons x R => have := hb x (by simp); omega
  | n + 1, R, ht, hb => by
    by_cases c : n ∈ R
    · rcases snoc_cases R with rfl | ⟨S, m, rfl⟩
      · simp at c
      · obtain ⟨hs, hg⟩ := TW_snoc.mp ht
        have em : m = n := by
          rcases List.mem_append.mp c with c | c
          · have := hg n c
            have := hb m (by simp)
            omega
          · have : n = m := by simpa using c
            omega
        subst em
        have hw := wth_nn S
        rw [wth_snoc, gr_pos (by omega), show wth S + mk m - mk m = wth S by omega, gr_one m S hs (fun x hx => by have := hg x hx; omega)]
    · have hb' : ∀ x ∈ R, x < n := fun x hx => by
        have h1 := hb x hx
        have h2 : x ≠ n := fun e => c (e ▸ hx)
        omega
      have := wth_below ht hb'
      rw [gr_neg (by omega), gr_one n R ht hb']
/-- the twinless row of a number -/
def zk (r : Int) : List Nat := gr r.toNat r
theorem lt_mk_toNat {r : Int} (h0 : 0 ≤ r) : r < mk r.toNat := by have := mk_gt r.toNat; omega
theorem gr_zk {n : Nat} {r : Int} (h0 : 0 ≤ r) (h : r < mk n) : gr n r = zk r := by
  unfold zk
  rcases Nat.le_total n r.toNat with c | c
  · exact (gr_le h c).symm
  · exact gr_le (lt_mk_toNat h0) c
theorem zk_tw {r : Int} (h0 : 0 ≤ r) : TW (zk r) := (gr_ok _ r h0 (lt_mk_toNat h0)).1
theorem zk_wth {r : Int} (h0 : 0 ≤ r) : wth (zk r) = r := (gr_ok _ r h0 (lt_mk_toNat h0)).2
theorem zk_lt {r : Int} {n : Nat} (h0 : 0 ≤ r) (h : r < mk n) : ∀ x ∈ zk r, x < n := by
  rw [← gr_zk h0 h]; exact gr_lt n r
theorem lt_of_all {R : List Nat} : ∃ n, ∀ x ∈ R, x < n := by
  induction R with
  | nil => exact ⟨0, fun _ h => nomatch h⟩
  | cons y R ih =>
    obtain ⟨n, h⟩ := ih
    refine ⟨max n (y + 1), fun x hx => ?_⟩
    rcases List.mem_cons.mp hx with e | hx
    · omega
    · have := h x hx; omega
theorem zk_one {R : List Nat} (h : TW R) : zk (wth R) = R := by
  obtain ⟨n, hn⟩ := lt_of_all (R := R)
  rw [← gr_zk (wth_nn R) (wth_below h hn)]
  exact gr_one n R h hn
theorem zk_ne {r : Int} (h : 1 ≤ r) : zk r ≠ [] := fun e => by
  have := zk_wth (r := r) (by omega)
  rw [e, wth_nil] at this
  omega
theorem zk_zero : zk 0 = [] := rfl
/-! ### one more -/
def up (s : Nat) (R : List Nat) : List Nat := R.map (· + s)
theorem up_cons (s x : Nat) (R : List Nat) : up s (x :: R) = (x + s) :: up s R := rfl
theorem up_tw {s : Nat} {R : List Nat} (h : TW R) : TW (up s R) := by
  unfold up TW
  rw [List.pairwise_map]
  exact List.Pairwise.imp (fun h => by omega) h
theorem carry : ∀ (R : List Nat) (j : Nat), TW R → (∀ x ∈ R, j + 1 ≤ x) → ∃ y S, TW (y :: S) ∧ wth (y :: S) = wth R + mk j ∧ wth (up 1 (y :: S)) = wth (up 1 R) + mk (j + 1) ∧ j ≤ y ∧ y % 2 = j % 2
  | [], j, _, _ => ⟨j, [], List.pairwise_singleton _ _, by rw [wth_cons]; omega, by rw [up_cons, wth_cons]; show mk (j + 1) + 0 = 0 + mk (j + 1); omega, Nat.le_refl _, rfl⟩
  | x :: T, j, ht, hb => by
    obtain ⟨hg, ht'⟩ := TW_cons.mp ht
    have hx := hb x (by simp)
    by_cases c : x = j + 1
    · subst c
      obtain ⟨y, S, h1, h2, h3, h4, h5⟩ := carry T (j + 2) ht' (fun z hz => by have := hg z hz; omega)
      refine ⟨y, S, h1, ?_, ?_, by omega, by omega⟩
      · rw [h2, wth_cons, mk_step]; omega
      · rw [h3, up_cons, wth_cons, show j + 2 + 1 = (j + 1) + 2 from rfl, mk_step]; show _ = mk (j + 1 + 1) + _ + _; omega
    · refine ⟨j, x :: T, TW_cons.mpr ⟨fun z hz => ?_, ht⟩, by rw [wth_cons]; omega, by rw [up_cons, wth_cons]; omega, Nat.le_refl _, rfl⟩
      rcases List.mem_cons.mp hz with e | hz
      · omega
      · have := hg z hz; omega
/-- the least place -/
def hd (R : List Nat) : Nat := R.headD 0
/-- S: the worth one place up -/
def sh (r : Int) : Int := wth (up 1 (zk r))
theorem zk_shape (r : Int) (h0 : 0 ≤ r) : (∀ x ∈ zk r, 1 ≤ x) ∨ ∃ T, zk r = 0 :: T ∧ (∀ x ∈ T, 2 ≤ x) ∧ TW T := by
  have t := zk_tw h0
  cases e : zk r with
  | nil => exact .inl fun _ h => nomatch h
  | cons x T =>
    rw [e] at t
    obtain ⟨hg, ht⟩ := TW_cons.mp t
    cases x with
    | zero => exact .inr ⟨T, rfl, fun y hy => by have := hg y hy; omega, ht⟩
    | succ x =>
      refine .inl fun y hy => ?_
      rcases List.mem_cons.mp hy with e | hy
      · omega
      · have := hg y hy; omega
theorem next_low {r : Int} (h0 : 0 ≤ r) (h : ∀ x ∈ zk r, 1 ≤ x) : hd (zk (r + 1)) % 2 = 0 ∧ sh (r + 1) = sh r + 2 := by
  obtain ⟨y, S, h1, h2, h3, h4, h5⟩ := carry (zk r) 0 (zk_tw h0) h
  have e : zk (r + 1) = y :: S := by
    rw [← zk_one h1, h2, zk_wth h0]; rfl
  unfold sh
  rw [e]
  exact ⟨by show y % 2 = 0; omega, by rw [h3]; rfl⟩
theorem next_high {r : Int} {T : List Nat} (h0 : 0 ≤ r) (e0 : zk r = 0 :: T) (hb : ∀ x ∈ T, 2 ≤ x) (ht : TW T) : hd (zk (r + 1)) % 2 = 1 ∧ sh (r + 1) = sh r + 1 := by
  obtain ⟨y, S, h1, h2, h3, h4, h5⟩ := carry T 1 ht hb
  have hw := zk_wth h0
  rw [e0, wth_cons] at hw
  have m0 : mk 0 = 1 := rfl
  have m1 : mk 1 = 2 := rfl
  have m2 : mk 2 = 3 := rfl
  have e : zk (r + 1) = y :: S := by
    rw [← zk_one h1, h2, show wth T + mk 1 = r + 1 by omega]
  unfold sh
  rw [e, e0]
  refine ⟨by show y % 2 = 1; omega, ?_⟩
  rw [h3, up_cons, wth_cons]
  show _ + mk 2 = mk 1 + _ + 1
  omega
theorem sh_step {r : Int} (h0 : 0 ≤ r) : sh (r + 1) = sh r + 1 ∨ sh (r + 1) = sh r + 2 := by
  rcases zk_shape r h0 with h | ⟨T, e, hb, ht⟩
  · exact .inr (next_low h0 h).2
  · exact .inl (next_high h0 e hb ht).2
theorem wth_up2 (R : List Nat) : wth (up 2 R) = wth (up 1 R) + wth R := by
  induction R with
  | nil => rfl
  | cons x R ih =>
    rw [up_cons, up_cons, wth_cons, wth_cons, wth_cons, ih, mk_step]; omega
/-! ### low and high -/
def lowN (c : Int) : Int := sh (c - 1) + 1
def highN (c : Int) : Int := lowN c + c
theorem zk_low {c : Int} (h : 1 ≤ c) : zk (lowN c - 1) = up 1 (zk (c - 1)) := by
  unfold lowN sh
  rw [show wth (up 1 (zk (c - 1))) + 1 - 1 = wth (up 1 (zk (c - 1))) by omega, zk_one (up_tw (zk_tw (by omega)))]
theorem zk_high {c : Int} (h : 1 ≤ c) : zk (highN c - 1) = 0 :: up 2 (zk (c - 1)) := by
  have t : TW (0 :: up 2 (zk (c - 1))) := TW_cons.mpr ⟨fun y hy => by
    obtain ⟨z, _, e⟩ := List.mem_map.mp hy
    omega, up_tw (zk_tw (by omega))⟩
  have e : wth (0 :: up 2 (zk (c - 1))) = highN c - 1 := by
    have m0 : mk 0 = 1 := rfl
    have q := zk_wth (r := c - 1) (by omega)
    rw [wth_cons, wth_up2, q, m0]
    unfold highN lowN sh
    omega
  rw [← e, zk_one t]
theorem sh_nn (r : Int) : 0 ≤ sh r := wth_nn _
theorem lowN_pos (c : Int) : 1 ≤ lowN c := by unfold lowN; have := sh_nn (c - 1); omega
/-- the row of a low number begins at an even place, that of a high one at an odd one -/
theorem low_even {c : Int} (h : 1 ≤ c) : hd (zk (lowN c)) % 2 = 0 := by
  have p := lowN_pos c
  have q := zk_low h
  have := (next_low (r := lowN c - 1) (by omega) (by
    rw [q]; intro x hx
    obtain ⟨z, _, e⟩ := List.mem_map.mp hx
    omega)).1
  rwa [show lowN c - 1 + 1 = lowN c by omega] at this
theorem high_odd {c : Int} (h : 1 ≤ c) : hd (zk (highN c)) % 2 = 1 := by
  have p : 1 ≤ highN c := by unfold highN; have := lowN_pos c; omega
  have q := zk_high h
  have := (next_high (r := highN c - 1) (by omega) q (by
    intro x hx
    obtain ⟨z, _, e⟩ := List.mem_map.mp hx
    omega) (up_tw (zk_tw (by omega)))).1
  rwa [show highN c - 1 + 1 = highN c by omega] at this
/-- places moved down -/
def dn (s : Nat) (R : List Nat) : List Nat := R.map (· - s)
theorem up_dn {s : Nat} : ∀ {R : List Nat}, (∀ x ∈ R, s ≤ x) → up s (dn s R) = R
  | [], _ => rfl
  | x :: R, h => by
    have hx := h x (by simp)
    show (x - s + s) :: up s (dn s R) = x :: R
    rw [up_dn fun y hy => h y (by simp [hy]), Nat.sub_add_cancel hx]
theorem dn_up (s : Nat) : ∀ (R : List Nat), dn s (up s R) = R
  | [] => rfl
  | x :: R => by
    show (x + s - s) :: dn s (up s R) = x :: R
    rw [dn_up s R, Nat.add_sub_cancel]
theorem dn_tw {s : Nat} {R : List Nat} (h : TW R) (hb : ∀ x ∈ R, s ≤ x) : TW (dn s R) := by
  have e : TW (up s (dn s R)) := by rw [up_dn hb]; exact h
  unfold TW up at e
  rw [List.pairwise_map] at e
  exact List.Pairwise.imp (fun h => by omega) e
/-- of a number whose row begins even: the low one of its count -/
theorem even_low {n : Int} (h : 1 ≤ n) (he : hd (zk n) % 2 = 0) : (∀ x ∈ zk (n - 1), 1 ≤ x) ∧ lowN (wth (dn 1 (zk (n - 1))) + 1) = n ∧ 1 ≤ wth (dn 1 (zk (n - 1))) + 1 := by
  rcases zk_shape (n - 1) (by omega) with hb | ⟨T, e, hb, ht⟩
  · refine ⟨hb, ?_, by have := wth_nn (dn 1 (zk (n - 1))); omega⟩
    unfold lowN sh
    rw [show wth (dn 1 (zk (n - 1))) + 1 - 1 = wth (dn 1 (zk (n - 1))) by omega, zk_one (dn_tw (zk_tw (by omega)) hb), up_dn hb, zk_wth (by omega)]
    omega
  · have := (next_high (r := n - 1) (by omega) e hb ht).1
    rw [show n - 1 + 1 = n by omega] at this
    omega
theorem odd_high {n : Int} (h : 1 ≤ n) (ho : ¬ hd (zk n) % 2 = 0) : ∃ T, zk (n - 1) = 0 :: T ∧ (∀ x ∈ T, 2 ≤ x) ∧ highN (wth (dn 2 T) + 1) = n ∧ 1 ≤ wth (dn 2 T) + 1 := by
  rcases zk_shape (n - 1) (by omega) with hb | ⟨T, e, hb, ht⟩
  · have := (next_low (r := n - 1) (by omega) hb).1
    rw [show n - 1 + 1 = n by omega] at this
    omega
  · refine ⟨T, e, hb, ?_, by have := wth_nn (dn 2 T); omega⟩
    have q := zk_wth (r := n - 1) (by omega)
    rw [e, wth_cons] at q
    have m0 : mk 0 = 1 := rfl
    have z := wth_up2 (dn 2 T)
    rw [up_dn hb] at z
    unfold highN lowN sh
    rw [show wth (dn 2 T) + 1 - 1 = wth (dn 2 T) by omega, zk_one (dn_tw ht hb)]
    omega
theorem low_step {c : Int} (h : 1 ≤ c) : lowN (c + 1) = lowN c + 1 ∨ lowN (c + 1) = lowN c + 2 := by
  unfold lowN
  have := sh_step (r := c - 1) (by omega)
  rw [show c - 1 + 1 = c by omega] at this
  rw [show c + 1 - 1 = c by omega]
  omega
theorem low_mono {a b : Int} (ha : 1 ≤ a) (h : a < b) : lowN a < lowN b := by
  have : ∀ k : Nat, lowN a < lowN (a + 1 + (k : Nat)) := by
    intro k
    induction k with
    | zero => have := low_step ha
              show lowN a < lowN (a + 1 + 0)
              rw [Int.add_zero]; omega
    | succ k ih =>
      have := low_step (c := a + 1 + (k : Nat)) (by omega)
      have e : a + 1 + ((k + 1 : Nat) : Int) = a + 1 + (k : Int) + 1 := by omega
      rw [e]; omega
  have q := this (b - a - 1).toNat
  rwa [show a + 1 + ((b - a - 1).toNat : Int) = b by omega] at q
theorem high_mono {a b : Int} (ha : 1 ≤ a) (h : a < b) : highN a < highN b := by
  have := low_mono ha h
  unfold highN; omega
/-! ### sizes -/
def fi : Nat → Int → Int → Int
  | 0, a, _ => a
  | n + 1, a, b => fi n b (b + a)
theorem fi_eq : ∀ (n k : Nat), fi n (mk k) (mk (k + 1)) = mk (k + n)
  | 0, k => rfl
  | n + 1, k => by
    have e := fi_eq n (k + 1)
    rw [fi, ← mk_step, show k + (n + 1) = k + 1 + n by omega]
    exact e
theorem mk_fi (n : Nat) : mk n = fi n 1 2 := by
  have e := fi_eq n 0
  rw [show 0 + n = n by omega] at e
  exact e.symm
theorem mk_double (n : Nat) : 2 * mk n ≤ mk (n + 2) := by
  rw [mk_step]
  have := mk_lt n
  omega
theorem mk_pow : ∀ k : Nat, (2 : Int) ^ k ≤ mk (2 * k)
  | 0 => by decide
  | k + 1 => by
    have h := mk_pow k
    have d := mk_double (2 * k)
    rw [show 2 * (k + 1) = 2 * k + 2 by omega, Int.pow_succ]
    omega
theorem mk_half {n : Nat} : mk (n + 1) ≤ 2 * mk n := by
  cases n with
  | zero => decide
  | succ n =>
    rw [mk_step]
    have := mk_lt n
    omega
theorem mk_ten (n : Nat) : 116 * mk (n + 1) ≤ mk (n + 11) := by
  have hp := mk_pos (n + 11)
  have h0 := mk_half (n := n)
  have e1 := mk_step n
  have e2 := mk_step (n + 1)
  have e3 := mk_step (n + 2)
  have e4 := mk_step (n + 3)
  have e5 := mk_step (n + 4)
  have e6 := mk_step (n + 5)
  have e7 := mk_step (n + 6)
  have e8 := mk_step (n + 7)
  have e9 := mk_step (n + 8)
  have e10 := mk_step (n + 9)
  simp only [Nat.add_assoc, Nat.reduceAdd] at *
  omega
theorem mk_tens : ∀ k : Nat, (116 : Int) ^ k ≤ mk (10 * k + 1)
  | 0 => by decide
  | k + 1 => by
    have h := mk_tens k
    have d := mk_ten (10 * k)
    rw [show 10 * (k + 1) + 1 = 10 * k + 11 by omega, Int.pow_succ]
    omega
theorem big80 : (10 : Int) ^ 80 < mk 391 := by
  have h := mk_tens 39
  have c : (10 : Int) ^ 80 < 116 ^ 39 := by decide +kernel
  exact Int.lt_of_lt_of_le c h
theorem big100 : (10 : Int) ^ 100 < mk 501 := by
  have h := mk_tens 50
  have c : (10 : Int) ^ 100 < 116 ^ 50 := by decide +kernel
  exact Int.lt_of_lt_of_le c h
/-! ### rows as whole numbers -/
def rz (R : List Nat) : List Int := R.map fun (k : Nat) => (k : Int)
theorem rz_length (R : List Nat) : (rz R).length = R.length := by simp [rz]
theorem rz_app (R S : List Nat) : rz (R ++ S) = rz R ++ rz S := by simp [rz]
theorem rz_rev (R : List Nat) : (rz R).reverse = rz R.reverse := by simp [rz]
theorem rz_up (s : Nat) (R : List Nat) : rz (up s R) = (rz R).map (· + (s : Int)) := by
  unfold rz up
  rw [List.map_map, List.map_map]
  apply List.map_congr_left
  intro x _
  show ((x + s : Nat) : Int) = (x : Int) + s
  omega
theorem rz_dn {s : Nat} {R : List Nat} (h : ∀ x ∈ R, s ≤ x) : rz (dn s R) = (rz R).map (· + (-(s : Int))) := by
  unfold rz dn
  rw [List.map_map, List.map_map]
  apply List.map_congr_left
  intro x hx
  have := h x hx
  show ((x - s : Nat) : Int) = (x : Int) + (-(s : Int))
  omega
def Asc (R : List Nat) : Prop := R.Pairwise (· < ·)
theorem TW.asc {R : List Nat} (h : TW R) : Asc R := List.Pairwise.imp (fun h => by omega) h
theorem Asc.last {S : List Nat} {x : Nat} (h : Asc (S ++ [x])) : ∀ y ∈ S ++ [x], y ≤ x := fun y hy => by
  rcases List.mem_append.mp hy with q | q
  · have := (List.pairwise_append.mp h).2.2 y q x (by simp)
    omega
  · have : y = x := by simpa using q
    omega
theorem tw_len : ∀ (k : Nat) (R : List Nat) (n : Nat), R.length ≤ k → Asc R → (∀ x ∈ R, x < n) → R.length ≤ n
  | 0, R, n, hl, _, _ => by omega
  | k + 1, R, n, hl, ht, hb => by
    rcases snoc_cases R with rfl | ⟨S, m, rfl⟩
    · simp
    · have hm : m < n := hb m (by simp)
      have hs : Asc S := (List.pairwise_append.mp ht).1
      have hl' : S.length ≤ k := by simp at hl; omega
      have := tw_len k S m hl' hs (fun x hx => (List.pairwise_append.mp ht).2.2 x hx m (by simp))
      simp
      omega
theorem asc_len {R : List Nat} {n : Nat} (h : Asc R) (hb : ∀ x ∈ R, x < n) : R.length ≤ n := tw_len R.length R n (Nat.le_refl _) h hb
theorem zk_len {r : Int} {n : Nat} (h0 : 0 ≤ r) (h : r < mk n) : (zk r).length ≤ n := asc_len (zk_tw h0).asc (zk_lt h0 h)
theorem up1_le : ∀ R : List Nat, wth R ≤ wth (up 1 R) ∧ wth (up 1 R) ≤ 2 * wth R
  | [] => by decide
  | x :: R => by
    have ih := up1_le R
    have h1 := mk_lt x
    have h2 := mk_half (n := x)
    rw [up_cons, wth_cons, wth_cons]
    omega
theorem low_le {c : Int} (h : 1 ≤ c) : c ≤ lowN c ∧ lowN c ≤ 2 * c := by
  have b := up1_le (zk (c - 1))
  have e := zk_wth (r := c - 1) (by omega)
  unfold lowN sh
  omega
theorem low_inj {a b : Int} (ha : 1 ≤ a) (hb : 1 ≤ b) (h : lowN a = lowN b) : a = b := by
  rcases Int.lt_trichotomy a b with c | c | c
  · have := low_mono ha c; omega
  · exact c
  · have := low_mono hb c; omega
theorem high_inj {a b : Int} (ha : 1 ≤ a) (hb : 1 ≤ b) (h : highN a = highN b) : a = b := by
  rcases Int.lt_trichotomy a b with c | c | c
  · have := high_mono ha c; omega
  · exact c
  · have := high_mono hb c; omega
/-- the count that is told -/
def cnt (n : Int) : Int := if hd (zk n) % 2 = 0 then wth (dn 1 (zk (n - 1))) + 1 else wth (dn 2 (zk (n - 1)).tail) + 1
theorem cnt_even {n : Int} (h : 1 ≤ n) (he : hd (zk n) % 2 = 0) : lowN (cnt n) = n ∧ 1 ≤ cnt n := by
  unfold cnt
  rw [if_pos he]
  exact (even_low h he).2
theorem cnt_odd {n : Int} (h : 1 ≤ n) (ho : ¬ hd (zk n) % 2 = 0) : highN (cnt n) = n ∧ 1 ≤ cnt n := by
  obtain ⟨T, e, _, q⟩ := odd_high h ho
  unfold cnt
  rw [if_neg ho, e]
  exact q
theorem cnt_le {n : Int} (h : 1 ≤ n) : 1 ≤ cnt n ∧ cnt n ≤ n := by
  by_cases he : hd (zk n) % 2 = 0
  · obtain ⟨q, p⟩ := cnt_even h he
    have := low_le p
    omega
  · obtain ⟨q, p⟩ := cnt_odd h he
    have := low_le p
    unfold highN at q
    omega
theorem cnt_low {c : Int} (h : 1 ≤ c) : cnt (lowN c) = c := by
  obtain ⟨q, p⟩ := cnt_even (n := lowN c) (lowN_pos c) (low_even h)
  exact low_inj p h q
theorem highN_pos {c : Int} (h : 1 ≤ c) : 1 ≤ highN c := by
  have := lowN_pos c
  unfold highN
  omega
theorem cnt_high {c : Int} (h : 1 ≤ c) : cnt (highN c) = c := by
  have ho := high_odd h
  obtain ⟨q, p⟩ := cnt_odd (n := highN c) (highN_pos h) (by omega)
  exact high_inj p h q
end Tw
set_option linter.all false
/-! the endless word -/
namespace Tw
/-- the sign at k: 97 a, 98 b -/
def sg (k : Int) : Nat := if 0 ∈ zk k then 98 else 97
def pc (k : Int) (n : Nat) : List Nat := (List.range n).map fun (i : Nat) => sg (k + i)
theorem pc_length (k : Int) (n : Nat) : (pc k n).length = n := by simp [pc]
theorem pc_succ (k : Int) (n : Nat) : pc k (n + 1) = pc k n ++ [sg (k + n)] := by simp [pc, List.range_succ]
theorem pc_take {k : Int} {m n : Nat} (h : m ≤ n) : (pc k n).take m = pc k m := by
  unfold pc
  rw [← List.map_take, List.take_range, Nat.min_eq_left h]
theorem pc_get {k : Int} {n i : Nat} (h : i < n) : (pc k n)[i]? = some (sg (k + i)) := by simp [pc, h]
theorem sg_ab (k : Int) : sg k = 97 ∨ sg k = 98 := by unfold sg; split <;> simp
theorem pc_ab {k : Int} {n c : Nat} (h : c ∈ pc k n) : c = 97 ∨ c = 98 := by
  obtain ⟨i, _, rfl⟩ := List.mem_map.mp h
  exact sg_ab _
def grow (l : List Nat) : List Nat := l.flatMap fun c => if c = 97 then [97, 98] else [97]
theorem grow_app (l m : List Nat) : grow (l ++ m) = grow l ++ grow m := by simp [grow, List.flatMap_append]
theorem zero_mem_low {r : Int} (h0 : 0 ≤ r) (h : ∀ x ∈ zk r, 1 ≤ x) : ¬ 0 ∈ zk r := fun z => by have := h 0 z; omega
theorem sg_a_iff {r : Int} (h0 : 0 ≤ r) : sg r = 97 ↔ ∀ x ∈ zk r, 1 ≤ x := by
  unfold sg
  constructor
  · intro h x hx
    rcases Nat.eq_zero_or_pos x with z | z
    · subst z
      rw [if_pos hx] at h
      cases h
    · exact z
  · intro h
    rw [if_neg (zero_mem_low h0 h)]
theorem sh_zero : sh 0 = 0 := rfl
/-- how far the word grows: the beginning of n signs grows to one of sh n signs -/
theorem sg_sh {r : Int} (h0 : 0 ≤ r) : sg (sh r) = 97 := by
  have e : zk (sh r) = up 1 (zk r) := by unfold sh; exact zk_one (up_tw (zk_tw h0))
  rw [sg_a_iff (sh_nn r), e]
  intro x hx
  obtain ⟨y, _, rfl⟩ := List.mem_map.mp hx
  omega
theorem sg_sh1 {r : Int} (h0 : 0 ≤ r) (ha : sg r = 97) : sg (sh r + 1) = 98 := by
  have hb := (sg_a_iff h0).mp ha
  have t : TW (0 :: up 1 (zk r)) := TW_cons.mpr ⟨fun y hy => by
    obtain ⟨z, hz, rfl⟩ := List.mem_map.mp hy
    have := hb z hz
    omega, up_tw (zk_tw h0)⟩
  have e : zk (sh r + 1) = 0 :: up 1 (zk r) := by
    have w : wth (0 :: up 1 (zk r)) = sh r + 1 := by rw [wth_cons]; unfold sh; show 1 + _ = _; omega
    rw [← w, zk_one t]
  unfold sg
  rw [e, if_pos (by simp)]
theorem sh_a {r : Int} (h0 : 0 ≤ r) (ha : sg r = 97) : sh (r + 1) = sh r + 2 := (next_low h0 ((sg_a_iff h0).mp ha)).2
theorem sh_b {r : Int} (h0 : 0 ≤ r) (hb : sg r = 98) : sh (r + 1) = sh r + 1 := by
  rcases zk_shape r h0 with h | ⟨T, e, hb', ht⟩
  · have := (sg_a_iff h0).mpr h
    omega
  · exact (next_high h0 e hb' ht).2
theorem grow_pc (n : Nat) : grow (pc 0 n) = pc 0 (sh (n : Int)).toNat := by
  induction n with
  | zero => rfl
  | succ n ih =>
    have h0 : (0 : Int) ≤ (n : Int) := by omega
    have hs := sh_nn (n : Int)
    rw [pc_succ, grow_app, ih, Int.zero_add]
    have en : ((n + 1 : Nat) : Int) = (n : Int) + 1 := by omega
    have es : ((sh (n : Int)).toNat : Int) = sh n := by omega
    have a1 := sg_sh h0
    rcases sg_ab (n : Int) with h | h
    · have e2 := sh_a h0 h
      have b1 := sg_sh1 h0 h
      rw [en, e2, show (sh (n : Int) + 2).toNat = (sh (n : Int)).toNat + 1 + 1 by omega, pc_succ, pc_succ, h]
      rw [show (0 : Int) + (((sh (n : Int)).toNat : Nat) : Int) = sh n by omega, show (0 : Int) + (((sh (n : Int)).toNat + 1 : Nat) : Int) = sh n + 1 by omega, a1, b1]
      simp [grow]
    · have e2 := sh_b h0 h
      rw [en, e2, show (sh (n : Int) + 1).toNat = (sh (n : Int)).toNat + 1 by omega, pc_succ, h]
      rw [show (0 : Int) + (((sh (n : Int)).toNat : Nat) : Int) = sh n by omega, a1]
      simp [grow]
/-! counts of signs ahead -/
theorem cnt_ahead (n : Nat) : ((pc 0 n).count 97 : Int) = sh n - n ∧ ((pc 0 n).count 98 : Int) = 2 * n - sh n := by
  induction n with
  | zero => exact ⟨rfl, rfl⟩
  | succ n ih =>
    have h0 : (0 : Int) ≤ (n : Int) := by omega
    have en : ((n + 1 : Nat) : Int) = (n : Int) + 1 := by omega
    rw [pc_succ, List.count_append, List.count_append, Int.zero_add, en]
    rcases sg_ab (n : Int) with h | h
    · rw [sh_a h0 h, h]
      have e1 : List.count 97 [97] = 1 := by decide
      have e2 : List.count 98 [97] = 0 := by decide
      rw [e1, e2]
      omega
    · rw [sh_b h0 h, h]
      have e1 : List.count 97 [98] = 0 := by decide
      have e2 : List.count 98 [98] = 1 := by decide
      rw [e1, e2]
      omega
/-- where the c-th a, and the c-th b stands -/
theorem low_sign {c : Int} (h : 1 ≤ c) : sg (lowN c - 1) = 97 ∧ sh (lowN c - 1) - (lowN c - 1) = c - 1 := by
  have p := lowN_pos c
  have q := zk_low h
  refine ⟨(sg_a_iff (by omega)).mpr ?_, ?_⟩
  · rw [q]
    intro x hx
    obtain ⟨y, _, rfl⟩ := List.mem_map.mp hx
    omega
  · have e : sh (lowN c - 1) = wth (up 1 (up 1 (zk (c - 1)))) := by unfold sh; rw [q]
    have u : up 1 (up 1 (zk (c - 1))) = up 2 (zk (c - 1)) := by unfold up; rw [List.map_map]; rfl
    have w := wth_up2 (zk (c - 1))
    have z := zk_wth (r := c - 1) (by omega)
    have l : lowN c - 1 = wth (up 1 (zk (c - 1))) := by unfold lowN sh; omega
    rw [e, u, w, z]
    omega
theorem wth_up3 (R : List Nat) : wth (up 1 (up 2 R)) = wth (up 2 R) + wth (up 1 R) := by
  induction R with
  | nil => rfl
  | cons x R ih =>
    rw [up_cons, up_cons, up_cons, wth_cons, wth_cons, wth_cons, ih]
    have := mk_step (x + 1)
    show mk (x + 2 + 1) + _ = _
    rw [show x + 2 + 1 = x + 1 + 2 by omega, this]
    show mk (x + 1 + 1) + _ + _ = mk (x + 2) + _ + _
    rw [show x + 1 + 1 = x + 2 by omega]
    omega
theorem high_sign {c : Int} (h : 1 ≤ c) : sg (highN c - 1) = 98 ∧ 2 * (highN c - 1) - sh (highN c - 1) = c - 1 := by
  have p := highN_pos h
  have q := zk_high h
  refine ⟨by unfold sg; rw [q, if_pos (by simp)], ?_⟩
  have e : sh (highN c - 1) = 2 + (wth (up 2 (zk (c - 1))) + wth (up 1 (zk (c - 1)))) := by
    unfold sh
    rw [q, up_cons, wth_cons, wth_up3]
    rfl
  have w := wth_up2 (zk (c - 1))
  have z := zk_wth (r := c - 1) (by omega)
  have l : highN c - 1 = wth (up 1 (zk (c - 1))) + c := by unfold highN lowN sh; omega
  rw [e, w, z]
  omega
/-- the place of a sign by its count -/
theorem place_a {k : Int} (h0 : 0 ≤ k) (h : sg k = 97) : lowN (sh k - k + 1) = k + 1 := by
  have he := (next_low h0 ((sg_a_iff h0).mp h)).1
  obtain ⟨q, p⟩ := cnt_even (n := k + 1) (by omega) he
  have e := (low_sign p).2
  rw [q, show k + 1 - 1 = k by omega] at e
  rw [e, show cnt (k + 1) - 1 + 1 = cnt (k + 1) by omega, q]
theorem place_b {k : Int} (h0 : 0 ≤ k) (h : sg k = 98) : highN (2 * k - sh k + 1) = k + 1 := by
  have ho : ¬ hd (zk (k + 1)) % 2 = 0 := by
    rcases zk_shape k h0 with hb | ⟨T, e, hb', ht⟩
    · have := (sg_a_iff h0).mpr hb
      omega
    · have := (next_high h0 e hb' ht).1
      omega
  obtain ⟨q, p⟩ := cnt_odd (n := k + 1) (by omega) ho
  have e := (high_sign p).2
  rw [q, show k + 1 - 1 = k by omega] at e
  rw [e, show cnt (k + 1) - 1 + 1 = cnt (k + 1) by omega, q]
theorem sh_b1 {r : Int} (h0 : 0 ≤ r) : r ≤ sh r ∧ sh r ≤ 2 * r := by
  have b := up1_le (zk r)
  have e := zk_wth h0
  unfold sh
  omega
end Tw
set_option linter.all false
/-! numbers written one behind the other -/
namespace Tw
/-- the sign at a place: 1 where the place is in the row -/
def bit (R : List Nat) (p : Nat) : Nat := if p ∈ R then 49 else 48
def topP (R : List Nat) : Nat := R.getLastD 0
def bits (R : List Nat) (n : Nat) : List Nat := (List.range n).map (bit R)
def codeN (n : Int) : List Nat := bits (zk n) (topP (zk n) + 1) ++ [49]
def codes (ns : List Int) : List Nat := (ns.map codeN).flatten
theorem bits_length (R : List Nat) (n : Nat) : (bits R n).length = n := by simp [bits]
theorem bits_nil (n : Nat) : bits [] n = (List.range n).map (fun _ => 48) := by simp [bits, bit]
theorem bits_set {R : List Nat} {p n : Nat} : (bits R n).set p 49 = bits (R ++ [p]) n := by
  apply List.ext_getElem?
  intro i
  unfold bits
  by_cases hi : i < n
  · rw [List.getElem?_set, List.getElem?_map, List.getElem?_map, List.getElem?_range hi, List.length_map, List.length_range]
    by_cases e : p = i
    · subst e
      rw [if_pos rfl, if_pos hi]
      show some 49 = some (bit (R ++ [p]) p)
      unfold bit
      rw [if_pos (by simp)]
    · rw [if_neg e]
      show some (bit R i) = some (bit (R ++ [p]) i)
      unfold bit
      by_cases h : i ∈ R
      · rw [if_pos h, if_pos (by simp [h])]
      · rw [if_neg h, if_neg (by simp [h]; exact fun z => e z.symm)]
  · rw [List.getElem?_eq_none (by simp; omega), List.getElem?_eq_none (by simp; omega)]
theorem top_last {S : List Nat} {x : Nat} : topP (S ++ [x]) = x := by simp [topP, List.getLastD_eq_getLast?]
theorem zk_top {n : Int} (h : 1 ≤ n) : ∃ S, zk n = S ++ [topP (zk n)] := by
  rcases snoc_cases (zk n) with e | ⟨S, x, e⟩
  · exact absurd e (zk_ne h)
  · exact ⟨S, by rw [e, top_last]⟩
theorem zk_le_top {n : Int} (h : 1 ≤ n) : ∀ x ∈ zk n, x ≤ topP (zk n) := by
  obtain ⟨S, e⟩ := zk_top h
  have ha := (zk_tw (r := n) (by omega)).asc
  rw [e] at ha
  intro x hx
  rw [e] at hx
  exact ha.last x hx
theorem top_lt {n : Int} {k : Nat} (h : 1 ≤ n) (h2 : n < mk k) : topP (zk n) < k := by
  obtain ⟨S, e⟩ := zk_top h
  exact zk_lt (by omega) h2 _ (by rw [e, top_last]; simp)
theorem code_length {n : Int} : (codeN n).length = topP (zk n) + 2 := by simp [codeN, bits_length]
theorem codes_length {ns : List Int} {k : Nat} (h : ∀ n ∈ ns, 1 ≤ n ∧ n < mk k) : (codes ns).length ≤ (k + 1) * ns.length := by
  unfold codes
  induction ns with
  | nil => simp
  | cons n ns ih =>
    have h1 := ih fun x hx => h x (List.mem_cons_of_mem _ hx)
    have h2 := h n (by simp)
    have h3 := top_lt h2.1 h2.2
    rw [List.map_cons, List.flatten_cons, List.length_append, List.length_cons, code_length, Nat.mul_add]
    omega
end Tw
set_option linter.all false
/-! what was written is read back -/
namespace Tw
def rdb : List Nat → Nat → Bool → List Nat → Option (List Int)
  | _, place, _, [] => if place = 0 then some [] else none
  | row, place, last, c :: t =>
    if c = 49 ∧ last = true then (rdb [] 0 false t).map (wth row :: ·)
    else if c = 48 ∨ c = 49 then rdb (if c = 49 then row ++ [place] else row) (place + 1) (decide (c = 49)) t
    else none
def rd (l : List Nat) : Option (List Int) := rdb [] 0 false l
theorem asc_filter : ∀ {R : List Nat} (i : Nat), Asc R → R.filter (fun x => decide (x < i + 1)) = R.filter (fun x => decide (x < i)) ++ (if i ∈ R then [i] else [])
  | [], i, _ => by simp
  | x :: S, i, h => by
    have h1 := (List.pairwise_cons.mp h).1
    have ih := asc_filter (R := S) i (List.pairwise_cons.mp h).2
    rcases Nat.lt_trichotomy x i with e | e | e
    · rw [List.filter_cons, List.filter_cons, decide_eq_true (by omega : x < i + 1), decide_eq_true e, if_pos rfl, if_pos rfl, ih, List.cons_append]
      congr 2
      by_cases hi : i ∈ S
      · rw [if_pos hi, if_pos (List.mem_cons_of_mem _ hi)]
      · rw [if_neg hi, if_neg (by simp [hi]; omega)]
    · subst e
      have n1 : S.filter (fun y => decide (y < x + 1)) = [] := List.filter_eq_nil_iff.mpr fun y hy => by have := h1 y hy; simp; omega
      have n2 : S.filter (fun y => decide (y < x)) = [] := List.filter_eq_nil_iff.mpr fun y hy => by have := h1 y hy; simp; omega
      rw [List.filter_cons, List.filter_cons, n1, n2, decide_eq_true (by omega : x < x + 1), decide_eq_false (by omega : ¬ x < x), if_pos rfl, if_neg Bool.false_ne_true, if_pos (by simp)]
      rfl
    · have n1 : (x :: S).filter (fun y => decide (y < i + 1)) = [] := List.filter_eq_nil_iff.mpr fun y hy => by
        rcases List.mem_cons.mp hy with z | z
        · simp; omega
        · have := h1 y z; simp; omega
      have n2 : (x :: S).filter (fun y => decide (y < i)) = [] := List.filter_eq_nil_iff.mpr fun y hy => by
        rcases List.mem_cons.mp hy with z | z
        · simp; omega
        · have := h1 y z; simp; omega
      rw [n1, n2, if_neg]
      · rfl
      · intro z
        rcases List.mem_cons.mp z with z | z
        · omega
        · have := h1 i z; omega
theorem tw_next {R : List Nat} {i : Nat} (h : TW R) (h1 : i ∈ R) (h2 : i + 1 ∈ R) : False := by
  induction R with
  | nil => cases h1
  | cons x S ih =>
    have hx := TW_cons.mp h
    rcases List.mem_cons.mp h1 with e1 | e1
    · rcases List.mem_cons.mp h2 with e2 | e2
      · omega
      · have := hx.1 _ e2; omega
    · rcases List.mem_cons.mp h2 with e2 | e2
      · have := hx.1 _ e1; omega
      · exact ih hx.2 e1 e2
theorem bits_from (R : List Nat) {i n : Nat} (h : i < n) : (bits R n).drop i = bit R i :: (bits R n).drop (i + 1) := by
  have hl : i < (bits R n).length := by rw [bits_length]; exact h
  rw [List.drop_eq_getElem_cons hl]
  congr 1
  simp [bits]
theorem rd_row {R : List Nat} (ht : TW R) {m : Nat} (hm : m ∈ R) (hb : ∀ x ∈ R, x ≤ m) (t : List Nat) : ∀ (d i : Nat), i + d = m + 1 →
    rdb (R.filter fun x => decide (x < i)) i (decide (1 ≤ i ∧ i - 1 ∈ R)) ((bits R (m + 1)).drop i ++ 49 :: t) = (rd t).map (wth R :: ·)
  | 0, i, e => by
    have e : i = m + 1 := by omega
    subst e
    have hf : R.filter (fun x => decide (x < m + 1)) = R := List.filter_eq_self.mpr fun x hx => by have := hb x hx; simp; omega
    rw [List.drop_of_length_le (by rw [bits_length]; exact Nat.le_refl _), List.nil_append, hf, rdb, if_pos ⟨rfl, decide_eq_true ⟨by omega, hm⟩⟩]
    rfl
  | d + 1, i, e => by
    have ih := rd_row ht hm hb t d (i + 1) (by omega)
    rw [bits_from R (by omega), List.cons_append, rdb]
    unfold bit
    by_cases hi : i ∈ R
    · have hl : ¬ (1 ≤ i ∧ i - 1 ∈ R) := fun z => tw_next ht z.2 (by rw [show i - 1 + 1 = i by omega]; exact hi)
      rw [if_pos hi, if_neg (by rw [decide_eq_false hl]; simp), if_pos (.inr rfl), if_pos rfl]
      rw [asc_filter i ht.asc, if_pos hi] at ih
      rw [← ih, decide_eq_true (rfl : (49 : Nat) = 49), decide_eq_true (p := 1 ≤ i + 1 ∧ i + 1 - 1 ∈ R) ⟨by omega, hi⟩]
    · rw [if_neg hi, if_neg (by simp), if_pos (.inl rfl), if_neg (by decide)]
      rw [asc_filter i ht.asc, if_neg hi, List.append_nil] at ih
      rw [← ih, decide_eq_false (by decide : ¬ (48 : Nat) = 49), decide_eq_false (p := 1 ≤ i + 1 ∧ i + 1 - 1 ∈ R) (fun z => hi z.2)]
theorem top_mem {n : Int} (h : 1 ≤ n) : topP (zk n) ∈ zk n := by
  obtain ⟨S, e⟩ := zk_top h
  rw [e, top_last]
  simp
theorem rd_code {n : Int} (h : 1 ≤ n) (t : List Nat) : rd (codeN n ++ t) = (rd t).map (n :: ·) := by
  have hh := rd_row (zk_tw (r := n) (by omega)) (top_mem h) (zk_le_top h) t (topP (zk n) + 1) 0 (by omega)
  have e : (zk n).filter (fun x => decide (x < 0)) = [] := List.filter_eq_nil_iff.mpr fun x _ => by simp
  rw [e, decide_eq_false (by omega), List.drop_zero, zk_wth (by omega)] at hh
  unfold codeN
  rw [List.append_assoc]
  exact hh
theorem codes_cons (n : Int) (ns : List Int) : codes (n :: ns) = codeN n ++ codes ns := rfl
theorem rd_codes : ∀ {ns : List Int} (t : List Nat), (∀ n ∈ ns, 1 ≤ n) → rd (codes ns ++ t) = (rd t).map (ns ++ ·)
  | [], t, _ => by
    show rd t = _
    cases rd t <;> rfl
  | n :: ns, t, h => by
    rw [codes_cons, List.append_assoc, rd_code (h n (by simp)), rd_codes t fun x hx => h x (List.mem_cons_of_mem _ hx)]
    cases rd t <;> rfl
theorem rd_all {ns : List Int} (h : ∀ n ∈ ns, 1 ≤ n) : rd (codes ns) = some ns := by
  have := rd_codes (ns := ns) [] h
  rw [List.append_nil] at this
  rw [this]
  show some (ns ++ []) = _
  rw [List.append_nil]
/-- 0, 1, 1: a number ends there -/
theorem code_get {n : Int} {i : Nat} (h : i ≤ topP (zk n)) : (codeN n)[i]? = some (bit (zk n) i) := by
  unfold codeN
  rw [List.getElem?_append_left (by rw [bits_length]; omega)]
  simp [bits, Nat.lt_succ_of_le h]
theorem bit49 {R : List Nat} {i : Nat} : bit R i = 49 ↔ i ∈ R := by
  unfold bit
  by_cases h : i ∈ R
  · simp [h]
  · simp [h]
theorem ends_at : ∀ {ns : List Int} {k : Nat}, (∀ n ∈ ns, 1 ≤ n) → (codes ns)[k]? = some 48 → (codes ns)[k + 1]? = some 49 → (codes ns)[k + 2]? = some 49 →
    ∃ j, j < ns.length ∧ k + 3 = (codes (ns.take (j + 1))).length
  | [], k, _, h0, _, _ => by simp [codes] at h0
  | n :: ns, k, h, h0, h1, h2 => by
    rw [codes_cons] at h0 h1 h2
    have hn := h n (by simp)
    have hl : (codeN n).length = topP (zk n) + 2 := code_length
    have last : (codeN n)[topP (zk n) + 1]? = some 49 := by
      unfold codeN
      rw [List.getElem?_append_right (by rw [bits_length]; exact Nat.le_refl _), bits_length]
      simp
    by_cases hk : k < topP (zk n) + 2
    · refine ⟨0, by simp, ?_⟩
      rw [List.getElem?_append_left (by omega)] at h0
      have hk1 : k ≤ topP (zk n) := by
        rcases Nat.lt_or_ge (topP (zk n)) k with z | z
        · rw [show k = topP (zk n) + 1 by omega, last] at h0; cases h0
        · exact z
      have hk2 : k ≠ topP (zk n) := fun e => by
        rw [e, code_get (Nat.le_refl _), bit49.mpr (top_mem hn)] at h0
        cases h0
      rw [List.getElem?_append_left (by omega), code_get (by omega)] at h1
      have m1 := bit49.mp (Option.some.inj h1)
      have hk3 : ¬ k + 2 ≤ topP (zk n) := fun z => by
        rw [List.getElem?_append_left (by omega), code_get z] at h2
        exact tw_next (zk_tw (r := n) (by omega)) m1 (bit49.mp (Option.some.inj h2))
      show k + 3 = (codes ((n :: ns).take 1)).length
      have : (codes ((n :: ns).take 1)).length = (codeN n).length := by simp [codes]
      omega
    · rw [List.getElem?_append_right (by omega), hl] at h0 h1 h2
      obtain ⟨j, j1, j2⟩ := ends_at (k := k - (topP (zk n) + 2)) (fun x hx => h x (List.mem_cons_of_mem _ hx)) h0 (by rw [← h1]; congr 1; omega) (by rw [← h2]; congr 1; omega)
      refine ⟨j + 1, by simp; omega, ?_⟩
      rw [List.take_succ_cons, codes_cons, List.length_append, hl]
      omega
theorem codes_app (a b : List Int) : codes (a ++ b) = codes a ++ codes b := by simp [codes]
theorem codes_drop (ns : List Int) (j : Nat) : (codes ns).drop (codes (ns.take j)).length = codes (ns.drop j) := by
  have : codes ns = codes (ns.take j) ++ codes (ns.drop j) := by rw [← codes_app, List.take_append_drop]
  rw [this, List.drop_left' rfl]
end Tw
namespace Tw
def S3 (l : List Nat) (k : Nat) : Prop := (l.drop k).take 3 = [48, 49, 49]
instance (l : List Nat) (k : Nat) : Decidable (S3 l k) := by unfold S3; infer_instance
theorem S3_len {l : List Nat} {k : Nat} (h : S3 l k) : k + 3 ≤ l.length := by
  have := congrArg List.length h
  rw [List.length_take, List.length_drop] at this
  have e : ([48, 49, 49] : List Nat).length = 3 := rfl
  omega
theorem S3_get {l : List Nat} {k : Nat} (h : S3 l k) : l[k]? = some 48 ∧ l[k + 1]? = some 49 ∧ l[k + 2]? = some 49 := by
  have g : ∀ i, i < 3 → l[k + i]? = ([48, 49, 49] : List Nat)[i]? := fun i hi => by
    rw [← h, List.getElem?_take_of_lt hi, List.getElem?_drop]
  exact ⟨g 0 (by omega), g 1 (by omega), g 2 (by omega)⟩
theorem S3_drop {l : List Nat} {b k : Nat} : S3 (l.drop b) k ↔ S3 l (b + k) := by unfold S3; rw [List.drop_drop]
def AtOk (l : List Nat) (lo : Nat) (A : Int) : Prop := (A = -1 ∧ ∀ k, lo ≤ k → ¬ S3 l k) ∨ ∃ k : Nat, lo ≤ k ∧ S3 l k ∧ (∀ k', lo ≤ k' → k' < k → ¬ S3 l k') ∧ A = (k : Int) + 3
theorem at_start (l : List Nat) : AtOk l (l.length - 1) (-1) := .inl ⟨rfl, fun k hk h => by have := S3_len h; omega⟩
theorem at_yes {l : List Nat} {lo : Nat} (h : S3 l lo) : AtOk l lo ((lo : Int) + 3) := .inr ⟨lo, Nat.le_refl _, h, fun k' a b => by omega, rfl⟩
theorem at_no {l : List Nat} {lo : Nat} {A : Int} (h : ¬ S3 l lo) (o : AtOk l (lo + 1) A) : AtOk l lo A := by
  rcases o with ⟨e, n⟩ | ⟨k, a, b, c, d⟩
  · refine .inl ⟨e, fun k hk => ?_⟩
    rcases Nat.eq_or_lt_of_le hk with z | z
    · rw [← z]; exact h
    · exact n k z
  · refine .inr ⟨k, by omega, b, fun k' hk hlt => ?_, d⟩
    rcases Nat.eq_or_lt_of_le hk with z | z
    · rw [← z]; exact h
    · exact c k' z hlt
theorem at_past {l : List Nat} {A : Int} (h : AtOk l (l.length - 1) A) : AtOk l l.length A := by
  rcases h with ⟨e, n⟩ | ⟨k, a, b, c, d⟩
  · exact .inl ⟨e, fun k hk => n k (by omega)⟩
  · have := S3_len b; omega
def caughtIs (l : List Nat) (ns : List Int) : Prop := ((∀ k, ¬ S3 l k) ∧ ns = []) ∨ ∃ k, S3 l k ∧ (∀ k', k' < k → ¬ S3 l k') ∧ rd (l.drop (k + 3)) = some ns
/-- where number j ends -/
def endN (xs : List Int) (j : Nat) : Nat := (codes (xs.take (j + 1))).length
theorem end_step {xs : List Int} {j : Nat} (h : j + 1 < xs.length) : endN xs j < endN xs (j + 1) := by
  unfold endN
  have e : xs.take (j + 1 + 1) = xs.take (j + 1) ++ [xs[j + 1]] := by rw [List.take_add_one, List.getElem?_eq_getElem h]; rfl
  rw [e, codes_app, List.length_append]
  have : (codes [xs[j + 1]]).length = (codeN xs[j + 1]).length := by simp [codes]
  rw [this, code_length]
  omega
theorem end_lt {xs : List Int} {i : Nat} : ∀ {j : Nat}, i < j → j < xs.length → endN xs i < endN xs j
  | 0, h, _ => by omega
  | j + 1, h, hj => by
    rcases Nat.eq_or_lt_of_le (Nat.le_of_lt_succ h) with e | e
    · rw [e]; exact end_step hj
    · have := end_lt (xs := xs) e (by omega); have := end_step hj; omega
theorem end_inj {xs : List Int} {i j : Nat} (hi : i < xs.length) (hj : j < xs.length) (h : endN xs i = endN xs j) : i = j := by
  rcases Nat.lt_trichotomy i j with z | z | z
  · have := end_lt z hj; omega
  · exact z
  · have := end_lt z hi; omega
theorem filter_one : ∀ {n j : Nat} {p : Nat → Bool}, j < n → (∀ i, i < n → (p i = true ↔ i = j)) → (List.range n).filter p = [j]
  | 0, _, _, h, _ => by omega
  | n + 1, j, p, h, hp => by
    rw [List.range_succ, List.filter_append]
    rcases Nat.eq_or_lt_of_le (Nat.le_of_lt_succ h) with e | e
    · subst e
      have n1 : (List.range j).filter p = [] := List.filter_eq_nil_iff.mpr fun i hi z => by
        have hi' := List.mem_range.mp hi
        have := (hp i (by omega)).mp z
        omega
      rw [n1, List.filter_cons, (hp j (by omega)).mpr rfl]
      rfl
    · have ih := filter_one e fun i hi => hp i (by omega)
      have n1 : p n = false := by
        cases z : p n with
        | false => rfl
        | true => have := (hp n (by omega)).mp z; omega
      rw [ih, List.filter_cons, n1]
      rfl
/-- what is caught of a rest -/
theorem caught_at {xs : List Int} {b : Nat} {A : Int} (hx : ∀ x ∈ xs, 1 ≤ x) (h : AtOk (codes xs) b A) :
    (A = -1 ∧ caughtIs ((codes xs).drop b) []) ∨ ∃ j, j < xs.length ∧ A = ((endN xs j : Nat) : Int) ∧ caughtIs ((codes xs).drop b) (xs.drop (j + 1)) := by
  rcases h with ⟨e, n⟩ | ⟨k, a, s, c, d⟩
  · exact .inl ⟨e, .inl ⟨fun k z => n (b + k) (by omega) (S3_drop.mp z), rfl⟩⟩
  · obtain ⟨g0, g1, g2⟩ := S3_get s
    obtain ⟨j, j1, j2⟩ := ends_at hx g0 g1 g2
    refine .inr ⟨j, j1, by unfold endN; omega, .inr ⟨k - b, S3_drop.mpr (by rw [show b + (k - b) = k by omega]; exact s), fun k' hk' z => c (b + k') (by omega) (by omega) (S3_drop.mp z), ?_⟩⟩
    rw [List.drop_drop, show b + (k - b + 3) = k + 3 by omega, j2, codes_drop]
    exact rd_all fun x hx' => hx x (List.mem_of_mem_drop hx')
end Tw
set_option linter.all false
/-! reading by the first two signs 1 side by side -/
namespace Tw
def N11 (l : List Nat) (i : Nat) : Prop := l[i]? = some 49 ∧ l[i + 1]? = some 49
def ones (l : List Nat) : List Nat := (List.range l.length).filter fun i => decide (l[i]? = some 49)
theorem ones_snoc (p : List Nat) (c : Nat) : ones (p ++ [c]) = ones p ++ (if c = 49 then [p.length] else []) := by
  unfold ones
  rw [List.length_append, List.length_singleton, List.range_succ, List.filter_append]
  congr 1
  · apply List.filter_congr
    intro i hi
    rw [List.getElem?_append_left (List.mem_range.mp hi)]
  · rw [List.filter_cons, List.getElem?_append_right (Nat.le_refl _), Nat.sub_self]
    by_cases h : c = 49
    · simp [h]
    · simp [h]
theorem ones_nil : ones [] = [] := rfl
theorem ones_lt {l : List Nat} : ∀ x ∈ ones l, x < l.length := fun x hx => List.mem_range.mp (List.mem_filter.mp hx).1
theorem ones_asc (l : List Nat) : Asc (ones l) := List.Pairwise.filter _ List.pairwise_lt_range
theorem last_snoc {p : List Nat} (h : p.getLast? = some 49) : 1 ≤ p.length ∧ p[p.length - 1]? = some 49 := by
  rw [List.getLast?_eq_getElem?] at h
  refine ⟨?_, h⟩
  cases p with
  | nil => cases h
  | cons a b => simp
theorem clash {p t : List Nat} {c : Nat} (h1 : c = 49) (h2 : p.getLast? = some 49) : 1 ≤ p.length ∧ N11 (p ++ c :: t) (p.length - 1) := by
  obtain ⟨a, b⟩ := last_snoc h2
  refine ⟨a, ?_, ?_⟩
  · rw [List.getElem?_append_left (by omega)]
    exact b
  · rw [show p.length - 1 + 1 = p.length by omega, List.getElem?_append_right (Nat.le_refl _), Nat.sub_self, h1]
    rfl
theorem rdb_step {p t : List Nat} {c : Nat} (hc : c = 48 ∨ c = 49) (hn : ¬ (c = 49 ∧ p.getLast? = some 49)) :
    rdb (ones p) p.length (decide (p.getLast? = some 49)) (c :: t) = rdb (ones (p ++ [c])) (p ++ [c]).length (decide ((p ++ [c]).getLast? = some 49)) t := by
  have h1 : ¬ (c = 49 ∧ decide (p.getLast? = some 49) = true) := fun z => hn ⟨z.1, of_decide_eq_true z.2⟩
  rw [rdb, if_neg h1, if_pos hc, ones_snoc, List.length_append, List.length_singleton, List.getLast?_append, List.getLast?_singleton]
  congr 1
  · by_cases h : c = 49
    · rw [if_pos h, if_pos h]
    · rw [if_neg h, if_neg h, List.append_nil]
  · simp
theorem rdb_no : ∀ (t p : List Nat), (∀ c ∈ t, c = 48 ∨ c = 49) → (∀ i, ¬ N11 (p ++ t) i) → rdb (ones p) p.length (decide (p.getLast? = some 49)) t = if (p ++ t).length = 0 then some [] else none
  | [], p, _, _ => by rw [rdb, List.append_nil]
  | c :: t, p, hc, hn => by
    rw [rdb_step (hc c List.mem_cons_self) fun z => hn _ (clash z.1 z.2).2, rdb_no t (p ++ [c]) (fun d hd => hc d (List.mem_cons_of_mem _ hd)) (by rw [List.append_assoc]; exact hn)]
    simp
theorem rdb_yes : ∀ (t p : List Nat) (i : Nat), (∀ c ∈ t, c = 48 ∨ c = 49) → N11 (p ++ t) i → (∀ j, j < i → ¬ N11 (p ++ t) j) → p.length ≤ i + 1 →
    rdb (ones p) p.length (decide (p.getLast? = some 49)) t = (rd ((p ++ t).drop (i + 2))).map (wth (ones ((p ++ t).take (i + 1))) :: ·)
  | [], p, i, _, h, _, hp => by
    rw [List.append_nil] at h
    have := (List.getElem?_eq_some_iff.mp h.2).1
    omega
  | c :: t, p, i, hc, h, hn, hp => by
    rcases Nat.eq_or_lt_of_le hp with e | e
    · have h49 : c = 49 := by
        have := h.2
        rw [← e, List.getElem?_append_right (Nat.le_refl _), Nat.sub_self] at this
        simpa using this
      have hl : p.getLast? = some 49 := by
        rw [List.getLast?_eq_getElem?, e]
        have := h.1
        rw [List.getElem?_append_left (by omega)] at this
        exact this
      rw [rdb, if_pos ⟨h49, decide_eq_true hl⟩]
      have e1 : (p ++ c :: t).drop (i + 2) = t := by
        rw [show i + 2 = p.length + 1 by omega, ← List.drop_drop, List.drop_left]
        rfl
      have e2 : (p ++ c :: t).take (i + 1) = p := by rw [← e, List.take_left]
      rw [e1, e2]
      rfl
    · rw [rdb_step (hc c List.mem_cons_self) fun z => by
        obtain ⟨a, b⟩ := clash (t := t) z.1 z.2
        exact hn _ (by omega) b]
      have ih := rdb_yes t (p ++ [c]) i (fun d hd => hc d (List.mem_cons_of_mem _ hd)) (by rw [List.append_assoc]; exact h) (by rw [List.append_assoc]; exact hn) (by rw [List.length_append, List.length_singleton]; omega)
      rw [ih, List.append_assoc]
      rfl
theorem rd_no {l : List Nat} (hc : ∀ c ∈ l, c = 48 ∨ c = 49) (hn : ∀ i, ¬ N11 l i) (h0 : 1 ≤ l.length) : rd l = none := by
  have := rdb_no l [] hc hn
  rw [if_neg (by simp; intro e; rw [e] at h0; simp at h0)] at this
  exact this
theorem rd_yes {l : List Nat} {i : Nat} (hc : ∀ c ∈ l, c = 48 ∨ c = 49) (h : N11 l i) (hn : ∀ j, j < i → ¬ N11 l j) : rd l = (rd (l.drop (i + 2))).map (wth (ones (l.take (i + 1))) :: ·) :=
  rdb_yes l [] i hc h hn (by simp)
theorem rdb_ab : ∀ (t row : List Nat) (place : Nat) (last : Bool) {ns : List Int}, rdb row place last t = some ns → ∀ c ∈ t, c = 48 ∨ c = 49
  | [], _, _, _, _, _ => fun c h => nomatch h
  | d :: t, row, place, last, ns, h => by
    rw [rdb] at h
    by_cases h1 : d = 49 ∧ last = true
    · rw [if_pos h1] at h
      cases e : rdb [] 0 false t with
      | none => rw [e] at h; cases h
      | some ms =>
        have ih := rdb_ab t [] 0 false e
        intro c hc
        rcases List.mem_cons.mp hc with z | z
        · exact .inr (z ▸ h1.1)
        · exact ih c z
    · rw [if_neg h1] at h
      by_cases h2 : d = 48 ∨ d = 49
      · rw [if_pos h2] at h
        have ih := rdb_ab t _ _ _ h
        intro c hc
        rcases List.mem_cons.mp hc with z | z
        · exact z ▸ h2
        · exact ih c z
      · rw [if_neg h2] at h; cases h
theorem rd_ab {l : List Nat} {ns : List Int} (h : rd l = some ns) : ∀ c ∈ l, c = 48 ∨ c = 49 := rdb_ab l _ _ _ h
theorem n11_take {l : List Nat} {i : Nat} : N11 l i ↔ (l.drop i).take 2 = [49, 49] := by
  unfold N11
  constructor
  · rintro ⟨h1, h2⟩
    obtain ⟨a1, b1⟩ := List.getElem?_eq_some_iff.mp h1
    obtain ⟨a2, b2⟩ := List.getElem?_eq_some_iff.mp h2
    rw [List.drop_eq_getElem_cons a1, List.drop_eq_getElem_cons a2, b1, b2]
    rfl
  · intro h
    have g : ∀ j, j < 2 → l[i + j]? = ([49, 49] : List Nat)[j]? := fun j hj => by rw [← h, List.getElem?_take_of_lt hj, List.getElem?_drop]
    exact ⟨g 0 (by omega), g 1 (by omega)⟩
theorem n11_drop {l : List Nat} {b i : Nat} : N11 (l.drop b) i ↔ N11 l (b + i) := by
  unfold N11
  rw [List.getElem?_drop, List.getElem?_drop, Nat.add_assoc]
theorem wth_map (xs : List Int) (r : Option (List Int)) (x : Int) : (r.map (x :: ·)).map (xs ++ ·) = r.map ((xs ++ [x]) ++ ·) := by
  cases r with
  | none => rfl
  | some ys => simp
end Tw
set_option linter.all false
/-! reading sign by sign -/
namespace Tw
def pp (l : List Nat) (b k : Nat) : List Nat := (l.take k).drop b
theorem pp_len {l : List Nat} {b k : Nat} (h : k ≤ l.length) : (pp l b k).length = k - b := by
  unfold pp
  rw [List.length_drop, List.length_take]
  omega
theorem pp_self (l : List Nat) (k : Nat) : pp l k k = [] := by
  unfold pp
  rw [List.drop_eq_nil_iff, List.length_take]
  omega
theorem pp_succ {l : List Nat} {b k c : Nat} (hb : b ≤ k) (hc : l[k]? = some c) : pp l b (k + 1) = pp l b k ++ [c] := by
  have hk : k < l.length := (List.getElem?_eq_some_iff.mp hc).1
  unfold pp
  rw [List.take_add_one, hc, Option.toList_some, List.drop_append_of_le_length (by rw [List.length_take]; omega)]
theorem pp_last {l : List Nat} {b k : Nat} (hb : b < k) (hk : k ≤ l.length) : (pp l b k).getLast? = l[k - 1]? := by
  rw [List.getLast?_eq_getElem?, pp_len hk]
  unfold pp
  rw [List.getElem?_drop, List.getElem?_take_of_lt (by omega)]
  congr 1
  omega
def RS (l : List Nat) (b k : Nat) (ns : List Int) : Prop := rd l = (rdb (ones (pp l b k)) (pp l b k).length (decide ((pp l b k).getLast? = some 49)) (l.drop k)).map (ns ++ ·)
theorem rs_start (l : List Nat) : RS l 0 0 [] := by
  unfold RS
  rw [pp_self, List.drop_zero]
  show rd l = (rdb [] 0 false l).map (fun x => [] ++ x)
  unfold rd
  cases rdb [] 0 false l <;> rfl
theorem drop_at {l : List Nat} {k c : Nat} (hc : l[k]? = some c) : l.drop k = c :: l.drop (k + 1) := by
  obtain ⟨h, e⟩ := List.getElem?_eq_some_iff.mp hc
  rw [List.drop_eq_getElem_cons h, e]
theorem rs_bad {l : List Nat} {b k c : Nat} {ns : List Int} (h : RS l b k ns) (hc : l[k]? = some c) (hn : ¬ (c = 48 ∨ c = 49)) : rd l = none := by
  unfold RS at h
  rw [h, drop_at hc, rdb, if_neg (fun z => hn (.inr z.1)), if_neg hn]
  rfl
theorem rs_end {l : List Nat} {b k : Nat} {ns : List Int} (h : RS l b k ns) (hc : l[k]? = some 49) (hl : (pp l b k).getLast? = some 49) : RS l (k + 1) (k + 1) (ns ++ [wth (ones (pp l b k))]) := by
  unfold RS at h ⊢
  rw [drop_at hc, rdb, if_pos ⟨rfl, decide_eq_true hl⟩, wth_map] at h
  rw [h, pp_self]
  rfl
theorem rs_step {l : List Nat} {b k c : Nat} {ns : List Int} (h : RS l b k ns) (hb : b ≤ k) (hc : l[k]? = some c) (ha : c = 48 ∨ c = 49) (hl : ¬ (c = 49 ∧ (pp l b k).getLast? = some 49)) : RS l b (k + 1) ns := by
  unfold RS at h ⊢
  rw [drop_at hc, rdb_step ha hl] at h
  rw [h, pp_succ hb hc]
theorem rs_fin {l : List Nat} {b : Nat} {ns : List Int} (h : RS l b l.length ns) : rd l = if l.length - b = 0 then some ns else none := by
  unfold RS at h
  rw [h, List.drop_length, rdb, pp_len (Nat.le_refl _)]
  split
  · show some (ns ++ []) = some ns
    rw [List.append_nil]
  · rfl
theorem rdb_len : ∀ (t row : List Nat) (place : Nat) (last : Bool) {ns : List Int}, rdb row place last t = some ns → ns.length ≤ t.length
  | [], row, place, last, ns, h => by
    rw [rdb] at h
    split at h
    · have : ns = [] := (Option.some.inj h).symm
      rw [this]; simp
    · cases h
  | c :: t, row, place, last, ns, h => by
    rw [rdb] at h
    split at h
    · cases e : rdb [] 0 false t with
      | none => rw [e] at h; cases h
      | some ms =>
        rw [e] at h
        have := rdb_len t [] 0 false e
        have e2 : _ :: ms = ns := Option.some.inj h
        rw [← e2]
        simp
        omega
    · split at h
      · have := rdb_len t _ _ _ h
        simp
        omega
      · cases h
theorem rd_len {l : List Nat} {ns : List Int} (h : rd l = some ns) : ns.length ≤ l.length := rdb_len l _ _ _ h
theorem ones_len (l : List Nat) : (ones l).length ≤ l.length := by
  unfold ones
  exact Nat.le_trans (List.length_filter_le _ _) (by rw [List.length_range]; exact Nat.le_refl _)
end Tw
set_option Elab.async false
set_option linter.all false
set_option maxRecDepth 100000
set_option maxHeartbeats 1000000
namespace My
/-! ### promises of the defs, and what their readings want -/
open PySem L2 Tw
def spMarksTo : Sp := fun vs H Q _ => ∃ p : Nat, vs = [.int (p : Int)] ∧ p ≤ 2000 ∧ ∀ (r : Addr) (H' : Hp), Same H H' → H' r = some (.lst ((ms (max 2 (p + 1))).map V.int)) → Q (.ref r) H'
def spMarkAt : Sp := fun vs H Q _ => ∃ p : Nat, vs = [.int (p : Int)] ∧ p ≤ 2000 ∧ ∀ H' : Hp, Same H H' → Q (.int (mk p)) H'
def spCell (K : PySem.W.Frag) : Sp := fun vs H Q _ => ∃ (a : Addr) (ns : List Int) (k : Int), vs = [.ref a, .int k] ∧ SqL K H a (ns.map V.int) ∧ 0 ≤ k ∧ ∀ v : Int, Q (.int v) H
def spWhole : Sp := fun vs H Q _ => ∃ i : Int, vs = [.int i] ∧ Q (.bl true) H
def spLMarks : Sp := fun vs H Q _ => ∃ p : Nat, vs = [.int (p : Int)] ∧ p ≤ 2000 ∧ ∀ (r : Addr) (H' : Hp), Same H H' → H' r = some (.lst ((ms p).map V.int)) → Q (.ref r) H'
def spLaw (K : PySem.W.Frag) : Sp := fun vs H Q _ => ∃ (a : Addr) (ns : List Int), vs = [.ref a] ∧ SqL K H a (ns.map V.int) ∧ ns.length ≤ 63 ∧ ∀ H', Q (.bl true) H'
theorem at_neg {xs : List V} {j : Nat} {v : V} {i : Int} (h : xs[j]? = some v) (e : i + xs.length = j) (hi : i < 0) : atI xs i = some v := by
  have hj : j < xs.length := (List.getElem?_eq_some_iff.mp h).1
  unfold atI ixN
  rw [if_neg (by omega), if_pos (by omega), show (i + (xs.length : Int)).toNat = j by omega]
  exact h
theorem at_m1 (j : Nat) : atI ((ms (j + 2)).map V.int) (-1) = some (.int (mk (j + 1))) :=
  at_neg (j := j + 1) (by rw [List.getElem?_map, ms_get (by omega)]; rfl) (by rw [List.length_map, ms_length]; omega) (by omega)
theorem at_m2 (j : Nat) : atI ((ms (j + 2)).map V.int) (-2) = some (.int (mk j)) :=
  at_neg (j := j) (by rw [List.getElem?_map, ms_get (by omega)]; rfl) (by rw [List.length_map, ms_length]; omega) (by omega)
theorem at_ints {ns : List Int} {k : Int} (h0 : 0 ≤ k) (h : k < (ns.length : Int)) : ∃ v : Int, atI (ns.map V.int) k = some (.int v) := by
  have hk : k.toNat < ns.length := by omega
  have ek : k = ((k.toNat : Nat) : Int) := by omega
  have q : atI (ns.map V.int) ((k.toNat : Nat) : Int) = some (.int ns[k.toNat]) := atI_nat (by rw [List.getElem?_map, List.getElem?_eq_getElem hk]; rfl)
  rw [← ek] at q
  exact ⟨_, q⟩
theorem cut_to {xs : List V} {p : Nat} : cutV xs none (some (p : Int)) = xs.take p := by
  unfold cutV
  rw [HT.sIx_none, HT.sIx_nat, List.drop_zero, Nat.sub_zero]
  rcases Nat.le_total p xs.length with h | h
  · rw [Nat.min_eq_left h]
  · rw [Nat.min_eq_right h, List.take_of_length_le (Nat.le_refl _), List.take_of_length_le h]
theorem cut_ms {p n : Nat} (h : p ≤ n) : cutV ((ms n).map V.int) none (some (p : Int)) = (ms p).map V.int := by
  rw [cut_to, ← List.map_take, ms_take h]
theorem kit_int_int {K : PySem.W.Frag} : PySem.W.kitOne K (.type "int") (.type "int") = some true := by rfl
theorem kit_int_bool {K : PySem.W.Frag} : PySem.W.kitOne K (.type "int") (.type "bool") = some false := by
  unfold PySem.W.kitOne
  with_unfolding_all rfl
def spWorth (K : PySem.W.Frag) : Sp := fun vs H Q _ => ∃ (a : Addr) (R : List Nat), vs = [.ref a] ∧ SqL K H a ((rz R).map V.int) ∧ (∀ x ∈ R, x ≤ 1900) ∧ R.length ≤ 5000 ∧ ∀ H' : Hp, Same H H' → Q (.int (wth R)) H'
def spWorthOf (K : PySem.W.Frag) : Sp := fun vs H Q _ => ∃ (a : Addr) (R : List Nat), vs = [.ref a] ∧ SqL K H a ((rz R).map V.int) ∧ Asc R ∧ (∀ x ∈ R, x ≤ 1900) ∧ R.length ≤ 5000 ∧ ∀ H' : Hp, Same H H' → Q (.int (wth R)) H'
def spRow : Sp := fun vs H Q _ => ∃ n : Int, vs = [.int n] ∧ 0 ≤ n ∧ n < mk 1000 ∧ ∀ (r : Addr) (H' : Hp), Same H H' → H r = none → H' r = some (.lst ((rz (zk n)).map V.int)) → Q (.ref r) H'
theorem row_get {R : List Nat} {i : Nat} {v : V} (h : ((rz R).map V.int)[i]? = some v) : ∃ k : Nat, R[i]? = some k ∧ v = .int (k : Int) := by
  unfold rz at h
  rw [List.getElem?_map, List.getElem?_map] at h
  cases e : R[i]? with
  | none => rw [e] at h; cases h
  | some k =>
    rw [e] at h
    exact ⟨k, rfl, (Option.some.inj h).symm⟩
theorem row_put {R : List Nat} {i k : Nat} (h : R[i]? = some k) : ((rz R).map V.int)[i]? = some (.int (k : Int)) := by
  unfold rz
  rw [List.getElem?_map, List.getElem?_map, h]
  rfl
theorem row_len (R : List Nat) : ((rz R).map V.int).length = R.length := by rw [List.length_map, rz_length]
theorem ms_at {n k : Nat} (h : k < n) : atI ((ms n).map V.int) ((k : Nat) : Int) = some (.int (mk k)) := atI_nat (by rw [List.getElem?_map, ms_get h]; rfl)
theorem marks_res (R : List Nat) : resC ((rz R).map V.int).length (fun _ => true) (fun i => V.int (mk (R.getD i 0))) = (R.map mk).map V.int := by
  rw [resC_all, row_len, List.map_map]
  refine range_map_get R _ _ fun i x h => ?_
  rw [List.getD_eq_getElem?_getD, h]
  rfl
theorem len_ok {n : Nat} (h : n ≤ 100000) : n ≤ sizeLine := Nat.le_of_lt (small h)
def spMoved (K : PySem.W.Frag) : Sp := fun vs H Q _ => ∃ (a : Addr) (ns : List Int) (z : Int), vs = [.ref a, .int z] ∧ SqL K H a (ns.map V.int) ∧ ns.length ≤ 5000 ∧ ∀ (r : Addr) (H' : Hp), Same H H' → H' r = some (.lst ((ns.map (· + z)).map V.int)) → Q (.ref r) H'
def spLow : Sp := fun vs H Q _ => ∃ c : Int, vs = [.int c] ∧ 1 ≤ c ∧ c - 1 < mk 900 ∧ ∀ H' : Hp, Same H H' → Q (.int (lowN c)) H'
def spHigh : Sp := fun vs H Q _ => ∃ c : Int, vs = [.int c] ∧ 1 ≤ c ∧ c - 1 < mk 900 ∧ ∀ H' : Hp, Same H H' → Q (.int (highN c)) H'
def kw_ (n : Int) : Str := if hd (zk n) % 2 = 0 then "low" else "high"
def spKind : Sp := fun vs H Q _ => ∃ n : Int, vs = [.int n] ∧ 1 ≤ n ∧ n < mk 900 ∧ ∀ (t : Addr) (H' : Hp), Same H H' → H' t = some (.tup [.str (kw_ n), .int (cnt n)]) → Q (.ref t) H'
def spNumber (K : PySem.W.Frag) : Sp := fun vs H Q _ => ∃ (a : Addr) (ns : List Int) (k b : Int), vs = [.ref a, .int k, .int b] ∧ SqL K H a (ns.map V.int) ∧ 0 ≤ k ∧ 40 ≤ b ∧ ∀ (v : Int) (H' : Hp), Same H H' → 0 ≤ v → v < b → Q (.int v) H'
theorem moved_res (ns : List Int) (z : Int) : resC (ns.map V.int).length (fun _ => true) (fun i => V.int (ns.getD i 0 + z)) = (ns.map (· + z)).map V.int := by
  rw [resC_all, List.length_map, List.map_map]
  refine range_map_get ns _ _ fun i x h => ?_
  rw [List.getD_eq_getElem?_getD, h]
  rfl
theorem int_get {ns : List Int} {i : Nat} {v : V} (h : (ns.map V.int)[i]? = some v) : ∃ k : Int, ns[i]? = some k ∧ v = .int k := by
  rw [List.getElem?_map] at h
  cases e : ns[i]? with
  | none => rw [e] at h; cases h
  | some k =>
    rw [e] at h
    exact ⟨k, rfl, (Option.some.inj h).symm⟩
theorem zk_b {r : Int} {n : Nat} (h0 : 0 ≤ r) (h : r < mk n) (hn : n ≤ 1001) : (∀ x ∈ zk r, x ≤ 1000) ∧ (zk r).length ≤ 1001 := ⟨fun x hx => by have := zk_lt h0 h x hx; omega, Nat.le_trans (zk_len h0 h) hn⟩
theorem up_b {R : List Nat} {s m : Nat} (h : ∀ x ∈ R, x ≤ m) : ∀ x ∈ up s R, x ≤ m + s := fun x hx => by
  obtain ⟨y, hy, rfl⟩ := List.mem_map.mp hx
  have := h y hy
  omega
theorem dn_b {R : List Nat} {s m : Nat} (h : ∀ x ∈ R, x ≤ m) : ∀ x ∈ dn s R, x ≤ m := fun x hx => by
  obtain ⟨y, hy, rfl⟩ := List.mem_map.mp hx
  have := h y hy
  omega
theorem up_len (s : Nat) (R : List Nat) : (up s R).length = R.length := List.length_map _
theorem dn_len (s : Nat) (R : List Nat) : (dn s R).length = R.length := List.length_map _
theorem mk_le9 {c : Int} (h : c < mk 900) : c < mk 1000 := Int.lt_of_lt_of_le h (mk_mono (by decide))
theorem row_hd {R : List Nat} (h : R ≠ []) : atI ((rz R).map V.int) 0 = some (.int ((hd R : Nat) : Int)) := by
  cases R with
  | nil => exact absurd rfl h
  | cons x R => exact atI_nat (j := 0) rfl
theorem cut_from1 (xs : List V) : cutV xs (some 1) none = xs.tail := by
  have e : HT.sIx xs.length 0 (some ((1 : Nat) : Int)) = min 1 xs.length := HT.sIx_nat _ _ _
  have e' : HT.sIx xs.length 0 (some (1 : Int)) = min 1 xs.length := e
  unfold cutV
  rw [e', HT.sIx_none]
  cases xs with
  | nil => rfl
  | cons x xs =>
    have : min 1 (x :: xs).length = 1 := by simp
    rw [this]
    simp
/-! ### stage 2: promises said by what they mean -/
def spSignAt : Sp := fun vs H Q _ => ∃ k : Int, vs = [.int k] ∧ 0 ≤ k ∧ k < mk 900 ∧ ∀ H' : Hp, Same H H' → Q (.str (tx [sg k])) H'
def spPieceAt : Sp := fun vs H Q _ => ∃ (k : Int) (n : Nat), vs = [.int k, .int (n : Int)] ∧ 0 ≤ k ∧ k < mk 800 ∧ n ≤ 1000 ∧ ∀ H' : Hp, Same H H' → Q (.str (tx (pc k n))) H'
def spCounts : Sp := fun vs H Q _ => ∃ n : Int, vs = [.int n] ∧ 0 ≤ n ∧ n < mk 900 ∧ ∀ (t : Addr) (H' : Hp), Same H H' → H' t = some (.tup [.int (sh n - n), .int (2 * n - sh n)]) → Q (.ref t) H'
def spGrown : Sp := fun vs H Q _ => ∃ l : List Nat, vs = [.str (tx l)] ∧ (∀ c ∈ l, c = 97 ∨ c = 98) ∧ l.length ≤ 1000 ∧ ∀ H' : Hp, Same H H' → Q (.str (tx (grow l))) H'
theorem lit_a : ("a" : Str) = tx [97] := by decide +kernel
theorem lit_b : ("b" : Str) = tx [98] := by decide +kernel
theorem lit_ab : ("ab" : Str) = tx [97, 98] := by decide +kernel
theorem lit_ : ("" : Str) = tx [] := by decide +kernel
theorem kit_str {K : PySem.W.Frag} : PySem.W.kitOne K (.type "str") (.type "str") = some true := by rfl
theorem op_in_seqK {X : Cx} {K : PySem.W.Frag} (h : X.K = K := by rfl) : OpR X (compareOp .In) (rIn K false) := by
  subst h
  exact op_in_seq
theorem flat_ints (ns : List Int) : (ns.map V.int).all flatV = true := by
  rw [List.all_map, List.all_eq_true]
  exact fun _ _ => rfl
theorem in_row (R : List Nat) (k : Nat) : inV (.int (k : Int)) ((rz R).map V.int) = decide (k ∈ R) := by
  unfold inV rz
  rw [List.map_map, List.any_map]
  by_cases h : k ∈ R
  · rw [decide_eq_true h, List.any_eq_true]
    exact ⟨k, h, by simp [eqV]⟩
  · rw [decide_eq_false h, List.any_eq_false]
    intro x hx
    have : ¬ (x : Int) = (k : Int) := fun z => h (by have : x = k := by omega
                                                     exact this ▸ hx)
    simp [eqV, this]
theorem in_zero (R : List Nat) : inV (.int 0) ((rz R).map V.int) = decide (0 ∈ R) := in_row R 0
theorem big61 : (10 : Int) ^ 61 < mk 800 := by
  have h := big100
  have h2 : mk 501 ≤ mk 800 := mk_mono (by decide)
  have c : (10 : Int) ^ 61 < 10 ^ 100 := by decide +kernel
  omega
theorem mk89 : mk 800 ≤ mk 900 := mk_mono (by decide)
theorem mk810 : mk 800 ≤ mk 1000 := mk_mono (by decide)
theorem mk910 : mk 900 ≤ mk 1000 := mk_mono (by decide)
theorem pc_res (k : Int) (n : Nat) : resC n (fun _ => true) (fun i => V.str (tx [sg (k + i)])) = ((pc k n).map fun c => [c]).map fun l => V.str (tx l) := by
  unfold pc
  rw [resC_all, List.map_map, List.map_map]
  rfl
theorem flat_single (l : List Nat) : (l.map fun c => [c]).flatten = l := by
  induction l with
  | nil => rfl
  | cons c l ih => rw [List.map_cons, List.flatten_cons, ih]; rfl
/-! ### the codes: promises -/
def cellF (ns : List Int) (k : Int) : Int := if k < (ns.length : Int) then ns.getD k.toNat 0 else (ns.headD 0 % 65521 * 48271 + k * 30103) % 65521
def spCellF (K : PySem.W.Frag) : Sp := fun vs H Q _ => ∃ (a : Addr) (ns : List Int) (k : Int), vs = [.ref a, .int k] ∧ SqL K H a (ns.map V.int) ∧ 0 ≤ k ∧ Q (.int (cellF ns k)) H
theorem at_intsF {ns : List Int} {k : Int} (h0 : 0 ≤ k) (h : k < (ns.length : Int)) : atI (ns.map V.int) k = some (.int (ns.getD k.toNat 0)) := by
  have hk : k.toNat < ns.length := by omega
  have ek : k = ((k.toNat : Nat) : Int) := by omega
  have q : atI (ns.map V.int) ((k.toNat : Nat) : Int) = some (.int (ns.getD k.toNat 0)) := atI_nat (by rw [List.getElem?_map, List.getD_eq_getElem?_getD, List.getElem?_eq_getElem hk]; rfl)
  rw [← ek] at q
  exact q
def spCode : Sp := fun vs H Q _ => ∃ n : Int, vs = [.int n] ∧ 1 ≤ n ∧ n < mk 800 ∧ ∀ H' : Hp, Same H H' → Q (.str (tx (codeN n))) H'
abbrev Nums (xs : List Int) : Prop := xs.length ≤ 50 ∧ (∀ x ∈ xs, 1 ≤ x ∧ x < 10 ^ 40) ∧ (codes xs).length ≤ 1890
def spNumbers (K : PySem.W.Frag) : Sp := fun vs H Q _ => ∃ (a : Addr) (ns : List Int), vs = [.ref a] ∧ SqL K H a (ns.map V.int) ∧ ∀ (xs : List Int) (r : Addr) (H' : Hp), Same H H' → H r = none → H' r = some (.lst (xs.map V.int)) → Nums xs → Q (.ref r) H'
def spWritten (K : PySem.W.Frag) : Sp := fun vs H Q _ => ∃ (a : Addr) (xs : List Int), vs = [.ref a] ∧ SqL K H a (xs.map V.int) ∧ Nums xs ∧ ∀ H' : Hp, Same H H' → Q (.str (tx (codes xs))) H'
theorem lit_0 : ("0" : Str) = tx [48] := by decide +kernel
theorem lit_1 : ("1" : Str) = tx [49] := by decide +kernel
theorem lit_011 : ("011" : Str) = tx [48, 49, 49] := by decide +kernel
theorem big40 : (10 : Int) ^ 40 < mk 201 := by
  have h := mk_tens 20
  have c : (10 : Int) ^ 40 < 116 ^ 20 := by decide +kernel
  have e : 10 * 20 + 1 = 201 := by decide
  rw [e] at h
  omega
theorem big60s : (60 : Int) < mk 9 := by decide
theorem mk28 : mk 201 ≤ mk 800 := mk_mono (by decide)
theorem at_last {xs : List V} {v : V} : atI (xs ++ [v]) (-1) = some v := at_neg (j := xs.length) (by simp) (by simp; omega) (by omega)
theorem row_last {n : Int} (h : 1 ≤ n) : atI ((rz (zk n)).map V.int) (-1) = some (.int ((topP (zk n) : Nat) : Int)) := by
  obtain ⟨S, e⟩ := zk_top h
  have : (rz (zk n)).map V.int = (rz S).map V.int ++ [.int ((topP (zk n) : Nat) : Int)] := by
    conv => lhs; rw [e]
    rw [rz_app, List.map_append]
    rfl
  rw [this]
  exact at_last
theorem codes_res (xs : List Int) (k : Nat) (hk : k = xs.length) : resC k (fun _ => true) (fun i => V.str (tx (codeN (xs.getD i 0)))) = (xs.map codeN).map fun l => V.str (tx l) := by
  subst hk
  rw [resC_all, List.map_map]
  refine range_map_get xs _ _ fun i x h => ?_
  rw [List.getD_eq_getElem?_getD, h]
  rfl
theorem eqAll_same (xs : List Int) : eqAll (xs.map V.int) (xs.map V.int) = true := by rw [eqAll_ints]; simp
/-! ### the text by places -/
def top (i : Nat) : Stmt := PySem.Challenge.pw_twinless_k12_read_back.main.body.getD i (.Pass ⟨0, 0, 0, 0⟩)
abbrev s_marks_to : Stmt := top 4
abbrev s_worth_of : Stmt := top 5
abbrev s_number_of : Stmt := top 7
abbrev s_read_back : Stmt := top 8
abbrev s_law_cell : Stmt := top 10
abbrev s_law_ints : Stmt := top 11
abbrev s_law_marks : Stmt := top 12
abbrev s_law_row : Stmt := top 14
abbrev s_law_number : Stmt := top 15
abbrev s_law_code : Stmt := top 16
abbrev s_law_numbers : Stmt := top 17
abbrev s_law_which : Stmt := top 18
abbrev s_law_any_sign : Stmt := top 19
abbrev s_law_read : Stmt := top 20
abbrev s_law : Stmt := top 21
section
variable {P : Program} {w : World} {K : PySem.W.Frag} {mg : Str → Option Value} {base : Heap}

/-! marks_to -/
theorem sc_marks_to : FnScope ["place", "marks"] ["place"] (defScope s_marks_to) := ⟨rfl, rfl, rfl, by decide +kernel, rfl, by decide +kernel, by decide +kernel⟩
theorem cal_marks_to {n : Nat} {f : Addr} {fd : FuncData} (T : Blt mg) (F : Fun K "marks_to" "marks_to" s_marks_to f fd) (b : Binds K fd ["place"] []) (m : mg "marks_to" = some (.ref f)) : Cal P w K mg base (n + 1) "marks_to" ["place"] spMarksTo := by
  refine ⟨f, fd, F.ok sc_marks_to (fun vs H Q E h => ?_) (fun cdv A outer s H vs Q E hr h => ?_), b, F.kp, m⟩
  · obtain ⟨p, rfl, _⟩ := h
    rfl
  obtain ⟨p, rfl, hp, q⟩ := h
  refine ⟨_, pss_cons (ps_set (i := 1) sc_marks_to.nd rfl (Or.inl rfl) (pe_lst (pa_cons pe_int (pa_cons pe_int pa_nil))))
    (pss_cons (ps_while PassesOwn.never (pt_cmpR op_le (pe_callB call_len_seq rfl T.len PySem.boot_len (pa_cons (pv 1) pa_nil)) (pv 0) (nomark _))
      (pss_one (ps_expr (pe_bm PySem.F.plainAttrs_list PySem.F.slot_list_append PySem.F.type_list_append mt_append (pv 1) (pa_cons (pe_op op_add (pe_ix ix_list (pv 1) (pe_un un_neg pe_int) (fun _ _ => rfl)) (pe_ix ix_list (pv 1) (pe_un un_neg pe_int) (fun _ _ => rfl))) pa_nil)))))
    (pss_one (ps_ret (pv 1)))), ?_⟩
  refine ⟨(by show 2 ≤ sizeLine; decide), fun r hr' => ?_⟩
  refine ⟨fun k σ H' => ∃ n, k = p + 2 - n ∧ σ = [some (.int (p : Int)), some (.ref r)] ∧ 2 ≤ n ∧ n ≤ max 2 (p + 1) ∧ Same H H' ∧ H' r = some (.lst ((ms n).map V.int)), ⟨p, 2, by omega, rfl, Nat.le_refl _, by omega, same_new hr' _, upd_same⟩, ?_⟩
  rintro k σ H' ⟨n, rfl, rfl, h2, hn, hs, hl⟩
  have hlen : ((ms n).map V.int).length = n := by rw [List.length_map, ms_length]
  refine ⟨_, rfl, r, _, rfl, .inl (SqL.of hl), _, rfl, _, _, rfl, rfl, _, rfl, ?_⟩
  refine ite2 (fun c => ?_) (fun c => ?_)
  · have c' : (((ms n).map V.int).length : Int) ≤ (p : Int) := of_decide_eq_true c
    rw [hlen] at c'
    obtain ⟨j, rfl⟩ : ∃ j, n = j + 2 := ⟨n - 2, by omega⟩
    refine ⟨fun σ' H' => ∃ k', k' < p + 2 - (j + 2) ∧ _, fun _ _ z => z, ?_⟩
    refine ⟨_, rfl, .inl ⟨rfl, _, SqL.of hl⟩, _, rfl, _, rfl, r, _, _, _, rfl, rfl, SqL.of hl, at_m1 j, _, rfl, _, rfl, r, _, _, _, rfl, rfl, SqL.of hl, at_m2 j, _, _, rfl, rfl, r, _, _, rfl, rfl, hl, (by rw [hlen]; exact small (by omega)), ?_⟩
    refine ⟨p + 2 - (j + 2 + 1), by omega, j + 2 + 1, rfl, rfl, by omega, by omega, same_upd hs hr' _, ?_⟩
    rw [upd_same, ← ms_more, List.map_append]
    rfl
  · have c' : ¬ (((ms n).map V.int).length : Int) ≤ (p : Int) := of_decide_eq_false (Bool.eq_false_iff.mpr c)
    rw [hlen] at c'
    refine ⟨_, rfl, q r H' hs ?_⟩
    rw [hl, show n = max 2 (p + 1) by omega]

/-! worth_of -/
theorem sc_worth_of : FnScope ["row", "marks"] ["row"] (defScope s_worth_of) := ⟨rfl, rfl, rfl, by decide +kernel, rfl, by decide +kernel, by decide +kernel⟩
theorem cal_worth_of {n : Nat} {f : Addr} {fd : FuncData} (T : Blt mg) (F : Fun K "worth_of" "worth_of" s_worth_of f fd) (b : Binds K fd ["row"] []) (m : mg "worth_of" = some (.ref f)) (C1 : Cal P w K mg base n "marks_to" ["place"] spMarksTo) : Cal P w K mg base (n + 1) "worth_of" ["row"] (spWorthOf K) := by
  refine ⟨f, fd, F.ok sc_worth_of (fun vs H Q E h => ?_) (fun cdv A outer s H vs Q E hr h => ?_), b, F.kp, m⟩
  · obtain ⟨a, R, rfl, _⟩ := h
    rfl
  obtain ⟨a, R, rfl, hS, hA, hb, hz, q⟩ := h
  refine ⟨_, pss_cons (ps_if (pt_cmpR op_eq (pe_callB call_len_seq rfl T.len PySem.boot_len (pa_cons (pv 0) pa_nil)) pe_int (nomark _)) (pss_one (ps_ret pe_int)) pss_nil)
    (pss_cons (ps_set (i := 1) sc_worth_of.nd rfl (Or.inr rfl) (pe_cal C1 hr rfl (pa_cons (pe_ix ix_list (pv 0) (pe_un un_neg pe_int) (fun _ _ => rfl)) pa_nil)))
    (pss_one (ps_ret (pe_callB (call_sumL rfl) rfl T.sum PyProof.Rows.boot_sum (pa_cons (pe_comp (ns := [1]) rfl ⟨rfl, rfl, rfl, rfl, rfl, (by show List.Nodup (["place", "marks"] : List Str); decide +kernel), rfl⟩ (pi_list (pv 0)) (fun _ _ _ => pts_nil) (fun _ _ _ => pe_ix (ix_listK (K := K)) (pv 1) (pv 0) (fun _ _ => rfl))) pa_nil))))), ?_⟩
  refine ⟨_, rfl, a, _, rfl, .inl hS, rfl, _, rfl, ?_⟩
  refine ite2 (fun c => ?_) (fun c => ?_)
  · have c' : V.int (((rz R).map V.int).length : Int) = V.int 0 := of_decide_eq_true c
    rw [row_len] at c'
    have e : R = [] := List.eq_nil_of_length_eq_zero (by injection c' with c'; omega)
    subst e
    exact q H (Same.refl H)
  · rcases snoc_cases R with rfl | ⟨S, x, rfl⟩
    · exact absurd rfl c
    have hx : x ≤ 1900 := hb x (by simp)
    have hl := hA.last
    have hat : atI ((rz (S ++ [x])).map V.int) (-1) = some (.int (x : Int)) := at_neg (j := S.length) (row_put (by simp)) (by rw [row_len]; simp; omega) (by omega)
    refine ⟨_, rfl, _, rfl, a, _, _, _, rfl, rfl, hS, hat, x, rfl, by omega, fun r H' hs hr' => ?_⟩
    refine ⟨_, rfl, a, rfl, ⟨_, hs.seq hS⟩, ?_⟩
    refine comp_list (f := fun i => V.int (mk ((S ++ [x]).getD i 0))) (p := fun _ => true) (hs.seq hS) (by rw [row_len]; exact len_ok (by omega)) (fun i v H2 R2 hv hs2 k => k H2 (Same.refl _)) (fun i v H2 R2 hv _ hs2 k => ?_) fun D H2 hD hs2 hD2 => ?_
    · obtain ⟨y, hy, rfl⟩ := row_get hv
      have hyx := hl y (List.mem_of_getElem? hy)
      refine ⟨_, rfl, _, rfl, r, _, _, _, rfl, rfl, SqL.of (hs2 _ _ hr'), ms_at (by omega), ?_⟩
      have e := k H2 (Same.refl _)
      rw [List.getD_eq_getElem?_getD, hy] at e
      exact e
    · rw [marks_res] at hD2
      exact ⟨D, _, rfl, SqL.of hD2, q H2 (hs.trans hs2)⟩

/-! number_of -/
def spNumberOf : Sp := fun vs H Q _ => ∃ l : List Nat, vs = [.str (tx l)] ∧ l.length ≤ 1900 ∧ ∀ H' : Hp, Same H H' → Q (.int (wth (ones l))) H'
theorem ones_res (l : List Nat) : resC l.length (fun i => decide (l[i]? = some 49)) (fun i => V.int (i : Int)) = (rz (ones l)).map V.int := by
  unfold resC rz ones
  rw [List.map_map]
  rfl
theorem sc_number_of : FnScope ["signs"] ["signs"] (defScope s_number_of) := ⟨rfl, rfl, rfl, by decide +kernel, rfl, by decide +kernel, by decide +kernel⟩
theorem cal_number_of {n : Nat} {f : Addr} {fd : FuncData} (T : Blt mg) (F : Fun K "number_of" "number_of" s_number_of f fd) (b : Binds K fd ["signs"] []) (m : mg "number_of" = some (.ref f)) (C1 : Cal P w K mg base n "worth_of" ["row"] (spWorthOf K)) : Cal P w K mg base (n + 1) "number_of" ["signs"] spNumberOf := by
  refine ⟨f, fd, F.ok sc_number_of (fun vs H Q E h => ?_) (fun cdv A outer s H vs Q E hr h => ?_), b, F.kp, m⟩
  · obtain ⟨l, rfl, _⟩ := h
    rfl
  obtain ⟨l, rfl, hl, q⟩ := h
  refine ⟨_, pss_one (ps_ret (pe_cal C1 hr rfl (pa_cons (pe_compD rfl ⟨rfl, rfl, rfl, rfl, rfl, rfl, (by show List.Nodup (["place", "sign"] : List Str); decide +kernel)⟩ (pi_enum rfl T.enumerate (pa_cons (pv 0) pa_nil)) (fun _ _ _ => pts_one (pt_cmpR op_eq (pv 1) pe_str (nomark _))) (fun _ _ _ => pv 0)) pa_nil))), ?_⟩
  rw [lit_1]
  refine ⟨_, rfl, l, rfl, ?_⟩
  refine comp_enum (l := l) (f := fun i => V.int (i : Int)) (p := fun i => decide (l[i]? = some 49)) (len_ok (by omega)) (fun i c H2 R2 hc hs2 k => ?_) (fun i c H2 R2 hc _ hs2 k => ⟨_, rfl, k H2 (Same.refl _)⟩) fun D H2 hD hs2 hD2 => ?_
  · refine ⟨_, rfl, rfl, _, rfl, ?_⟩
    have k' := k H2 (Same.refl _)
    rw [hc] at k'
    rw [tx_eq]
    have e : decide ([c] = [49]) = decide (some c = some 49) := by
      by_cases z : c = 49
      · rw [decide_eq_true (by rw [z]), decide_eq_true (by rw [z])]
      · rw [decide_eq_false (fun y => z (by simpa using y)), decide_eq_false (fun y => z (by simpa using y))]
    rw [e]
    exact k'
  · rw [ones_res] at hD2
    refine ⟨D, ones l, rfl, SqL.of hD2, ones_asc l, fun x hx => by have := ones_lt x hx; omega, ?_, fun H3 hs3 => q H3 (hs2.trans hs3)⟩
    have := asc_len (ones_asc l) (fun x hx => ones_lt x hx)
    omega

/-! read_back -/
def spReadX : Sp := fun vs H Q E => ∃ (l : List Nat), vs = [.str (tx l)] ∧ l.length ≤ 1900 ∧ (∀ NS, rd l = some NS → ∀ (r : Addr) (H' : Hp), Same H H' → H r = none → H' r = some (.lst (NS.map V.int)) → Q (.ref r) H') ∧ (rd l = none → ∀ (cv : Value) (H' : Hp), Same H H' → E cv none H')
theorem lit_11 : ("11" : Str) = tx [49, 49] := by decide +kernel
theorem no_else {l : List Nat} (h : ∀ c ∈ l, c = 48 ∨ c = 49) : (l.filter (· != 48)).filter (· != 49) = [] := by
  rw [List.filter_eq_nil_iff]
  intro c hc
  have hm := List.mem_filter.mp hc
  rcases h c hm.1 with e | e
  · rw [e] at hm; simp at hm
  · rw [e]; simp
theorem cutN_mid (l : List Nat) (b i : Nat) : cutN l (some (b : Int)) (some ((i : Int) + 1)) = (l.drop b).take (i + 1 - b) := by
  unfold cutN
  rw [show (i : Int) + 1 = ((i + 1 : Nat) : Int) by omega, HT.sIx_nat, HT.sIx_nat]
  rcases Nat.le_total b l.length with hb | hb
  · rw [Nat.min_eq_left hb]
    rcases Nat.le_total (i + 1) l.length with h | h
    · rw [Nat.min_eq_left h]
    · rw [Nat.min_eq_right h, List.take_of_length_le (by rw [List.length_drop]; exact Nat.le_refl _), List.take_of_length_le (by rw [List.length_drop]; omega)]
  · rw [Nat.min_eq_right hb, List.drop_of_length_le (Nat.le_refl _), List.drop_of_length_le hb]; simp
theorem no_else2 {l : List Nat} (h : (l.filter (· != 48)).filter (· != 49) = []) : ∀ c ∈ l, c = 48 ∨ c = 49 := fun c hc => by
  by_cases e : c = 48
  · exact .inl e
  · by_cases e2 : c = 49
    · exact .inr e2
    · have : c ∈ (l.filter (· != 48)).filter (· != 49) := List.mem_filter.mpr ⟨List.mem_filter.mpr ⟨hc, by simpa using e⟩, by simpa using e2⟩
      rw [h] at this
      cases this
theorem sc_read_back : FnScope ["text", "numbers", "start", "greatest"] ["text"] (defScope s_read_back) := ⟨rfl, rfl, rfl, by decide +kernel, rfl, by decide +kernel, by decide +kernel⟩
theorem cal_read_back {n : Nat} {f CB : Addr} {fd : FuncData} (T : Blt mg) (F : Fun K "read_back" "read_back" s_read_back f fd) (b : Binds K fd ["text"] []) (m : mg "read_back" = some (.ref f)) (O : OwnV K mg "BadCode" CB) (C1 : Cal P w K mg base n "number_of" ["signs"] spNumberOf) : CalX CB P w K mg base (n + 1) "read_back" ["text"] spReadX := by
  refine ⟨f, fd, F.ok1X sc_read_back (by decide +kernel) rfl (fun vs H Q E h => ?_) (fun cdv A outer s H vs Q E hr h => ?_), b, F.kp, m⟩
  · obtain ⟨l, rfl, _⟩ := h
    rfl
  obtain ⟨l, rfl, hl, q, qE⟩ := h
  have nd := sc_read_back.nd
  refine ⟨_, pssk_cons (psk_if (ptk_cmpR op_ne (pek_replace (pek_replace (pv 0).k (by decide) (by decide)) (by decide) (by decide)) pe_str (nomark _)) (pss_one (ps_raise (E := E) O (by rfl) (by rfl) (by rfl) (by rfl) (by rfl) (fun e s' h => wpAny_mono h (fun _ _ z => z) fun _ _ z => z.elim) pe_str)) pss_nil)
    (pss_cons (ps_set (i := 1) nd rfl (Or.inl rfl) (pe_lst pa_nil))
    (pss_cons (ps_set (i := 2) nd rfl (Or.inl rfl) pe_int)
    (pss_cons (ps_while PassesOwn.leaving (pt_cmpR op_lt (pv 2) (pe_callB call_len_str rfl T.len PySem.boot_len (pa_cons (pv 0) pa_nil)) (nomark _))
      (pss_cons (ps_set (i := 3) nd rfl (Or.inl rfl) (pe_bm PySem.F.plainAttrs_str PySem.F.slot_str_find PySem.F.type_str_find mt_find3 (pv 0) (pa_cons pe_str (pa_cons (pv 2) pa_nil))))
      (pss_cons (ps_if (pt_cmpR op_eq (pv 3) (pe_un un_neg pe_int) (nomark _)) (pss_one (ps_raise (E := E) O (by rfl) (by rfl) (by rfl) (by rfl) (by rfl) (fun e s' h => wpAny_mono h (fun _ _ z => z) fun _ _ z => z.elim) pe_str)) pss_nil)
      (pss_cons (ps_expr (pe_bm PySem.F.plainAttrs_list PySem.F.slot_list_append PySem.F.type_list_append mt_append (pv 1) (pa_cons (pe_cal C1 hr rfl (pa_cons (pe_slice sl_str (pv 0) (po_some (pv 2)) (po_some (pe_op op_add (pv 3) pe_int))) pa_nil)) pa_nil)))
      (pss_one (ps_set (i := 2) nd rfl (Or.inl rfl) (pe_op op_add (pv 3) pe_int)))))))
    (pss_one (ps_ret (pv 1)))))), ?_⟩
  rw [lit_0, lit_1, lit_, lit_11]
  have hle : ∀ c : Nat, (l.filter (· != c)).length ≤ l.length := fun c => List.length_filter_le _ _
  have h48 := hle 48
  refine ⟨_, rfl, tx l, rfl, (by rw [tx_length]; omega), tx (l.filter (· != 48)), (by rw [replace_none]), (by rw [tx_length]; omega), rfl, _, rfl, ?_⟩
  rw [replace_none]
  by_cases hab0 : (l.filter (· != 48)).filter (· != 49) = []
  case neg =>
    rw [decide_eq_false (fun z : V.str (tx ((l.filter (· != 48)).filter (· != 49))) = V.str (tx []) => hab0 (tx_inj (by injection z)))]
    refine iteT ?_
    have hno : rd l = none := by
      cases e : rd l with
      | none => rfl
      | some NS => exact absurd (no_else (rd_ab e)) hab0
    exact ⟨Same.refl _, qE hno _ _ (Same.refl _)⟩
  have hab := no_else2 hab0
  rw [hab0]
  refine iteNS rfl ?_
  refine ⟨(by show 0 ≤ sizeLine; decide), fun r hr' => ?_⟩
  refine ⟨fun k σ H' => ∃ (b : Nat) (ns : List Int) (g : Option V), k = l.length + 1 - b ∧ σ = [some (.str (tx l)), some (.ref r), some (.int (b : Int)), g] ∧ b ≤ l.length ∧ Same H H' ∧ H' r = some (.lst (ns.map V.int)) ∧ (rd (l.drop b)).map (ns ++ ·) = rd l ∧ ns.length ≤ b, ⟨l.length + 1, 0, [], none, by omega, rfl, Nat.zero_le _, same_new hr' _, upd_same, by rw [List.drop_zero]; cases rd l <;> rfl, Nat.le_refl _⟩, ?_⟩
  rintro k σ H' ⟨b, ns, g, rfl, rfl, hb, hs, hn, hm, hnb⟩
  refine ⟨_, rfl, _, rfl, _, rfl, (by rw [tx_length]; exact len_ok (by omega)), _, _, rfl, rfl, _, rfl, ?_⟩
  rw [tx_length]
  refine ite2 (fun c => ?_) (fun c => ?_)
  · have c' : (b : Int) < (l.length : Int) := of_decide_eq_true c
    have hab' : ∀ c ∈ l.drop b, c = 48 ∨ c = 49 := fun c hc => hab c (List.mem_of_mem_drop hc)
    refine ⟨fun σ' H' => ∃ k', k' < l.length + 1 - b ∧ _, fun _ _ z => z, ?_⟩
    refine ⟨_, rfl, rfl, _, rfl, _, _, _, rfl, rfl, ?_⟩
    rcases find3_is l [49, 49] b hb with ⟨em, hno⟩ | ⟨i, ei, hbi, hil, hi, hfi⟩
    · have := rd_no hab' (fun j z => by
        have z2 := n11_drop.mp z
        have hj := (List.getElem?_eq_some_iff.mp z2.2).1
        exact hno (b + j) (by omega) (by show b + j + 2 ≤ l.length; omega) (n11_take.mp z2)) (by rw [List.length_drop]; omega)
      rw [this] at hm
      rw [em]
      refine ⟨_, rfl, _, rfl, rfl, _, rfl, iteT ?_⟩
      exact ⟨hs, qE hm.symm _ _ hs⟩
    have hil' : i + 2 ≤ l.length := hil
    rw [ei]
    refine ⟨_, rfl, _, rfl, rfl, _, rfl, ?_⟩
    rw [decide_eq_false (fun e : V.int (i : Int) = V.int (-1) => by injection e with e; omega)]
    refine iteF ?_
    have hyes := rd_yes (l := l.drop b) (i := i - b) hab' (n11_drop.mpr (by rw [show b + (i - b) = i by omega]; exact n11_take.mpr hi)) fun j hj z => hfi (b + j) (by omega) (by omega) (n11_take.mp (n11_drop.mp z))
    rw [hyes, wth_map, List.drop_drop, show b + (i - b + 2) = i + 2 by omega, show i - b + 1 = i + 1 - b by omega] at hm
    refine ⟨_, rfl, .inl ⟨rfl, _, SqL.of hn⟩, _, rfl, _, rfl, _, rfl, _, rfl, _, _, rfl, rfl, _, rfl, l, rfl, len_ok (by omega), ?_⟩
    rw [cutN_mid]
    refine ⟨(l.drop b).take (i + 1 - b), rfl, (by rw [List.length_take, List.length_drop]; omega), fun H2 hs2 => ?_⟩
    refine ⟨r, _, _, rfl, rfl, hs2 _ _ hn, (by rw [List.length_map]; exact small (by omega)), ?_⟩
    refine ⟨_, rfl, _, _, rfl, rfl, ?_⟩
    refine ⟨l.length + 1 - (i + 2), by omega, i + 2, ns ++ [wth (ones ((l.drop b).take (i + 1 - b)))], some (.int (i : Int)), rfl, ?_, hil', same_upd (hs.trans hs2) hr' _, ?_, hm, (by rw [List.length_append, List.length_singleton]; omega)⟩
    · show [some (V.str (tx l)), some (V.ref r), some (V.int ((i : Int) + 2)), some (V.int (i : Int))] = _
      rw [show ((i + 2 : Nat) : Int) = (i : Int) + 2 by omega]
    · rw [upd_same, List.map_append]
      rfl
  · have c' : ¬ (b : Int) < (l.length : Int) := of_decide_eq_false (Bool.eq_false_iff.mpr c)
    have e : b = l.length := by omega
    rw [e, List.drop_of_length_le (Nat.le_refl _)] at hm
    have hm2 : some (ns ++ []) = rd l := hm
    rw [List.append_nil] at hm2
    exact ⟨_, rfl, q ns hm2.symm r H' hs hr' hn⟩

/-! _law_cell -/
theorem sc_law_cell : FnScope ["script", "k", "base"] ["script", "k"] (defScope s_law_cell) := ⟨rfl, rfl, rfl, by decide +kernel, rfl, by decide +kernel, by decide +kernel⟩
theorem cal_law_cellF {n : Nat} {f : Addr} {fd : FuncData} (T : Blt mg) (F : Fun K "_law_cell" "_law_cell" s_law_cell f fd) (b : Binds K fd ["script", "k"] []) (m : mg "_law_cell" = some (.ref f)) : Cal P w K mg base (n + 1) "_law_cell" ["script", "k"] (spCellF K) := by
  refine ⟨f, fd, F.ok sc_law_cell (fun vs H Q E h => ?_) (fun cdv A outer s H vs Q E hr h => ?_), b, F.kp, m⟩
  · obtain ⟨a, ns, k, rfl, _⟩ := h
    rfl
  obtain ⟨a, ns, k, rfl, hS, h0, q⟩ := h
  have hl : (ns.map V.int).length = ns.length := List.length_map _
  refine ⟨_, pss_cons (ps_if (pt_cmpR op_lt (pv 1) (pe_callB call_len_seq rfl T.len PySem.boot_len (pa_cons (pv 0) pa_nil)) (nomark _)) (pss_one (ps_ret (pe_ix ix_list (pv 0) (pv 1) (fun _ _ => rfl)))) pss_nil)
    (pss_cons (ps_set (i := 2) sc_law_cell.nd rfl (Or.inl rfl) pe_int)
    (pss_cons (ps_if (pt_cmpR op_gt (pe_callB call_len_seq rfl T.len PySem.boot_len (pa_cons (pv 0) pa_nil)) pe_int (nomark _)) (pss_one (ps_set (i := 2) sc_law_cell.nd rfl (Or.inl rfl) (pe_ix ix_list (pv 0) pe_int (fun _ _ => rfl)))) pss_nil)
    (pss_one (ps_ret (pe_op op_mod (pe_op op_add (pe_op op_mul (pe_op op_mod (pv 2) pe_int) pe_int) (pe_op op_mul (pv 1) pe_int)) pe_int))))), ?_⟩
  refine ⟨_, rfl, _, rfl, a, _, rfl, .inl hS, _, _, rfl, rfl, _, rfl, ?_⟩
  refine ite2 (fun c => ?_) (fun c => ?_)
  · have c' : k < (((ns.map V.int).length : Nat) : Int) := of_decide_eq_true c
    rw [hl] at c'
    have q1 := q
    unfold cellF at q1
    rw [if_pos c'] at q1
    exact ⟨_, rfl, _, rfl, a, _, _, _, rfl, rfl, hS, at_intsF h0 c', q1⟩
  have c9 : ¬ k < (((ns.map V.int).length : Nat) : Int) := of_decide_eq_false (Bool.eq_false_iff.mpr c)
  rw [hl] at c9
  unfold cellF at q
  rw [if_neg c9] at q
  have fin : ∀ z : Int, z = ns.headD 0 → tRet (tOp (rI (fun _ j => 0 < j) fun i j => V.int (i % j)) (tOp (rI0 fun i j => V.int (i + j)) (tOp (rI CMul fun i j => V.int (i * j)) (tOp (rI (fun _ j => 0 < j) fun i j => V.int (i % j)) (tVar 2) (tC (.int 65521))) (tC (.int 48271))) (tOp (rI CMul fun i j => V.int (i * j)) (tVar 1) (tC (.int 30103)))) (tC (.int 65521)))
      { nx := fun _ H' => Q .non H', rt := Q } [some (.ref a), some (.int k), some (.int z)] H := fun z ez => by
    subst ez
    exact ⟨_, rfl, _, _, rfl, rfl, (by show (0 : Int) < 65521; decide), _, _, rfl, rfl, .inr ⟨by decide, by decide⟩, _, rfl, _, _, rfl, rfl, .inr ⟨by decide, by decide⟩, _, _, rfl, rfl, _, _, rfl, rfl, (by show (0 : Int) < 65521; decide), q⟩
  refine ⟨_, rfl, a, _, rfl, .inl hS, _, _, rfl, rfl, _, rfl, ?_⟩
  refine ite2 (fun c2 => ?_) (fun c2 => ?_)
  · have c' : (0 : Int) < (((ns.map V.int).length : Nat) : Int) := of_decide_eq_true c2
    rw [hl] at c'
    exact ⟨_, rfl, a, _, _, _, rfl, rfl, hS, at_intsF (ns := ns) (k := 0) (Int.le_refl 0) c', fin _ (by cases ns with
      | nil => simp at c'
      | cons x xs => rfl)⟩
  · have c' : ¬ (0 : Int) < (((ns.map V.int).length : Nat) : Int) := of_decide_eq_false (Bool.eq_false_iff.mpr c2)
    rw [hl] at c'
    exact fin 0 (by cases ns with
      | nil => rfl
      | cons x xs => exfalso; simp only [List.length_cons] at c'; omega)

theorem cal_cell {n : Nat} (C : Cal P w K mg base n "_law_cell" ["script", "k"] (spCellF K)) : Cal P w K mg base n "_law_cell" ["script", "k"] (spCell K) := C.imp fun _ _ _ _ ⟨a, ns, k, e, hS, h0, q⟩ => ⟨a, ns, k, e, hS, h0, q _⟩

/-! _law_ints -/
theorem kit_list_list {K : PySem.W.Frag} : PySem.W.kitOne K (.type "list") (.type "list") = some true := by rfl
def spIntsZ (K : PySem.W.Frag) : Sp := fun vs H Q _ => ∃ (a b : Addr) (R : List Int), vs = [.ref a, .ref b] ∧ H a = some (.lst (R.map V.int)) ∧ SqL K H b (R.map V.int) ∧ R.length ≤ 5000 ∧ Q (.bl true) H
theorem sc_law_ints : FnScope ["found", "due", "k"] ["found", "due"] (defScope s_law_ints) := ⟨rfl, rfl, rfl, by decide +kernel, rfl, by decide +kernel, by decide +kernel⟩
theorem cal_law_ints {n : Nat} {f : Addr} {fd : FuncData} (T : Blt mg) (F : Fun K "_law_ints" "_law_ints" s_law_ints f fd) (b : Binds K fd ["found", "due"] []) (m : mg "_law_ints" = some (.ref f)) : Cal P w K mg base (n + 1) "_law_ints" ["found", "due"] (spIntsZ K) := by
  refine ⟨f, fd, F.ok sc_law_ints (fun vs H Q E h => ?_) (fun cdv A outer s H vs Q E hr h => ?_), b, F.kp, m⟩
  · obtain ⟨a, b, R, rfl, _⟩ := h
    rfl
  obtain ⟨a, b, R, rfl, hA, hB, hz, q⟩ := h
  have nd := sc_law_ints.nd
  have hL : (R.map V.int).length = R.length := List.length_map _
  refine ⟨_, pss_cons (ps_if (PW.pt (pw_or (pt_not (pt_val (pe_callB call_isi rfl T.isi PyProof.Rows.boot_isinstance (pa_cons (pv 0) (pa_cons (pe_bltn rfl T.list PyProof.Rows.boot_list (v := .ty "list") rfl) pa_nil)))))
      (pw_or1 (pt_cmpR op_ne (pe_callB call_len_seq rfl T.len PySem.boot_len (pa_cons (pv 0) pa_nil)) (pe_callB call_len_seq rfl T.len PySem.boot_len (pa_cons (pv 1) pa_nil)) (nomark _))))) (pss_one (ps_ret pe_bl)) pss_nil)
    (pss_cons (ps_for PassesOwn.never rfl (pi_range1 rfl T.range (pa_cons (pe_callB call_len_seq rfl T.len PySem.boot_len (pa_cons (pv 1) pa_nil)) pa_nil)) (pg_name (i := 2) nd rfl (Or.inl rfl))
      (pss_one (ps_if (PW.pt (pw_or (pt_not (pt_val (pe_callB call_isi rfl T.isi PyProof.Rows.boot_isinstance (pa_cons (pe_ix ix_list (pv 0) (pv 2) (fun _ _ => rfl)) (pa_cons (pe_bltn rfl T.int PyProof.Rows.boot_int (v := .ty "int") rfl) pa_nil)))))
        (pw_or (pt_val (pe_callB call_isi rfl T.isi PyProof.Rows.boot_isinstance (pa_cons (pe_ix ix_list (pv 0) (pv 2) (fun _ _ => rfl)) (pa_cons (pe_bltn rfl T.bool PyProof.Rows.boot_bool (v := .ty "bool") rfl) pa_nil))))
        (pw_or1 (pt_cmpR op_ne (pe_ix ix_list (pv 0) (pv 2) (fun _ _ => rfl)) (pe_ix ix_list (pv 1) (pv 2) (fun _ _ => rfl)) (nomark _)))))) (pss_one (ps_ret pe_bl)) pss_nil)))
    (pss_one (ps_ret pe_bl))), ?_⟩
  refine ⟨_, rfl, _, "list", _, true, rfl, .lst hA, kit_list_list, _, rfl, iteF ?_⟩
  refine ⟨_, rfl, a, _, rfl, .inl (SqL.of hA), _, rfl, b, _, rfl, .inl hB, rfl, _, rfl, iteNS rfl ?_⟩
  refine ⟨_, rfl, b, _, rfl, .inl hB, ((R.map V.int).length : Int), rfl, by omega, by rw [hL]; omega, ?_⟩
  have hN : (((R.map V.int).length : Nat) : Int).toNat = R.length := by rw [hL]; omega
  rw [hN]
  refine for_range (fun i σ2 Hx => ∃ kk : Option V, σ2 = [some (.ref a), some (.ref b), kk] ∧ Hx = H) ⟨none, rfl, rfl⟩ ?_ ?_
  · rintro i σ2 Hx hi ⟨kk, rfl, rfl⟩
    have hat : atI (R.map V.int) (0 + (i : Int)) = some (.int R[i]) := by
      rw [show (0 : Int) + (i : Int) = ((i : Nat) : Int) by omega]
      exact atI_nat (by rw [List.getElem?_map, List.getElem?_eq_getElem hi]; rfl)
    refine ⟨_, rfl, _, rfl, a, _, _, _, rfl, rfl, SqL.of hA, hat, _, "int", _, true, rfl, .int _, kit_int_int, _, rfl, iteF ?_⟩
    refine ⟨_, rfl, _, rfl, a, _, _, _, rfl, rfl, SqL.of hA, hat, _, "bool", _, false, rfl, .int _, kit_int_bool, _, rfl, iteF ?_⟩
    refine ⟨_, rfl, _, rfl, a, _, _, _, rfl, rfl, SqL.of hA, hat, _, rfl, _, rfl, b, _, _, _, rfl, rfl, hB, hat, rfl, _, rfl, iteNS rfl ?_⟩
    exact ⟨_, rfl, rfl⟩
  · rintro σ2 Hx ⟨kk, rfl, rfl⟩
    exact q

/-! _law_marks -/
theorem sc_law_marks : FnScope ["many", "marks"] ["many"] (defScope s_law_marks) := ⟨rfl, rfl, rfl, by decide +kernel, rfl, by decide +kernel, by decide +kernel⟩
theorem cal_law_marks {n : Nat} {f : Addr} {fd : FuncData} (T : Blt mg) (F : Fun K "_law_marks" "_law_marks" s_law_marks f fd) (b : Binds K fd ["many"] []) (m : mg "_law_marks" = some (.ref f)) : Cal P w K mg base (n + 1) "_law_marks" ["many"] spLMarks := by
  refine ⟨f, fd, F.ok sc_law_marks (fun vs H Q E h => ?_) (fun cdv A outer s H vs Q E hr h => ?_), b, F.kp, m⟩
  · obtain ⟨p, rfl, _⟩ := h
    rfl
  obtain ⟨p, rfl, hp, q⟩ := h
  refine ⟨_, pss_cons (ps_set (i := 1) sc_law_marks.nd rfl (Or.inl rfl) (pe_lst (pa_cons pe_int (pa_cons pe_int pa_nil))))
    (pss_cons (ps_while PassesOwn.never (pt_cmpR op_lt (pe_callB call_len_seq rfl T.len PySem.boot_len (pa_cons (pv 1) pa_nil)) (pv 0) (nomark _))
      (pss_one (ps_expr (pe_bm PySem.F.plainAttrs_list PySem.F.slot_list_append PySem.F.type_list_append mt_append (pv 1) (pa_cons (pe_op op_add (pe_ix ix_list (pv 1) (pe_un un_neg pe_int) (fun _ _ => rfl)) (pe_ix ix_list (pv 1) (pe_un un_neg pe_int) (fun _ _ => rfl))) pa_nil)))))
    (pss_one (ps_ret (pe_slice sl_list (pv 1) po_none (po_some (pv 0)))))), ?_⟩
  refine ⟨(by show 2 ≤ sizeLine; decide), fun r hr' => ?_⟩
  refine ⟨fun k σ H' => ∃ n, k = p + 2 - n ∧ σ = [some (.int (p : Int)), some (.ref r)] ∧ 2 ≤ n ∧ n ≤ max 2 p ∧ Same H H' ∧ H' r = some (.lst ((ms n).map V.int)), ⟨p, 2, by omega, rfl, Nat.le_refl _, by omega, same_new hr' _, upd_same⟩, ?_⟩
  rintro k σ H' ⟨n, rfl, rfl, h2, hn, hs, hl⟩
  have hlen : ((ms n).map V.int).length = n := by rw [List.length_map, ms_length]
  refine ⟨_, rfl, r, _, rfl, .inl (SqL.of hl), _, rfl, _, _, rfl, rfl, _, rfl, ?_⟩
  refine ite2 (fun c => ?_) (fun c => ?_)
  · have c' : (((ms n).map V.int).length : Int) < (p : Int) := of_decide_eq_true c
    rw [hlen] at c'
    obtain ⟨j, rfl⟩ : ∃ j, n = j + 2 := ⟨n - 2, by omega⟩
    refine ⟨fun σ' H' => ∃ k', k' < p + 2 - (j + 2) ∧ _, fun _ _ z => z, ?_⟩
    refine ⟨_, rfl, .inl ⟨rfl, _, SqL.of hl⟩, _, rfl, _, rfl, r, _, _, _, rfl, rfl, SqL.of hl, at_m1 j, _, rfl, _, rfl, r, _, _, _, rfl, rfl, SqL.of hl, at_m2 j, _, _, rfl, rfl, r, _, _, rfl, rfl, hl, (by rw [hlen]; exact small (by omega)), ?_⟩
    refine ⟨p + 2 - (j + 2 + 1), by omega, j + 2 + 1, rfl, rfl, by omega, by omega, same_upd hs hr' _, ?_⟩
    rw [upd_same, ← ms_more, List.map_append]
    rfl
  · have c' : ¬ (((ms n).map V.int).length : Int) < (p : Int) := of_decide_eq_false (Bool.eq_false_iff.mpr c)
    rw [hlen] at c'
    refine ⟨_, rfl, _, rfl, _, rfl, r, _, rfl, SqL.of hl, fun d hd => q d _ (hs.trans (same_new hd _)) ?_⟩
    rw [upd_same, cut_ms (show p ≤ n by omega)]

/-! _law_row -/
theorem sc_law_row : FnScope ["number", "marks", "row", "place"] ["number"] (defScope s_law_row) := ⟨rfl, rfl, rfl, by decide +kernel, rfl, by decide +kernel, by decide +kernel⟩
theorem cal_law_row {n : Nat} {f : Addr} {fd : FuncData} (T : Blt mg) (F : Fun K "_law_row" "_law_row" s_law_row f fd) (b : Binds K fd ["number"] []) (m : mg "_law_row" = some (.ref f)) : Cal P w K mg base (n + 1) "_law_row" ["number"] spRow := by
  refine ⟨f, fd, F.ok sc_law_row (fun vs H Q E h => ?_) (fun cdv A outer s H vs Q E hr h => ?_), b, F.kp, m⟩
  · obtain ⟨a, rfl, _⟩ := h
    rfl
  obtain ⟨N, rfl, h0, hN, q⟩ := h
  refine ⟨_, pss_cons (ps_set (i := 1) sc_law_row.nd rfl (Or.inl rfl) (pe_lst (pa_cons pe_int (pa_cons pe_int pa_nil))))
    (pss_cons (ps_while PassesOwn.never (pt_cmpR op_le (pe_ix ix_list (pv 1) (pe_un un_neg pe_int) (fun _ _ => rfl)) (pv 0) (nomark _))
      (pss_one (ps_expr (pe_bm PySem.F.plainAttrs_list PySem.F.slot_list_append PySem.F.type_list_append mt_append (pv 1) (pa_cons (pe_op op_add (pe_ix ix_list (pv 1) (pe_un un_neg pe_int) (fun _ _ => rfl)) (pe_ix ix_list (pv 1) (pe_un un_neg pe_int) (fun _ _ => rfl))) pa_nil)))))
    (pss_cons (ps_set (i := 2) sc_law_row.nd rfl (Or.inl rfl) (pe_lst pa_nil))
    (pss_cons (ps_for PassesOwn.never rfl (pi_rangeD rfl T.range (pa_cons (pe_op op_sub (pe_callB call_len_seq rfl T.len PySem.boot_len (pa_cons (pv 1) pa_nil)) pe_int) (pa_cons (pe_un un_neg pe_int) (pa_cons (pe_un un_neg pe_int) pa_nil)))) (pg_name (i := 3) sc_law_row.nd rfl (Or.inl rfl))
      (pss_one (ps_if (pt_cmpR op_le (pe_ix ix_list (pv 1) (pv 3) (fun _ _ => rfl)) (pv 0) (nomark _))
        (pss_cons (ps_set (i := 0) sc_law_row.nd rfl (Or.inl rfl) (pe_op op_sub (pv 0) (pe_ix ix_list (pv 1) (pv 3) (fun _ _ => rfl))))
        (pss_one (ps_expr (pe_bm PySem.F.plainAttrs_list PySem.F.slot_list_insert PySem.F.type_list_insert mt_ins0 (pv 2) (pa_cons pe_int (pa_cons (pv 3) pa_nil)))))) pss_nil)))
    (pss_one (ps_ret (pv 2)))))), ?_⟩
  refine ⟨(by show 2 ≤ sizeLine; decide), fun r hr' => ?_⟩
  refine ⟨fun k σ H' => ∃ n, k = 1002 - n ∧ σ = [some (.int N), some (.ref r), none, none] ∧ 2 ≤ n ∧ n ≤ 1001 ∧ Same H H' ∧ H' r = some (.lst ((ms n).map V.int)), ⟨1000, 2, by omega, rfl, Nat.le_refl _, by omega, same_new hr' _, upd_same⟩, ?_⟩
  rintro k σ H' ⟨n, rfl, rfl, h2, hn, hs, hl⟩
  obtain ⟨j, rfl⟩ : ∃ j, n = j + 2 := ⟨n - 2, by omega⟩
  have hlen : ((ms (j + 2)).map V.int).length = j + 2 := by rw [List.length_map, ms_length]
  refine ⟨_, rfl, _, rfl, r, _, _, _, rfl, rfl, SqL.of hl, at_m1 j, _, rfl, _, _, rfl, rfl, _, rfl, ?_⟩
  refine ite2 (fun c => ?_) (fun c => ?_)
  · have c' : mk (j + 1) ≤ N := of_decide_eq_true c
    have hj : j + 2 ≤ 1000 := by
      rcases Nat.lt_or_ge (j + 1) 1000 with z | z
      · omega
      · have := mk_mono z
        omega
    refine ⟨fun σ' H' => ∃ k', k' < 1002 - (j + 2) ∧ _, fun _ _ z => z, ?_⟩
    refine ⟨_, rfl, .inl ⟨rfl, _, SqL.of hl⟩, _, rfl, _, rfl, r, _, _, _, rfl, rfl, SqL.of hl, at_m1 j, _, rfl, _, rfl, r, _, _, _, rfl, rfl, SqL.of hl, at_m2 j, _, _, rfl, rfl, r, _, _, rfl, rfl, hl, (by rw [hlen]; exact small (by omega)), ?_⟩
    refine ⟨1002 - (j + 2 + 1), by omega, j + 2 + 1, rfl, rfl, by omega, by omega, same_upd hs hr' _, ?_⟩
    rw [upd_same, ← ms_more, List.map_append]
    rfl
  · have c' : ¬ mk (j + 1) ≤ N := of_decide_eq_false (Bool.eq_false_iff.mpr c)
    refine ⟨(by show 0 ≤ sizeLine; decide), fun d hd => ?_⟩
    have hrd : r ≠ d := ne_of_none hl hd
    have hdH : H d = none := hs.free hd
    refine ⟨_, rfl, r, _, rfl, .inl (SqL.of (by rw [upd_ne hrd]; exact hl)), _, _, rfl, rfl, _, rfl, _, rfl, ((((ms (j + 2)).map V.int).length : Nat) : Int) - 1, -1, rfl, ⟨by rw [hlen]; omega, by rw [hlen]; omega, by omega, by omega⟩, ?_⟩
    have hcount : (((((ms (j + 2)).map V.int).length : Nat) : Int) - 1 - -1).toNat = j + 2 := by rw [hlen]; omega
    rw [hcount]
    refine for_down (fun i σ2 H2 => ∃ (acc : List Nat) (R : Int) (pl : Option V), σ2 = [some (.int R), some (.ref r), some (.ref d), pl] ∧ i ≤ j + 2 ∧ Same H H2 ∧ H2 r = some (.lst ((ms (j + 2)).map V.int)) ∧ H2 d = some (.lst ((rz acc).map V.int)) ∧ acc.length ≤ i ∧ gr (j + 2) N = gr (j + 2 - i) R ++ acc)
      ⟨[], N, none, rfl, Nat.zero_le _, hs.trans (same_new hd _), by rw [upd_ne hrd]; exact hl, upd_same, Nat.le_refl _, by simp⟩ ?_ ?_
    · rintro i σ2 H2 hi ⟨acc, R, pl, rfl, _, hs2, hl2, hd2, hla, hg⟩
      obtain ⟨t, ht⟩ : ∃ t, j + 2 = i + (t + 1) := ⟨j + 1 - i, by omega⟩
      have hpl : ((((ms (j + 2)).map V.int).length : Nat) : Int) - 1 - (i : Int) = ((t : Nat) : Int) := by rw [hlen]; omega
      rw [show j + 2 - i = t + 1 by omega] at hg
      show gName 3 (.int (((((ms (j + 2)).map V.int).length : Nat) : Int) - 1 - (i : Int))) _ _ _
      rw [hpl]
      refine ⟨_, rfl, _, rfl, r, _, _, _, rfl, rfl, SqL.of hl2, ms_at (k := t) (by omega), _, rfl, _, _, rfl, rfl, _, rfl, ?_⟩
      refine ite2 (fun c2 => ?_) (fun c2 => ?_)
      · have c2' : mk t ≤ R := of_decide_eq_true c2
        refine ⟨_, rfl, _, rfl, _, rfl, r, _, _, _, rfl, rfl, SqL.of hl2, ms_at (k := t) (by omega), _, _, rfl, rfl, ?_⟩
        refine ⟨_, rfl, .inl ⟨rfl, _, SqL.of hd2⟩, _, rfl, d, _, _, rfl, rfl, hd2, (by rw [row_len]; exact small (by omega)), ?_⟩
        refine ⟨t :: acc, R - mk t, _, rfl, by omega, same_upd hs2 hdH _, by rw [upd_ne hrd]; exact hl2, ?_, by simp; omega, ?_⟩
        · rw [upd_same]
          rfl
        · rw [hg, gr_pos c2', show j + 2 - (i + 1) = t by omega]
          simp
      · have c2' : ¬ mk t ≤ R := of_decide_eq_false (Bool.eq_false_iff.mpr c2)
        refine ⟨acc, R, _, rfl, by omega, hs2, hl2, hd2, by omega, ?_⟩
        rw [hg, gr_neg c2', show j + 2 - (i + 1) = t by omega]
    · rintro σ2 H2 ⟨acc, R, pl, rfl, _, hs2, hl2, hd2, hla, hg⟩
      have e0 : gr (j + 2 - (j + 2)) R = [] := by rw [Nat.sub_self]; rfl
      rw [e0, List.nil_append] at hg
      have ez : gr (j + 2) N = zk N := gr_zk h0 (Int.lt_trans (Int.not_le.mp c') (mk_lt (j + 1)))
      refine ⟨_, rfl, q d _ hs2 hdH ?_⟩
      rw [hd2, ← hg, ez]

/-! _law_number -/
theorem sc_law_number : FnScope ["script", "k", "bound", "cell", "way", "marks", "number", "j"] ["script", "k", "bound"] (defScope s_law_number) := ⟨rfl, rfl, rfl, by decide +kernel, rfl, by decide +kernel, by decide +kernel⟩
theorem cal_law_number {n : Nat} {f : Addr} {fd : FuncData} (T : Blt mg) (F : Fun K "_law_number" "_law_number" s_law_number f fd) (b : Binds K fd ["script", "k", "bound"] []) (m : mg "_law_number" = some (.ref f)) (C1 : Cal P w K mg base n "_law_cell" ["script", "k"] (spCell K)) (C2 : Cal P w K mg base n "_law_marks" ["many"] spLMarks) : Cal P w K mg base (n + 1) "_law_number" ["script", "k", "bound"] (spNumber K) := by
  refine ⟨f, fd, F.ok sc_law_number (fun vs H Q E h => ?_) (fun cdv A outer s H vs Q E hr h => ?_), b, F.kp, m⟩
  · obtain ⟨a, ns, k, bb, rfl, _⟩ := h
    rfl
  obtain ⟨a, ns, k, bb, rfl, hS, h0, hb, q⟩ := h
  have nd := sc_law_number.nd
  refine ⟨_, pss_cons (ps_set (i := 3) nd rfl (Or.inr rfl) (pe_cal C1 hr rfl (pa_cons (pv 0) (pa_cons (pv 1) pa_nil))))
    (pss_cons (ps_set (i := 4) nd rfl (Or.inl rfl) (pe_op op_mod (pe_cal C1 hr rfl (pa_cons (pv 0) (pa_cons (pe_op op_add (pv 1) pe_int) pa_nil))) pe_int))
    (pss_cons (ps_if (pt_cmpR op_eq (pv 4) pe_int (nomark _)) (pss_one (ps_ret (pe_op op_mod (pv 3) pe_int))) pss_nil)
    (pss_cons (ps_if (pt_cmpR op_eq (pv 4) pe_int (nomark _))
      (pss_cons (ps_set (i := 5) nd rfl (Or.inr rfl) (pe_cal C2 hr rfl (pa_cons pe_int pa_nil)))
      (pss_one (ps_ret (pe_op op_mod (pe_callB (call_max2 rfl) rfl T.max PyProof.Rows.boot_max (pa_cons pe_int (pa_cons (pe_op op_add (pe_op op_sub (pe_ix ix_list (pv 5) (pe_op op_mod (pv 3) pe_int) (fun _ _ => rfl)) pe_int) (pe_op op_mod (pe_op op_fdiv (pv 3) pe_int) pe_int)) pa_nil))) (pv 2))))) pss_nil)
    (pss_cons (ps_if (pt_cmpR op_eq (pv 4) pe_int (nomark _))
      (pss_cons (ps_set (i := 5) nd rfl (Or.inr rfl) (pe_cal C2 hr rfl (pa_cons pe_int pa_nil)))
      (pss_one (ps_ret (pe_op op_mod (pe_callB (call_sumL rfl) rfl T.sum PyProof.Rows.boot_sum (pa_cons (pe_comp (ns := [5, 3]) rfl ⟨rfl, rfl, rfl, rfl, rfl, (by show List.Nodup (["j", "marks", "cell"] : List Str); decide +kernel), rfl⟩ (pi_range1 rfl T.range (pa_cons (pe_op op_mod (pe_op op_fdiv (pv 3) pe_int) pe_int) pa_nil)) (fun _ _ _ => pts_nil)
        (fun _ _ _ => pe_ix (ix_listK (K := K)) (pv 1) (pe_op op_add (pe_op op_mod (pv 2) pe_int) (pe_op op_mul pe_int (pv 0))) (fun _ _ => rfl))) pa_nil)) (pv 2))))) pss_nil)
    (pss_cons (ps_set (i := 6) nd rfl (Or.inl rfl) (pv 3))
    (pss_cons (ps_for PassesOwn.never rfl (pi_range1 rfl T.range (pa_cons (pe_op op_add (pe_op op_mul pe_int (pv 4)) pe_int) pa_nil)) (pg_name (i := 7) nd rfl (Or.inl rfl))
      (pss_one (ps_set (i := 6) nd rfl (Or.inl rfl) (pe_op op_add (pe_op op_mul (pv 6) pe_int) pe_int))))
    (pss_one (ps_ret (pe_op op_mod (pv 6) (pv 2)))))))))), ?_⟩
  have hmod : ∀ z : Int, 0 ≤ z % bb ∧ z % bb < bb := fun z => ⟨Int.emod_nonneg _ (by omega), Int.emod_lt_of_pos _ (by omega)⟩
  refine ⟨_, rfl, _, rfl, a, ns, k, rfl, hS, h0, fun c => ?_⟩
  refine ⟨_, rfl, _, rfl, _, _, rfl, rfl, a, ns, k + 1, rfl, hS, by omega, fun c2 => ⟨_, _, rfl, rfl, (by show (0 : Int) < 6; decide), ?_⟩⟩
  refine ⟨_, rfl, rfl, _, rfl, ite2 (fun w0 => ?_) (fun w0 => ?_)⟩
  · have e1 : 0 ≤ c % 40 := Int.emod_nonneg _ (by decide)
    have e2 : c % 40 < 40 := Int.emod_lt_of_pos _ (by decide)
    exact ⟨_, rfl, _, _, rfl, rfl, (by show (0 : Int) < 40; decide), q _ H (Same.refl H) e1 (by omega)⟩
  refine ⟨_, rfl, rfl, _, rfl, ite2 (fun w1 => ?_) (fun w1 => ?_)⟩
  · refine ⟨390, rfl, by decide, fun r H1 hs1 hr1 => ?_⟩
    obtain ⟨i, hi, hi2⟩ : ∃ i : Nat, c % 370 = (i : Int) ∧ i < 370 := ⟨(c % 370).toNat, by omega, by omega⟩
    refine ⟨_, rfl, _, rfl, _, _, rfl, rfl, (by show (0 : Int) < 370; decide), r, _, _, _, rfl, rfl, SqL.of hr1, (by rw [hi]; exact ms_at (by omega)), _, _, rfl, rfl, _, rfl, _, _, rfl, rfl, ⟨by decide, by decide⟩, _, _, rfl, rfl, (by show (0 : Int) < 3; decide), _, _, rfl, rfl, _, _, rfl, _, rfl, _, _, rfl, rfl, (by show (0 : Int) < bb; omega), ?_⟩
    exact q _ H1 hs1 (hmod _).1 (hmod _).2
  refine ⟨_, rfl, rfl, _, rfl, ite2 (fun w2 => ?_) (fun w2 => ?_)⟩
  · refine ⟨390, rfl, by decide, fun r H1 hs1 hr1 => ?_⟩
    obtain ⟨t, ht, ht2⟩ : ∃ t : Nat, c / 2 % 180 = (t : Int) ∧ t < 180 := ⟨(c / 2 % 180).toNat, by omega, by omega⟩
    obtain ⟨u, hu, hu2⟩ : ∃ u : Nat, c % 2 = (u : Int) ∧ u < 2 := ⟨(c % 2).toNat, by omega, by omega⟩
    refine ⟨_, rfl, _, _, rfl, rfl, ⟨by decide, by decide⟩, _, _, rfl, rfl, (by show (0 : Int) < 180; decide), c / 2 % 180, rfl, by omega, by omega, ?_⟩
    rw [ht, show ((t : Nat) : Int).toNat = t by omega]
    refine comp_rng (n := t) (f := fun i => V.int (mk (u + 2 * i))) (p := fun _ => true) (len_ok (by omega)) (fun i H2 R2 hi hs2 k => k H2 (Same.refl _)) (fun i H2 R2 hi _ hs2 k => ?_) fun D H2 hD hs2 hD2 => ?_
    · refine ⟨_, rfl, _, rfl, _, _, rfl, rfl, (by show (0 : Int) < 2; decide), _, rfl, _, _, rfl, rfl, .inl ⟨by decide, by decide⟩, _, _, rfl, rfl, r, _, _, _, rfl, rfl, SqL.of (hs2 _ _ hr1), ?_, k H2 (Same.refl _)⟩
      rw [hu, show (u : Int) + 2 * (0 + (i : Int)) = ((u + 2 * i : Nat) : Int) by omega]
      exact ms_at (by omega)
    · have e : (List.range t).map (fun i => V.int (mk (u + 2 * i))) = ((List.range t).map fun i => mk (u + 2 * i)).map V.int := by
        rw [List.map_map]
        rfl
      rw [resC_all, e] at hD2
      exact ⟨D, _, rfl, SqL.of hD2, _, rfl, _, _, rfl, rfl, (by show (0 : Int) < bb; omega), q _ H2 (hs1.trans hs2) (hmod _).1 (hmod _).2⟩
  have hw0 : 0 ≤ c2 % 6 := Int.emod_nonneg _ (by decide)
  have hw6 : c2 % 6 < 6 := Int.emod_lt_of_pos _ (by decide)
  refine ⟨_, rfl, _, rfl, _, _, rfl, rfl, .inl ⟨by decide, by decide⟩, _, _, rfl, rfl, 4 * (c2 % 6) + 1, rfl, by omega, by omega, ?_⟩
  refine for_range (fun i σ2 H2 => ∃ (z : Int) (jj : Option V), σ2 = [some (.ref a), some (.int k), some (.int bb), some (.int c), some (.int (c2 % 6)), none, some (.int z), jj] ∧ H2 = H) ⟨c, none, rfl, rfl⟩ ?_ ?_
  · rintro i σ2 H2 hi ⟨z, jj, rfl, rfl⟩
    exact ⟨_, rfl, _, _, rfl, rfl, .inr ⟨by decide, by decide⟩, _, _, rfl, rfl, _, _, rfl, rfl⟩
  · rintro σ2 H2 ⟨z, jj, rfl, rfl⟩
    exact ⟨_, rfl, _, rfl, _, _, rfl, rfl, (by show (0 : Int) < bb; omega), q _ H2 (Same.refl H2) (hmod _).1 (hmod _).2⟩

/-! _law_code -/
theorem sc_law_code : FnScope ["number", "row", "signs", "place"] ["number"] (defScope s_law_code) := ⟨rfl, rfl, rfl, by decide +kernel, rfl, by decide +kernel, by decide +kernel⟩
theorem cal_law_code {n : Nat} {f : Addr} {fd : FuncData} (T : Blt mg) (F : Fun K "_law_code" "_law_code" s_law_code f fd) (b : Binds K fd ["number"] []) (m : mg "_law_code" = some (.ref f)) (C1 : Cal P w K mg base n "_law_row" ["number"] spRow) : Cal P w K mg base (n + 1) "_law_code" ["number"] spCode := by
  refine ⟨f, fd, F.ok sc_law_code (fun vs H Q E h => ?_) (fun cdv A outer s H vs Q E hr h => ?_), b, F.kp, m⟩
  · obtain ⟨n, rfl, _⟩ := h
    rfl
  obtain ⟨N, rfl, h1, h2, q⟩ := h
  have nd := sc_law_code.nd
  have h810 := mk810
  have htop := top_lt h1 h2
  refine ⟨_, pss_cons (ps_set (i := 1) nd rfl (Or.inl rfl) (pe_cal C1 hr rfl (pa_cons (pv 0) pa_nil)))
    (pss_cons (ps_setComp (i := 2) (ns := []) rfl nd rfl (Or.inl rfl) ⟨rfl, rfl, rfl, rfl, rfl, (by show List.Nodup (["place"] : List Str); decide +kernel), rfl⟩ (pi_range1 rfl T.range (pa_cons (pe_op op_add (pe_ix ix_list (pv 1) (pe_un un_neg pe_int) (fun _ _ => rfl)) pe_int) pa_nil)) (fun _ _ _ => pts_nil) (fun _ _ _ => pe_str))
    (pss_cons (ps_for PassesOwn.never rfl (pi_list (pv 1)) (pg_name (i := 3) nd rfl (Or.inl rfl))
      (pss_one (ps_asg pe_str (pg_sub (pv 2) (pv 3) set_list))))
    (pss_one (ps_ret (pe_op op_addTx (pe_bm PySem.F.plainAttrs_str PySem.F.slot_str_join PySem.F.type_str_join mt_join pe_str (pa_cons (pv 2) pa_nil)) pe_str))))), ?_⟩
  rw [lit_0, lit_1, lit_]
  refine ⟨_, rfl, N, rfl, by omega, by omega, fun r H1 hs1 hrn hr1 => ?_⟩
  refine ⟨_, rfl, _, rfl, r, _, _, _, rfl, rfl, SqL.of hr1, row_last h1, _, _, rfl, rfl, ((topP (zk N) : Nat) : Int) + 1, rfl, by omega, by omega, ?_⟩
  rw [show (((topP (zk N) : Nat) : Int) + 1).toNat = topP (zk N) + 1 by omega]
  refine comp_rng (n := topP (zk N) + 1) (f := fun i => V.str (tx [48])) (p := fun _ => true) (len_ok (by omega)) (fun i H2 R2 hi hs2 k => k H2 (Same.refl _)) (fun i H2 R2 hi _ hs2 k => k H2 (Same.refl _)) fun D H2 hD hs2 hD2 => ?_
  have hres : resC (topP (zk N) + 1) (fun _ => true) (fun i => V.str (tx [48])) = ((bits [] (topP (zk N) + 1)).map fun c => [c]).map fun l => V.str (tx l) := by
    rw [resC_all, bits_nil, List.map_map, List.map_map]
    rfl
  rw [hres] at hD2
  have hrD : r ≠ D := ne_of_none hr1 hD
  have hDH : H D = none := hs1.free hD
  refine ⟨_, rfl, r, rfl, ⟨_, SqL.of (hs2 _ _ hr1)⟩, ?_⟩
  refine for_list (K := K) (xs := (rz (zk N)).map V.int) (fun i σ2 H3 => ∃ p : Option V, σ2 = [some (.int N), some (.ref r), some (.ref D), p] ∧ Same H H3 ∧ H3 r = some (.lst ((rz (zk N)).map V.int)) ∧ H3 D = some (.lst (((bits ((zk N).take i) (topP (zk N) + 1)).map fun c => [c]).map fun l => V.str (tx l)))) ⟨none, rfl, hs1.trans hs2, hs2 _ _ hr1, hD2⟩ (fun i σ2 H3 _ ⟨p, _, _, h, _⟩ => SqL.of h) ?_ ?_
  · rintro i x σ2 H3 hx ⟨p, rfl, hs3, hr3, hD3⟩
    obtain ⟨k, hk, rfl⟩ := row_get hx
    have hkt := zk_le_top h1 k (List.mem_of_getElem? hk)
    have ht : (zk N).take (i + 1) = (zk N).take i ++ [k] := by rw [List.take_add_one, hk]; rfl
    refine ⟨_, rfl, _, rfl, D, _, _, k, rfl, rfl, hD3, ?_, ?_⟩
    · unfold ixN
      have hlen : ((((bits ((zk N).take i) (topP (zk N) + 1)).map fun c => [c]).map fun l => V.str (tx l)).length : Nat) = topP (zk N) + 1 := by rw [List.length_map, List.length_map, bits_length]
      rw [hlen, if_pos (by omega : (0 : Int) ≤ ((k : Nat) : Int)), if_pos (by omega : ((k : Nat) : Int) < ((topP (zk N) + 1 : Nat) : Int))]
      rfl
    · refine ⟨_, rfl, same_upd hs3 hDH _, by rw [upd_ne hrD]; exact hr3, ?_⟩
      rw [upd_same, ht, ← bits_set, List.map_set, List.map_set]
  · rintro σ2 H3 ⟨p, rfl, hs3, hr3, hD3⟩
    rw [row_len, List.take_length] at hD3
    refine ⟨rfl, _, rfl, D, _, rfl, rfl, SqL.of hD3, by rw [flat_single, bits_length]; omega, ?_⟩
    rw [flat_single]
    refine ⟨_, [49], rfl, rfl, (by rw [bits_length]; exact Nat.le_of_lt (small (by show _ + 1 ≤ 100000; omega))), q H3 hs3⟩

/-! _law_numbers -/
theorem sc_law_numbers : FnScope ["script", "numbers", "k", "cell"] ["script"] (defScope s_law_numbers) := ⟨rfl, rfl, rfl, by decide +kernel, rfl, by decide +kernel, by decide +kernel⟩
theorem nums_fifty (ns : List Int) : resC 50 (fun _ => true) (fun i => V.int (1 + cellF ns (2 + (0 + (i : Int))) % 60)) = ((List.range 50).map fun (i : Nat) => 1 + cellF ns (2 + (0 + (i : Int))) % 60).map V.int := by
  rw [resC_all, List.map_map]
  rfl
theorem nums_snoc {xs : List Int} {x : Int} {i : Nat} (h : xs.length = i ∧ ∀ y ∈ xs, 1 ≤ y ∧ y < 10 ^ 40) (h1 : 1 ≤ x) (h2 : x < 10 ^ 40) : (xs ++ [x]).length = i + 1 ∧ ∀ y ∈ xs ++ [x], 1 ≤ y ∧ y < 10 ^ 40 := by
  refine ⟨by simp [h.1], fun y hy => ?_⟩
  rcases List.mem_append.mp hy with hy | hy
  · exact h.2 y hy
  · have : y = x := by simpa using hy
    rw [this]; exact ⟨h1, h2⟩
theorem cal_law_numbers {n : Nat} {f : Addr} {fd : FuncData} (T : Blt mg) (F : Fun K "_law_numbers" "_law_numbers" s_law_numbers f fd) (b : Binds K fd ["script"] []) (m : mg "_law_numbers" = some (.ref f)) (C1 : Cal P w K mg base n "_law_cell" ["script", "k"] (spCellF K)) (C2 : Cal P w K mg base n "_law_number" ["script", "k", "bound"] (spNumber K)) : Cal P w K mg base (n + 1) "_law_numbers" ["script"] (spNumbers K) := by
  refine ⟨f, fd, F.ok sc_law_numbers (fun vs H Q E h => ?_) (fun cdv A outer s H vs Q E hr h => ?_), b, F.kp, m⟩
  · obtain ⟨a, ns, rfl, _⟩ := h
    rfl
  obtain ⟨a, ns, rfl, hS, q⟩ := h
  have nd := sc_law_numbers.nd
  have p40 : (1000 : Int) < 10 ^ 40 := by decide +kernel
  refine ⟨_, pss_cons (ps_set (i := 1) nd rfl (Or.inl rfl) (pe_lst pa_nil))
    (pss_cons (ps_if (pt_cmpR op_eq (pe_op op_mod (pe_op op_fdiv (pe_cal C1 hr rfl (pa_cons (pv 0) (pa_cons pe_int pa_nil))) pe_int) pe_int) pe_int (nomark _)) (pss_one (ps_ret (pe_comp (ns := [0]) rfl ⟨rfl, rfl, rfl, rfl, rfl, (by show List.Nodup (["k", "script"] : List Str); decide +kernel), rfl⟩ (pi_range1 rfl T.range (pa_cons pe_int pa_nil)) (fun _ _ _ => pts_nil) (fun _ _ _ => pe_op op_add pe_int (pe_op op_mod (pe_cal C1 hr rfl (pa_cons (pv 1) (pa_cons (pe_op op_add pe_int (pv 0)) pa_nil))) pe_int))))) pss_nil)
    (pss_cons (ps_for PassesOwn.never rfl (pi_range1 rfl T.range (pa_cons (pe_op op_mod (pe_cal C1 hr rfl (pa_cons (pv 0) (pa_cons pe_int pa_nil))) pe_int) pa_nil)) (pg_name (i := 2) nd rfl (Or.inl rfl))
      (pss_cons (ps_set (i := 3) nd rfl (Or.inl rfl) (pe_cal C1 hr rfl (pa_cons (pv 0) (pa_cons (pe_op op_add pe_int (pe_op op_mulG pe_int (pv 2))) pa_nil))))
      (pss_one (ps_if (pt_cmpR op_eq (pe_op op_mod (pe_cal C1 hr rfl (pa_cons (pv 0) (pa_cons pe_int pa_nil))) pe_int) pe_int (nomark _)) (pss_one (ps_expr (pe_bm PySem.F.plainAttrs_list PySem.F.slot_list_append PySem.F.type_list_append mt_append (pv 1) (pa_cons (pe_op op_add pe_int (pe_op op_mod (pv 3) pe_int)) pa_nil))))
        (pss_one (ps_if (pt_cmpR op_eq (pe_op op_mod (pv 3) pe_int) pe_int (nomark _)) (pss_one (ps_expr (pe_bm PySem.F.plainAttrs_list PySem.F.slot_list_append PySem.F.type_list_append mt_append (pv 1) (pa_cons (pe_callB (call_max2 rfl) rfl T.max PyProof.Rows.boot_max (pa_cons pe_int (pa_cons (pe_cal C2 hr rfl (pa_cons (pv 0) (pa_cons (pe_op op_add pe_int (pe_op op_mulG pe_int (pv 2))) (pa_cons (pe_op op_pow pe_int pe_int) pa_nil)))) pa_nil))) pa_nil))))
          (pss_one (ps_expr (pe_bm PySem.F.plainAttrs_list PySem.F.slot_list_append PySem.F.type_list_append mt_append (pv 1) (pa_cons (pe_op op_add pe_int (pe_op op_mod (pe_op op_fdiv (pv 3) pe_int) pe_int)) pa_nil))))))))))
    (pss_one (ps_ret (pv 1))))), ?_⟩
  refine ⟨(by show 0 ≤ sizeLine; decide), fun r hr' => ?_⟩
  have hS1 : SqL K (upd H r (.lst [])) a (ns.map V.int) := (same_new hr' _).seq hS
  refine ⟨_, rfl, a, ns, 0, rfl, hS1, by decide, _, _, rfl, rfl, ⟨by decide, by decide⟩, _, _, rfl, rfl, (by show (0 : Int) < 9; decide), rfl, _, rfl, ?_⟩
  refine ite2 (fun z => ?_) (fun z => ?_)
  · refine ⟨50, rfl, by decide, by decide, ?_⟩
    refine comp_rng (n := 50) (f := fun i => V.int (1 + cellF ns (2 + (0 + (i : Int))) % 60)) (p := fun _ => true) (len_ok (by decide)) (fun i H2 R2 hi hs2 k => k H2 (Same.refl _)) (fun i H2 R2 hi _ hs2 k => ?_) fun D H2 hD hs2 hD2 => ?_
    · exact ⟨_, rfl, _, rfl, _, _, rfl, rfl, a, ns, 2 + (0 + (i : Int)), rfl, hs2.seq hS1, by omega, _, _, rfl, rfl, (by show (0 : Int) < 60; decide), _, _, rfl, rfl, k H2 (Same.refl _)⟩
    · rw [nums_fifty] at hD2
      refine q _ D H2 ((same_new hr' _).trans hs2) ((same_new hr' _).free hD) hD2 ⟨by simp, ?_, ?_⟩
      · intro x hx
        obtain ⟨i, _, rfl⟩ := List.mem_map.mp hx
        have a1 := Int.emod_nonneg (cellF ns (2 + (0 + (i : Int)))) (b := 60) (by decide)
        have a2 := Int.emod_lt_of_pos (cellF ns (2 + (0 + (i : Int)))) (b := 60) (by decide)
        omega
      · have hb9 := big60s
        have := codes_length (k := 9) (ns := (List.range 50).map fun (i : Nat) => 1 + cellF ns (2 + (0 + (i : Int))) % 60) fun x hx => by
          obtain ⟨i, _, rfl⟩ := List.mem_map.mp hx
          have a1 := Int.emod_nonneg (cellF ns (2 + (0 + (i : Int)))) (b := 60) (by decide)
          have a2 := Int.emod_lt_of_pos (cellF ns (2 + (0 + (i : Int)))) (b := 60) (by decide)
          omega
        rw [List.length_map, List.length_range] at this
        omega
  show tSeq _ _ _ _ _
  refine ⟨_, rfl, a, ns, 0, rfl, hS1, by decide, _, _, rfl, rfl, (by show (0 : Int) < 10; decide), cellF ns 0 % 10, rfl, by omega, by omega, ?_⟩
  obtain ⟨t, ht, ht2⟩ : ∃ t : Nat, (cellF ns 0 % 10).toNat = t ∧ t < 10 := ⟨_, rfl, by omega⟩
  rw [ht]
  refine for_range (fun i σ2 H2 => ∃ (xs : List Int) (x y : Option V), σ2 = [some (.ref a), some (.ref r), x, y] ∧ Same H H2 ∧ H2 r = some (.lst (xs.map V.int)) ∧ xs.length = i ∧ ∀ y ∈ xs, 1 ≤ y ∧ y < 10 ^ 40) ⟨[], none, none, rfl, same_new hr' _, upd_same, rfl, fun _ h => nomatch h⟩ ?_ ?_
  · rintro i σ2 H2 hi ⟨xs, x, y, rfl, hs2, hr2, hx⟩
    have hsz : (xs.map V.int).length < sizeLine := by rw [List.length_map]; exact small (by omega)
    refine ⟨_, rfl, _, rfl, _, _, rfl, rfl, .of_left (by decide), _, _, rfl, rfl, a, ns, _, rfl, hs2.seq hS, by omega, ?_⟩
    obtain ⟨c, hc⟩ : ∃ c, cellF ns (2 + 2 * (0 + (i : Int))) = c := ⟨_, rfl⟩
    rw [hc]
    have step : ∀ (v : Int) (H3 : Hp), 1 ≤ v → v < 10 ^ 40 → Same H2 H3 → ∃ (xs' : List Int) (x y : Option V), [some (V.ref a), some (V.ref r), some (V.int (0 + (i : Int))), some (V.int c)] = [some (.ref a), some (.ref r), x, y] ∧ Same H (upd H3 r (.lst (xs.map V.int ++ [V.int v]))) ∧ upd H3 r (.lst (xs.map V.int ++ [V.int v])) r = some (.lst (xs'.map V.int)) ∧ xs'.length = i + 1 ∧ ∀ y ∈ xs', 1 ≤ y ∧ y < 10 ^ 40 := fun v H3 h1 h2 h3 =>
      ⟨xs ++ [v], _, _, rfl, same_upd (hs2.trans h3) hr' _, by rw [upd_same, List.map_append]; rfl, nums_snoc hx h1 h2⟩
    refine ⟨_, rfl, a, ns, 1, rfl, hs2.seq hS, by decide, _, _, rfl, rfl, (by show (0 : Int) < 5; decide), rfl, _, rfl, ?_⟩
    refine ite2 (fun z1 => ?_) (fun z1 => ?_)
    · exact ⟨_, rfl, .inl ⟨rfl, _, SqL.of hr2⟩, _, rfl, _, _, rfl, rfl, (by show (0 : Int) < 2; decide), _, _, rfl, rfl, r, _, _, rfl, rfl, hr2, hsz, step _ H2 (by omega) (by omega) (Same.refl _)⟩
    · refine ⟨_, rfl, _, _, rfl, rfl, (by show (0 : Int) < 4; decide), rfl, _, rfl, ?_⟩
      refine ite2 (fun z2 => ?_) (fun z2 => ?_)
      · refine ⟨_, rfl, .inl ⟨rfl, _, SqL.of hr2⟩, _, rfl, _, rfl, _, _, rfl, rfl, .of_left (by decide), _, _, rfl, rfl, _, _, rfl, rfl, ⟨by decide, by decide, by decide⟩, a, ns, _, _, rfl, hs2.seq hS, by omega, (by decide +kernel), fun v H3 hs3 v0 vb => ⟨_, _, rfl, r, _, _, rfl, rfl, hs3 _ _ hr2, hsz, step _ H3 ?_ ?_ hs3⟩⟩
        · split <;> omega
        · have vb' : v < 10 ^ 40 := vb
          split <;> omega
      · exact ⟨_, rfl, .inl ⟨rfl, _, SqL.of hr2⟩, _, rfl, _, _, rfl, rfl, ⟨by decide, by decide⟩, _, _, rfl, rfl, (by show (0 : Int) < 60; decide), _, _, rfl, rfl, r, _, _, rfl, rfl, hr2, hsz, step _ H2 (by omega) (by omega) (Same.refl _)⟩
  · rintro σ2 H2 ⟨xs, x, y, rfl, hs2, hr2, hx⟩
    have hb4 := big40
    have hcl := codes_length (k := 201) (ns := xs) fun x h => ⟨(hx.2 x h).1, by have := (hx.2 x h).2; omega⟩
    have hcl2 : (201 + 1) * xs.length ≤ (201 + 1) * 9 := Nat.mul_le_mul_left _ (by omega)
    exact ⟨_, rfl, q xs r H2 hs2 hr' hr2 ⟨by omega, hx.2, by omega⟩⟩

/-! _law_which -/
def spWhich (CB : Addr) : Sp := fun vs H Q _ => ∃ x, vs = [.ref x] ∧ H x = some (ExcO x CB) ∧ ∀ (r : Addr) (H' : Hp), Same H H' → H r = none → H' r = some (.lst [.bl true, .bl true]) → Q (.ref r) H'
theorem sc_law_which : FnScope ["e"] ["e"] (defScope s_law_which) := ⟨rfl, rfl, rfl, by decide +kernel, rfl, by decide +kernel, by decide +kernel⟩
theorem cal_law_which {n : Nat} {f CB : Addr} {fd : FuncData} (T : Blt mg) (F : Fun K "_law_which" "_law_which" s_law_which f fd) (b : Binds K fd ["e"] []) (m : mg "_law_which" = some (.ref f)) (O : OwnV K mg "BadCode" CB) : CalM P w K mg base (n + 1) "_law_which" ["e"] (spWhich CB) := by
  refine F.okM sc_law_which (fun vs H Q E h => ?_) b m (fun cdv A outer s H vs Q E ev hr h => ?_)
  · obtain ⟨x, rfl, _⟩ := h
    rfl
  obtain ⟨x, rfl, hx, q⟩ := h
  refine ⟨_, pss_one (ps_ret (pe_lst (pa_cons (pe_callB (call_isiE (cn := "BadCode") O) rfl T.isi PyProof.Rows.boot_isinstance (pa_cons (pv 0) (pa_cons (pe_glob (v := .ref CB) rfl O.at' rfl) pa_nil))) (pa_cons (pe_callB (call_isiE (cn := "BadCode") O) rfl T.isi PyProof.Rows.boot_isinstance (pa_cons (pv 0) (pa_cons (pe_bltn rfl T.valueError PyProof.Rows.Boot.«ValueError» (v := .ty "ValueError") rfl) pa_nil))) pa_nil)))), ?_⟩
  exact ⟨_, rfl, x, hx, .inl rfl, _, rfl, x, hx, .inr rfl, (by show 2 ≤ sizeLine; decide), fun r hr' => q r _ (same_new hr' _) hr' upd_same⟩

/-! _law_any_sign -/
def spAnySign : Sp := fun vs H Q _ => ∃ i : Int, vs = [.int i] ∧ ∀ (c : Nat) (H' : Hp), Same H H' → Q (.str (tx [c])) H'
def sgA : List Nat := [32, 33, 34, 35, 36, 38, 39, 40, 41, 42, 43, 44, 45, 46, 47, 48, 49, 50, 51, 52, 53, 54, 55, 56, 57, 58, 59, 60, 61, 62, 63, 64, 65, 66, 67, 68, 69, 70, 71, 72, 73, 74, 75, 76, 77, 78, 79, 80, 81, 82, 83, 84, 85, 86, 87, 88, 89, 90, 91, 92, 93, 94, 95]
def sgB : List Nat := [97, 98, 99, 100, 101, 102, 103, 104, 105, 106, 107, 108, 109, 110, 111, 112, 113, 114, 115, 116, 117, 118, 119, 120, 121, 122, 123, 124, 125, 126, 10]
theorem lit_sgA : (" !\"#$&'()*+,-./0123456789:;<=>?@ABCDEFGHIJKLMNOPQRSTUVWXYZ[\\]^_" : Str) = tx sgA := by decide +kernel
theorem lit_sgB : ("abcdefghijklmnopqrstuvwxyz{|}~\n" : Str) = tx sgB := by decide +kernel
theorem sg_len : sgA.length + sgB.length = 94 := by decide +kernel
theorem sc_law_any_sign : FnScope ["cell", "some"] ["cell"] (defScope s_law_any_sign) := ⟨rfl, rfl, rfl, by decide +kernel, rfl, by decide +kernel, by decide +kernel⟩
theorem cal_law_any_sign {n : Nat} {f : Addr} {fd : FuncData} (T : Blt mg) (F : Fun K "_law_any_sign" "_law_any_sign" s_law_any_sign f fd) (b : Binds K fd ["cell"] []) (m : mg "_law_any_sign" = some (.ref f)) : Cal P w K mg base (n + 1) "_law_any_sign" ["cell"] spAnySign := by
  refine ⟨f, fd, F.ok sc_law_any_sign (fun vs H Q E h => ?_) (fun cdv A outer s H vs Q E hr h => ?_), b, F.kp, m⟩
  · obtain ⟨i, rfl, _⟩ := h
    rfl
  obtain ⟨i, rfl, q⟩ := h
  have nd := sc_law_any_sign.nd
  have hl := sg_len
  refine ⟨_, pss_cons (ps_set (i := 1) nd rfl (Or.inl rfl) pe_str)
    (pss_cons (ps_set (i := 1) nd rfl (Or.inl rfl) (pe_op op_addTx (pv 1) pe_str))
    (pss_one (ps_ret (pe_ix ix_tx (pv 1) (pe_op op_mod (pv 0) (pe_callB call_len_str rfl T.len PySem.boot_len (pa_cons (pv 1) pa_nil))) (fun _ _ => rfl))))), ?_⟩
  rw [lit_sgA, lit_sgB]
  have hlen : (sgA ++ sgB).length = 94 := by rw [List.length_append]; exact hl
  refine ⟨_, rfl, sgA, sgB, rfl, rfl, len_ok (by omega), ?_⟩
  refine ⟨_, rfl, _, rfl, _, rfl, _, rfl, (by rw [tx_length]; exact len_ok (by omega)), _, _, rfl, rfl, (by rw [tx_length]; omega), ?_⟩
  dsimp only
  rw [tx_length, hlen]
  obtain ⟨j, hj, hj2⟩ : ∃ j : Nat, i % ((94 : Nat) : Int) = (j : Int) ∧ j < 94 := ⟨(i % ((94 : Nat) : Int)).toNat, by omega, by omega⟩
  rw [hj]
  exact ⟨sgA ++ sgB, _, (sgA ++ sgB)[j], rfl, rfl, len_ok (by omega), atI_nat (List.getElem?_eq_getElem (by omega)), q _ _ (Same.refl _)⟩

/-! _law_read -/
def spDue : Sp := fun vs H Q _ => ∃ l : List Nat, vs = [.str (tx l)] ∧ l.length ≤ 1900 ∧ (rd l = none → ∀ H' : Hp, Same H H' → Q .non H') ∧ (∀ NS, rd l = some NS → ∀ (r : Addr) (H' : Hp), Same H H' → H r = none → H' r = some (.lst (NS.map V.int)) → Q (.ref r) H')
theorem in01 (c : Nat) : inV (.str (tx [c])) [V.str (tx [48]), V.str (tx [49])] = decide (c = 48 ∨ c = 49) := by
  unfold inV
  rw [List.any_cons, List.any_cons, List.any_nil, Bool.or_false, eqV_tx, eqV_tx]
  by_cases h1 : c = 48
  · rw [decide_eq_true (show [48] = [c] by rw [h1]), decide_eq_true (show c = 48 ∨ c = 49 from .inl h1), Bool.true_or]
  · by_cases h2 : c = 49
    · rw [decide_eq_true (show [49] = [c] by rw [h2]), decide_eq_true (show c = 48 ∨ c = 49 from .inr h2), Bool.or_true]
    · have n1 : ¬ [48] = [c] := fun z => h1 (List.cons.inj z).1.symm
      have n2 : ¬ [49] = [c] := fun z => h2 (List.cons.inj z).1.symm
      rw [decide_eq_false n1, decide_eq_false n2, decide_eq_false (show ¬ (c = 48 ∨ c = 49) from fun z => z.elim h1 h2)]
      rfl
theorem sc_law_read : FnScope ["text", "marks", "found", "row", "begin", "k"] ["text"] (defScope s_law_read) := ⟨rfl, rfl, rfl, by decide +kernel, rfl, by decide +kernel, by decide +kernel⟩
theorem cal_law_read {n : Nat} {f : Addr} {fd : FuncData} (T : Blt mg) (F : Fun K "_law_read" "_law_read" s_law_read f fd) (b : Binds K fd ["text"] []) (m : mg "_law_read" = some (.ref f)) (C1 : Cal P w K mg base n "_law_marks" ["many"] spLMarks) : Cal P w K mg base (n + 1) "_law_read" ["text"] spDue := by
  refine ⟨f, fd, F.ok sc_law_read (fun vs H Q E h => ?_) (fun cdv A outer s H vs Q E hr h => ?_), b, F.kp, m⟩
  · obtain ⟨l, rfl, _⟩ := h
    rfl
  obtain ⟨l, rfl, hl, qn, qs⟩ := h
  have nd := sc_law_read.nd
  refine ⟨_, pss_cons (ps_set (i := 1) nd rfl (Or.inr rfl) (pe_cal C1 hr rfl (pa_cons (pe_op op_add pe_int (pe_callB call_len_str rfl T.len PySem.boot_len (pa_cons (pv 0) pa_nil))) pa_nil)))
    (pss_cons (ps_set (i := 2) nd rfl (Or.inl rfl) (pe_lst pa_nil))
    (pss_cons (ps_set (i := 3) nd rfl (Or.inl rfl) (pe_lst pa_nil))
    (pss_cons (ps_set (i := 4) nd rfl (Or.inl rfl) pe_int)
    (pss_cons (ps_for PassesOwn.never rfl (pi_range1 rfl T.range (pa_cons (pe_callB call_len_str rfl T.len PySem.boot_len (pa_cons (pv 0) pa_nil)) pa_nil)) (pg_name (i := 5) nd rfl (Or.inl rfl))
      (pss_cons (ps_if (pt_cmpR op_notIn_seq (pe_ix ix_tx (pv 0) (pv 5) (fun _ _ => rfl)) (pe_lst (pa_cons pe_str (pa_cons pe_str pa_nil))) (by with_unfolding_all rfl)) (pss_one (ps_ret pe_non)) pss_nil)
      (pss_one (ps_if (PW.pt (pw_and (pt_cmpR op_eq (pe_ix ix_tx (pv 0) (pv 5) (fun _ _ => rfl)) pe_str (nomark _)) (pw_and (pt_cmpR op_gt (pv 5) (pv 4) (nomark _)) (pw_and1 (pt_cmpR op_eq (pe_ix ix_tx (pv 0) (pe_op op_sub (pv 5) pe_int) (fun _ _ => rfl)) pe_str (nomark _))))))
        (pss_cons (ps_expr (pe_bm PySem.F.plainAttrs_list PySem.F.slot_list_append PySem.F.type_list_append mt_append (pv 2) (pa_cons (pe_callB (call_sumL rfl) rfl T.sum PyProof.Rows.boot_sum (pa_cons (pe_comp (ns := [1]) rfl ⟨rfl, rfl, rfl, rfl, rfl, (by show List.Nodup (["place", "marks"] : List Str); decide +kernel), rfl⟩ (pi_list (pv 3)) (fun _ _ _ => pts_nil) (fun _ _ _ => pe_ix (ix_listK (K := K)) (pv 1) (pv 0) (fun _ _ => rfl))) pa_nil)) pa_nil)))
        (pss_cons (ps_set (i := 3) nd rfl (Or.inl rfl) (pe_lst pa_nil))
        (pss_one (ps_set (i := 4) nd rfl (Or.inl rfl) (pe_op op_add (pv 5) pe_int)))))
        (pss_one (ps_if (pt_cmpR op_eq (pe_ix ix_tx (pv 0) (pv 5) (fun _ _ => rfl)) pe_str (nomark _)) (pss_one (ps_expr (pe_bm PySem.F.plainAttrs_list PySem.F.slot_list_append PySem.F.type_list_append mt_append (pv 3) (pa_cons (pe_op op_sub (pv 5) (pv 4)) pa_nil)))) pss_nil))))))
    (pss_cons (ps_if (pt_cmpR op_lt (pv 4) (pe_callB call_len_str rfl T.len PySem.boot_len (pa_cons (pv 0) pa_nil)) (nomark _)) (pss_one (ps_ret pe_non)) pss_nil)
    (pss_one (ps_ret (pv 2)))))))), ?_⟩
  rw [lit_0, lit_1]
  refine ⟨_, rfl, _, rfl, (by rw [tx_length]; exact len_ok (by omega)), _, _, rfl, rfl, 2 + l.length, ?_, by omega, fun r H1 hs1 hr1 => ?_⟩
  · show [V.int (2 + (((tx l).length : Nat) : Int))] = [V.int ((2 + l.length : Nat) : Int)]
    rw [tx_length, show ((2 + l.length : Nat) : Int) = 2 + ((l.length : Nat) : Int) by omega]
  refine ⟨(by show 0 ≤ sizeLine; decide), fun fo hfo => ⟨(by show 0 ≤ sizeLine; decide), fun ro hro => ?_⟩⟩
  have nrf : r ≠ fo := ne_of_none hr1 hfo
  have hfo2 : upd H1 fo (.lst []) fo = some (.lst []) := upd_same
  have hr2 : upd H1 fo (.lst []) r = some (.lst ((ms (2 + l.length)).map V.int)) := by rw [upd_ne nrf]; exact hr1
  have nrr : r ≠ ro := ne_of_none hr2 hro
  have nfr : fo ≠ ro := ne_of_none hfo2 hro
  have hHf : H fo = none := hs1.free hfo
  have hHr : H ro = none := hs1.free ((same_new hfo _).free hro)
  refine ⟨_, rfl, _, rfl, (by rw [tx_length]; exact len_ok (by omega)), _, rfl, by omega, (by rw [tx_length]; omega), ?_⟩
  rw [tx_length, show ((l.length : Nat) : Int).toNat = l.length by omega]
  refine for_range (fun k σ2 H2 => ∃ (b : Nat) (ns : List Int) (rw' : Addr) (z : Option V), σ2 = [some (.str (tx l)), some (.ref r), some (.ref fo), some (.ref rw'), some (.int (b : Int)), z] ∧ b ≤ k ∧ k ≤ l.length ∧ Same H H2 ∧ H2 r = some (.lst ((ms (2 + l.length)).map V.int)) ∧ H2 fo = some (.lst (ns.map V.int)) ∧ H2 rw' = some (.lst ((rz (ones (pp l b k))).map V.int)) ∧ H rw' = none ∧ fo ≠ rw' ∧ r ≠ rw' ∧ RS l b k ns ∧ ns.length ≤ k) ⟨0, [], ro, none, rfl, Nat.le_refl _, Nat.zero_le _, hs1.trans ((same_new hfo _).trans (same_new hro _)), by rw [upd_ne nrr]; exact hr2, by rw [upd_ne nfr]; exact hfo2, by rw [upd_same, pp_self]; rfl, hHr, nfr, nrr, rs_start l, Nat.le_refl _⟩ ?_ ?_
  · rintro k σ2 H2 hk ⟨b, ns, rw', z, rfl, hbk, hkl, hs2, hr2, hf2, hw2, hHw, nfw, nrw, hrs, hnk⟩
    obtain ⟨c, hc⟩ : ∃ c, l[k]? = some c := ⟨l[k], List.getElem?_eq_getElem hk⟩
    have hat : atI l (0 + (k : Int)) = some c := by rw [Int.zero_add]; exact atI_nat hc
    have hpl := pp_len (b := b) (Nat.le_of_lt hk)
    refine ⟨_, rfl, _, rfl, l, _, c, rfl, rfl, len_ok (by omega), hat, (by show 2 ≤ sizeLine; decide), fun p hp => ⟨p, _, rfl, .inl (SqL.of upd_same), rfl, rfl, _, rfl, ?_⟩⟩
    have hs3 : Same H (upd H2 p (.lst [V.str (tx [48]), V.str (tx [49])])) := hs2.trans (same_new hp _)
    have hr3 : upd H2 p (.lst [V.str (tx [48]), V.str (tx [49])]) r = some (.lst ((ms (2 + l.length)).map V.int)) := same_new hp _ _ _ hr2
    have hf3 : upd H2 p (.lst [V.str (tx [48]), V.str (tx [49])]) fo = some (.lst (ns.map V.int)) := same_new hp _ _ _ hf2
    have hw3 : upd H2 p (.lst [V.str (tx [48]), V.str (tx [49])]) rw' = some (.lst ((rz (ones (pp l b k))).map V.int)) := same_new hp _ _ _ hw2
    rw [if_pos rfl, in01]
    generalize upd H2 p (.lst [V.str (tx [48]), V.str (tx [49])]) = H3 at hs3 hr3 hf3 hw3 ⊢
    by_cases ha : c = 48 ∨ c = 49
    case neg =>
      rw [decide_eq_false ha]
      exact iteT (qn (rs_bad hrs hc ha) H3 hs3)
    rw [decide_eq_true ha]
    refine iteF ?_
    have hol := ones_len (pp l b k)
    have lit : ∀ d : Nat, decide (V.str (tx [d]) = V.str (tx [49])) = decide (d = 49) := fun d => by
      rw [tx_eq]
      by_cases e : d = 49
      · rw [decide_eq_true (by rw [e]), decide_eq_true e]
      · rw [decide_eq_false (fun y => e (by simpa using y)), decide_eq_false e]
    refine ⟨_, rfl, _, rfl, l, _, c, rfl, rfl, len_ok (by omega), hat, rfl, _, rfl, ?_⟩
    rw [lit]
    by_cases h49 : c = 49
    case neg =>
      have h48 : c = 48 := ha.resolve_right h49
      rw [decide_eq_false h49]
      refine iteF ?_
      refine ⟨_, rfl, _, rfl, l, _, c, rfl, rfl, len_ok (by omega), hat, rfl, _, rfl, ?_⟩
      rw [lit, decide_eq_false h49]
      refine iteF ⟨b, ns, rw', _, rfl, by omega, hk, hs3, hr3, hf3, ?_, hHw, nfw, nrw, rs_step hrs hbk hc ha (fun y => h49 y.1), by omega⟩
      rw [pp_succ hbk hc, ones_snoc, if_neg h49, List.append_nil]
      exact hw3
    rw [decide_eq_true h49]
    refine iteT ?_
    refine ⟨_, rfl, _, rfl, _, _, rfl, rfl, _, rfl, ?_⟩
    by_cases hbk2 : b < k
    case neg =>
      have ebk : b = k := by omega
      rw [decide_eq_false (by omega : ¬ (b : Int) < 0 + (k : Int))]
      refine iteF ?_
      have hno : ¬ (c = 49 ∧ (pp l b k).getLast? = some 49) := fun y => by
        have := y.2
        rw [ebk, pp_self] at this
        cases this
      refine ⟨_, rfl, _, rfl, l, _, c, rfl, rfl, len_ok (by omega), hat, rfl, _, rfl, ?_⟩
      rw [lit, decide_eq_true h49]
      refine iteT ?_
      refine ⟨_, rfl, .inl ⟨rfl, _, SqL.of hw3⟩, _, rfl, _, rfl, _, _, rfl, rfl, rw', _, _, rfl, rfl, hw3, (by rw [row_len]; exact small (by omega)), ?_⟩
      refine ⟨b, ns, rw', _, rfl, by omega, hk, same_upd hs3 hHw _, by rw [upd_ne nrw]; exact hr3, by rw [upd_ne nfw]; exact hf3, ?_, hHw, nfw, nrw, rs_step hrs hbk hc ha hno, by omega⟩
      rw [upd_same, pp_succ hbk hc, ones_snoc, if_pos h49, rz_app, List.map_append, hpl]
      show some (HO.lst (_ ++ [V.int (0 + (k : Int) - (b : Int))])) = some (HO.lst (_ ++ [V.int ((k - b : Nat) : Int)]))
      rw [show 0 + (k : Int) - (b : Int) = ((k - b : Nat) : Int) by omega]
    rw [decide_eq_true (by omega : (b : Int) < 0 + (k : Int))]
    refine iteT ?_
    obtain ⟨d, hd⟩ : ∃ d, l[k - 1]? = some d := ⟨l[k - 1], List.getElem?_eq_getElem (by omega)⟩
    have hat2 : atI l (0 + (k : Int) - 1) = some d := by rw [show 0 + (k : Int) - 1 = ((k - 1 : Nat) : Int) by omega]; exact atI_nat hd
    refine ⟨_, rfl, _, rfl, _, _, rfl, rfl, l, _, d, rfl, rfl, len_ok (by omega), hat2, rfl, _, rfl, ?_⟩
    rw [lit]
    have hlast := pp_last hbk2 (Nat.le_of_lt hk)
    rw [hd] at hlast
    by_cases hd49 : d = 49
    case neg =>
      rw [decide_eq_false hd49]
      refine iteF ?_
      have hno : ¬ (c = 49 ∧ (pp l b k).getLast? = some 49) := fun y => by
        have := y.2
        rw [hlast] at this
        exact hd49 (Option.some.inj this)
      refine ⟨_, rfl, _, rfl, l, _, c, rfl, rfl, len_ok (by omega), hat, rfl, _, rfl, ?_⟩
      rw [lit, decide_eq_true h49]
      refine iteT ?_
      refine ⟨_, rfl, .inl ⟨rfl, _, SqL.of hw3⟩, _, rfl, _, rfl, _, _, rfl, rfl, rw', _, _, rfl, rfl, hw3, (by rw [row_len]; exact small (by omega)), ?_⟩
      refine ⟨b, ns, rw', _, rfl, by omega, hk, same_upd hs3 hHw _, by rw [upd_ne nrw]; exact hr3, by rw [upd_ne nfw]; exact hf3, ?_, hHw, nfw, nrw, rs_step hrs hbk hc ha hno, by omega⟩
      rw [upd_same, pp_succ hbk hc, ones_snoc, if_pos h49, rz_app, List.map_append, hpl]
      show some (HO.lst (_ ++ [V.int (0 + (k : Int) - (b : Int))])) = some (HO.lst (_ ++ [V.int ((k - b : Nat) : Int)]))
      rw [show 0 + (k : Int) - (b : Int) = ((k - b : Nat) : Int) by omega]
    rw [decide_eq_true hd49]
    refine iteT ?_
    rw [hd49] at hlast
    rw [h49] at hc
    refine ⟨_, rfl, .inl ⟨rfl, _, SqL.of hf3⟩, _, rfl, rw', rfl, ⟨_, SqL.of hw3⟩, ?_⟩
    refine comp_list (f := fun i => V.int (mk ((ones (pp l b k)).getD i 0))) (p := fun _ => true) (SqL.of hw3) (by rw [row_len]; exact len_ok (by omega)) (fun i v H4 R2 hv hs4 kk => kk H4 (Same.refl _)) (fun i v H4 R2 hv _ hs4 kk => ?_) fun D H4 hD hs4 hD2 => ?_
    · obtain ⟨y, hy, rfl⟩ := row_get hv
      have hyx := ones_lt y (List.mem_of_getElem? hy)
      refine ⟨_, rfl, _, rfl, r, _, _, _, rfl, rfl, SqL.of (hs4 _ _ hr3), ms_at (by omega), ?_⟩
      have e := kk H4 (Same.refl _)
      rw [List.getD_eq_getElem?_getD, hy] at e
      exact e
    rw [marks_res] at hD2
    refine ⟨D, _, rfl, SqL.of hD2, fo, _, _, rfl, rfl, hs4 _ _ hf3, (by rw [List.length_map]; exact small (by omega)), ?_⟩
    refine ⟨(by show 0 ≤ sizeLine; decide), fun w2 hw2 => ?_⟩
    have hf5 : upd H4 fo (.lst (ns.map V.int ++ [V.int (wth (ones (pp l b k)))])) fo = some (.lst ((ns ++ [wth (ones (pp l b k))]).map V.int)) := by rw [upd_same, List.map_append]; rfl
    have hr5 : upd H4 fo (.lst (ns.map V.int ++ [V.int (wth (ones (pp l b k)))])) r = some (.lst ((ms (2 + l.length)).map V.int)) := by rw [upd_ne nrf]; exact hs4 _ _ hr3
    have hs5 : Same H (upd H4 fo (.lst (ns.map V.int ++ [V.int (wth (ones (pp l b k)))]))) := same_upd (hs3.trans hs4) hHf _
    refine ⟨_, rfl, _, _, rfl, rfl, ?_⟩
    refine ⟨k + 1, ns ++ [wth (ones (pp l b k))], w2, some (V.int (0 + (k : Int))), ?_, Nat.le_refl _, hk, hs5.trans (same_new hw2 _), same_new hw2 _ _ _ hr5, same_new hw2 _ _ _ hf5, ?_, hs5.free hw2, ne_of_none hf5 hw2, ne_of_none hr5 hw2, rs_end hrs hc hlast, (by rw [List.length_append, List.length_singleton]; omega)⟩
    · show [some (V.str (tx l)), some (V.ref r), some (V.ref fo), some (V.ref w2), some (V.int (0 + (k : Int) + 1)), some (V.int (0 + (k : Int)))] = _
      rw [show ((k + 1 : Nat) : Int) = 0 + (k : Int) + 1 by omega]
    · rw [upd_same, pp_self]
      rfl
  rintro σ2 H2 ⟨b, ns, rw', z, rfl, hbk, hkl, hs2, hr2, hf2, hw2, hHw, nfw, nrw, hrs, hnk⟩
  have hfin := rs_fin hrs
  refine ⟨_, rfl, _, rfl, _, rfl, (by rw [tx_length]; exact len_ok (by omega)), _, _, rfl, rfl, _, rfl, ?_⟩
  rw [tx_length]
  by_cases hb : b < l.length
  · rw [decide_eq_true (by omega : (b : Int) < ((l.length : Nat) : Int))]
    refine iteT (qn ?_ H2 hs2)
    rw [hfin, if_neg (by omega)]
  · rw [decide_eq_false (by omega : ¬ (b : Int) < ((l.length : Nat) : Int))]
    refine iteF ⟨_, rfl, qs ns ?_ fo H2 hs2 hHf hf2⟩
    rw [hfin, if_pos (by omega)]

theorem cutN_to (l : List Nat) (j : Nat) : cutN l none (some (j : Int)) = l.take j := by
  unfold cutN
  rw [HT.sIx_none, HT.sIx_nat, List.drop_zero, Nat.sub_zero]
  rcases Nat.le_total j l.length with h | h
  · rw [Nat.min_eq_left h]
  · rw [Nat.min_eq_right h, List.take_length, List.take_of_length_le h]
theorem cutN_from (l : List Nat) (b : Nat) : cutN l (some (b : Int)) none = l.drop b := by
  unfold cutN
  rw [HT.sIx_none, HT.sIx_nat]
  rcases Nat.le_total b l.length with h | h
  · rw [Nat.min_eq_left h, List.take_of_length_le (by rw [List.length_drop]; exact Nat.le_refl _)]
  · rw [Nat.min_eq_right h, List.drop_of_length_le (Nat.le_refl _), List.drop_of_length_le h]; simp
theorem sc_law : FnScope ["script", "text", "way", "at", "sign", "due", "found", "which", "e"] ["script"] (defScope s_law) := ⟨rfl, rfl, rfl, by decide +kernel, rfl, by decide +kernel, by decide +kernel⟩
theorem ok_law {n : Nat} {f CB CT : Addr} {fd : FuncData} (T : Blt mg) (F : Fun K "law" "law" s_law f fd) (OB : OwnV K mg "BadCode" CB) (OT : OwnV K mg "TwinError" CT) (hM : PySem.W.mroIn K CB (.ref CT) = some true) (C1 : CalX CB P w K mg base n "read_back" ["text"] spReadX) (C2 : Cal P w K mg base n "_law_numbers" ["script"] (spNumbers K)) (C3 : Cal P w K mg base n "_law_code" ["number"] spCode) (C4 : Cal P w K mg base n "_law_cell" ["script", "k"] (spCellF K)) (C5 : Cal P w K mg base n "_law_ints" ["found", "due"] (spIntsZ K)) (C7 : Cal P w K mg base n "_law_any_sign" ["cell"] spAnySign) (C8 : Cal P w K mg base n "_law_read" ["text"] spDue) (C9 : CalM P w K mg base n "_law_which" ["e"] (spWhich CB)) : FnOk P w K mg base CX0 (n + 1) f fd ["script"] (spLaw K) := by
  refine F.ok sc_law (fun vs H Q E h => ?_) (fun cdv A outer s H vs Q E hr h => ?_)
  · obtain ⟨a, ns, rfl, _⟩ := h
    rfl
  obtain ⟨a, ns, rfl, hS, h63, q⟩ := h
  have nd := sc_law.nd
  have hb4 := big40
  have h28 := mk28
  refine ⟨_, pss_cons (ps_set (i := 1) nd rfl (Or.inl rfl) (pe_bm PySem.F.plainAttrs_str PySem.F.slot_str_join PySem.F.type_str_join mt_join pe_str (pa_cons (pe_comp (ns := []) rfl ⟨rfl, rfl, rfl, rfl, rfl, (by show List.Nodup (["number"] : List Str); decide +kernel), rfl⟩ (pi_list (pe_cal C2 hr rfl (pa_cons (pv 0) pa_nil))) (fun _ _ _ => pts_nil) (fun _ _ _ => pe_cal C3 hr rfl (pa_cons (pv 0) pa_nil))) pa_nil)))
    (pss_cons (ps_set (i := 2) nd rfl (Or.inl rfl) (pe_op op_mod (pe_cal C4 hr rfl (pa_cons (pv 0) (pa_cons pe_int pa_nil))) pe_int))
    (pss_cons (ps_set (i := 3) nd rfl (Or.inl rfl) (pe_op op_mod (pe_cal C4 hr rfl (pa_cons (pv 0) (pa_cons pe_int pa_nil))) (pe_op op_add (pe_callB call_len_str rfl T.len PySem.boot_len (pa_cons (pv 1) pa_nil)) pe_int)))
    (pss_cons (ps_set (i := 4) nd rfl (Or.inl rfl) (pe_ix ix_list (pe_lst (pa_cons pe_str (pa_cons pe_str pa_nil))) (pe_op op_mod (pe_cal C4 hr rfl (pa_cons (pv 0) (pa_cons pe_int pa_nil))) pe_int) (fun _ _ => rfl)))
    (pss_mid (fun σ' H' => ∃ (l : List Nat) (c : Nat) (wy : Int) (at' : Nat), σ' = [some (.ref a), some (.str (tx l)), some (.int wy), some (.int (at' : Int)), some (.str (tx [c])), none, none, none, none] ∧ l.length ≤ 1890 ∧ Same H H') (ps_if (pt_cmpR op_eq (pe_op op_mod (pe_op op_fdiv (pe_cal C4 hr rfl (pa_cons (pv 0) (pa_cons pe_int pa_nil))) pe_int) pe_int) pe_int (nomark _)) (pss_one (ps_set (i := 4) nd rfl (Or.inl rfl) (pe_cal C7 hr rfl (pa_cons (pe_cal C4 hr rfl (pa_cons (pv 0) (pa_cons pe_int pa_nil))) pa_nil)))) pss_nil)
    (pss_mid (fun σ' H' => ∃ (l : List Nat) (c : Nat) (wy : Int) (at' : Nat), σ' = [some (.ref a), some (.str (tx l)), some (.int wy), some (.int (at' : Int)), some (.str (tx [c])), none, none, none, none] ∧ l.length ≤ 1890 ∧ Same H H') (ps_if (pt_cmpR op_eq (pv 2) pe_int (nomark _)) (pss_one (ps_set (i := 1) nd rfl (Or.inl rfl) (pe_op op_addTx (pe_slice sl_str (pv 1) po_none (po_some (pv 3))) (pe_slice sl_str (pv 1) (po_some (pe_op op_add (pv 3) pe_int)) po_none)))) pss_nil)
    (pss_mid (fun σ' H' => ∃ (l : List Nat) (c : Nat) (wy : Int) (at' : Nat), σ' = [some (.ref a), some (.str (tx l)), some (.int wy), some (.int (at' : Int)), some (.str (tx [c])), none, none, none, none] ∧ l.length ≤ 1891 ∧ Same H H') (ps_if (PW.pt (pw_or (pt_cmpR op_eq (pv 2) pe_int (nomark _)) (pw_or1 (pt_cmpR op_eq (pv 2) pe_int (nomark _))))) (pss_one (ps_set (i := 1) nd rfl (Or.inl rfl) (pe_op op_addTx (pe_op op_addTx (pe_slice sl_str (pv 1) po_none (po_some (pv 3))) (pv 4)) (pe_slice sl_str (pv 1) (po_some (pv 3)) po_none)))) pss_nil)
    (pss_mid (fun σ' H' => ∃ (l : List Nat) (c : Nat) (wy : Int) (at' : Nat), σ' = [some (.ref a), some (.str (tx l)), some (.int wy), some (.int (at' : Int)), some (.str (tx [c])), none, none, none, none] ∧ l.length ≤ 1892 ∧ Same H H') (ps_if (pt_cmpR op_eq (pv 2) pe_int (nomark _)) (pss_one (ps_set (i := 1) nd rfl (Or.inl rfl) (pe_op op_addTx (pe_op op_addTx (pe_slice sl_str (pv 1) po_none (po_some (pv 3))) (pv 4)) (pe_slice sl_str (pv 1) (po_some (pe_op op_add (pv 3) pe_int)) po_none)))) pss_nil)
    (pss_cons (ps_set (i := 5) nd rfl (Or.inl rfl) (pe_cal C8 hr rfl (pa_cons (pv 1) pa_nil)))
    (pss_cons (ps_set (i := 6) nd rfl (Or.inl rfl) pe_non)
    (pss_cons (ps_set (i := 7) nd rfl (Or.inl rfl) (pe_lst pa_nil))
    (pss_cons (ps_tryAs (i := 6) (j := 8) (by rfl) (by rfl) OB OT hM (by rfl) C1 hr (by rfl) nd (by rfl) (Or.inl rfl) (by rfl) (by rfl) (by rfl) (Or.inl rfl) (by rfl) (pa_cons (pv 1) pa_nil) (fun ev => pss_one (ps_set (i := 7) nd (by rfl) (Or.inl rfl) (pe_calM (ev := ev) C9 hr (by rfl) (pa_cons (pv 8) pa_nil)))))
    (pss_cons (ps_if (pt_cmpR op_isN (pv 5) pe_non (nomark _)) (pss_one (ps_ret (pe_and (pe_cmpR op_isN (pv 6) pe_non (nomark _)) (pe_one (pe_cmpR (op_eqS hr.units0) (pv 7) (pe_lst (pa_cons pe_bl (pa_cons pe_bl pa_nil))) (nomark _)))))) pss_nil)
    (pss_cons (ps_if (PW.pt (pw_or (pt_cmpR (op_neS hr.units0) (pv 7) (pe_lst pa_nil) (nomark _)) (pw_or1 (pt_not (pt_val (pe_cal C5 hr rfl (pa_cons (pv 6) (pa_cons (pv 5) pa_nil)))))))) (pss_one (ps_ret pe_bl)) pss_nil)
    (pss_cons (ps_expr (pe_bm PySem.F.plainAttrs_list PySem.F.slot_list_append PySem.F.type_list_append mt_append (pv 6) (pa_cons pe_int pa_nil)))
    (pss_one (ps_ret (pe_cal C5 hr rfl (pa_cons (pe_calX C1 hr rfl (pa_cons (pv 1) pa_nil)) (pa_cons (pv 5) pa_nil))))))))))))))))))), ?_⟩
  rw [lit_, lit_0, lit_1]
  refine ⟨rfl, _, rfl, a, ns, rfl, hS, fun xs r H1 hs1 hrn hr1 hX => ?_⟩
  obtain ⟨hX1, hX2, hX3⟩ := hX
  refine ⟨r, rfl, ⟨_, SqL.of hr1⟩, ?_⟩
  refine comp_list (xs := xs.map V.int) (f := fun i => V.str (tx (codeN (xs.getD i 0)))) (p := fun _ => true) (SqL.of hr1) (len_ok (by rw [List.length_map]; omega)) (fun i v H2 R2 hi hs2 k => k H2 (Same.refl _)) (fun i v H2 R2 hi _ hs2 k => ?_) fun D H2 hD hs2 hD2 => ?_
  · obtain ⟨x, hx, rfl⟩ := int_get hi
    have hx2 := hX2 x (List.mem_of_getElem? hx)
    refine ⟨_, rfl, x, rfl, hx2.1, by omega, fun H3 hs3 => ?_⟩
    have k' := k H3 hs3
    rw [List.getD_eq_getElem?_getD, hx] at k'
    exact k'
  rw [codes_res xs _ (List.length_map _)] at hD2
  refine ⟨D, _, rfl, rfl, SqL.of hD2, by show (codes xs).length ≤ 1000000; omega, ?_⟩
  show tSeq _ _ _ [some (V.ref a), some (V.str (tx (codes xs))), none, none, none, none, none, none, none] _
  have hs02 : Same H H2 := hs1.trans hs2
  refine ⟨_, rfl, a, ns, 40, rfl, hs02.seq hS, by decide, _, _, rfl, rfl, (by show (0 : Int) < 6; decide), ?_⟩
  refine ⟨_, rfl, a, ns, 41, rfl, hs02.seq hS, by decide, _, rfl, _, rfl, (by rw [tx_length]; exact len_ok (by omega)), _, _, rfl, rfl, _, _, rfl, rfl, (by rw [tx_length]; omega), ?_⟩
  dsimp only
  rw [tx_length]
  obtain ⟨at', hat, hat2⟩ : ∃ at' : Nat, cellF ns 41 % (((codes xs).length : Nat) + 1 : Int) = (at' : Int) ∧ at' ≤ (codes xs).length := by
    have a1 := Int.emod_nonneg (cellF ns 41) (b := (((codes xs).length : Nat) + 1 : Int)) (by omega)
    have a2 := Int.emod_lt_of_pos (cellF ns 41) (b := (((codes xs).length : Nat) + 1 : Int)) (by omega)
    exact ⟨(cellF ns 41 % (((codes xs).length : Nat) + 1 : Int)).toNat, by omega, by omega⟩
  rw [hat]
  refine ⟨(by show 2 ≤ sizeLine; decide), fun p2 hp2 => ?_⟩
  have hs03 : Same H (upd H2 p2 (.lst [V.str (tx [48]), V.str (tx [49])])) := hs02.trans (same_new hp2 _)
  obtain ⟨sg', hsg, hsg2⟩ : ∃ sg' : Nat, cellF ns 42 % 2 = (sg' : Int) ∧ sg' < 2 := ⟨(cellF ns 42 % 2).toNat, by omega, by omega⟩
  obtain ⟨c0, hc0⟩ : ∃ c0 : Nat, [V.str (tx [48]), V.str (tx [49])][sg']? = some (V.str (tx [c0])) := by
    rcases (by omega : sg' = 0 ∨ sg' = 1) with e | e
    · exact ⟨48, by rw [e]; rfl⟩
    · exact ⟨49, by rw [e]; rfl⟩
  refine ⟨_, rfl, a, ns, 42, rfl, hs03.seq hS, by decide, _, _, rfl, rfl, (by show (0 : Int) < 2; decide), p2, _, _, _, rfl, rfl, SqL.of upd_same, (by rw [hsg]; exact atI_nat hc0), ?_⟩
  refine ⟨?_, ?_⟩
  · refine ⟨_, rfl, a, ns, 42, rfl, hs03.seq hS, by decide, _, _, rfl, rfl, ⟨by decide, by decide⟩, _, _, rfl, rfl, (by show (0 : Int) < 4; decide), rfl, _, rfl, ?_⟩
    refine ite2 (fun z => ?_) (fun z => ?_)
    · exact ⟨_, rfl, a, ns, 43, rfl, hs03.seq hS, by decide, _, rfl, fun c H4 hs4 => ⟨codes xs, c, _, at', rfl, hX3, hs03.trans hs4⟩⟩
    · exact ⟨codes xs, c0, _, at', rfl, hX3, hs03⟩
  rintro σ3 H3 ⟨l, c, wy, at2, rfl, hl, hs3⟩
  refine ⟨?_, ?_⟩
  · refine ⟨_, rfl, rfl, _, rfl, ?_⟩
    refine ite2 (fun z => ?_) (fun z => ⟨l, c, wy, at2, rfl, hl, hs3⟩)
    refine ⟨_, rfl, _, rfl, _, rfl, l, rfl, len_ok (by omega), _, rfl, _, rfl, _, _, rfl, rfl, _, rfl, l, rfl, len_ok (by omega), ?_⟩
    rw [cutN_to, show (at2 : Int) + 1 = ((at2 + 1 : Nat) : Int) by omega, cutN_from]
    have e1 := List.length_take (l := l) (i := at2)
    have e2 := List.length_drop (l := l) (i := at2 + 1)
    exact ⟨l.take at2, l.drop (at2 + 1), rfl, rfl, len_ok (by omega), l.take at2 ++ l.drop (at2 + 1), c, wy, at2, rfl, (by rw [List.length_append]; omega), hs3⟩
  rintro σ4 H4 ⟨l, c, wy, at2, rfl, hl, hs3⟩
  have e1 := List.length_take (l := l) (i := at2)
  have e2 := List.length_drop (l := l) (i := at2)
  refine ⟨?_, ?_⟩
  · refine ⟨_, rfl, rfl, _, rfl, ?_⟩
    refine ite2 (fun z => ?_) (fun z => ?_)
    · skip
      refine ⟨_, rfl, _, rfl, _, rfl, l, rfl, len_ok (by omega), _, rfl, ?_⟩
      rw [cutN_to]
      refine ⟨l.take at2, [c], rfl, rfl, len_ok (by rw [List.length_singleton]; omega), _, rfl, _, rfl, _, rfl, l, rfl, len_ok (by omega), ?_⟩
      rw [cutN_from]
      exact ⟨l.take at2 ++ [c], l.drop at2, rfl, rfl, len_ok (by rw [List.length_append, List.length_singleton]; omega), _, c, wy, at2, rfl, (by rw [List.length_append, List.length_append, List.length_singleton]; omega), hs3⟩
    refine ⟨_, rfl, rfl, _, rfl, ?_⟩
    refine ite2 (fun z => ?_) (fun z => ⟨l, c, wy, at2, rfl, by omega, hs3⟩)
    · skip
      refine ⟨_, rfl, _, rfl, _, rfl, l, rfl, len_ok (by omega), _, rfl, ?_⟩
      rw [cutN_to]
      refine ⟨l.take at2, [c], rfl, rfl, len_ok (by rw [List.length_singleton]; omega), _, rfl, _, rfl, _, rfl, l, rfl, len_ok (by omega), ?_⟩
      rw [cutN_from]
      exact ⟨l.take at2 ++ [c], l.drop at2, rfl, rfl, len_ok (by rw [List.length_append, List.length_singleton]; omega), _, c, wy, at2, rfl, (by rw [List.length_append, List.length_append, List.length_singleton]; omega), hs3⟩
  rintro σ5 H5 ⟨l, c, wy, at2, rfl, hl, hs3⟩
  have e1 := List.length_take (l := l) (i := at2)
  have e2 := List.length_drop (l := l) (i := at2 + 1)
  refine ⟨?_, ?_⟩
  · refine ⟨_, rfl, rfl, _, rfl, ?_⟩
    refine ite2 (fun z => ?_) (fun z => ⟨l, c, wy, at2, rfl, by omega, hs3⟩)
    refine ⟨_, rfl, _, rfl, _, rfl, l, rfl, len_ok (by omega), ?_⟩
    rw [cutN_to]
    refine ⟨_, rfl, l.take at2, [c], rfl, rfl, len_ok (by rw [List.length_singleton]; omega), _, rfl, _, rfl, _, _, rfl, rfl, _, rfl, l, rfl, len_ok (by omega), ?_⟩
    rw [show (at2 : Int) + 1 = ((at2 + 1 : Nat) : Int) by omega, cutN_from]
    exact ⟨l.take at2 ++ [c], l.drop (at2 + 1), rfl, rfl, len_ok (by rw [List.length_append, List.length_singleton]; omega), _, c, wy, at2, rfl, (by rw [List.length_append, List.length_append, List.length_singleton]; omega), hs3⟩
  rintro σ6 H6 ⟨l, c, wy, at2, rfl, hl, hs6⟩
  refine ⟨_, rfl, l, rfl, by omega, fun hn H7 hs7 => ?_, fun NS hNS r7 H7 hs7 hrn7 hr7 => ?_⟩
  · refine ⟨(by show 0 ≤ sizeLine; decide), fun wl hwl => ?_⟩
    refine ⟨_, rfl, l, rfl, by omega, fun NS e => absurd e (by rw [hn]; exact fun z => nomatch z), fun _ cv H8 hs8 => fun x hx => ?_⟩
    refine ⟨_, rfl, x, rfl, upd_same, fun r9 H9 hs9 hrn9 hr9 => ?_⟩
    refine ⟨_, rfl, rfl, _, rfl, iteT ?_⟩
    refine ⟨_, rfl, rfl, _, rfl, iteT ?_⟩
    refine ⟨_, rfl, (by show 2 ≤ sizeLine; decide), fun p9 hp9 => ⟨r9, p9, _, _, rfl, rfl, .inl ⟨SqL.of (same_new hp9 _ _ _ hr9), SqL.of upd_same⟩, rfl, rfl, ?_⟩⟩
    exact q _
  · refine ⟨(by show 0 ≤ sizeLine; decide), fun wl hwl => ?_⟩
    have hr7' := same_new hwl (.lst []) _ _ hr7
    refine ⟨_, rfl, l, rfl, by omega, fun NS2 e f8 H8 hs8 hfn8 hf8 => ?_, fun e => absurd e (by rw [hNS]; exact fun z => nomatch z)⟩
    have e2 : NS2 = NS := by rw [hNS] at e; exact (Option.some.inj e).symm
    subst e2
    have hnl := rd_len hNS
    have hr8 := hs8 _ _ hr7'
    have hw8 := hs8 _ _ (show upd H7 wl (.lst []) wl = some (.lst []) from upd_same)
    have nfr : r7 ≠ f8 := fun z => by rw [← z, hr7'] at hfn8; cases hfn8
    refine ⟨_, rfl, rfl, _, rfl, iteF ?_⟩
    refine ⟨_, rfl, (by show 0 ≤ sizeLine; decide), fun p9 hp9 => ⟨wl, p9, _, _, rfl, rfl, .inl ⟨SqL.of (same_new hp9 _ _ _ hw8), SqL.of upd_same⟩, rfl, rfl, _, rfl, ?_⟩⟩
    have hf9 := same_new hp9 (.lst []) _ _ hf8
    have hr9 := same_new hp9 (.lst []) _ _ hr8
    refine ite2 (fun z => absurd z (by decide)) (fun _ => ?_)
    refine ⟨_, rfl, _, rfl, f8, r7, NS2, rfl, hf9, SqL.of hr9, by omega, _, rfl, iteF ?_⟩
    refine ⟨_, rfl, .inl ⟨rfl, _, SqL.of hf9⟩, f8, _, _, rfl, rfl, hf9, (by rw [List.length_map]; exact small (by omega)), ?_⟩
    have hr10 : upd (upd H8 p9 (.lst [])) f8 (.lst (NS2.map V.int ++ [V.int 1])) r7 = some (.lst (NS2.map V.int)) := by rw [upd_ne nfr]; exact hr9
    refine ⟨_, rfl, l, rfl, by omega, fun NS3 e3 g H11 hs11 hgn hg => ?_, fun e3 => absurd e3 (by rw [hNS]; exact fun z => nomatch z)⟩
    have e4 : NS3 = NS2 := by rw [hNS] at e3; exact (Option.some.inj e3).symm
    subst e4
    exact ⟨_, rfl, g, r7, NS3, rfl, hg, SqL.of (hs11 _ _ hr10), by omega, q _⟩
end
/-! ### the program's top -/
theorem all_mk {l : PySem.W.OpenLaw} {w : World} {K : PySem.W.Frag} {h : Heap} {mg : Str → Option Value} {fa f1 f2 f3 f4 f5 f6 f7 f8 f9 f10 f11 f12 f13 f14 f15 : Addr} (X : K.In h) (G : h.Ns mainGlobals mg) (hfa : mg "law" = some (.ref fa))
    {od1 an1 od2 an2 od3 an3 od4 an4 od5 an5 od6 an6 od7 an7 od8 an8 od9 an9 od10 an10 od11 an11 od12 an12 od13 an13 od14 an14 od15 an15 : Option Addr} {sl1 sl2 sl3 sl4 sl5 sl6 sl7 sl8 sl9 sl10 sl11 sl12 sl13 sl14 sl15 : Array (Option Value)} {oc1 kV1 dc1 pm1 cd1 ct1 oc2 kV2 dc2 pm2 cd2 ct2 oc3 kV3 dc3 pm3 cd3 ct3 oc4 kV4 dc4 pm4 cd4 ct4 oc5 kV5 dc5 pm5 cd5 ct5 oc6 kV6 dc6 pm6 cd6 ct6 oc7 kV7 dc7 pm7 cd7 ct7 oc8 kV8 dc8 pm8 cd8 ct8 oc9 kV9 dc9 pm9 cd9 ct9 oc10 kV10 dc10 pm10 cd10 ct10 oc11 kV11 dc11 pm11 cd11 ct11 oc12 kV12 dc12 pm12 cd12 ct12 oc13 kV13 dc13 pm13 cd13 ct13 oc14 kV14 dc14 pm14 cd14 ct14 oc15 kV15 dc15 pm15 cd15 ct15 : Value}
    (a1 : PySem.W.nsIn K mainGlobals "marks_to" = some (some (.ref f1))) (l1 : K.lookup f1 = some ⟨oc1, od1, .func (PySem.W.fnOf "marks_to" "marks_to" (defArgs s_marks_to) (defBody s_marks_to) (defScope s_marks_to) .none kV1 dc1 pm1 an1 cd1 ct1), sl1⟩) (c1 : PySem.W.codeIn K cd1 "marks_to" = true) (k1 : PySem.W.keepIn K (.ref f1) = true)
    (a2 : PySem.W.nsIn K mainGlobals "worth_of" = some (some (.ref f2))) (l2 : K.lookup f2 = some ⟨oc2, od2, .func (PySem.W.fnOf "worth_of" "worth_of" (defArgs s_worth_of) (defBody s_worth_of) (defScope s_worth_of) .none kV2 dc2 pm2 an2 cd2 ct2), sl2⟩) (c2 : PySem.W.codeIn K cd2 "worth_of" = true) (k2 : PySem.W.keepIn K (.ref f2) = true)
    (a3 : PySem.W.nsIn K mainGlobals "number_of" = some (some (.ref f3))) (l3 : K.lookup f3 = some ⟨oc3, od3, .func (PySem.W.fnOf "number_of" "number_of" (defArgs s_number_of) (defBody s_number_of) (defScope s_number_of) .none kV3 dc3 pm3 an3 cd3 ct3), sl3⟩) (c3 : PySem.W.codeIn K cd3 "number_of" = true) (k3 : PySem.W.keepIn K (.ref f3) = true)
    (a4 : PySem.W.nsIn K mainGlobals "read_back" = some (some (.ref f4))) (l4 : K.lookup f4 = some ⟨oc4, od4, .func (PySem.W.fnOf "read_back" "read_back" (defArgs s_read_back) (defBody s_read_back) (defScope s_read_back) .none kV4 dc4 pm4 an4 cd4 ct4), sl4⟩) (c4 : PySem.W.codeIn K cd4 "read_back" = true) (k4 : PySem.W.keepIn K (.ref f4) = true)
    (a5 : PySem.W.nsIn K mainGlobals "_law_cell" = some (some (.ref f5))) (l5 : K.lookup f5 = some ⟨oc5, od5, .func (PySem.W.fnOf "_law_cell" "_law_cell" (defArgs s_law_cell) (defBody s_law_cell) (defScope s_law_cell) .none kV5 dc5 pm5 an5 cd5 ct5), sl5⟩) (c5 : PySem.W.codeIn K cd5 "_law_cell" = true) (k5 : PySem.W.keepIn K (.ref f5) = true)
    (a6 : PySem.W.nsIn K mainGlobals "_law_ints" = some (some (.ref f6))) (l6 : K.lookup f6 = some ⟨oc6, od6, .func (PySem.W.fnOf "_law_ints" "_law_ints" (defArgs s_law_ints) (defBody s_law_ints) (defScope s_law_ints) .none kV6 dc6 pm6 an6 cd6 ct6), sl6⟩) (c6 : PySem.W.codeIn K cd6 "_law_ints" = true) (k6 : PySem.W.keepIn K (.ref f6) = true)
    (a7 : PySem.W.nsIn K mainGlobals "_law_marks" = some (some (.ref f7))) (l7 : K.lookup f7 = some ⟨oc7, od7, .func (PySem.W.fnOf "_law_marks" "_law_marks" (defArgs s_law_marks) (defBody s_law_marks) (defScope s_law_marks) .none kV7 dc7 pm7 an7 cd7 ct7), sl7⟩) (c7 : PySem.W.codeIn K cd7 "_law_marks" = true) (k7 : PySem.W.keepIn K (.ref f7) = true)
    (a8 : PySem.W.nsIn K mainGlobals "_law_row" = some (some (.ref f8))) (l8 : K.lookup f8 = some ⟨oc8, od8, .func (PySem.W.fnOf "_law_row" "_law_row" (defArgs s_law_row) (defBody s_law_row) (defScope s_law_row) .none kV8 dc8 pm8 an8 cd8 ct8), sl8⟩) (c8 : PySem.W.codeIn K cd8 "_law_row" = true) (k8 : PySem.W.keepIn K (.ref f8) = true)
    (a9 : PySem.W.nsIn K mainGlobals "_law_number" = some (some (.ref f9))) (l9 : K.lookup f9 = some ⟨oc9, od9, .func (PySem.W.fnOf "_law_number" "_law_number" (defArgs s_law_number) (defBody s_law_number) (defScope s_law_number) .none kV9 dc9 pm9 an9 cd9 ct9), sl9⟩) (c9 : PySem.W.codeIn K cd9 "_law_number" = true) (k9 : PySem.W.keepIn K (.ref f9) = true)
    (a10 : PySem.W.nsIn K mainGlobals "_law_code" = some (some (.ref f10))) (l10 : K.lookup f10 = some ⟨oc10, od10, .func (PySem.W.fnOf "_law_code" "_law_code" (defArgs s_law_code) (defBody s_law_code) (defScope s_law_code) .none kV10 dc10 pm10 an10 cd10 ct10), sl10⟩) (c10 : PySem.W.codeIn K cd10 "_law_code" = true) (k10 : PySem.W.keepIn K (.ref f10) = true)
    (a11 : PySem.W.nsIn K mainGlobals "_law_numbers" = some (some (.ref f11))) (l11 : K.lookup f11 = some ⟨oc11, od11, .func (PySem.W.fnOf "_law_numbers" "_law_numbers" (defArgs s_law_numbers) (defBody s_law_numbers) (defScope s_law_numbers) .none kV11 dc11 pm11 an11 cd11 ct11), sl11⟩) (c11 : PySem.W.codeIn K cd11 "_law_numbers" = true) (k11 : PySem.W.keepIn K (.ref f11) = true)
    (a12 : PySem.W.nsIn K mainGlobals "_law_which" = some (some (.ref f12))) (l12 : K.lookup f12 = some ⟨oc12, od12, .func (PySem.W.fnOf "_law_which" "_law_which" (defArgs s_law_which) (defBody s_law_which) (defScope s_law_which) .none kV12 dc12 pm12 an12 cd12 ct12), sl12⟩) (c12 : PySem.W.codeIn K cd12 "_law_which" = true) (k12 : PySem.W.keepIn K (.ref f12) = true)
    (a13 : PySem.W.nsIn K mainGlobals "_law_any_sign" = some (some (.ref f13))) (l13 : K.lookup f13 = some ⟨oc13, od13, .func (PySem.W.fnOf "_law_any_sign" "_law_any_sign" (defArgs s_law_any_sign) (defBody s_law_any_sign) (defScope s_law_any_sign) .none kV13 dc13 pm13 an13 cd13 ct13), sl13⟩) (c13 : PySem.W.codeIn K cd13 "_law_any_sign" = true) (k13 : PySem.W.keepIn K (.ref f13) = true)
    (a14 : PySem.W.nsIn K mainGlobals "_law_read" = some (some (.ref f14))) (l14 : K.lookup f14 = some ⟨oc14, od14, .func (PySem.W.fnOf "_law_read" "_law_read" (defArgs s_law_read) (defBody s_law_read) (defScope s_law_read) .none kV14 dc14 pm14 an14 cd14 ct14), sl14⟩) (c14 : PySem.W.codeIn K cd14 "_law_read" = true) (k14 : PySem.W.keepIn K (.ref f14) = true)
    (a15 : PySem.W.nsIn K mainGlobals "law" = some (some (.ref f15))) (l15 : K.lookup f15 = some ⟨oc15, od15, .func (PySem.W.fnOf "law" "law" (defArgs s_law) (defBody s_law) (defScope s_law) .none kV15 dc15 pm15 an15 cd15 ct15), sl15⟩) (c15 : PySem.W.codeIn K cd15 "law" = true) (k15 : PySem.W.keepIn K (.ref f15) = true)
    {CB : Addr} (aB : PySem.W.nsIn K mainGlobals "BadCode" = some (some (.ref CB))) (qB : PySem.W.excIn K CB veM "ValueError.__new__" = true)
    (z_len : PySem.W.nsIn K mainGlobals "len" = some none) {CT : Addr} (aT : PySem.W.nsIn K mainGlobals "TwinError" = some (some (.ref CT))) (qT : PySem.W.excIn K CT veM "ValueError.__new__" = true) (hM : PySem.W.mroIn K CB (.ref CT) = some true) (z_isinstance : PySem.W.nsIn K mainGlobals "isinstance" = some none) (z_int : PySem.W.nsIn K mainGlobals "int" = some none) (z_bool : PySem.W.nsIn K mainGlobals "bool" = some none) (z_sum : PySem.W.nsIn K mainGlobals "sum" = some none) (z_max : PySem.W.nsIn K mainGlobals "max" = some none) (z_min : PySem.W.nsIn K mainGlobals "min" = some none) (z_range : PySem.W.nsIn K mainGlobals "range" = some none) (z_list : PySem.W.nsIn K mainGlobals "list" = some none) (z_tuple : PySem.W.nsIn K mainGlobals "tuple" = some none) (z_str : PySem.W.nsIn K mainGlobals "str" = some none) (z_zip : PySem.W.nsIn K mainGlobals "zip" = some none) (z_all : PySem.W.nsIn K mainGlobals "all" = some none) (z_reversed : PySem.W.nsIn K mainGlobals "reversed" = some none) (z_sorted : PySem.W.nsIn K mainGlobals "sorted" = some none) (z_any : PySem.W.nsIn K mainGlobals "any" = some none) (z_enumerate : PySem.W.nsIn K mainGlobals "enumerate" = some none) (z_divmod : PySem.W.nsIn K mainGlobals "divmod" = some none) (z_ValueError : PySem.W.nsIn K mainGlobals "ValueError" = some none) (z_set : PySem.W.nsIn K mainGlobals "set" = some none) :
    ∃ fd : FuncData, (∀ (s : Shared) (v : Value), BindsTo s fd ⟨[v], []⟩ [("script", v)]) ∧ ∀ base : Heap, K.In base → base.Ns mainGlobals mg → FnOk l.prog w K mg base CX0 10 fa fd ["script"] (spLaw K) := by
  have e := hfa.symm.trans (PySem.W.mg_of X G a15)
  cases e
  have F1 := fun_mk (st := s_marks_to) l1 c1 k1
  have F2 := fun_mk (st := s_worth_of) l2 c2 k2
  have F3 := fun_mk (st := s_number_of) l3 c3 k3
  have F4 := fun_mk (st := s_read_back) l4 c4 k4
  have F5 := fun_mk (st := s_law_cell) l5 c5 k5
  have F6 := fun_mk (st := s_law_ints) l6 c6 k6
  have F7 := fun_mk (st := s_law_marks) l7 c7 k7
  have F8 := fun_mk (st := s_law_row) l8 c8 k8
  have F9 := fun_mk (st := s_law_number) l9 c9 k9
  have F10 := fun_mk (st := s_law_code) l10 c10 k10
  have F11 := fun_mk (st := s_law_numbers) l11 c11 k11
  have F12 := fun_mk (st := s_law_which) l12 c12 k12
  have F13 := fun_mk (st := s_law_any_sign) l13 c13 k13
  have F14 := fun_mk (st := s_law_read) l14 c14 k14
  have F15 := fun_mk (st := s_law) l15 c15 k15
  have b1 := F1.binds (ps := ["place"]) fun _ _ _ _ _ _ us hl => match us, hl with | [_], _ => rfl
  have b2 := F2.binds (ps := ["row"]) fun _ _ _ _ _ _ us hl => match us, hl with | [_], _ => rfl
  have b3 := F3.binds (ps := ["signs"]) fun _ _ _ _ _ _ us hl => match us, hl with | [_], _ => rfl
  have b4 := F4.binds (ps := ["text"]) fun _ _ _ _ _ _ us hl => match us, hl with | [_], _ => rfl
  have b5 := F5.binds (ps := ["script", "k"]) fun _ _ _ _ _ _ us hl => match us, hl with | [_, _], _ => rfl
  have b6 := F6.binds (ps := ["found", "due"]) fun _ _ _ _ _ _ us hl => match us, hl with | [_, _], _ => rfl
  have b7 := F7.binds (ps := ["many"]) fun _ _ _ _ _ _ us hl => match us, hl with | [_], _ => rfl
  have b8 := F8.binds (ps := ["number"]) fun _ _ _ _ _ _ us hl => match us, hl with | [_], _ => rfl
  have b9 := F9.binds (ps := ["script", "k", "bound"]) fun _ _ _ _ _ _ us hl => match us, hl with | [_, _, _], _ => rfl
  have b10 := F10.binds (ps := ["number"]) fun _ _ _ _ _ _ us hl => match us, hl with | [_], _ => rfl
  have b11 := F11.binds (ps := ["script"]) fun _ _ _ _ _ _ us hl => match us, hl with | [_], _ => rfl
  have b12 := F12.binds (ps := ["e"]) fun _ _ _ _ _ _ us hl => match us, hl with | [_], _ => rfl
  have b13 := F13.binds (ps := ["cell"]) fun _ _ _ _ _ _ us hl => match us, hl with | [_], _ => rfl
  have b14 := F14.binds (ps := ["text"]) fun _ _ _ _ _ _ us hl => match us, hl with | [_], _ => rfl
  have b15 := F15.binds (ps := ["script"]) fun _ _ _ _ _ _ us hl => match us, hl with | [_], _ => rfl
  have m_len := PySem.W.mg_none_of X G z_len
  have m_isinstance := PySem.W.mg_none_of X G z_isinstance
  have m_int := PySem.W.mg_none_of X G z_int
  have m_bool := PySem.W.mg_none_of X G z_bool
  have m_sum := PySem.W.mg_none_of X G z_sum
  have m_max := PySem.W.mg_none_of X G z_max
  have m_min := PySem.W.mg_none_of X G z_min
  have m_range := PySem.W.mg_none_of X G z_range
  have m_list := PySem.W.mg_none_of X G z_list
  have m_tuple := PySem.W.mg_none_of X G z_tuple
  have m_str := PySem.W.mg_none_of X G z_str
  have m_zip := PySem.W.mg_none_of X G z_zip
  have m_all := PySem.W.mg_none_of X G z_all
  have m_reversed := PySem.W.mg_none_of X G z_reversed
  have m_sorted := PySem.W.mg_none_of X G z_sorted
  have m_any := PySem.W.mg_none_of X G z_any
  have m_enumerate := PySem.W.mg_none_of X G z_enumerate
  have m_divmod := PySem.W.mg_none_of X G z_divmod
  have m_ValueError := PySem.W.mg_none_of X G z_ValueError
  have m_set := PySem.W.mg_none_of X G z_set
  have m1 := PySem.W.mg_of X G a1
  have m2 := PySem.W.mg_of X G a2
  have m3 := PySem.W.mg_of X G a3
  have m4 := PySem.W.mg_of X G a4
  have m5 := PySem.W.mg_of X G a5
  have m6 := PySem.W.mg_of X G a6
  have m7 := PySem.W.mg_of X G a7
  have m8 := PySem.W.mg_of X G a8
  have m9 := PySem.W.mg_of X G a9
  have m10 := PySem.W.mg_of X G a10
  have m11 := PySem.W.mg_of X G a11
  have m12 := PySem.W.mg_of X G a12
  have m13 := PySem.W.mg_of X G a13
  have m14 := PySem.W.mg_of X G a14
  have m15 := PySem.W.mg_of X G a15
  refine ⟨PySem.W.fnOf "law" "law" (defArgs s_law) (defBody s_law) (defScope s_law) .none kV15 dc15 pm15 an15 cd15 ct15, fun s v => .of_eq rfl, fun base _ _ => ?_⟩
  have T : Blt mg := ⟨m_len, m_isinstance, m_int, m_bool, m_sum, m_max, m_min, m_range, m_list, m_tuple, m_str, m_zip, m_all, m_reversed, m_sorted, m_any, m_enumerate, m_divmod, m_ValueError, m_set⟩
  have O : OwnV K mg "BadCode" CB := ⟨PySem.W.mg_of X G aB, qB⟩
  have OT : OwnV K mg "TwinError" CT := ⟨PySem.W.mg_of X G aT, qT⟩
  have M := cal_marks_to (P := l.prog) (w := w) (base := base) (n := 4) T F1 b1 m1
  have W := cal_worth_of (P := l.prog) (w := w) (base := base) (n := 5) T F2 b2 m2 M
  have No := cal_number_of (P := l.prog) (w := w) (base := base) (n := 6) T F3 b3 m3 W
  have Rb := cal_read_back (P := l.prog) (w := w) (base := base) (n := 7) T F4 b4 m4 O No
  have CF := cal_law_cellF (P := l.prog) (w := w) (base := base) (n := 6) T F5 b5 m5
  have It := cal_law_ints (P := l.prog) (w := w) (base := base) (n := 8) T F6 b6 m6
  have Ma := cal_law_marks (P := l.prog) (w := w) (base := base) (n := 6) T F7 b7 m7
  have Ro := cal_law_row (P := l.prog) (w := w) (base := base) (n := 7) T F8 b8 m8
  have Nu := cal_law_number (P := l.prog) (w := w) (base := base) (n := 7) T F9 b9 m9 (cal_cell CF) Ma
  have Lc := cal_law_code (P := l.prog) (w := w) (base := base) (n := 8) T F10 b10 m10 Ro
  have Ns := cal_law_numbers (P := l.prog) (w := w) (base := base) (n := 8) T F11 b11 m11 (CF.mono (by decide)) Nu
  have Wh := cal_law_which (P := l.prog) (w := w) (base := base) (n := 8) T F12 b12 m12 O
  have Sg := cal_law_any_sign (P := l.prog) (w := w) (base := base) (n := 8) T F13 b13 m13
  have Du := cal_law_read (P := l.prog) (w := w) (base := base) (n := 8) T F14 b14 m14 (Ma.mono (by decide))
  exact ok_law T F15 O OT hM (Rb.mono (by decide)) Ns Lc (CF.mono (by decide)) It Sg Du Wh
theorem walk {l : PySem.W.OpenLaw} {q : Program} {loose : List Str} {XP : (Str → Option Value) → Heap → Prop} {YP : World → Heap → Prop} {d : DefRec} {K : Params → PySem.W.Frag} (hn : l.most = some 63) (hdf : d.params.defaults = [])
    (hY : ∀ (w : World) (h : Heap), YP w h → (K w.params).In h)
    (F : ∀ (w : World) (mg : Str → Option Value) (fa : Addr) (h : Heap), (K w.params).In h → h.Ns mainGlobals mg → mg d.name = some (.ref fa) →
      ∃ fd : FuncData, (∀ (s : Shared) (u : Value), BindsTo s fd ⟨[u], []⟩ [("script", u)]) ∧ ∀ base : Heap, (K w.params).In base → base.Ns mainGlobals mg → FnOk l.prog w (K w.params) mg base CX0 10 fa fd ["script"] (spLaw (K w.params))) :
    PySem.W.WalkO q loose XP YP l.row.toRowW d [] (fun f vs => PySem.call f vs) :=
  L2.walk_of (n := 63) (k := 10) (x := "script") (CX := fun _ => CX0) (sp := fun w => spLaw (K w.params)) hn (by decide) hdf ⟨rfl, by decide, by decide⟩ hY F (fun _ _ a ns hl _ hS => ⟨a, ns, rfl, hS, hl, fun _ => rfl⟩) fun _ _ _ _ _ z => z
end My
open PySem PySem.W PyProof.Rows
set_option maxRecDepth 100000 in
set_option maxHeartbeats 0 in
theorem PySem.Challenge.cw_twinless_k12_read_back_holds : PySem.Challenge.rw_twinless_k12_read_back.Holds := by
  w_on; o_law; k_head; (case hw => w_witness2)
  k_fill
  refine My.walk (l := PySem.Challenge.rw_twinless_k12_read_back) rfl rfl (fun w h Y => PySem.W.kIn_of Y) ?F
  case F =>
    intro w mg fa h KX G hmg
    refine' My.all_mk KX G hmg ?a1 ?l1 ?c1 ?k1 ?a2 ?l2 ?c2 ?k2 ?a3 ?l3 ?c3 ?k3 ?a4 ?l4 ?c4 ?k4 ?a5 ?l5 ?c5 ?k5 ?a6 ?l6 ?c6 ?k6 ?a7 ?l7 ?c7 ?k7 ?a8 ?l8 ?c8 ?k8 ?a9 ?l9 ?c9 ?k9 ?a10 ?l10 ?c10 ?k10 ?a11 ?l11 ?c11 ?k11 ?a12 ?l12 ?c12 ?k12 ?a13 ?l13 ?c13 ?k13 ?a14 ?l14 ?c14 ?k14 ?a15 ?l15 ?c15 ?k15 ?aB ?qB ?z_len ?aT ?qT ?hM ?z_isinstance ?z_int ?z_bool ?z_sum ?z_max ?z_min ?z_range ?z_list ?z_tuple ?z_str ?z_zip ?z_all ?z_reversed ?z_sorted ?z_any ?z_enumerate ?z_divmod ?z_ValueError ?z_set
    (case a1 => k_is); (case l1 => k_is); (case c1 => k_is); (case k1 => k_is)
    (case a2 => k_is); (case l2 => k_is); (case c2 => k_is); (case k2 => k_is)
    (case a3 => k_is); (case l3 => k_is); (case c3 => k_is); (case k3 => k_is)
    (case a4 => k_is); (case l4 => k_is); (case c4 => k_is); (case k4 => k_is)
    (case a5 => k_is); (case l5 => k_is); (case c5 => k_is); (case k5 => k_is)
    (case a6 => k_is); (case l6 => k_is); (case c6 => k_is); (case k6 => k_is)
    (case a7 => k_is); (case l7 => k_is); (case c7 => k_is); (case k7 => k_is)
    (case a8 => k_is); (case l8 => k_is); (case c8 => k_is); (case k8 => k_is)
    (case a9 => k_is); (case l9 => k_is); (case c9 => k_is); (case k9 => k_is)
    (case a10 => k_is); (case l10 => k_is); (case c10 => k_is); (case k10 => k_is)
    (case a11 => k_is); (case l11 => k_is); (case c11 => k_is); (case k11 => k_is)
    (case a12 => k_is); (case l12 => k_is); (case c12 => k_is); (case k12 => k_is)
    (case a13 => k_is); (case l13 => k_is); (case c13 => k_is); (case k13 => k_is)
    (case a14 => k_is); (case l14 => k_is); (case c14 => k_is); (case k14 => k_is)
    (case a15 => k_is); (case l15 => k_is); (case c15 => k_is); (case k15 => k_is)
    (case aB => k_is); (case qB => k_exc)
    (case z_len => k_is)
    (case aT => k_is); (case qT => k_exc); (case hM => k_is)
    (case z_isinstance => k_is)
    (case z_int => k_is)
    (case z_bool => k_is)
    (case z_sum => k_is)
    (case z_max => k_is)
    (case z_min => k_is)
    (case z_range => k_is)
    (case z_list => k_is)
    (case z_tuple => k_is)
    (case z_str => k_is)
    (case z_zip => k_is)
    (case z_all => k_is)
    (case z_reversed => k_is)
    (case z_sorted => k_is)
    (case z_any => k_is)
    (case z_enumerate => k_is)
    (case z_divmod => k_is)
    (case z_ValueError => k_is)
    (case z_set => k_is)
#print axioms PySem.Challenge.cw_twinless_k12_read_back_holds
