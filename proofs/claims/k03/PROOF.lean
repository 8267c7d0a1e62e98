import PyProof.Rows.All
import Wide.All
import OpenK.AllK
import Wide.FinOn
import PyProof.EqAt
import PyProof.EqKinds
import PyProof.NeKinds
import PyProof.TupleCall
import PySem.Challenge.RW_farthestcut_k03_order_and_lists

set_option Elab.async false
set_option linter.all false
set_option maxRecDepth 100000
/-! THE HAND LAYER, for ints, bools, texts, own classes, LISTS and tuples (index, slices, in, append, pop ..), calls, loops. Paste it whole ahead of your own text; what your proof does not reach may be deleted. -/
namespace L2
open PySem PySem.Spec PyProof.Rows

/-- a key: an int or a str -/
abbrev Key := Sum Int Str
def keyIs : Key → Value → Bool
  | .inl k, v => Value.isInt k v
  | .inr x, v => Value.isStrOf x v
def keyH (w : World) : Key → Int
  | .inl k => hashInt k
  | .inr x => hashStr w x
theorem keyIs_shape : ∀ {k : Key} {v : Value}, keyIs k v = true → (∃ i t, k = Sum.inl i ∧ v = Value.int i t) ∨ (∃ x t, k = Sum.inr x ∧ v = Value.str x t)
  | .inl i, v, h => by
    obtain ⟨t, e⟩ := Value.isInt_shape (k := i) (v := v) h
    exact .inl ⟨i, t, rfl, e⟩
  | .inr x, v, h => by
    obtain ⟨t, e⟩ := Value.isStrOf_shape (x := x) (v := v) h
    exact .inr ⟨x, t, rfl, e⟩
theorem keyIs_int (i : Int) (t : Tok) : keyIs (.inl i) (.int i t) = true := by simp [keyIs, Value.isInt]
theorem keyIs_str (x : Str) (t : Tok) : keyIs (.inr x) (.str x t) = true := by simp [keyIs, Value.isStrOf]
theorem key_ll (a b : Int) : decide ((Sum.inl a : Key) = Sum.inl b) = (a == b) := by
  by_cases e : a = b
  · subst e; simp
  · have h : ¬ (Sum.inl a : Key) = Sum.inl b := fun q => e (Sum.inl.inj q)
    rw [decide_eq_false h]
    exact (beq_eq_false_iff_ne.mpr e).symm
theorem key_rr (a b : Str) : decide ((Sum.inr a : Key) = Sum.inr b) = decide (a = b) := by
  by_cases e : a = b
  · subst e; simp
  · have h : ¬ (Sum.inr a : Key) = Sum.inr b := fun q => e (Sum.inr.inj q)
    rw [decide_eq_false h, decide_eq_false e]
theorem key_lr (a : Int) (b : Str) : decide ((Sum.inl a : Key) = Sum.inr b) = false := decide_eq_false (fun q => nomatch q)
theorem key_rl (a : Str) (b : Int) : decide ((Sum.inr a : Key) = Sum.inl b) = false := decide_eq_false (fun q => nomatch q)

def mixKind (prog : Program) (w : World) : PySem.KeyKind prog w Key where
  is := keyIs
  hash := keyH w
  inj := fun v a b ha hb => by
    rcases keyIs_shape ha with ⟨i, t, rfl, rfl⟩ | ⟨x, t, rfl, rfl⟩
    · rcases keyIs_shape hb with ⟨j, u, rfl, e⟩ | ⟨y, u, rfl, e⟩
      · injection e with e1 _; rw [e1]
      · exact nomatch e
    · rcases keyIs_shape hb with ⟨j, u, rfl, e⟩ | ⟨y, u, rfl, e⟩
      · exact nomatch e
      · injection e with e1 _; rw [e1]
  byValue := fun k v h => by
    rcases keyIs_shape h with ⟨i, t, rfl, rfl⟩ | ⟨x, t, rfl, rfl⟩ <;> rfl
  pyHash := fun hv h => by
    rcases keyIs_shape hv with ⟨i, t, rfl, rfl⟩ | ⟨x, t, rfl, rfl⟩
    · exact wpAny_pyHash_int h
    · exact wpAny_pyHash_str h
  eqBool := fun hu hv h => by
    rcases keyIs_shape hu with ⟨i, t, rfl, rfl⟩ | ⟨x, t, rfl, rfl⟩
    · rcases keyIs_shape hv with ⟨j, u, rfl, rfl⟩ | ⟨y, u, rfl, rfl⟩
      · rw [key_ll] at h; exact wpAny_eqBool_int h
      · rw [key_lr] at h; exact SeqAt.EqAt.int_str i t y u _ _ _ _ h
    · rcases keyIs_shape hv with ⟨j, u, rfl, rfl⟩ | ⟨y, u, rfl, rfl⟩
      · rw [key_rl] at h; exact SeqAt.EqAt.str_int x t j u _ _ _ _ h
      · rw [key_rr] at h; exact wpAny_eqBool_str h
  «strs» := fun k x t v h => by
    rcases keyIs_shape h with ⟨i, u, rfl, e⟩ | ⟨y, u, rfl, e⟩
    · exact nomatch e
    · injection e with e1 _
      subst e1
      cases v <;> rfl

theorem mixKind_is (prog : Program) (w : World) (k : Key) (v : Value) : (mixKind prog w).is k v = keyIs k v := rfl
theorem mixKind_int (prog : Program) (w : World) (i : Int) (t : Tok) : (mixKind prog w).is (.inl i) (.int i t) = true := keyIs_int i t
theorem mixKind_str (prog : Program) (w : World) (x : Str) (t : Tok) : (mixKind prog w).is (.inr x) (.str x t) = true := keyIs_str x t
end L2

namespace L2
open PySem PySem.Spec PyProof.Rows

/-- a value, without the heap -/
inductive V where
  | non | bl (b : Bool) | int (i : Int) | str (x : Str) | byt (b : Array UInt8) | flt (b : UInt64) | ref (a : Addr) | ty (n : String)
  deriving DecidableEq

def RelV : V → Value → Prop
  | .non, u => u = Value.none
  | .bl b, u => u = Value.bool b
  | .int i, u => ∃ t, u = Value.int i t
  | .str x, u => ∃ t, u = Value.str x t
  | .byt b, u => ∃ t, u = Value.bytes b t
  | .flt b, u => ∃ t, u = Value.float b t
  | .ref a, u => u = Value.ref a
  | .ty n, u => u = Value.type n

abbrev Vals : List V → List Value → Prop := Paired RelV
theorem Vals.length {xs : List V} {us : List Value} (r : Vals xs us) : xs.length = us.length := Paired.length r
theorem Vals.get : ∀ {xs : List V} {us : List Value} {i : Nat} {x : V}, Vals xs us → xs[i]? = some x → ∃ u, us[i]? = some u ∧ RelV x u
  | _, _, _, _, .nil, e => by simp at e
  | _, _, 0, _, .cons r _, e => by simp at e; subst e; exact ⟨_, rfl, r⟩
  | _, _, i + 1, x, .cons _ t, e => by
    obtain ⟨u, h1, h2⟩ := Vals.get (i := i) (x := x) t (by simpa using e)
    exact ⟨u, by simpa using h1, h2⟩
theorem Vals.set {x : V} {u : Value} (r : RelV x u) : ∀ {xs : List V} {us : List Value} (i : Nat), Vals xs us → Vals (xs.set i x) (us.set i u)
  | _, _, _, .nil => .nil
  | _, _, 0, .cons _ t => .cons r t
  | _, _, i + 1, .cons q t => .cons q (Vals.set r i t)
theorem Vals.append : ∀ {xs ys : List V} {us ws : List Value}, Vals xs us → Vals ys ws → Vals (xs ++ ys) (us ++ ws)
  | _, _, _, _, .nil, s => s
  | _, _, _, _, .cons r t, s => .cons r (Vals.append t s)
theorem Vals.take : ∀ {xs : List V} {us : List Value} (n : Nat), Vals xs us → Vals (xs.take n) (us.take n)
  | _, _, 0, _ => .nil
  | _, _, _ + 1, .nil => .nil
  | _, _, n + 1, .cons r t => .cons r (Vals.take n t)
theorem Vals.drop : ∀ {xs : List V} {us : List Value} (n : Nat), Vals xs us → Vals (xs.drop n) (us.drop n)
  | _, _, 0, r => r
  | _, _, _ + 1, .nil => .nil
  | _, _, n + 1, .cons _ t => Vals.drop n t
theorem Vals.none_of : ∀ {xs : List V} {us : List Value} {i : Nat}, Vals xs us → xs[i]? = none → us[i]? = none := fun {xs us i} r e => by
  have h1 := r.length
  have h2 : xs.length ≤ i := List.getElem?_eq_none_iff.mp e
  exact List.getElem?_eq_none_iff.mpr (by omega)

def RelO : Option V → Option Value → Prop
  | some v, some u => RelV v u
  | none, none => True
  | _, _ => False
def KV {κ : Type} : List (κ × V) → List (κ × Value) → Prop := Paired fun (p : κ × V) (q : κ × Value) => p.1 = q.1 ∧ RelV p.2 q.2

/-- a key of a dict (00_mix): an int or a text -/
def kV : Key → V
  | .inl i => .int i
  | .inr x => .str x

/-- what stands at a tracked address -/
inductive HO where
  /-- a list -/
  | lst (xs : List V)
  /-- a tuple (never changes) -/
  | tup (xs : List V)
  /-- a dict whose keys are ints and texts; one whose keys are tuples of ints and texts (the empty one is both) -/
  | dK (kvs : List (Key × V)) | dT (kvs : List (List Key × V))
  /-- a set of ints: its members, its size -/
  | set (S : Int → Bool) (n : Nat)
  /-- an instance of the class at C, its dict at dx, its attributes -/
  | ins (C dx : Addr) (fs : List (Str × V))
  /-- the dict of the instance at x -/
  | own (x : Addr)
  /-- the dict of an exception -/
  | xd (fs : List (Str × V))
  /-- a bound method, f of x -/
  | met (f x : Addr)
  /-- a range object lo, lo + 1, .. below hi -/
  | rng (lo hi : Int)
  /-- a thing that is known to the object (the script; a dict while a loop walks it): read, never written while it is so -/
  | frz (o : Obj) (u : HO)
  /-- a code object's table -/
  | tbl (ps : Array Value)
  /-- any other thing, by what is true of its one object (a def of one's own: SetO a S n := HO.ext fun h => ..) -/
  | ext (φ : Heap → Prop)

abbrev Hp := Addr → Option HO
def upd (H : Hp) (a : Addr) (o : HO) : Hp := fun b => if b = a then some o else H b
theorem upd_same {H : Hp} {a : Addr} {o : HO} : upd H a o a = some o := by unfold upd; rw [if_pos rfl]
theorem upd_ne {H : Hp} {a b : Addr} {o : HO} (h : b ≠ a) : upd H a o b = H b := by unfold upd; rw [if_neg h]
theorem upd_upd {H : Hp} {a : Addr} {o u : HO} : upd (upd H a o) a u = upd H a u := by
  funext b; unfold upd; split <;> rfl
/-- two objects of different content stand apart -/
theorem ne_of {H : Hp} {a b : Addr} {o u : HO} (h : H a = some o) (h' : H b = some u) (d : o ≠ u) : a ≠ b := by
  intro e; subst e; rw [h] at h'; exact d (Option.some.inj h')
theorem ne_of_none {H : Hp} {a b : Addr} {o : HO} (h : H a = some o) (h' : H b = none) : a ≠ b := by
  intro e; subst e; rw [h] at h'; cases h'

section
variable (P : Program) (w : World)
def ObjOk (H : Hp) (h : Heap) (a : Addr) : HO → Prop
  | .lst xs => xs.length ≤ sizeLine ∧ ∃ (its : List Value) (n : Nat), Vals xs its ∧ h.get? a = some { cls := .type "list", data := .seq its.toArray n }
  | .tup xs => xs.length ≤ sizeLine ∧ ∃ its : List Value, Vals xs its ∧ IsTup h a its.toArray
  | .dK kvs => kvs.length ≤ sizeLine ∧ (a == sysModules) = false ∧ ∃ vs, KV kvs vs ∧ h.DictOf (mixKind P w) a vs
  | .dT kvs => kvs.length ≤ sizeLine ∧ (a == sysModules) = false ∧ ∃ xs : List (List Key × Addr × Value),
      Paired (fun (p : List Key × V) (q : List Key × Addr × Value) => p.1 = q.1 ∧ H q.2.1 = some (.tup (p.1.map kV)) ∧ RelV p.2 q.2.2) kvs xs ∧
      ∃ o es ep, h.get? a = some o ∧ o.ExactDict ∧ o.data = .dict es ep ∧ es.toList = xs.map (entryOfKey (tupleKind (mixKind P w))) ∧ (xs.map (·.1)).Nodup
  | .set S n => h.SetOf (intKind P w) a S n
  | .ins C dx fs => H dx = some (.own a) ∧ fs.length ≤ 1000 ∧ dx ≠ a ∧ h.get? a = some (PySem.W.instObj C dx) ∧
      ∃ mA, h.Ns1 dx mA ∧ (∀ f, RelO (fs.lookup f) (mA f)) ∧ PySem.Within mA (fs.map (·.1))
  | .own _ => ∃ o, h.get? a = some o
  | .xd fs => ∃ mA, h.Ns1 a mA ∧ ∀ f, RelO (fs.lookup f) (mA f)
  | .rng lo hi => ∃ t u v, h.get? a = some { cls := .type "range", data := .fields #[.int lo t, .int hi u, .int 1 v] }
  | .frz o u => h.get? a = some o ∧ ObjOk H h a u
  | .tbl ps => h.get? a = some { cls := .none, data := .fields ps }
  | .met f x => h.get? a = some (PySem.W.methodObj (.ref f) (.ref x))
  | .ext φ => φ h ∧ (∃ o, h.get? a = some o) ∧ ∀ h1 h2 : Heap, φ h1 → (∀ o, h1.get? a = some o → h2.get? a = some o) → φ h2
/-- the abstract heap is held -/
def HOk (H : Hp) (h : Heap) : Prop := ∀ a o, H a = some o → ObjOk P w H h a o
end

section
variable {P : Program} {w : World} {H H' : Hp} {h h' : Heap} {a : Addr} {o : HO}
theorem ObjOk.lt (x : ObjOk P w H h a o) : a < h.objs.size := by
  cases o with
  | lst xs => obtain ⟨_, _, _, _, e⟩ := x; exact Heap.lt_size e
  | tup xs => obtain ⟨_, _, _, p⟩ := x; exact p.lt
  | dK kvs => obtain ⟨_, _, _, _, o, _, _, e, _⟩ := x; exact Heap.lt_size e
  | dT kvs => obtain ⟨_, _, _, _, o, _, _, e, _⟩ := x; exact Heap.lt_size e
  | set S n => obtain ⟨o, _, _, _, e, _⟩ := x; exact Heap.lt_size e
  | ins C dx fs => obtain ⟨_, _, _, e, _⟩ := x; exact Heap.lt_size e
  | own y => obtain ⟨_, e⟩ := x; exact Heap.lt_size e
  | xd fs => obtain ⟨_, ⟨_, _, _, e, _⟩, _⟩ := x; exact Heap.lt_size e
  | rng lo hi => obtain ⟨_, _, _, e⟩ := x; exact Heap.lt_size e
  | frz ob u => obtain ⟨e, _⟩ := x; exact Heap.lt_size e
  | tbl ps => exact Heap.lt_size (show h.get? a = some _ from x)
  | met f y => exact Heap.lt_size (show h.get? a = some _ from x)
  | ext φ => obtain ⟨_, ⟨_, e⟩, _⟩ := x; exact Heap.lt_size e
theorem Paired.mapP {α β : Type} {F G : α → β → Prop} : ∀ {l₁ : List α} {l₂ : List β}, Paired F l₁ l₂ → (∀ a b, F a b → G a b) → Paired G l₁ l₂
  | _, _, .nil, _ => .nil
  | _, _, .cons r t, f => .cons (f _ _ r) (Paired.mapP t f)
theorem Paired.imp' {α β : Type} {F G : α → β → Prop} (f : ∀ a b, F a b → G a b) {l₁ : List α} {l₂ : List β} (r : Paired F l₁ l₂) : Paired G l₁ l₂ := Paired.mapP r f
/-- what an object's description leans on: its own object, its own dict, the tuples -/
theorem ObjOk.stay (x : ObjOk P w H h a o) (k : ∀ b u, (b = a ∨ H b = some (.own a)) → h.get? b = some u → h'.get? b = some u)
    (ho : ∀ b, H b = some (.own a) → H' b = some (.own a)) (ht : ∀ b xs, H b = some (.tup xs) → H' b = some (.tup xs)) : ObjOk P w H' h' a o := by
  induction o with
  | lst xs => obtain ⟨z, its, n, r, e⟩ := x; exact ⟨z, its, n, r, k _ _ (.inl rfl) e⟩
  | tup xs => obtain ⟨z, its, r, ob, e, c⟩ := x; exact ⟨z, its, r, ob, k _ _ (.inl rfl) e, c⟩
  | dK kvs => obtain ⟨z, y, vs, r, ob, es, ep, e, c⟩ := x; exact ⟨z, y, vs, r, ob, es, ep, k _ _ (.inl rfl) e, c⟩
  | dT kvs =>
    obtain ⟨z, y, xs, r, ob, es, ep, e, c⟩ := x
    exact ⟨z, y, xs, Paired.mapP r fun p q z => ⟨z.1, ht _ _ z.2.1, z.2.2⟩, ob, es, ep, k _ _ (.inl rfl) e, c⟩
  | set S n => obtain ⟨ob, es, ep, t, e, c⟩ := x; exact ⟨ob, es, ep, t, k _ _ (.inl rfl) e, c⟩
  | ins C dx fs =>
    obtain ⟨d, z, ne, e, mA, ⟨od, es, ep, e2, c⟩, r⟩ := x
    exact ⟨ho _ d, z, ne, k _ _ (.inl rfl) e, mA, ⟨od, es, ep, k _ _ (.inr d) e2, c⟩, r⟩
  | own y => obtain ⟨ob, e⟩ := x; exact ⟨ob, k _ _ (.inl rfl) e⟩
  | xd fs => obtain ⟨mA, ⟨od, es, ep, e, c⟩, r⟩ := x; exact ⟨mA, ⟨od, es, ep, k _ _ (.inl rfl) e, c⟩, r⟩
  | rng lo hi => obtain ⟨t, u, v, e⟩ := x; exact ⟨t, u, v, k _ _ (.inl rfl) e⟩
  | frz ob u ih => obtain ⟨e, q⟩ := x; exact ⟨k _ _ (.inl rfl) e, ih q⟩
  | tbl ps =>
    have e : h.get? a = some { cls := .none, data := .fields ps } := x
    show h'.get? a = some { cls := .none, data := .fields ps }
    exact k a _ (.inl rfl) e
  | met f y =>
    have e : h.get? a = some (PySem.W.methodObj (.ref f) (.ref y)) := x
    show h'.get? a = some (PySem.W.methodObj (.ref f) (.ref y))
    exact k a _ (.inl rfl) e
  | ext φ => obtain ⟨p, ⟨o, e⟩, st⟩ := x; exact ⟨st _ _ p fun o q => k _ _ (.inl rfl) q, ⟨o, k _ _ (.inl rfl) e⟩, st⟩
theorem HOk.lt (x : HOk P w H h) (e : H a = some o) : a < h.objs.size := (x a o e).lt
theorem HOk.fresh (x : HOk P w H h) (e : h.objs.size ≤ a) : H a = none := by
  cases q : H a with
  | none => rfl
  | some u => exact absurd (Nat.lt_of_lt_of_le (x.lt q) e) (Nat.lt_irrefl _)
/-- every object of the heap is kept -/
theorem HOk.kept (x : HOk P w H h) (k : ∀ b u, h.get? b = some u → h'.get? b = some u) : HOk P w H h' := fun a o e =>
  (x a o e).stay (fun b u _ q => k b u q) (fun _ q => q) fun _ _ q => q
/-- a new object is laid and tracked -/
theorem HOk.laid (x : HOk P w H h) (k : ∀ b u, h.get? b = some u → h'.get? b = some u) (hp : h.objs.size ≤ a) (new : ObjOk P w (upd H a o) h' a o) : HOk P w (upd H a o) h' := fun b u e => by
  have hn := x.fresh hp
  by_cases hb : b = a
  · subst hb; rw [upd_same] at e; cases e; exact new
  · rw [upd_ne hb] at e
    exact (x b u e).stay (fun c v _ q => k c v q) (fun c q => by rw [upd_ne (ne_of_none q hn)]; exact q) fun c xs q => by rw [upd_ne (ne_of_none q hn)]; exact q
end

/-- what may be read as u: it is u, or a known u -/
def Rd (H : Hp) (a : Addr) (u : HO) : Prop := H a = some u ∨ ∃ o, H a = some (.frz o u)
theorem Rd.of {H : Hp} {a : Addr} {u : HO} (h : H a = some u) : Rd H a u := .inl h
theorem Rd.ok {P : Program} {w : World} {H : Hp} {h : Heap} {a : Addr} {u : HO} (r : Rd H a u) (x : HOk P w H h) : ObjOk P w H h a u := by
  rcases r with r | ⟨o, r⟩
  · exact x a u r
  · obtain ⟨_, q⟩ := x a _ r
    exact q
/-- what may be written -/
def Mut : Option HO → Prop
  | some (.lst _) => True
  | some (.dK _) => True
  | some (.dT _) => True
  | some (.set _ _) => True
  | some (.ins _ _ _) => True
  | some (.ext _) => True
  | _ => False
section
variable {P : Program} {w : World} {H : Hp} {h h' : Heap} {x e : Addr} {o' : HO}
/-- the object at e is changed: x itself, or the dict of the instance x -/
theorem HOk.write (ok : HOk P w H h) (mu : Mut (H x)) (he : e = x ∨ H e = some (.own x)) (k : ∀ b u, b ≠ e → h.get? b = some u → h'.get? b = some u) (heo : ∃ u, h'.get? e = some u)
    (new : ObjOk P w (upd H x o') h' x o') : HOk P w (upd H x o') h' := fun b u q => by
  have nown : ∀ c y, H c = some (.own y) → c ≠ x := fun c y r z => by subst z; rw [r] at mu; exact mu
  have ntup : ∀ c xs, H c = some (.tup xs) → c ≠ x := fun c xs r z => by subst z; rw [r] at mu; exact mu
  by_cases hb : b = x
  · subst hb; rw [upd_same] at q; cases q; exact new
  · rw [upd_ne hb] at q
    by_cases hbe : b = e
    · have q' : H b = some (.own x) := by
        rcases he with z | z
        · exact absurd (hbe.trans z) hb
        · rw [hbe]; exact z
      rw [q] at q'; cases q'
      obtain ⟨v, hv⟩ := heo
      exact ⟨v, by rw [hbe]; exact hv⟩
    · refine (ok b u q).stay (fun c v hc r => k c v ?_ r) (fun c r => by rw [upd_ne (nown c b r)]; exact r) fun c xs r => by rw [upd_ne (ntup c xs r)]; exact r
      rcases hc with rfl | hc
      · exact hbe
      · rintro rfl
        rcases he with z | z
        · exact nown c b hc z
        · rw [hc] at z; cases z; exact hb rfl
end

/-! ### kept unless tracked; of the frames at fs (the callers') the slots may change (an exception that passes writes there); of the records at ex (iterators) nothing is said -/
structure Un (fs ex : List Addr) (H H' : Hp) (h h' : Heap) : Prop where
  keep : ∀ b o, h.get? b = some o → H b = none → b ∉ fs → b ∉ ex → h'.get? b = some o
  slot : ∀ b o, h.get? b = some o → H b = none → b ∈ fs → b ∉ ex → ∃ sl, h'.get? b = some { o with slots := sl }
  free : ∀ b o, h.get? b = some o → H b = none → b ∉ ex → H' b = none
  there : ∀ b o, h.get? b = some o → b ∉ ex → ∃ o', h'.get? b = some o'
  tups : ∀ b xs, H b = some (.tup xs) → H' b = some (.tup xs)
  frzs : ∀ b o u, H b = some (.frz o u) → H' b = some (.frz o u)
  tbls : ∀ b ps, H b = some (.tbl ps) → ∃ more, H' b = some (.tbl (ps ++ more))
section
variable {fs fs' ex ex' : List Addr} {H H1 H2 : Hp} {h h1 h2 h' : Heap} {a x e : Addr} {o : HO}
theorem Un.any (u : Un fs ex H H1 h h1) {b : Addr} {ob : Obj} (q : h.get? b = some ob) (n : H b = none) (hx : b ∉ ex) : ∃ sl, h1.get? b = some { ob with slots := sl } := by
  by_cases hb : b ∈ fs
  · exact u.slot b ob q n hb hx
  · exact ⟨ob.slots, u.keep b ob q n hb hx⟩
theorem Un.trans (a : Un fs ex H H1 h h1) (b : Un fs ex H1 H2 h1 h2) : Un fs ex H H2 h h2 where
  keep := fun c ob q n hc hx => b.keep c ob (a.keep c ob q n hc hx) (a.free c ob q n hx) hc hx
  slot := fun c ob q n hc hx => by
    obtain ⟨sl, e1⟩ := a.slot c ob q n hc hx
    obtain ⟨sl', e2⟩ := b.slot c _ e1 (a.free c ob q n hx) hc hx
    exact ⟨sl', e2⟩
  free := fun c ob q n hx => by
    obtain ⟨o', e1⟩ := a.there c ob q hx
    exact b.free c o' e1 (a.free c ob q n hx) hx
  there := fun c ob q hx => by
    obtain ⟨o', e1⟩ := a.there c ob q hx
    exact b.there c o' e1 hx
  tups := fun c xs q => b.tups c xs (a.tups c xs q)
  frzs := fun c ob xs q => b.frzs c ob xs (a.frzs c ob xs q)
  tbls := fun c ps q => by
    obtain ⟨m1, e1⟩ := a.tbls c ps q
    obtain ⟨m2, e2⟩ := b.tbls c _ e1
    exact ⟨m1 ++ m2, by rw [e2, Array.append_assoc]⟩
theorem Un.kept (k : ∀ b u, h.get? b = some u → h'.get? b = some u) : Un fs ex H H h h' :=
  ⟨fun b ob q _ _ _ => k b ob q, fun b ob q _ _ _ => ⟨ob.slots, k b ob q⟩, fun _ _ _ n _ => n, fun b ob q _ => ⟨ob, k b ob q⟩, fun _ _ q => q, fun _ _ _ q => q, fun _ ps q => ⟨#[], by rw [q]; simp⟩⟩
theorem Un.refl : Un fs ex H H h h := Un.kept fun _ _ q => q
theorem Un.laid (k : ∀ b u, h.get? b = some u → h'.get? b = some u) (hp : h.objs.size ≤ a) (hn : H a = none) : Un fs ex H (upd H a o) h h' where
  keep := fun b u q _ _ _ => k b u q
  slot := fun b u q _ _ _ => ⟨u.slots, k b u q⟩
  free := fun b u q n _ => by rw [upd_ne (Nat.ne_of_lt (Nat.lt_of_lt_of_le (Heap.lt_size q) hp))]; exact n
  there := fun b u q _ => ⟨u, k b u q⟩
  tups := fun b xs q => by rw [upd_ne (ne_of_none q hn)]; exact q
  frzs := fun b u xs q => by rw [upd_ne (ne_of_none q hn)]; exact q
  tbls := fun b ps q => ⟨#[], by rw [upd_ne (ne_of_none q hn), q]; simp⟩
theorem Un.write (mu : Mut (H x)) (he : e = x ∨ H e = some (.own x)) (k : ∀ b u, b ≠ e → h.get? b = some u → h'.get? b = some u) (heo : ∃ u, h'.get? e = some u) : Un fs ex H (upd H x o) h h' := by
  have hx : ∀ b, H b = none → b ≠ x := fun b n z => by subst z; rw [n] at mu; exact mu
  have hb : ∀ b, H b = none → b ≠ e := fun b n z => by
    subst z
    rcases he with r | r
    · exact hx b n r
    · rw [n] at r; cases r
  have hm : ∀ b u, H b = some u → ¬ Mut (some u) → b ≠ x := fun b u q nm z => by subst z; rw [q] at mu; exact nm mu
  refine ⟨fun b u q n _ _ => k b u (hb b n) q, fun b u q n _ _ => ⟨u.slots, k b u (hb b n) q⟩, fun b u q n _ => by rw [upd_ne (hx b n)]; exact n, fun b u q _ => ?_,
    fun b xs q => by rw [upd_ne (hm b _ q fun z => z)]; exact q, fun b u xs q => by rw [upd_ne (hm b _ q fun z => z)]; exact q, fun b ps q => ⟨#[], by rw [upd_ne (hm b _ q fun z => z), q]; simp⟩⟩
  by_cases hbe : b = e
  · subst hbe; exact heo
  · exact ⟨u, k b u hbe q⟩
theorem Un.mono (u : Un fs ex H H1 h h1) (hs : ∀ b ∈ fs, b ∈ fs') (hx : ∀ b ∈ ex, b ∈ ex') : Un fs' ex' H H1 h h1 :=
  ⟨fun b ob q n hb he => u.keep b ob q n (fun z => hb (hs b z)) fun z => he (hx b z), fun _ _ q n _ he => u.any q n fun z => he (hx _ z), fun b ob q n he => u.free b ob q n fun z => he (hx b z), fun b ob q he => u.there b ob q fun z => he (hx b z), u.tups, u.frzs, u.tbls⟩
end

/-! ### the heap without what is tracked -/
def trk (h : Heap) (H : Hp) : List Addr := (List.range h.objs.size).filter fun a => (H a).isSome
def hidT (h : Heap) (H : Hp) : Heap := PySem.W.hideAll h (trk h H)
theorem hidT_size (h : Heap) (H : Hp) : (hidT h H).objs.size = h.objs.size := PySem.W.hideAll_size _ _
theorem hidT_get {h : Heap} {H : Hp} {b : Addr} {o : Obj} (e : h.get? b = some o) (n : H b = none) : (hidT h H).get? b = some o :=
  PySem.W.hideAll_get _ e fun hm => by
    have q : (H b).isSome = true := (List.mem_filter.mp hm).2
    rw [n] at q; simp at q
theorem of_hidT {h : Heap} {H : Hp} {b : Addr} {o : Obj} (e : (hidT h H).get? b = some o) : h.get? b = some o ∧ H b = none := by
  have e' : h.get? b = some o := PySem.W.of_hideAll (trk h H) e
  refine ⟨e', ?_⟩
  cases q : H b with
  | none => rfl
  | some x =>
    have hm : b ∈ trk h H := List.mem_filter.mpr ⟨List.mem_range.mpr (Heap.lt_size e'), by simp [q]⟩
    have z : (hidT h H).get? b = none := PySem.W.hideAll_none (trk h H) hm
    rw [z] at e; cases e

/-! ### OpenK's ledger, filled with every new object but one -/
def allNews (g h : Heap) (L : Addr) : List (Addr × Obj) := (List.range h.objs.size).filterMap fun a => if a = L ∨ (g.get? a).isSome = true then none else (h.get? a).map fun o => (a, o)
theorem mem_allNews {g h : Heap} {L a : Addr} {o : Obj} (h1 : a ≠ L) (h2 : g.get? a = none) (h3 : h.get? a = some o) : (a, o) ∈ allNews g h L :=
  List.mem_filterMap.mpr ⟨a, List.mem_range.mpr (Heap.lt_size h3), by simp [h1, h2, h3]⟩
theorem of_mem_allNews {g h : Heap} {L : Addr} {p : Addr × Obj} (hp : p ∈ allNews g h L) : p.1 ≠ L ∧ g.get? p.1 = none ∧ h.get? p.1 = some p.2 := by
  obtain ⟨b, _, e⟩ := List.mem_filterMap.mp hp
  split at e
  · cases e
  · rename_i hn
    cases q : h.get? b with
    | none => rw [q] at e; simp at e
    | some u =>
      rw [q] at e
      simp only [Option.map_some, Option.some.injEq] at e
      subst e
      refine ⟨fun z => hn (.inl z), ?_, q⟩
      show g.get? b = none
      cases r : g.get? b with
      | none => rfl
      | some v => exact (hn (.inr (by simp [r]))).elim
def rest (g h : Heap) (L d : Addr) : List (Addr × Obj) := (allNews g h L).filter fun p => decide (p.1 ≠ d)
theorem rest_ne {g h : Heap} {L d : Addr} : ∀ p ∈ rest g h L d, p.1 ≠ d := fun p hp => of_decide_eq_true (List.mem_filter.mp hp).2
theorem mem_rest {g h : Heap} {L d a : Addr} {o : Obj} (h1 : a ≠ L) (h2 : g.get? a = none) (h3 : h.get? a = some o) (h4 : a ≠ d) : (a, o) ∈ rest g h L d :=
  List.mem_filter.mpr ⟨mem_allNews h1 h2 h3, decide_eq_true h4⟩
theorem news_all {g h : Heap} {L : Addr} : News g L h (allNews g h L) := fun p hp => let ⟨a, b, c⟩ := of_mem_allNews hp; ⟨c, a, b⟩
theorem news_at {g h : Heap} {L d : Addr} {o : Obj} (h1 : d ≠ L) (h2 : g.get? d = none) (h3 : h.get? d = some o) : News g L h ((d, o) :: rest g h L d) := fun p hp => by
  rcases List.mem_cons.mp hp with rfl | hp
  · exact ⟨h3, h1, h2⟩
  · exact news_all p (List.mem_filter.mp hp).1
/-- behind a rule that changed d alone: all else but the frame is kept -/
theorem kept_of_news {g h h' : Heap} {L d : Addr} {m : Str → Option Value} (k : ∀ b o, g.get? b = some o → h.get? b = some o) (F : Fr g L h' m) (N : News g L h' (rest g h L d)) :
    ∀ b o, b ≠ L → b ≠ d → h.get? b = some o → h'.get? b = some o := fun b o h1 h2 e => by
  cases q : g.get? b with
  | some u =>
    have := k b u q
    rw [e] at this; cases this
    exact F.keep b _ q
  | none => exact (N (b, o) (mem_rest h1 q e h2)).1
end L2

namespace L2
open PySem PySem.Spec PyProof.Rows

/-- the module's facts, over the base: the heap at the law's entry without what is tracked there -/
structure Mod (K : PySem.W.Frag) (mg : Str → Option Value) (base : Heap) : Prop where
  kin : K.In base
  glob : base.Ns mainGlobals mg
  blt : ∃ mb, base.Ns builtinsNs mb ∧ ∀ x : Str, x ≠ "__name__" → mb x = bootBuiltins x
  nolimit : base.NoLimit

/-- the context: a def's body (or a comprehension's block) running. base: fixed through the whole law; s₀, H₀: the entry; outer: the frames whose slots others may change (a def's callers); stack: all frames that run;
   ex: iterators that were made ahead of the entry and are walked here (a comprehension's); fn: the names whose cells were made at the entry (a def: all; a comprehension's block: its own); calm: not within an except suite; pn: pins that every state bears; xe: what is wanted of an exception that leaves the code -/
structure Cx where
  prog : Program
  w : World
  K : PySem.W.Frag
  mg : Str → Option Value
  base : Heap
  A : Around
  N : List Str
  s₀ : Shared
  H₀ : Hp
  env : Env
  outer : List Env
  stack : List Env
  ex : List Addr
  fn : Str → Bool
  calm : Bool
  pn : List (Addr × Obj)
  xe : Value → Shared → Prop
/-- the callers' frames -/
def frs (l : List Env) : List Addr := l.filterMap (·.frame)
abbrev Cx.fs (X : Cx) : List Addr := frs X.outer

def Vis (sc : Scope) (x : Str) : Prop := sc.names.lookup x = some .local ∨ sc.names.lookup x = some .cell ∨ sc.names.lookup x = some .free
def Loc (sc : Scope) (x : Str) : Prop := sc.names.lookup x = some .local ∨ sc.names.lookup x = some .cell
def Look (env : Env) (h : Heap) (m : Str → Option Value) (x : Str) (u : Value) : Prop :=
  (env.kindOf x = some .local ∧ m x = some u) ∨ ((env.kindOf x = some .cell ∨ env.kindOf x = some .free) ∧ ∃ c, env.cells.lookup x = some c ∧ h.IsCell c (some u))

structure Cx.Ok (X : Cx) : Prop where
  mod : Mod X.K X.mg X.base
  kind : X.env.scope.kind = .function
  glob : X.env.globals = mainGlobals
  blt : X.env.builtins = builtinsNs
  above : X.s₀.heap.objs.size ≤ X.env.locals
  inj : ∀ x y c, X.env.cells.lookup x = some c → X.env.cells.lookup y = some c → x = y
  has : ∀ x, (X.env.kindOf x = some .cell ∨ X.env.kindOf x = some .free) → ∃ c, X.env.cells.lookup x = some c
  cab : ∀ x c, X.fn x = true → X.env.cells.lookup x = some c → X.s₀.heap.objs.size ≤ c
  hd : X.calm = true → X.A.handled = none
  frames : X.A.frames = some X.stack
  stk : X.stack = X.outer ∨ (X.stack = X.env :: X.outer ∧ X.env.frame = some X.env.locals)
  exf : ∀ b ∈ X.ex, b ≠ X.env.locals ∧ ∀ x c, X.env.cells.lookup x = some c → c ≠ b
  bs : ∀ b o, X.base.get? b = some o → X.s₀.heap.get? b = some o ∧ X.H₀ b = none
  bsz : X.base.objs.size ≤ X.s₀.heap.objs.size
  noex : ∀ b o, X.base.get? b = some o → b ∉ X.ex
  exfs : ∀ b ∈ X.ex, b ∉ X.fs
  funs : X.s₀.heap.FunFrames X.base X.outer
  frf : ∀ b ∈ X.fs, X.H₀ b = none

structure Inv (X : Cx) (pins : List (Addr × Obj)) (σ : List (Option V)) (H : Hp) (s : Shared) : Prop where
  ok : X.Ok
  os : s.os = X.s₀.os
  bare : AllBare s.gens
  base : Un X.fs X.ex X.H₀ H X.s₀.heap s.heap
  loc : ∃ m, s.heap.Ns X.env.locals m ∧ ∀ (i : Nat) (x : Str) (v : V), X.N[i]? = some x → σ[i]? = some (some v) → Vis X.env.scope x → ∃ u, RelV v u ∧ Look X.env s.heap m x u
  cell : ∀ x c, X.env.cells.lookup x = some c → ∃ v, s.heap.IsCell c v
  free : H X.env.locals = none
  freeC : ∀ x c, X.env.cells.lookup x = some c → H c = none
  pin : ∀ p ∈ X.pn ++ pins, s.heap.get? p.1 = some p.2 ∧ H p.1 = none ∧ p.1 ≠ X.env.locals ∧ p.1 ∉ X.fs ∧ ∀ v, p.2.data ≠ .cell v
  hok : HOk X.prog X.w H s.heap
  len : σ.length = X.N.length

section
variable {X : Cx} {pins : List (Addr × Obj)} {σ : List (Option V)} {H H' : Hp} {s : Shared} {h' : Heap}

theorem Cx.Ok.nofr (ok : X.Ok) {b : Addr} {o : Obj} (e : X.base.get? b = some o) : b ∉ X.fs := fun hb => by
  have := (ok.funs.mem hb).1
  rw [e] at this; cases this
theorem Inv.bs (I : Inv X pins σ H s) : ∀ b o, X.base.get? b = some o → s.heap.get? b = some o ∧ H b = none := fun b o e =>
  ⟨I.base.keep b o (I.ok.bs b o e).1 (I.ok.bs b o e).2 (I.ok.nofr e) (I.ok.noex b o e), I.base.free b o (I.ok.bs b o e).1 (I.ok.bs b o e).2 (I.ok.noex b o e)⟩
theorem Inv.bk (I : Inv X pins σ H s) : ∀ b o, X.base.get? b = some o → s.heap.get? b = some o := fun b o e => (I.bs b o e).1
theorem Inv.mod (I : Inv X pins σ H s) : Mod X.K X.mg X.base := I.ok.mod
theorem Inv.kIn (I : Inv X pins σ H s) : X.K.In s.heap := I.ok.mod.kin.keeps I.bk
theorem Inv.nolimit (I : Inv X pins σ H s) : s.heap.NoLimit := I.ok.mod.nolimit.keeps I.bk
/-- the frame over the base: for OpenK's rules (K.In X.base is I.mod.kin) -/
theorem Inv.fr (I : Inv X pins σ H s) : ∃ m, Fr X.base X.env.locals s.heap m :=
  let ⟨m, hn, _⟩ := I.loc
  ⟨m, hn, I.bk, Nat.le_trans I.ok.bsz I.ok.above⟩
theorem Inv.lt (I : Inv X pins σ H s) : X.env.locals < s.heap.objs.size := let ⟨_, hn, _⟩ := I.loc; hn.lt
theorem Inv.sz (I : Inv X pins σ H s) : X.s₀.heap.objs.size ≤ s.heap.objs.size := Nat.le_trans I.ok.above (Nat.le_of_lt I.lt)
theorem Inv.nofs (I : Inv X pins σ H s) {a : Addr} (h : s.heap.objs.size ≤ a) : a ∉ X.fs := fun hb => by
  obtain ⟨_, o, ho, _⟩ := I.ok.funs.mem hb
  exact absurd (Nat.lt_of_lt_of_le (Heap.lt_size ho) (Nat.le_trans I.sz h)) (Nat.lt_irrefl _)
theorem Inv.cne (I : Inv X pins σ H s) : ∀ x c, X.env.cells.lookup x = some c → c ≠ X.env.locals := fun x c e z => by
  obtain ⟨v, o, ho, hd⟩ := I.cell x c e
  obtain ⟨m, ⟨o', es, ep, ho', hd', _⟩, _⟩ := I.loc
  rw [z, ho'] at ho; cases ho; rw [hd'] at hd; cases hd
theorem Inv.funs (I : Inv X pins σ H s) : s.heap.FunFrames X.base X.outer := by
  have all : ∀ (l : List Env), (∀ b ∈ frs l, b ∈ X.fs) → X.s₀.heap.FunFrames X.base l → s.heap.FunFrames X.base l := by
    intro l
    induction l with
    | nil => intro _ _; trivial
    | cons env r ih =>
      intro hs hl
      obtain ⟨hk, ⟨L, o, hf, hn, ho, hd⟩, hr⟩ := hl
      have hL : L ∈ X.fs := hs L (by unfold frs; rw [List.filterMap_cons, hf]; exact List.mem_cons_self)
      obtain ⟨sl, e⟩ := I.base.slot L o ho (I.ok.frf L hL) hL fun z => I.ok.exfs L z hL
      exact ⟨hk, ⟨L, _, hf, hn, e, hd⟩, ih (fun b hb => hs b (by unfold frs; rw [List.filterMap_cons, hf]; exact List.mem_cons_of_mem _ hb)) hr⟩
  exact all X.outer (fun _ hb => hb) I.ok.funs

/-- the frames that run, for a call -/
theorem Inv.stack (I : Inv X pins σ H s) : s.heap.FunFrames X.base X.stack := by
  rcases I.ok.stk with e | ⟨e, hf⟩
  · rw [e]; exact I.funs
  · rw [e]
    obtain ⟨m, hn, _⟩ := I.loc
    refine .cons (by rw [I.ok.kind]; decide) hf hn ?_ I.funs
    exact Heap.get?_none_of_le (Nat.le_trans I.ok.bsz I.ok.above)
theorem Inv.stkSub (I : Inv X pins σ H s) : ∀ b ∈ frs X.stack, b ∈ X.env.locals :: X.fs := fun b hb => by
  rcases I.ok.stk with e | ⟨e, hf⟩
  · rw [e] at hb; exact List.mem_cons_of_mem _ hb
  · rw [e] at hb
    unfold frs at hb
    rw [List.filterMap_cons, hf] at hb
    exact hb
theorem Inv.stkFree (I : Inv X pins σ H s) : ∀ b ∈ frs X.stack, H b = none := fun b hb => by
  rcases List.mem_cons.mp (I.stkSub b hb) with e | hb
  · rw [e]; exact I.free
  · obtain ⟨_, o, ho, _⟩ := I.ok.funs.mem hb
    exact I.base.free b o ho (I.ok.frf b hb) fun z => I.ok.exfs b z hb

/-- THE STEP: the untracked objects but the frame and the records at ch are kept (the callers' frames up to slots), the frame's map is kept, the new abstract heap is held -/
theorem Inv.step {g' : Array GenState} {t' : Nat} {d' : Drawn} {ch : List Addr} (I : Inv X pins σ H s)
    (hch : ∀ b ∈ ch, (b ∈ X.ex ∨ X.s₀.heap.objs.size ≤ b) ∧ b ≠ X.env.locals ∧ (∀ x c, X.env.cells.lookup x = some c → c ≠ b) ∧ ∀ p ∈ X.pn ++ pins, p.1 ≠ b)
    (keep : ∀ b o, b ≠ X.env.locals → b ∉ X.fs → b ∉ ch → s.heap.get? b = some o → H b = none → h'.get? b = some o)
    (slot : ∀ b o, b ≠ X.env.locals → b ∈ X.fs → b ∉ ch → s.heap.get? b = some o → H b = none → ∃ sl, h'.get? b = some { o with slots := sl }) (free : ∀ b o, b ∉ ch → s.heap.get? b = some o → H b = none → H' b = none)
    (there : ∀ b o, b ∉ ch → s.heap.get? b = some o → ∃ o', h'.get? b = some o')
    (tups : ∀ b xs, H b = some (.tup xs) → H' b = some (.tup xs)) (frzs : ∀ b o u, H b = some (.frz o u) → H' b = some (.frz o u)) (tbls : ∀ b ps, H b = some (.tbl ps) → ∃ more, H' b = some (.tbl (ps ++ more)))
    (ns : ∀ m, s.heap.Ns X.env.locals m → h'.Ns X.env.locals m) (hok : HOk X.prog X.w H' h') (hg : AllBare g') :
    Inv X pins σ H' { s with heap := h', gens := g', drawn := d', toks := t' } := by
  have neL : ∀ b o, X.s₀.heap.get? b = some o → b ≠ X.env.locals := fun b o e => Nat.ne_of_lt (Nat.lt_of_lt_of_le (Heap.lt_size e) I.ok.above)
  have neC : ∀ b o, X.s₀.heap.get? b = some o → b ∉ X.ex → b ∉ ch := fun b o e hx hb => by
    rcases (hch b hb).1 with z | z
    · exact hx z
    · exact absurd (Nat.lt_of_lt_of_le (Heap.lt_size e) z) (Nat.lt_irrefl _)
  have cellK : ∀ x c, X.env.cells.lookup x = some c → ∀ v, s.heap.IsCell c v → h'.IsCell c v := fun x c e v ⟨o, ho, hd⟩ => by
    have nch : c ∉ ch := fun z => (hch c z).2.2.1 x c e rfl
    by_cases hc : c ∈ X.fs
    · obtain ⟨sl, q⟩ := slot c o (I.cne x c e) hc nch ho (I.freeC x c e)
      exact ⟨_, q, hd⟩
    · exact ⟨o, keep c o (I.cne x c e) hc nch ho (I.freeC x c e), hd⟩
  refine ⟨I.ok, I.os, hg, ⟨fun b o e n hb hx => ?_, fun b o e n hb hx => ?_, fun b o e n hx => ?_, fun b o e hx => ?_, fun b xs e => tups b xs (I.base.tups b xs e), fun b o xs e => frzs b o xs (I.base.frzs b o xs e), fun b ps e => ?_⟩, ?_, fun x c e => ?_, ?_, fun x c e => ?_, fun p hp => ?_, hok, I.len⟩
  · exact keep b o (neL b o e) hb (neC b o e hx) (I.base.keep b o e n hb hx) (I.base.free b o e n hx)
  · obtain ⟨sl, e1⟩ := I.base.slot b o e n hb hx
    obtain ⟨sl', e2⟩ := slot b _ (neL b o e) hb (neC b o e hx) e1 (I.base.free b o e n hx)
    exact ⟨sl', e2⟩
  · obtain ⟨o', e1⟩ := I.base.there b o e hx
    exact free b o' (neC b o e hx) e1 (I.base.free b o e n hx)
  · obtain ⟨o', e1⟩ := I.base.there b o e hx
    exact there b o' (neC b o e hx) e1
  · obtain ⟨m1, e1⟩ := I.base.tbls b ps e
    obtain ⟨m2, e2⟩ := tbls b _ e1
    exact ⟨m1 ++ m2, by rw [e2, Array.append_assoc]⟩
  · obtain ⟨m, hn, hl⟩ := I.loc
    refine ⟨m, ns m hn, fun i x v e1 e2 e3 => ?_⟩
    obtain ⟨u, r, l⟩ := hl i x v e1 e2 e3
    refine ⟨u, r, ?_⟩
    rcases l with l | ⟨k, c, e, z⟩
    · exact .inl l
    · exact .inr ⟨k, c, e, cellK x c e _ z⟩
  · obtain ⟨v, z⟩ := I.cell x c e
    exact ⟨v, cellK x c e v z⟩
  · obtain ⟨m, ⟨o, _, _, ho, _⟩, _⟩ := I.loc
    exact free _ o (fun z => (hch _ z).2.1 rfl) ho I.free
  · obtain ⟨v, o, ho, hd⟩ := I.cell x c e
    exact free c o (fun z => (hch c z).2.2.1 x c e rfl) ho (I.freeC x c e)
  · obtain ⟨e, n, ne, nf, d⟩ := I.pin p hp
    have nch : p.1 ∉ ch := fun z => (hch p.1 z).2.2.2 p hp rfl
    exact ⟨keep p.1 p.2 ne nf nch e n, free p.1 p.2 nch e n, ne, nf, d⟩
/-- .. where the frame's own object is kept too -/
theorem Inv.un {t' : Nat} (I : Inv X pins σ H s) (u : Un X.fs [] H H' s.heap h') (hok : HOk X.prog X.w H' h') : Inv X pins σ H' { s with heap := h', toks := t' } := by
  obtain ⟨m, ⟨o, es, ep, ho, r⟩, _⟩ := id I.loc
  obtain ⟨sl, hL⟩ := u.any ho I.free (by simp)
  exact I.step (g' := s.gens) (d' := s.drawn) (ch := []) (fun _ z => nomatch z) (fun b o _ hb _ e n => u.keep b o e n hb (by simp)) (fun b o _ hb _ e n => u.slot b o e n hb (by simp)) (fun b o _ e n => u.free b o e n (by simp)) (fun b o _ e => u.there b o e (by simp)) u.tups u.frzs u.tbls (fun m' hm => by
    obtain ⟨o', es', ep', ho', r'⟩ := hm
    rw [ho] at ho'; cases ho'
    exact ⟨_, es', ep', hL, r'⟩) hok I.bare
/-- behind a call (or a comprehension's block): the slots of this frame may have changed too, the records at ch may have turned -/
theorem Inv.call {g' : Array GenState} {t' : Nat} {d' : Drawn} {ch : List Addr} (I : Inv X pins σ H s) (u : Un (frs X.stack) ch H H' s.heap h') (hok : HOk X.prog X.w H' h') (hg : AllBare g')
    (hch : ∀ b ∈ ch, (b ∈ X.ex ∨ X.s₀.heap.objs.size ≤ b) ∧ b ≠ X.env.locals ∧ (∀ x c, X.env.cells.lookup x = some c → c ≠ b) ∧ ∀ p ∈ X.pn ++ pins, p.1 ≠ b) :
    Inv X pins σ H' { s with heap := h', gens := g', drawn := d', toks := t' } := by
  obtain ⟨m, ⟨o, es, ep, ho, r⟩, _⟩ := id I.loc
  obtain ⟨sl, hL⟩ := u.any ho I.free fun z => (hch _ z).2.1 rfl
  exact I.step (ch := ch) hch (fun b o hL hb hc e n => u.keep b o e n (fun z => (List.mem_cons.mp (I.stkSub b z)).elim hL hb) hc) (fun b o _ _ hc e n => u.any e n hc) (fun b o hc e n => u.free b o e n hc) (fun b o hc e => u.there b o e hc) u.tups u.frzs u.tbls (fun m' hm => by
    obtain ⟨o', es', ep', ho', r'⟩ := hm
    rw [ho] at ho'; cases ho'
    exact ⟨_, es', ep', hL, r'⟩) hok hg
/-- an untracked record of ours (an iterator) has turned -/
theorem Inv.turned {t' : Nat} {it : Addr} (I : Inv X pins σ H s) (k : ∀ b o, b ≠ it → s.heap.get? b = some o → h'.get? b = some o) (hn : H it = none) (hL : it ≠ X.env.locals)
    (h1 : it ∈ X.ex ∨ X.s₀.heap.objs.size ≤ it) (h2 : ∀ x c, X.env.cells.lookup x = some c → c ≠ it) (h3 : ∀ p ∈ X.pn ++ pins, p.1 ≠ it) : Inv X pins σ H { s with heap := h', toks := t' } := by
  have nit : ∀ b u, H b = some u → b ≠ it := fun b u e z => by rw [z, hn] at e; cases e
  refine I.step (g' := s.gens) (d' := s.drawn) (ch := [it]) (fun b hb => ?_) (fun b o _ _ hc e _ => k b o (fun z => hc (by simp [z])) e) (fun b o _ _ hc e _ => ⟨o.slots, k b o (fun z => hc (by simp [z])) e⟩) (fun _ _ _ _ n => n)
    (fun b o hc e => ⟨o, k b o (fun z => hc (by simp [z])) e⟩) (fun _ _ e => e) (fun _ _ _ e => e) (fun b ps e => ⟨#[], by rw [e]; simp⟩) (fun m hm => ?_) (fun b u e => ?_) I.bare
  · have e : b = it := by simpa using hb
    subst e
    exact ⟨h1, hL, h2, h3⟩
  · obtain ⟨o, es, ep, ho, r⟩ := hm
    exact ⟨o, es, ep, k _ o (Ne.symm hL) ho, r⟩
  · refine (I.hok b u e).stay (fun c v hc q => k c v ?_ q) (fun _ q => q) fun _ _ q => q
    rcases hc with z | z
    · rw [z]; exact nit b u e
    · exact nit c _ z
theorem Inv.tok (I : Inv X pins σ H s) (t : Nat) : Inv X pins σ H { s with toks := t } := I.un (h' := s.heap) (t' := t) Un.refl I.hok
/-- all objects kept -/
theorem Inv.kept {t' : Nat} (I : Inv X pins σ H s) (k : ∀ b u, s.heap.get? b = some u → h'.get? b = some u) : Inv X pins σ H { s with heap := h', toks := t' } := I.un (Un.kept k) (I.hok.kept k)
/-- a new object laid and tracked -/
theorem Inv.laid {a : Addr} {o : HO} {t' : Nat} (I : Inv X pins σ H s) (k : ∀ b u, s.heap.get? b = some u → h'.get? b = some u) (hp : s.heap.objs.size ≤ a) (new : ObjOk X.prog X.w (upd H a o) h' a o) :
    Inv X pins σ (upd H a o) { s with heap := h', toks := t' } := I.un (Un.laid k hp (I.hok.fresh hp)) (I.hok.laid k hp new)
/-- an object written -/
theorem Inv.write {x e : Addr} {o : HO} {t' : Nat} (I : Inv X pins σ H s) (mu : Mut (H x)) (he : e = x ∨ H e = some (.own x)) (k : ∀ b u, b ≠ e → s.heap.get? b = some u → h'.get? b = some u) (heo : ∃ u, h'.get? e = some u)
    (new : ObjOk X.prog X.w (upd H x o) h' x o) : Inv X pins σ (upd H x o) { s with heap := h', toks := t' } := I.un (Un.write mu he k heo) (I.hok.write mu he k heo new)
/-- forgetting slots, pins -/
theorem Inv.weak {σ' : List (Option V)} (I : Inv X pins σ H s) (hl : σ'.length = σ.length) (w : ∀ (i : Nat) v, σ'[i]? = some (some v) → σ[i]? = some (some v)) : Inv X pins σ' H s :=
  ⟨I.ok, I.os, I.bare, I.base, let ⟨m, hn, hl'⟩ := I.loc; ⟨m, hn, fun i x v e1 e2 e3 => hl' i x v e1 (w i v e2) e3⟩, I.cell, I.free, I.freeC, I.pin, I.hok, hl.trans I.len⟩
theorem Inv.pins_of {pins' : List (Addr × Obj)} (I : Inv X pins σ H s) (h : ∀ p ∈ pins', s.heap.get? p.1 = some p.2 ∧ H p.1 = none ∧ p.1 ≠ X.env.locals ∧ p.1 ∉ X.fs ∧ ∀ v, p.2.data ≠ .cell v) : Inv X pins' σ H s :=
  ⟨I.ok, I.os, I.bare, I.base, I.loc, I.cell, I.free, I.freeC, fun p hp => (List.mem_append.mp hp).elim (fun z => I.pin p (List.mem_append_left _ z)) (h p), I.hok, I.len⟩

theorem nodup_ix {N : List Str} (hN : N.Nodup) {i j : Nat} {x : Str} (a : N[i]? = some x) (b : N[j]? = some x) : i = j := by
  obtain ⟨h1, e1⟩ := List.getElem?_eq_some_iff.mp a
  obtain ⟨h2, e2⟩ := List.getElem?_eq_some_iff.mp b
  exact (List.getElem_inj hN).mp (e1.trans e2.symm)

/-- a name is stored; what changed -/
theorem store_ok2 {M : Model} {A : Around} {E : Value → Shared → Prop} {i : Nat} {x : Str} {v : V} {u : Value} {Q : Unit → Shared → Prop} (I : Inv X pins σ H s) (hN : X.N.Nodup) (hi : X.N[i]? = some x) (hx : Loc X.env.scope x) (r : RelV v u)
    (h : ∀ s', Inv X pins (σ.set i (some v)) H s' → (∃ a, Heap.SameBut a s.heap s'.heap ∧ (a = X.env.locals ∨ X.env.cells.lookup x = some a)) → Q () s') (hf : X.fn x = true ∨ X.env.scope.names.lookup x = some .local := by first | exact .inl rfl | exact .inr rfl | assumption) : wpAny M A (storeName X.env x u) Q E s := by
  obtain ⟨m, hn, hl⟩ := id I.loc
  have hcls : (X.env.scope.kind == .class || (X.env.scope.kind == .module && X.env.locals != X.env.globals)) = false := by rw [I.ok.kind]; rfl
  have hiσ : i < σ.length := by rw [I.len]; exact (List.getElem?_eq_some_iff.mp hi).1
  have cne := I.cne
  have tracked : ∀ {a : Addr} {h' : Heap}, (∃ o, s.heap.get? a = some o ∧ H a = none) → Heap.SameBut a s.heap h' → HOk X.prog X.w H h' := fun {a h'} ha hs b ob e => by
    obtain ⟨_, _, hfree⟩ := ha
    refine (I.hok b ob e).stay (fun c w' hc q => (hs.2 c ?_).trans q) (fun _ q => q) fun _ _ q => q
    rintro rfl
    rcases hc with rfl | hc
    · rw [hfree] at e; cases e
    · rw [hfree] at hc; cases hc
  rcases hx with hk | hk
  · refine wpAny_storeName_local hk hn (fun h' hn' hs => ?_) hcls
    obtain ⟨oL, _, _, hoL, _⟩ := id hn
    refine h _ ⟨I.ok, I.os, I.bare, ⟨fun b o e n hb hx => ?_, fun b o e n hb hx => ?_, I.base.free, fun b o e hx => ?_, I.base.tups, I.base.frzs, I.base.tbls⟩, ⟨_, hn', fun j y v' e1 e2 e3 => ?_⟩, fun y c e => ?_, I.free, I.freeC, fun p hp => ?_, tracked ⟨oL, hoL, I.free⟩ hs, by simpa using I.len⟩ ⟨_, hs, .inl rfl⟩
    · exact (hs.2 b (Nat.ne_of_lt (Nat.lt_of_lt_of_le (Heap.lt_size e) I.ok.above))).trans (I.base.keep b o e n hb hx)
    · obtain ⟨sl, e1⟩ := I.base.slot b o e n hb hx
      exact ⟨sl, (hs.2 b (Nat.ne_of_lt (Nat.lt_of_lt_of_le (Heap.lt_size e) I.ok.above))).trans e1⟩
    · obtain ⟨o', e1⟩ := I.base.there b o e hx
      exact ⟨o', (hs.2 b (Nat.ne_of_lt (Nat.lt_of_lt_of_le (Heap.lt_size e) I.ok.above))).trans e1⟩
    · by_cases hj : j = i
      · subst hj
        rw [hi] at e1; cases e1
        rw [List.getElem?_set_self hiσ] at e2
        cases e2
        exact ⟨u, r, .inl ⟨hk, by simp⟩⟩
      · rw [List.getElem?_set_ne (Ne.symm hj)] at e2
        obtain ⟨u', r', q⟩ := hl j y v' e1 e2 e3
        refine ⟨u', r', ?_⟩
        rcases q with ⟨k, e⟩ | ⟨k, c, e, z⟩
        · refine .inl ⟨k, ?_⟩
          have : y ≠ x := fun e => hj (nodup_ix hN e1 (e ▸ hi))
          simp [this, e]
        · exact .inr ⟨k, c, e, z.sameBut hs (cne y c e)⟩
    · obtain ⟨w', z⟩ := I.cell y c e
      exact ⟨w', z.sameBut hs (cne y c e)⟩
    · obtain ⟨e, n, ne, nf, d⟩ := I.pin p hp
      exact ⟨(hs.2 p.1 ne).trans e, n, ne, nf, d⟩
  · have hfn : X.fn x = true := by
      rcases hf with z | z
      · exact z
      · rw [z] at hk; cases hk
    obtain ⟨c, hc⟩ := I.ok.has x (.inl hk)
    obtain ⟨w', z⟩ := I.cell x c hc
    refine wpAny_storeName_cell I.ok.kind hk hc z (fun h' hc' hs => ?_)
    obtain ⟨oc, hoc, hocd⟩ := id z
    refine h { s with heap := h' } ⟨I.ok, I.os, I.bare, ⟨fun b o e n hb hx => ?_, fun b o e n hb hx => ?_, I.base.free, fun b o e hx => ?_, I.base.tups, I.base.frzs, I.base.tbls⟩, ⟨m, hn.sameBut hs (Ne.symm (cne x c hc)), fun j y v' e1 e2 e3 => ?_⟩, fun y c' e => ?_, I.free, I.freeC, fun p hp => ?_, tracked ⟨oc, hoc, I.freeC x c hc⟩ hs, by simpa using I.len⟩ ⟨c, hs, .inr hc⟩
    · exact (hs.2 b (Nat.ne_of_lt (Nat.lt_of_lt_of_le (Heap.lt_size e) (I.ok.cab x c hfn hc)))).trans (I.base.keep b o e n hb hx)
    · obtain ⟨sl, e1⟩ := I.base.slot b o e n hb hx
      exact ⟨sl, (hs.2 b (Nat.ne_of_lt (Nat.lt_of_lt_of_le (Heap.lt_size e) (I.ok.cab x c hfn hc)))).trans e1⟩
    · obtain ⟨o', e1⟩ := I.base.there b o e hx
      exact ⟨o', (hs.2 b (Nat.ne_of_lt (Nat.lt_of_lt_of_le (Heap.lt_size e) (I.ok.cab x c hfn hc)))).trans e1⟩
    · by_cases hj : j = i
      · subst hj
        rw [hi] at e1; cases e1
        rw [List.getElem?_set_self hiσ] at e2
        cases e2
        exact ⟨u, r, .inr ⟨.inl hk, c, hc, hc'⟩⟩
      · rw [List.getElem?_set_ne (Ne.symm hj)] at e2
        obtain ⟨u', r', q⟩ := hl j y v' e1 e2 e3
        refine ⟨u', r', ?_⟩
        rcases q with q | ⟨k, c', e, z'⟩
        · exact .inl q
        · refine .inr ⟨k, c', e, z'.sameBut hs ?_⟩
          rintro rfl
          exact hj (nodup_ix hN e1 (I.ok.inj _ _ _ e hc ▸ hi))
    · by_cases hcc : c' = c
      · subst hcc; exact ⟨_, hc'⟩
      · obtain ⟨w2, z2⟩ := I.cell y c' e
        exact ⟨w2, z2.sameBut hs hcc⟩
    · obtain ⟨e, n, ne, nf, d⟩ := I.pin p hp
      refine ⟨(hs.2 p.1 ?_).trans e, n, ne, nf, d⟩
      intro q
      rw [q, hoc] at e
      have q' : oc = p.2 := Option.some.inj e
      exact d w' (by rw [← q']; exact hocd)
theorem store_ok {M : Model} {A : Around} {E : Value → Shared → Prop} {i : Nat} {x : Str} {v : V} {u : Value} {Q : Unit → Shared → Prop} (I : Inv X pins σ H s) (hN : X.N.Nodup) (hi : X.N[i]? = some x) (hx : Loc X.env.scope x) (r : RelV v u)
    (h : ∀ s', Inv X pins (σ.set i (some v)) H s' → Q () s') (hf : X.fn x = true ∨ X.env.scope.names.lookup x = some .local := by first | exact .inl rfl | exact .inr rfl | assumption) : wpAny M A (storeName X.env x u) Q E s :=
  store_ok2 I hN hi hx r (fun s' I' _ => h s' I') hf
/-- behind a call or a block, the state as it is -/
theorem Inv.call' {s' : Shared} {ch : List Addr} (I : Inv X pins σ H s) (ho : s'.os = s.os) (u : Un (frs X.stack) ch H H' s.heap s'.heap) (hok : HOk X.prog X.w H' s'.heap) (hg : AllBare s'.gens)
    (hch : ∀ b ∈ ch, (b ∈ X.ex ∨ X.s₀.heap.objs.size ≤ b) ∧ b ≠ X.env.locals ∧ (∀ x c, X.env.cells.lookup x = some c → c ≠ b) ∧ ∀ p ∈ X.pn ++ pins, p.1 ≠ b) : Inv X pins σ H' s' := by
  obtain ⟨h', g', d', t', o'⟩ := s'
  have e : o' = s.os := ho
  subst e
  exact I.call (g' := g') (t' := t') (d' := d') u hok hg hch
end

/-! ### the judgements -/
/-- an exception: its class, its own dict's address (where it has one), the abstract heap behind it -/
abbrev XK := Value → Option Addr → Hp → Prop
abbrev St := List (Option V)
abbrev VK := V → Hp → Prop
/-- an expression's reading; a test's; an argument list's -/
abbrev TE := St → Hp → VK → Prop
abbrev TT := St → Hp → (Bool → Hp → Prop) → Prop
abbrev TA := St → Hp → (List V → Hp → Prop) → Prop
/-- what is wanted behind a statement -/
structure Ends where
  nx : St → Hp → Prop
  rt : VK
  bk : St → Hp → Prop := fun _ _ => False
  ct : St → Hp → Prop := fun _ _ => False
abbrev TS := Ends → St → Hp → Prop

def EP (X : Cx) (pins : List (Addr × Obj)) (σ : St) (Q : VK) (u : Value) (s' : Shared) : Prop := ∃ v H', Inv X pins σ H' s' ∧ RelV v u ∧ Q v H'
def TP (X : Cx) (pins : List (Addr × Obj)) (σ : St) (Q : Bool → Hp → Prop) (b : Bool) (s' : Shared) : Prop := ∃ H', Inv X pins σ H' s' ∧ Q b H'
def AP (X : Cx) (pins : List (Addr × Obj)) (σ : St) (Q : List V → Hp → Prop) (us : List Value) (s' : Shared) : Prop := ∃ vs H', Inv X pins σ H' s' ∧ Vals vs us ∧ Q vs H'
def SP (X : Cx) (pins : List (Addr × Obj)) (D : Ends) (f : Flow) (s' : Shared) : Prop :=
  match f with
  | .next => ∃ σ' H', Inv X pins σ' H' s' ∧ D.nx σ' H'
  | .brk => ∃ σ' H', Inv X pins σ' H' s' ∧ D.bk σ' H'
  | .cont => ∃ σ' H', Inv X pins σ' H' s' ∧ D.ct σ' H'
  | .ret u => ∃ v σ' H', Inv X pins σ' H' s' ∧ RelV v u ∧ D.rt v H'

def PE (X : Cx) (e : Expr) (t : TE) : Prop :=
  ∀ (pins : List (Addr × Obj)) (s : Shared) (σ : St) (H : Hp) (Q : VK), Inv X pins σ H s → t σ H Q → wpAny (model X.prog X.w) X.A (eval e X.env) (EP X pins σ Q) X.xe s
def PT (X : Cx) (e : Expr) (t : TT) : Prop :=
  ∀ (pins : List (Addr × Obj)) (s : Shared) (σ : St) (H : Hp) (Q : Bool → Hp → Prop), Inv X pins σ H s → t σ H Q → wpAny (model X.prog X.w) X.A (isTrue e X.env (eval e X.env)) (TP X pins σ Q) X.xe s
/-- a test whatever its 'whole' is (and, or) -/
def PW (X : Cx) (e : Expr) (t : TT) : Prop :=
  ∀ (whole : Sem Value) (pins : List (Addr × Obj)) (s : Shared) (σ : St) (H : Hp) (Q : Bool → Hp → Prop), Inv X pins σ H s → t σ H Q → wpAny (model X.prog X.w) X.A (isTrue e X.env whole) (TP X pins σ Q) X.xe s
theorem PW.pt {X : Cx} {e : Expr} {t : TT} (h : PW X e t) : PT X e t := h _
/-- an argument list (no star), from the left -/
def PA (X : Cx) (es : List Expr) (t : TA) : Prop :=
  ∀ (pos : Pos) (pins : List (Addr × Obj)) (s : Shared) (σ : St) (H : Hp) (Q : List V → Hp → Prop), Inv X pins σ H s → t σ H Q → wpAny (model X.prog X.w) X.A (spliced (backTo pos (starEach es X.env))) (AP X pins σ Q) X.xe s
def PS (X : Cx) (st : Stmt) (t : TS) : Prop :=
  ∀ (pins : List (Addr × Obj)) (s : Shared) (σ : St) (H : Hp) (D : Ends), Inv X pins σ H s → t D σ H → wpAny (model X.prog X.w) X.A (exec st X.env) (SP X pins D) X.xe s
def PSs (X : Cx) (st : List Stmt) (t : TS) : Prop :=
  ∀ (pins : List (Addr × Obj)) (s : Shared) (σ : St) (H : Hp) (D : Ends), Inv X pins σ H s → t D σ H → wpAny (model X.prog X.w) X.A (execs st X.env) (SP X pins D) X.xe s
/-- weaken the end -/
theorem thn {α : Type} {t : Sem α} {Q Q' : α → Shared → Prop} {M : Model} {A : Around} {E : Value → Shared → Prop} {s : Shared} (h : wpAny M A t Q E s) (hQ : ∀ a s, Q a s → Q' a s) : wpAny M A t Q' E s := wpAny_mono h hQ fun _ _ x => x
end L2

namespace L2
open PySem PySem.Spec PyProof.Rows
section
variable {X : Cx}

/-- two expressions in a row -/
theorem bin {a b : Expr} {ta tb : TE} (ha : PE X a ta) (hb : PE X b tb) {pins : List (Addr × Obj)} {s : Shared} {σ : St} {H : Hp} {R : V → V → Hp → Prop} (I : Inv X pins σ H s) (h : ta σ H fun x H1 => tb σ H1 fun y H2 => R x y H2)
    {α : Type} {Q : α → Shared → Prop} {f : Value → Value → Sem α}
    (hf : ∀ v u s2 x y H2, Inv X pins σ H2 s2 → RelV x v → RelV y u → R x y H2 → wpAny (model X.prog X.w) X.A (f v u) Q X.xe s2) :
    wpAny (model X.prog X.w) X.A (eval a X.env) (fun v s₁ => wpAny (model X.prog X.w) X.A (eval b X.env) (fun u s₂ => wpAny (model X.prog X.w) X.A (f v u) Q X.xe s₂) X.xe s₁) X.xe s := by
  refine thn (ha pins s σ H _ I h) fun v s1 ⟨x, H1, I1, r1, q1⟩ => ?_
  refine thn (hb pins s1 σ H1 _ I1 q1) fun u s2 ⟨y, H2, I2, r2, q2⟩ => ?_
  exact hf v u s2 x y H2 I2 r1 r2 q2

/-! ### names and constants -/
def tVar (i : Nat) : TE := fun σ H Q => ∃ v, σ[i]? = some (some v) ∧ Q v H
def tC (v : V) : TE := fun _ H Q => Q v H
theorem pe_var {i : Nat} {x : Str} {pos : Pos} (hN : X.N[i]? = some x) (hv : Vis X.env.scope x) (hd : (x == ("__debug__" : Str)) = false := by decide) (hcd : (x == ("__classdict__" : Str)) = false := by decide) : PE X (.Name x pos) (tVar i) := by
  intro pins s σ H Q I h
  obtain ⟨v, e, h⟩ := h
  obtain ⟨m, hn, hl⟩ := I.loc
  obtain ⟨u, r, l⟩ := hl i x v hN e hv
  have fin : EP X pins σ Q u s := ⟨v, H, I, r, h⟩
  rcases l with ⟨hk, hm⟩ | ⟨hk, c, hc, hcell⟩
  · exact wpAny_Name (wpAny_loadName_local I.ok.kind hk hn hm fin) hd
  · rcases hk with hk | hk
    · exact wpAny_Name (wpAny_loadName_cell I.ok.kind hk hc hcell fin) hd
    · exact wpAny_Name (wpAny_loadName_free I.ok.kind hk hc hcell fin hcd) hd
theorem pe_int {i j pos} : PE X (.Constant (.int i) j pos) (tC (.int i)) := fun _ _ _ H _ I h => wpAny_Constant_int ⟨.int i, H, I.tok _, ⟨_, rfl⟩, h⟩
theorem pe_bl {b j pos} : PE X (.Constant (.bool b) j pos) (tC (.bl b)) := fun _ _ _ H _ I h => Constant_bool ⟨.bl b, H, I, rfl, h⟩
theorem pe_non {j pos} : PE X (.Constant .none j pos) (tC .non) := fun _ _ _ H _ I h => Constant_none ⟨.non, H, I, rfl, h⟩
theorem pe_str {x j pos} : PE X (.Constant (.str x) j pos) (tC (.str x)) := fun _ _ _ H _ I h => Calls.Constant_str ⟨.str x, H, I.tok _, ⟨_, rfl⟩, h⟩

/-- a global name of the def -/
def Gl (X : Cx) (x : Str) : Prop := X.env.kindOf x = some .globalImplicit
theorem ld_glob {E : Value → Shared → Prop} {pins : List (Addr × Obj)} {s : Shared} {σ : St} {H : Hp} {x : Str} {u : Value} {pos : Pos} {Q : Value → Shared → Prop} (I : Inv X pins σ H s) (hg : Gl X x) (hm : X.mg x = some u) (h : Q u s)
    (hd : (x == ("__debug__" : Str)) = false := by decide) : wpAny (model X.prog X.w) X.A (eval (.Name x pos) X.env) Q E s :=
  Calls.Name_function_global I.ok.kind hg (Calls.loadGlobal_global (by rw [I.ok.glob]; exact I.mod.glob.keeps I.bk) hm h) hd
theorem ld_blt {E : Value → Shared → Prop} {pins : List (Addr × Obj)} {s : Shared} {σ : St} {H : Hp} {x : Str} {u : Value} {pos : Pos} {Q : Value → Shared → Prop} (I : Inv X pins σ H s) (hg : Gl X x) (hm : X.mg x = none) (hv : bootBuiltins x = some u) (h : Q u s)
    (hn : x ≠ "__name__" := by decide) (hd : (x == ("__debug__" : Str)) = false := by decide) : wpAny (model X.prog X.w) X.A (eval (.Name x pos) X.env) Q E s := by
  obtain ⟨mb, h1, h2⟩ := I.mod.blt
  exact Calls.Name_function_global I.ok.kind hg (Calls.loadGlobal_builtin (by rw [I.ok.glob]; exact I.mod.glob.keeps I.bk) hm (by rw [I.ok.blt]; exact h1.keeps I.bk) ((h2 x hn).trans hv) h) hd
/-- a module's constant, a class, a function, as a value -/
theorem pe_glob {x : Str} {v : V} {u : Value} {pos : Pos} (hg : Gl X x) (hm : X.mg x = some u) (r : RelV v u) (hd : (x == ("__debug__" : Str)) = false := by decide) : PE X (.Name x pos) (tC v) :=
  fun _ _ _ H _ I h => ld_glob I hg hm ⟨v, H, I, r, h⟩ hd
theorem pe_bltn {x : Str} {v : V} {u : Value} {pos : Pos} (hg : Gl X x) (hm : X.mg x = none) (hv : bootBuiltins x = some u) (r : RelV v u) (hn : x ≠ "__name__" := by decide) (hd : (x == ("__debug__" : Str)) = false := by decide) : PE X (.Name x pos) (tC v) :=
  fun _ _ _ H _ I h => ld_blt I hg hm hv ⟨v, H, I, r, h⟩ hn hd

/-! ### arithmetic -/
/-- two ints -/
def t2I (ta tb : TE) (k : Int → Int → Hp → Prop) : St → Hp → Prop := fun σ H => ta σ H fun x H1 => tb σ H1 fun y H2 => ∃ i j, x = .int i ∧ y = .int j ∧ k i j H2
def tAdd (ta tb : TE) : TE := fun σ H Q => t2I ta tb (fun i j H2 => Q (.int (i + j)) H2) σ H
def tSub (ta tb : TE) : TE := fun σ H Q => t2I ta tb (fun i j H2 => Q (.int (i - j)) H2) σ H
/-- the left factor below 2^64 -/
def tMul (ta tb : TE) : TE := fun σ H Q => t2I ta tb (fun i j H2 => (-(2 ^ 64) < i ∧ i < 2 ^ 64) ∧ Q (.int (i * j)) H2) σ H
variable {a b : Expr} {ta tb : TE} {pos : Pos}
theorem pe_add (ha : PE X a ta) (hb : PE X b tb) : PE X (.BinOp a .Add b pos) (tAdd ta tb) := by
  intro pins s σ H Q I h
  refine wpAny_BinOp (bin ha hb I h fun v u s2 x y H2 I2 rx ry q => ?_)
  obtain ⟨i, j, rfl, rfl, q⟩ := q
  obtain ⟨t, rfl⟩ := rx
  obtain ⟨t', rfl⟩ := ry
  exact add_int ⟨.int _, H2, I2.tok _, ⟨_, rfl⟩, q⟩
theorem pe_sub (ha : PE X a ta) (hb : PE X b tb) : PE X (.BinOp a .Sub b pos) (tSub ta tb) := by
  intro pins s σ H Q I h
  refine wpAny_BinOp (bin ha hb I h fun v u s2 x y H2 I2 rx ry q => ?_)
  obtain ⟨i, j, rfl, rfl, q⟩ := q
  obtain ⟨t, rfl⟩ := rx
  obtain ⟨t', rfl⟩ := ry
  exact sub_int ⟨.int _, H2, I2.tok _, ⟨_, rfl⟩, q⟩
theorem pe_mul (ha : PE X a ta) (hb : PE X b tb) : PE X (.BinOp a .Mult b pos) (tMul ta tb) := by
  intro pins s σ H Q I h
  refine wpAny_BinOp (bin ha hb I h fun v u s2 x y H2 I2 rx ry q => ?_)
  obtain ⟨i, j, rfl, rfl, ⟨q1, q2⟩, q⟩ := q
  obtain ⟨t, rfl⟩ := rx
  obtain ⟨t', rfl⟩ := ry
  exact mul_int ⟨.int _, H2, I2.tok _, ⟨_, rfl⟩, q⟩ (.of_left (intBits_le_64 q1 q2))

/-! ### comparisons -/
def PC (X : Cx) (op : CmpOp) (a b : Expr) (t : TE) : Prop :=
  ∀ (pins : List (Addr × Obj)) (s : Shared) (σ : St) (H : Hp) (Q : VK), Inv X pins σ H s → t σ H Q →
    wpAny (model X.prog X.w) X.A (eval a X.env) (fun v s₁ => wpAny (model X.prog X.w) X.A (eval b X.env) (fun u s₂ => wpAny (model X.prog X.w) X.A (compareOp op v u) (EP X pins σ Q) X.xe s₂) X.xe s₁) X.xe s
theorem nobehind (b : Expr) {op : CmpOp} (h : op ≠ .In) (h2 : op ≠ .NotIn) : behindInMarks op b = false := by
  have e1 : (op == CmpOp.In) = false := by cases op <;> first | rfl | exact absurd rfl h
  have e2 : (op == CmpOp.NotIn) = false := by cases op <;> first | rfl | exact absurd rfl h2
  cases b <;> simp [behindInMarks, e1, e2]
def tCmp (p : Int → Int → Bool) (ta tb : TE) : TE := fun σ H Q => t2I ta tb (fun i j H2 => Q (.bl (p i j)) H2) σ H
abbrev tLt : TE → TE → TE := tCmp fun i j => decide (i < j)
abbrev tLe : TE → TE → TE := tCmp fun i j => decide (i ≤ j)
abbrev tGt : TE → TE → TE := tCmp fun i j => decide (j < i)
abbrev tGe : TE → TE → TE := tCmp fun i j => decide (j ≤ i)
abbrev tEqI : TE → TE → TE := tCmp fun i j => decide (i = j)
abbrev tNeI : TE → TE → TE := tCmp fun i j => !decide (i = j)
/-- a comparison of two ints, by its rule -/
theorem pc_int {op : CmpOp} {p : Int → Int → Bool} (ha : PE X a ta) (hb : PE X b tb)
    (rule : ∀ (i j : Int) (t u : Tok) (Q : Value → Shared → Prop) (s : Shared), Q (.bool (p i j)) s → wpAny (model X.prog X.w) X.A (compareOp op (.int i t) (.int j u)) Q X.xe s) : PC X op a b (tCmp p ta tb) := by
  intro pins s σ H Q I h
  refine bin ha hb I h fun v u s2 x y H2 I2 rx ry q => ?_
  obtain ⟨i, j, rfl, rfl, q⟩ := q
  obtain ⟨t, rfl⟩ := rx
  obtain ⟨t', rfl⟩ := ry
  exact rule i j t t' _ s2 ⟨.bl _, H2, I2, rfl, q⟩
theorem pc_lt (ha : PE X a ta) (hb : PE X b tb) : PC X .Lt a b (tLt ta tb) := pc_int ha hb fun _ _ _ _ _ _ h => lt_int h
theorem pc_le (ha : PE X a ta) (hb : PE X b tb) : PC X .LtE a b (tLe ta tb) := pc_int ha hb fun _ _ _ _ _ _ h => le_int h
theorem pc_gt (ha : PE X a ta) (hb : PE X b tb) : PC X .Gt a b (tGt ta tb) := pc_int ha hb fun _ _ _ _ _ _ h => gt_int h
theorem pc_ge (ha : PE X a ta) (hb : PE X b tb) : PC X .GtE a b (tGe ta tb) := pc_int ha hb fun _ _ _ _ _ _ h => ge_int h
theorem pc_eqI (ha : PE X a ta) (hb : PE X b tb) : PC X .Eq a b (tEqI ta tb) := pc_int ha hb fun _ _ _ _ _ _ h => eq_int (by rw [Bool.beq_eq_decide_eq]; exact h)
theorem pc_neI (ha : PE X a ta) (hb : PE X b tb) : PC X .NotEq a b (tNeI ta tb) := pc_int ha hb fun _ _ _ _ _ _ h => ne_int (by rw [bne, Bool.beq_eq_decide_eq]; exact h)
/-- is None -/
def tIsN (ta : TE) : TE := fun σ H Q => ta σ H fun x H1 => Q (.bl (decide (x = .non))) H1
def tNotN (ta : TE) : TE := fun σ H Q => ta σ H fun x H1 => Q (.bl (!decide (x = .non))) H1
theorem RelV.none_iff {x : V} {v : Value} (r : RelV x v) : (v == Value.none) = decide (x = .non) := by
  cases x with
  | non => cases r; rfl
  | bl _ => cases r; rfl
  | int _ => obtain ⟨t, rfl⟩ := r; rfl
  | str _ => obtain ⟨t, rfl⟩ := r; rfl
  | byt _ => obtain ⟨t, rfl⟩ := r; rfl
  | flt _ => obtain ⟨t, rfl⟩ := r; rfl
  | ref _ => cases r; rfl
  | ty _ => cases r; rfl
theorem pc_isN {j pos'} (ha : PE X a ta) : PC X .Is a (.Constant .none j pos') (tIsN ta) := by
  intro pins s σ H Q I h
  refine thn (ha pins s σ H _ I h) fun v s1 ⟨x, H1, I1, r1, q1⟩ => ?_
  exact Constant_none (is_none_gen ⟨.bl _, H1, I1, by rw [r1.none_iff]; rfl, q1⟩)
theorem pc_notN {j pos'} (ha : PE X a ta) : PC X .IsNot a (.Constant .none j pos') (tNotN ta) := by
  intro pins s σ H Q I h
  refine thn (ha pins s σ H _ I h) fun v s1 ⟨x, H1, I1, r1, q1⟩ => ?_
  exact Constant_none (isnot_none_gen ⟨.bl _, H1, I1, by rw [r1.none_iff]; rfl, q1⟩)
/-- a comparison as a value, as a test -/
def tB (t : TE) : TT := fun σ H Q => t σ H fun x H1 => ∃ c, x = .bl c ∧ Q c H1
theorem pe_cmp {op : CmpOp} {t : TE} (h : PC X op a b t) (h1 : behindInMarks op b = false := by first | exact nobehind _ (by decide) (by decide) | rfl) : PE X (.Compare a [op] [b] pos) t := fun pins s σ H Q I hw => wpAny_Compare1 (h pins s σ H Q I hw) h1
theorem pt_cmp {op : CmpOp} {t : TE} (h : PC X op a b t) (h1 : behindInMarks op b = false := by first | exact nobehind _ (by decide) (by decide) | rfl) : PT X (.Compare a [op] [b] pos) (tB t) := by
  intro pins s σ H Q I hw
  refine wpAny_isTrue_Compare1 (thn (h pins s σ H _ I hw) fun v s1 h1 => thn h1 fun u s2 h2 => thn h2 fun c s3 ⟨x, H1, I1, r1, q1⟩ => ?_) h1
  obtain ⟨d, rfl, q⟩ := q1
  cases r1
  exact wpAny_truthy_bool ⟨H1, I1, q⟩
/-- an expression whose value is a bool, as a test -/
theorem pt_val {e : Expr} {t : TE} (h : PE X e t) (he : ∀ whole, isTrue e X.env whole = (do let v ← whole; standAt e.pos; holding [v] (truthy v)) := by intro _; rfl) : PT X e (tB t) := by
  intro pins s σ H Q I hw
  refine isTrue_plain (thn (h pins s σ H _ I hw) fun v s1 ⟨x, H1, I1, r1, q1⟩ => ?_) (he _)
  obtain ⟨d, rfl, q⟩ := q1
  cases r1
  exact wpAny_truthy_bool ⟨H1, I1, q⟩

/-! ### and, or, not -/
variable {tA tB' : TT} {rest : List Expr}
def tAnd (t u : TT) : TT := fun σ H Q => t σ H fun c H1 => if c = true then u σ H1 Q else Q false H1
def tOr (t u : TT) : TT := fun σ H Q => t σ H fun c H1 => if c = true then Q true H1 else u σ H1 Q
def tNot (t : TT) : TT := fun σ H Q => t σ H fun c H1 => Q (!c) H1
theorem pw_and1 (ha : PT X a tA) : PW X (.BoolOp .And [a] pos) tA := by
  intro wh pins s σ H Q I h
  refine isTrue_and (thn (ha pins s σ H Q I h) fun c s1 e => ?_)
  cases c with
  | true => exact isTrue_and_nil e
  | false => exact e
theorem pw_or1 (ha : PT X a tA) : PW X (.BoolOp .Or [a] pos) tA := by
  intro wh pins s σ H Q I h
  refine isTrue_or (thn (ha pins s σ H Q I h) fun c s1 e => ?_)
  cases c with
  | false => exact isTrue_or_nil e
  | true => exact e
theorem pw_and (ha : PT X a tA) (hb : PW X (.BoolOp .And (b :: rest) pos) tB') : PW X (.BoolOp .And (a :: b :: rest) pos) (tAnd tA tB') := by
  intro wh pins s σ H Q I h
  refine isTrue_and (thn (ha pins s σ H _ I h) fun c s1 ⟨H1, I1, q1⟩ => ?_)
  cases c with
  | true => exact hb wh pins s1 σ H1 Q I1 q1
  | false => exact ⟨H1, I1, q1⟩
theorem pw_or (ha : PT X a tA) (hb : PW X (.BoolOp .Or (b :: rest) pos) tB') : PW X (.BoolOp .Or (a :: b :: rest) pos) (tOr tA tB') := by
  intro wh pins s σ H Q I h
  refine isTrue_or (thn (ha pins s σ H _ I h) fun c s1 ⟨H1, I1, q1⟩ => ?_)
  cases c with
  | true => exact ⟨H1, I1, q1⟩
  | false => exact hb wh pins s1 σ H1 Q I1 q1
theorem pt_not (ha : PT X a tA) : PT X (.UnaryOp .Not a pos) (tNot tA) := by
  intro pins s σ H Q I h
  exact isTrue_not (ha pins s σ H (fun c H1 => Q (!c) H1) I h)
/-- .. as values (bools) -/
def tAndV (ta tb : TE) : TE := fun σ H Q => ta σ H fun x H1 => ∃ c, x = .bl c ∧ if c = true then tb σ H1 Q else Q (.bl false) H1
def tOrV (ta tb : TE) : TE := fun σ H Q => ta σ H fun x H1 => ∃ c, x = .bl c ∧ if c = true then Q (.bl true) H1 else tb σ H1 Q
def tNotV (ta : TE) : TE := fun σ H Q => ta σ H fun x H1 => ∃ c, x = .bl c ∧ Q (.bl (!c)) H1
theorem pe_one {op} {t : TE} (h : PE X a t) : PE X (.BoolOp op [a] pos) t := fun pins s σ H Q I hw => BoolOp_one (h pins s σ H Q I hw)
theorem pe_and (ha : PE X a ta) (hb : PE X (.BoolOp .And (b :: rest) pos) tb) : PE X (.BoolOp .And (a :: b :: rest) pos) (tAndV ta tb) := by
  intro pins s σ H Q I h
  refine BoolOp_and (thn (ha pins s σ H _ I h) fun v s1 ⟨x, H1, I1, r1, q1⟩ => ?_)
  obtain ⟨c, rfl, q1⟩ := q1
  cases r1
  refine wpAny_truthy_bool ?_
  cases c with
  | true => exact hb pins s1 σ H1 Q I1 q1
  | false => exact ⟨.bl false, H1, I1, rfl, q1⟩
theorem pe_or (ha : PE X a ta) (hb : PE X (.BoolOp .Or (b :: rest) pos) tb) : PE X (.BoolOp .Or (a :: b :: rest) pos) (tOrV ta tb) := by
  intro pins s σ H Q I h
  refine BoolOp_or (thn (ha pins s σ H _ I h) fun v s1 ⟨x, H1, I1, r1, q1⟩ => ?_)
  obtain ⟨c, rfl, q1⟩ := q1
  cases r1
  refine wpAny_truthy_bool ?_
  cases c with
  | false => exact hb pins s1 σ H1 Q I1 q1
  | true => exact ⟨.bl true, H1, I1, rfl, q1⟩
theorem pe_not (ha : PE X a ta) : PE X (.UnaryOp .Not a pos) (tNotV ta) := by
  intro pins s σ H Q I h
  refine UnaryOp_ (thn (ha pins s σ H _ I h) fun v s1 ⟨x, H1, I1, r1, q1⟩ => ?_)
  obtain ⟨c, rfl, q1⟩ := q1
  cases r1
  exact not_of (wpAny_truthy_bool ⟨.bl (!c), H1, I1, rfl, q1⟩)
/-- a if t else b -/
def tIf (t : TT) (ta tb : TE) : TE := fun σ H Q => t σ H fun c H1 => if c = true then ta σ H1 Q else tb σ H1 Q
theorem pe_ifExp {c : Expr} (hc : PT X c tA) (ha : PE X a ta) (hb : PE X b tb) : PE X (.IfExp c a b pos) (tIf tA ta tb) := by
  intro pins s σ H Q I h
  refine wpAny_IfExp (thn (hc pins s σ H _ I h) fun d s1 ⟨H1, I1, q1⟩ => ?_)
  cases d with
  | true => exact ha pins s1 σ H1 Q I1 q1
  | false => exact hb pins s1 σ H1 Q I1 q1
end
end L2

namespace L2
open PySem PySem.Spec PyProof.Rows

/-! ### a list, a tuple that is read: tracked, frozen, or an object of the module -/
def SqL (K : PySem.W.Frag) (H : Hp) (a : Addr) (xs : List V) : Prop :=
  Rd H a (.lst xs) ∨
    ∃ (o : Obj) (its : Array Value) (n : Nat), K.lookup a = some o ∧ o.cls = .type "list" ∧ o.dict = none ∧ o.data = .seq its n ∧ its.size ≤ sizeLine ∧ Vals xs its.toList
def SqT (K : PySem.W.Frag) (H : Hp) (a : Addr) (xs : List V) : Prop :=
  Rd H a (.tup xs) ∨
    ∃ (o : Obj) (its : Array Value) (n : Nat), K.lookup a = some o ∧ o.cls = .type "tuple" ∧ o.data = .seq its n ∧ its.size ≤ sizeLine ∧ Vals xs its.toList
def absV : Value → Option V
  | .none => some .non
  | .bool b => some (.bl b)
  | .int i _ => some (.int i)
  | .str x _ => some (.str x)
  | .bytes b _ => some (.byt b)
  | .float b _ => some (.flt b)
  | .ref a => some (.ref a)
  | .type n => some (.ty n)
  | _ => none
theorem RelV.abs {x : V} {u : Value} (r : RelV x u) : absV u = some x := by
  cases x with
  | non => cases r; rfl
  | bl _ => cases r; rfl
  | int _ => obtain ⟨t, rfl⟩ := r; rfl
  | str _ => obtain ⟨t, rfl⟩ := r; rfl
  | byt _ => obtain ⟨t, rfl⟩ := r; rfl
  | flt _ => obtain ⟨t, rfl⟩ := r; rfl
  | ref _ => cases r; rfl
  | ty _ => cases r; rfl
theorem RelV.inj {x y : V} {u : Value} (r : RelV x u) (q : RelV y u) : x = y := Option.some.inj (r.abs.symm.trans q.abs)
theorem Vals.inj : ∀ {xs ys : List V} {us : List Value}, Vals xs us → Vals ys us → xs = ys
  | _, _, _, .nil, .nil => rfl
  | _, _, _, .cons r t, .cons r' t' => by rw [r.inj r', Vals.inj t t']
section
variable {X : Cx} {pins : List (Addr × Obj)} {σ : St} {H : Hp} {s : Shared} {a : Addr} {xs ys : List V}
theorem SqL.of {K : PySem.W.Frag} (h : H a = some (.lst xs)) : SqL K H a xs := .inl (.inl h)
theorem SqT.of {K : PySem.W.Frag} (h : H a = some (.tup xs)) : SqT K H a xs := .inl (.inl h)
theorem Inv.list (I : Inv X pins σ H s) (h : SqL X.K H a xs) : ∃ its : List Value, Vals xs its ∧ PlainL s.heap a its.toArray ∧ xs.length ≤ sizeLine := by
  rcases h with h | ⟨o, its, n, hk, hc, hd, hs, hz, r⟩
  · obtain ⟨z, its, n, r, e⟩ := h.ok I.hok
    exact ⟨its, r, ⟨_, n, e, rfl, rfl, rfl⟩, z⟩
  · refine ⟨its.toList, r, ⟨o, n, I.kIn a o hk, hc, hd, by simpa using hs⟩, ?_⟩
    have e := r.length
    simp only [Array.length_toList] at e
    omega
theorem Inv.tuple (I : Inv X pins σ H s) (h : SqT X.K H a xs) : ∃ its : List Value, Vals xs its ∧ IsTup s.heap a its.toArray ∧ xs.length ≤ sizeLine := by
  rcases h with h | ⟨o, its, n, hk, hc, hs, hz, r⟩
  · obtain ⟨z, its, r, p⟩ := h.ok I.hok
    exact ⟨its, r, p, z⟩
  · refine ⟨its.toList, r, ⟨o, I.kIn a o hk, hc, n, by simpa using hs⟩, ?_⟩
    have e := r.length
    simp only [Array.length_toList] at e
    omega
theorem Inv.list_inj (I : Inv X pins σ H s) (h : SqL X.K H a xs) (h' : SqL X.K H a ys) : xs = ys := by
  obtain ⟨its, r, ⟨o, n, e, _, _, d⟩, _⟩ := I.list h
  obtain ⟨its', r', ⟨o', n', e', _, _, d'⟩, _⟩ := I.list h'
  rw [e] at e'; cases e'
  rw [d] at d'
  injection d' with d1 _
  have : its = its' := by simpa using congrArg Array.toList d1
  subst this
  exact r.inj r'
theorem Inv.tuple_inj (I : Inv X pins σ H s) (h : SqT X.K H a xs) (h' : SqT X.K H a ys) : xs = ys := by
  obtain ⟨its, r, ⟨o, e, _, n, d⟩, _⟩ := I.tuple h
  obtain ⟨its', r', ⟨o', e', _, n', d'⟩, _⟩ := I.tuple h'
  rw [e] at e'; cases e'
  rw [d] at d'
  injection d' with d1 _
  have : its = its' := by simpa using congrArg Array.toList d1
  subst this
  exact r.inj r'
end

/-! ### another wish about exceptions -/
abbrev Cx.wish (X : Cx) (E : Value → Shared → Prop) : Cx := { X with xe := E }
/-- no exception leaves -/
abbrev Cx.nox (X : Cx) : Cx := X.wish fun _ _ => False
theorem Cx.Ok.wish {X : Cx} (ok : X.Ok) (E : Value → Shared → Prop) : (X.wish E).Ok :=
  ⟨ok.mod, ok.kind, ok.glob, ok.blt, ok.above, ok.inj, ok.has, ok.cab, ok.hd, ok.frames, ok.stk, ok.exf, ok.bs, ok.bsz, ok.noex, ok.exfs, ok.funs, ok.frf⟩
theorem Cx.Ok.unwish {X : Cx} {E : Value → Shared → Prop} (ok : (X.wish E).Ok) : X.Ok :=
  ⟨ok.mod, ok.kind, ok.glob, ok.blt, ok.above, ok.inj, ok.has, ok.cab, ok.hd, ok.frames, ok.stk, ok.exf, ok.bs, ok.bsz, ok.noex, ok.exfs, ok.funs, ok.frf⟩
section
variable {X : Cx} {pins : List (Addr × Obj)} {σ : St} {H : Hp} {s : Shared} {E : Value → Shared → Prop}
theorem Inv.wish (I : Inv X pins σ H s) (E : Value → Shared → Prop) : Inv (X.wish E) pins σ H s := ⟨I.ok.wish E, I.os, I.bare, I.base, I.loc, I.cell, I.free, I.freeC, I.pin, I.hok, I.len⟩
theorem Inv.unwish (I : Inv (X.wish E) pins σ H s) : Inv X pins σ H s := ⟨I.ok.unwish, I.os, I.bare, I.base, I.loc, I.cell, I.free, I.freeC, I.pin, I.hok, I.len⟩
theorem SP.unwish {D : Ends} {f : Flow} {s' : Shared} (h : SP (X.wish E) pins D f s') : SP X pins D f s' := by
  cases f with
  | next => obtain ⟨σ', H', I, q⟩ := h; exact ⟨σ', H', I.unwish, q⟩
  | brk => obtain ⟨σ', H', I, q⟩ := h; exact ⟨σ', H', I.unwish, q⟩
  | cont => obtain ⟨σ', H', I, q⟩ := h; exact ⟨σ', H', I.unwish, q⟩
  | ret u => obtain ⟨v, σ', H', I, r, q⟩ := h; exact ⟨v, σ', H', I.unwish, r, q⟩
theorem PE.nox {e : Expr} {t : TE} (h : PE X.nox e t) : PE X e t := fun pins s σ H Q I hw =>
  wpAny_mono (h pins s σ H Q (I.wish _) hw) (fun _ _ ⟨v, H', I', r, q⟩ => ⟨v, H', I'.unwish, r, q⟩) fun _ _ z => False.elim z
theorem PT.nox {e : Expr} {t : TT} (h : PT X.nox e t) : PT X e t := fun pins s σ H Q I hw =>
  wpAny_mono (h pins s σ H Q (I.wish _) hw) (fun _ _ ⟨H', I', q⟩ => ⟨H', I'.unwish, q⟩) fun _ _ z => False.elim z
theorem PSs.nox {st : List Stmt} {t : TS} (h : PSs X.nox st t) : PSs X st t := fun pins s σ H D I hw =>
  wpAny_mono (h pins s σ H D (I.wish _) hw) (fun _ _ q => q.unwish) fun _ _ z => False.elim z
end

/-! ### blocks and small statements -/
section
variable {X : Cx} {st : Stmt} {rest : List Stmt} {t u : TS} {e : Expr} {te : TE} {pos : Pos}
def tNext : TS := fun D σ H => D.nx σ H
def tSeq (t u : TS) : TS := fun D σ H => t { D with nx := u D } σ H
theorem pss_nil : PSs X [] tNext := fun _ _ σ H _ I h => wpAny_execs_nil ⟨σ, H, I, h⟩
theorem pss_cons (h1 : PS X st t) (h2 : PSs X rest u) : PSs X (st :: rest) (tSeq t u) := by
  intro pins s σ H D I h
  refine wpAny_execs_cons (thn (h1 pins s σ H { D with nx := u D } I h) fun f s1 q => ?_)
  cases f with
  | next =>
    obtain ⟨σ', H', I', q⟩ := q
    exact h2 pins s1 σ' H' D I' q
  | ret v => exact q
  | brk => exact q
  | cont => exact q
theorem pss_one (h1 : PS X st t) : PSs X [st] t := by
  intro pins s σ H D I h
  refine wpAny_execs_cons (thn (h1 pins s σ H D I h) fun f s1 q => ?_)
  cases f with
  | next => exact wpAny_execs_nil q
  | ret v => exact q
  | brk => exact q
  | cont => exact q
def tBreak : TS := fun D σ H => D.bk σ H
def tCont : TS := fun D σ H => D.ct σ H
theorem ps_pass : PS X (.Pass pos) tNext := fun _ _ σ H _ I h => wpAny_Pass ⟨σ, H, I, h⟩
theorem ps_break : PS X (.Break pos) tBreak := fun _ _ σ H _ I h => wpAny_Break ⟨σ, H, I, h⟩
theorem ps_continue : PS X (.Continue pos) tCont := fun _ _ σ H _ I h => wpAny_Continue ⟨σ, H, I, h⟩
/-- in a def's body nothing is shown -/
theorem Inv.quiet {pins : List (Addr × Obj)} {σ : St} {H : Hp} {s : Shared} (I : Inv X pins σ H s) : interactive X.env = false := by simp [interactive, I.ok.kind]
/-- a docstring -/
theorem ps_doc {x j pos pos'} : PS X (.Expr (.Constant (.str x) j pos) pos') tNext := fun _ s σ H _ I h => wpAny_Expr (Calls.Constant_str (show SP X _ _ .next { s with toks := s.toks + 1 } from ⟨σ, H, I.tok _, h⟩)) I.quiet
/-- an expression whose value is dropped -/
def tDrop (te : TE) : TS := fun D σ H => te σ H fun _ H1 => D.nx σ H1
theorem ps_expr (he : PE X e te) (hs : swapsWith e none pos.line X.env = pure false := by rfl) : PS X (.Expr e pos) (tDrop te) := by
  intro pins s σ H D I h
  exact wpAny_Expr_any (thn (he pins s σ H _ I h) fun v s1 ⟨x, H1, I1, r1, q1⟩ => ⟨σ, H1, I1, q1⟩) I.quiet hs
def tRet (te : TE) : TS := fun D σ H => te σ H D.rt
theorem ps_ret (he : PE X e te) : PS X (.Return (some e) pos) (tRet te) := by
  intro pins s σ H D I h
  exact wpAny_Return_some (thn (he pins s σ H _ I h) fun v s1 ⟨x, H1, I1, r1, q1⟩ => ⟨x, σ, H1, I1, r1, q1⟩)
def tRetN : TS := fun D _ H => D.rt .non H
theorem ps_retN : PS X (.Return none pos) tRetN := fun _ _ σ H _ I h => wpAny_Return_none ⟨.non, σ, H, I, rfl, h⟩
def tIfS (c : TT) (t u : TS) : TS := fun D σ H => c σ H fun b H1 => if b = true then t D σ H1 else u D σ H1
theorem ps_if {c : Expr} {a b : List Stmt} {tc : TT} (hc : PT X c tc) (ha : PSs X a t) (hb : PSs X b u) : PS X (.If c a b pos) (tIfS tc t u) := by
  intro pins s σ H D I h
  refine wpAny_If (thn (hc pins s σ H _ I h) fun d s1 ⟨H1, I1, q1⟩ => ?_)
  cases d with
  | true => exact ha pins s1 σ H1 D I1 q1
  | false => exact hb pins s1 σ H1 D I1 q1
/-- code that the proof never comes to -/
def tNever : TS := fun _ _ _ => False
theorem ps_never : PS X st tNever := fun _ _ _ _ _ _ h => h.elim
theorem pss_never {sts : List Stmt} : PSs X sts tNever := fun _ _ _ _ _ _ h => h.elim
end

/-! ### targets -/
abbrev TG := V → St → Hp → (St → Hp → Prop) → Prop
abbrev TGs := List V → St → Hp → (St → Hp → Prop) → Prop
def PG (X : Cx) (target : Expr) (t : TG) : Prop :=
  ∀ (pins : List (Addr × Obj)) (s : Shared) (σ : St) (H : Hp) (v : V) (u : Value) (Q : St → Hp → Prop), Inv X pins σ H s → RelV v u → t v σ H Q →
    wpAny (model X.prog X.w) X.A (assign target X.env u) (fun _ s' => ∃ σ' H', Inv X pins σ' H' s' ∧ Q σ' H') X.xe s
/-- several targets, one after another -/
def PGs (X : Cx) (ts : List Expr) (t : TGs) : Prop :=
  ∀ (pins : List (Addr × Obj)) (s : Shared) (σ : St) (H : Hp) (vs : List V) (us : List Value) (Q : St → Hp → Prop), Inv X pins σ H s → Vals vs us → t vs σ H Q →
    wpAny (model X.prog X.w) X.A (assignInOrder ((assignEach ts X.env).map (·.2)) us) (fun _ s' => ∃ σ' H', Inv X pins σ' H' s' ∧ Q σ' H') X.xe s
/-- o[i] = v, by values -/
abbrev TSet := V → V → V → Hp → (Hp → Prop) → Prop
def PSet (X : Cx) (t : TSet) : Prop :=
  ∀ (pins : List (Addr × Obj)) (s : Shared) (σ : St) (H : Hp) (o i v : V) (ov iv u : Value) (Q : Hp → Prop), Inv X pins σ H s → RelV o ov → RelV i iv → RelV v u → t o i v H Q →
    wpAny (model X.prog X.w) X.A (setItem ov iv u) (fun _ s' => ∃ H', Inv X pins σ H' s' ∧ Q H') X.xe s
/-- a op= b, by values -/
abbrev TIp := V → V → Hp → VK → Prop
def PIp (X : Cx) (op : Operator) (t : TIp) : Prop :=
  ∀ (pins : List (Addr × Obj)) (s : Shared) (σ : St) (H : Hp) (x y : V) (v u : Value) (Q : VK), Inv X pins σ H s → RelV x v → RelV y u → t x y H Q →
    wpAny (model X.prog X.w) X.A (inplaceOp op v u) (EP X pins σ Q) X.xe s
section
variable {X : Cx} {pos : Pos}
def gName (i : Nat) : TG := fun v σ H Q => Q (σ.set i (some v)) H
theorem pg_name {i : Nat} {x : Str} (hN : X.N.Nodup) (hi : X.N[i]? = some x) (hx : Loc X.env.scope x) (hf : X.fn x = true ∨ X.env.scope.names.lookup x = some .local := by first | exact .inl rfl | exact .inr rfl | assumption) : PG X (.Name x pos) (gName i) := by
  intro pins s σ H v u Q I r h
  exact wpAny_assign_Name (store_ok I hN hi hx r (fun s' I' => ⟨_, H, I', h⟩) hf)
def gNil : TGs := fun vs σ H Q => vs = [] ∧ Q σ H
def gCons (t : TG) (u : TGs) : TGs := fun vs σ H Q => ∃ v r, vs = v :: r ∧ t v σ H fun σ' H' => u r σ' H' Q
theorem pgs_nil : PGs X [] gNil := by
  intro pins s σ H vs us Q I r h
  obtain ⟨e, h⟩ := h
  subst e
  cases r
  exact assignInOrder_nil ⟨σ, H, I, h⟩
theorem pgs_cons {e : Expr} {es : List Expr} {t : TG} {u : TGs} (h1 : PG X e t) (h2 : PGs X es u)
    (hs : (assignEach (e :: es) X.env).map (·.2) = assign e X.env :: (assignEach es X.env).map (·.2) := by rfl) : PGs X (e :: es) (gCons t u) := by
  intro pins s σ H vs us Q I r h
  obtain ⟨v, vr, e1, h⟩ := h
  subst e1
  cases r with
  | cons r rr =>
    rw [hs]
    refine assignInOrder_cons (thn (h1 pins s σ H _ _ _ I r h) fun _ s1 ⟨σ1, H1, I1, q1⟩ => ?_)
    exact h2 pins s1 σ1 H1 _ _ Q I1 rr q1
/-- (a, b, ..) = a tuple of that length -/
def gTup (K : PySem.W.Frag) (n : Nat) (t : TGs) : TG := fun v σ H Q => ∃ a xs, v = .ref a ∧ SqT K H a xs ∧ xs.length = n ∧ t xs σ H Q
theorem pg_tup {es : List Expr} {k : Nat} {t : TGs} {n : Nat} (hc : X.calm = true) (h : PGs X es t)
    (hn : (assignEach es X.env).length = n := by rfl) (hst : (assignEach es X.env).findIdx? (·.1) = none := by rfl) : PG X (.Tuple es k pos) (gTup X.K n t) := by
  intro pins s σ H v u Q I r hw
  obtain ⟨a, xs, e1, hq, hl, hw⟩ := hw
  subst e1
  cases r
  obtain ⟨its, rv, ht, hz⟩ := I.tuple hq
  refine assign_Tuple_tuple (I.ok.hd hc) ht (by simp [hn, ← hl, rv.length]) hst fun h' hx => ?_
  have I1 : Inv X pins σ H { s with heap := h' } := I.kept (t' := s.toks) fun b o e => hx b o (Nat.ne_of_lt (Heap.lt_size e)) e
  exact h pins _ σ H xs _ Q I1 (by simpa using rv) hw
/-- o[i] = .. -/
def gSub (to ti : TE) (t : TSet) : TG := fun v σ H Q => to σ H fun o H1 => ti σ H1 fun i H2 => t o i v H2 fun H3 => Q σ H3
theorem pg_sub {o i : Expr} {to ti : TE} {t : TSet} (ho : PE X o to) (hi : PE X i ti) (hs : PSet X t)
    (ha : ∀ v, assign (.Subscript o i pos) X.env v = (do
      let ov ← holding [v] (eval o X.env)
      let iv ← holding [v, ov] (eval i X.env)
      standAt pos
      holding [v, ov, iv] (setItem ov iv v)
      release [v, ov, iv] []) := by intro _; rfl) : PG X (.Subscript o i pos) (gSub to ti t) := by
  intro pins s σ H v u Q I r h
  rw [ha]
  refine wpAny_bind (wpAny_holding (thn (ho pins s σ H _ I h) fun ov s1 ⟨x, H1, I1, r1, q1⟩ => ?_))
  refine wpAny_bind (wpAny_holding (thn (hi pins s1 σ H1 _ I1 q1) fun iv s2 ⟨y, H2, I2, r2, q2⟩ => ?_))
  refine wpAny_bind (wpAny_standAt (wpAny_bind (wpAny_holding (thn (hs pins s2 σ H2 x y v ov iv u _ I2 r1 r2 r q2) fun _ s3 ⟨H3, I3, q3⟩ => ?_))))
  exact wpAny_release ⟨σ, H3, I3, q3⟩
/-- target = value -/
def tAsg (te : TE) (g : TG) : TS := fun D σ H => te σ H fun x H1 => g x σ H1 D.nx
theorem ps_asg {tg e : Expr} {te : TE} {g : TG} (he : PE X e te) (hg : PG X tg g) (hs : swapsWithSole [tg] e pos.line X.env = pure false := by rfl) (hw : swappedStores [tg] e X.env = pure none := by rfl)
    (h1 : (assignEach [tg] X.env).map (·.2) = [assign tg X.env] := by rfl) : PS X (.Assign [tg] e pos) (tAsg te g) := by
  intro pins s σ H D I h
  refine wpAny_Assign_stores (thn (he pins s σ H _ I h) fun v s1 ⟨x, H1, I1, r1, q1⟩ => ?_) hs hw
  rw [h1]
  exact thn (hg pins s1 σ H1 x v _ I1 r1 q1) fun _ s2 q => q
/-- name = value -/
theorem ps_set {i : Nat} {x : Str} {e : Expr} {te : TE} {pos' : Pos} (hN : X.N.Nodup) (hi : X.N[i]? = some x) (hx : Loc X.env.scope x) (he : PE X e te) (hs : swapsWith e (some (.Name x pos')) pos.line X.env = pure false := by rfl) (hf : X.fn x = true ∨ X.env.scope.names.lookup x = some .local := by first | exact .inl rfl | exact .inr rfl | assumption) :
    PS X (.Assign [.Name x pos'] e pos) (tAsg te (gName i)) := by
  intro pins s σ H D I h
  refine wpAny_Assign_Name (thn (he pins s σ H _ I h) fun v s1 ⟨y, H1, I1, r1, q1⟩ => ?_) hs
  exact store_ok I1 hN hi hx r1 (fun s2 I2 => ⟨_, H1, I2, q1⟩) hf
/-- a, b = x, y with plain local names: stored from the right; the pair itself is not tracked (the opening rows as in PyProof/Rows/TupAssign.lean:23) -/
def tPar (i j : Nat) (ta : TA) : TS := fun D σ H => ta σ H fun vs H1 => ∃ v w, vs = [v, w] ∧ D.nx ((σ.set i (some v)).set j (some w)) H1
theorem ps_par {i j : Nat} {x y : Str} {a b : Expr} {ta : TA} {px py pt : Pos} {kt k2 pt2} (hc : X.calm = true) (hN : X.N.Nodup) (hi : X.N[i]? = some x) (hj : X.N[j]? = some y) (hij : i ≠ j)
    (hx : X.env.scope.names.lookup x = some .local) (hy : X.env.scope.names.lookup y = some .local) (ha : PA X [a, b] ta)
    (hw : swappedStores [.Tuple [.Name x px, .Name y py] kt pt] (.Tuple [a, b] k2 pt2) X.env = pure (some [x, y]))
    (hs : swapsWithSole [.Tuple [.Name x px, .Name y py] kt pt] (.Tuple [a, b] k2 pt2) pos.line X.env = pure false := by rfl) :
    PS X (.Assign [.Tuple [.Name x px, .Name y py] kt pt] (.Tuple [a, b] k2 pt2) pos) (tPar i j ta) := by
  intro pins s σ H D I h
  rw [exec_Assign_arm]
  refine wpAny_bind (wpAny_standAt ?_)
  rw [hs]
  refine wpAny_bind (wpAny_pure ?_)
  rw [if_neg (by decide)]
  refine wpAny_bind (Tuple_ (thn (ha _ pins s σ H _ I h) fun us s1 ⟨vs, H1, I1, r1, q1⟩ => ?_))
  obtain ⟨v, w, e1, q1⟩ := q1
  subst e1
  obtain ⟨u1, u2, rfl, rv, rw'⟩ : ∃ u1 u2, us = [u1, u2] ∧ RelV v u1 ∧ RelV w u2 := by
    cases r1 with
    | cons p q =>
      cases q with
      | cons p' q' =>
        cases q'
        exact ⟨_, _, rfl, p, p'⟩
  refine wpAny_newObj_type ?_ (by show 2 ≤ sizeLine; decide)
  have I2 : Inv X pins σ H1 { s1 with heap := s1.heap.push { cls := .type "tuple", data := .seq [u1, u2].toArray } } := I1.kept (t' := s1.toks) fun b o e => Heap.get?_push_of_some _ e
  rw [hw]
  refine wpAny_bind (wpAny_pure ?_)
  show wpAny (model X.prog X.w) X.A (do rule "assign.swapped-stores"; let items ← unpackItems (.ref s1.heap.objs.size) 2 none; assignInOrder [fun v => bindName X.env y v, fun v => bindName X.env x v] items.reverse; pure Flow.next) _ _ _
  refine wpAny_bind (wpAny_rule (wpAny_bind (unpackItems_tuple (items := #[u1, u2]) (I.ok.hd hc) (IsTup.new s1.heap _) fun h' hx' => ?_)))
  have I3 := I2.kept (h' := h') (t' := s1.toks) fun b o e => hx' b o (Nat.ne_of_lt (Heap.lt_size e)) e
  show wpAny _ _ (assignInOrder [fun v => bindName X.env y v, fun v => bindName X.env x v] [u2, u1] >>= fun _ => pure Flow.next) _ _ _
  refine wpAny_bind (assignInOrder_cons (wpAny_bindName (store_ok I3 hN hj (.inl hy) rw' (fun s2 I4 => ?_) (.inr hy))))
  refine assignInOrder_cons (wpAny_bindName (store_ok I4 hN hi (.inl hx) rv (fun s3 I5 => assignInOrder_nil (wpAny_pure ?_)) (.inr hx)))
  rw [List.set_comm _ _ (Ne.symm hij)] at I5
  exact ⟨_, H1, I5, q1⟩
/-- name op= e -/
def tAug (i : Nat) (te : TE) (ti : TIp) : TS := fun D σ H => ∃ x, σ[i]? = some (some x) ∧ te σ H fun y H1 => ti x y H1 fun z H2 => D.nx (σ.set i (some z)) H2
theorem ps_aug {i : Nat} {x : Str} {e : Expr} {te : TE} {op : Operator} {ti : TIp} {pos' : Pos} (hN : X.N.Nodup) (hi : X.N[i]? = some x) (hx : Loc X.env.scope x) (he : PE X e te) (ho : PIp X op ti) (hf : X.fn x = true ∨ X.env.scope.names.lookup x = some .local := by first | exact .inl rfl | exact .inr rfl | assumption) :
    PS X (.AugAssign (.Name x pos') op e pos) (tAug i te ti) := by
  intro pins s σ H D I h
  obtain ⟨v, e1, h⟩ := h
  obtain ⟨m, hn, hl⟩ := I.loc
  have vis : Vis X.env.scope x := by rcases hx with k | k; exact .inl k; exact .inr (.inl k)
  obtain ⟨u, r, l⟩ := hl i x v hi e1 vis
  refine wpAny_AugAssign_Name ?_
  have go : wpAny (model X.prog X.w) X.A (eval e X.env) (fun w s₂ => wpAny (model X.prog X.w) X.A (inplaceOp op u w) (fun r s₃ => wpAny (model X.prog X.w) X.A (storeName X.env x r) (fun _ => SP X pins D .next) X.xe s₃) X.xe s₂) X.xe s := by
    refine thn (he pins s σ H _ I h) fun w s1 ⟨y, H1, I1, r1, q1⟩ => ?_
    refine thn (ho pins s1 σ H1 v y u w _ I1 r r1 q1) fun z s2 ⟨zv, H2, I2, r2, q2⟩ => ?_
    exact store_ok I2 hN hi hx r2 (fun s3 I3 => ⟨_, H2, I3, q2⟩) hf
  rcases l with ⟨hk, hm⟩ | ⟨hk, c, hc, hcell⟩
  · exact wpAny_loadName_local I.ok.kind hk hn hm go
  · rcases hk with hk | hk
    · exact wpAny_loadName_cell I.ok.kind hk hc hcell go
    · rcases hx with k | k
      · have : X.env.scope.names.lookup x = some .free := hk
        rw [k] at this; cases this
      · have : X.env.scope.names.lookup x = some .free := hk
        rw [k] at this; cases this
/-- o[i] op= e -/
def tAugS (to ti te : TE) (tget : V → V → Hp → VK → Prop) (tip : TIp) (tset : TSet) : TS := fun D σ H => to σ H fun o H1 => ti σ H1 fun i H2 => tget o i H2 fun x H3 => te σ H3 fun y H4 => tip x y H4 fun z H5 => tset o i z H5 fun H6 => D.nx σ H6
/-- o[i], by values -/
def PGet (X : Cx) (t : V → V → Hp → VK → Prop) : Prop :=
  ∀ (pins : List (Addr × Obj)) (s : Shared) (σ : St) (H : Hp) (o i : V) (ov iv : Value) (Q : VK), Inv X pins σ H s → RelV o ov → RelV i iv → t o i H Q →
    wpAny (model X.prog X.w) X.A (getItem ov iv) (EP X pins σ Q) X.xe s
theorem ps_augS {o i e : Expr} {to ti te : TE} {tget : V → V → Hp → VK → Prop} {tip : TIp} {tset : TSet} {op : Operator} {tpos : Pos} (ho : PE X o to) (hi : PE X i ti) (hg : PGet X tget) (he : PE X e te) (hp : PIp X op tip) (hs : PSet X tset)
    (ha : ∀ ov iv new, augStore i ov iv new = (do holding [new, ov, iv] (setItem ov iv new); release [new, ov, iv] []; pure .next) := by intros; rfl) : PS X (.AugAssign (.Subscript o i tpos) op e pos) (tAugS to ti te tget tip tset) := by
  intro pins s σ H D I h
  refine wpAny_AugAssign_SubscriptAny (thn (ho pins s σ H _ I h) fun ov s1 ⟨x1, H1, I1, r1, q1⟩ => ?_) ha
  refine thn (hi pins s1 σ H1 _ I1 q1) fun iv s2 ⟨x2, H2, I2, r2, q2⟩ => ?_
  refine thn (hg pins s2 σ H2 x1 x2 ov iv _ I2 r1 r2 q2) fun old s3 ⟨x3, H3, I3, r3, q3⟩ => ?_
  refine thn (he pins s3 σ H3 _ I3 q3) fun v s4 ⟨x4, H4, I4, r4, q4⟩ => ?_
  refine thn (hp pins s4 σ H4 x3 x4 old v _ I4 r3 r4 q4) fun new s5 ⟨x5, H5, I5, r5, q5⟩ => ?_
  exact thn (hs pins s5 σ H5 x1 x2 x5 ov iv new _ I5 r1 r2 r5 q5) fun _ s6 ⟨H6, I6, q6⟩ => ⟨σ, H6, I6, q6⟩
/-- ints -/
def ipI (f : Int → Int → Int) : TIp := fun x y H Q => ∃ i j, x = .int i ∧ y = .int j ∧ Q (.int (f i j)) H
theorem ip_add : PIp X .Add (ipI fun i j => i + j) := by
  intro pins s σ H x y v u Q I r1 r2 h
  obtain ⟨i, j, e1, e2, q⟩ := h
  subst e1; subst e2
  obtain ⟨t, rfl⟩ := r1
  obtain ⟨t', rfl⟩ := r2
  exact iadd_int ⟨.int _, H, I.tok _, ⟨_, rfl⟩, q⟩
theorem ip_sub : PIp X .Sub (ipI fun i j => i - j) := by
  intro pins s σ H x y v u Q I r1 r2 h
  obtain ⟨i, j, e1, e2, q⟩ := h
  subst e1; subst e2
  obtain ⟨t, rfl⟩ := r1
  obtain ⟨t', rfl⟩ := r2
  exact isub_int ⟨.int _, H, I.tok _, ⟨_, rfl⟩, q⟩
end

/-! ### while -/
section
variable {X : Cx} {pos : Pos}
/-- the invariant W with its measure -/
def tWhile (c : TT) (tb : TS) : TS := fun D σ H => ∃ W : Nat → St → Hp → Prop, (∃ m, W m σ H) ∧ ∀ m σ H, W m σ H →
  c σ H fun b H1 => if b = true then ∃ N : St → Hp → Prop, (∀ σ' H', N σ' H' → ∃ m', m' < m ∧ W m' σ' H') ∧ tb { D with nx := N, ct := N, bk := D.nx } σ H1 else D.nx σ H1
theorem ps_while {c : Expr} {body : List Stmt} {tc : TT} {tb : TS} (hp : PassesOwn (model X.prog X.w) X.A X.env X.xe) (hc : PT X c tc) (hb : PSs X body tb) : PS X (.While c body [] pos) (tWhile tc tb) := by
  intro pins s σ H D I h
  obtain ⟨W, ⟨m0, w0⟩, turn⟩ := h
  refine wpAny_While (codeAny_whileLoop (fun n s' => ∃ σ' H', Inv X pins σ' H' s' ∧ W n σ' H') ?_ m0 ⟨σ, H, I, w0⟩)
  rintro n s1 ⟨σ1, H1, I1, w1⟩
  refine wpAny_passesOwn hp (thn (hc pins s1 σ1 H1 _ I1 (turn n σ1 H1 w1)) fun b s2 ⟨H2, I2, q2⟩ => ?_)
  cases b with
  | true =>
    obtain ⟨N, hN, q2⟩ := q2
    rw [if_pos rfl]
    refine wpAny_passesOwn hp (thn (hb pins s2 σ1 H2 _ I2 q2) fun f s3 q3 => ?_)
    cases f with
    | next =>
      obtain ⟨σ3, H3, I3, n3⟩ := q3
      obtain ⟨m', hm, w3⟩ := hN σ3 H3 n3
      exact ⟨m', hm, σ3, H3, I3, w3⟩
    | cont =>
      obtain ⟨σ3, H3, I3, n3⟩ := q3
      obtain ⟨m', hm, w3⟩ := hN σ3 H3 n3
      exact ⟨m', hm, σ3, H3, I3, w3⟩
    | brk => exact q3
    | ret v => exact q3
  | false =>
    rw [if_neg Bool.false_ne_true]
    exact wpAny_execs_nil ⟨σ1, H2, I2, q2⟩
end

/-! ### what a loop or a comprehension walks -/
/-- at turn i: it yields x (the heap may grow), or it stops -/
structure It where
  go : Nat → Hp → Prop
  yld : Nat → Hp → V → Hp → Prop
  stop : Nat → Hp → Prop
/-- the iterator's own objects may turn: they are not the frame's, not pinned, younger than the entry (or a comprehension's own) -/
def FpOk (X : Cx) (pins : List (Addr × Obj)) (H : Hp) (b : Addr) : Prop :=
  H b = none ∧ b ≠ X.env.locals ∧ b ∉ X.fs ∧ (b ∈ X.ex ∨ X.s₀.heap.objs.size ≤ b) ∧ (∀ x c, X.env.cells.lookup x = some c → c ≠ b) ∧ ∀ p ∈ X.pn ++ pins, p.1 ≠ b
theorem Inv.fpOk {X : Cx} {pins : List (Addr × Obj)} {σ : St} {H H' : Hp} {s : Shared} {b : Addr} (I : Inv X pins σ H s) (hb : s.heap.objs.size ≤ b) (hn : H' b = none) : FpOk X pins H' b := by
  refine ⟨hn, Nat.ne_of_gt (Nat.lt_of_lt_of_le I.lt hb), I.nofs hb, .inr (Nat.le_trans I.sz hb), fun x c e z => ?_, fun p hp z => ?_⟩
  · obtain ⟨v, q⟩ := I.cell x c e
    exact absurd (Nat.lt_of_lt_of_le q.lt (by rw [z]; exact hb)) (Nat.lt_irrefl _)
  · exact absurd (Nat.lt_of_lt_of_le (Heap.lt_size (I.pin p hp).1) (by rw [z]; exact hb)) (Nat.lt_irrefl _)
structure Turn (P : Program) (w : World) (K : PySem.W.Frag) (tg : Expr) (J : It) (fp : List Addr) (it : Addr) (tn : Nat → Heap → Prop) : Prop where
  mem : it ∈ fp
  obj : ∀ i h, tn i h → ∀ b ∈ fp, ∃ o, h.get? b = some o ∧ ∀ v, o.data ≠ .cell v
  keep : ∀ i h h', tn i h → (∀ b ∈ fp, ∀ o, h.get? b = some o → h'.get? b = some o) → tn i h'
  item : ∀ (X : Cx), X.prog = P → X.w = w → X.K = K → X.calm = true → ∀ (i : Nat) (pins : List (Addr × Obj)) (s : Shared) (σ : St) (H : Hp) (E : Value → Shared → Prop), Inv X pins σ H s → (∀ b ∈ fp, FpOk X pins H b) → tn i s.heap → J.go i H →
    wpAny (model P w) X.A (pyNext (.ref it)) (fun r s1 => ∃ u, r = some u ∧
      wpAny (model P w) X.A (letOwnedTupleGo tg (.ref it) u) (fun _ s2 => ∃ x H', Inv X pins σ H' s2 ∧ RelV x u ∧ J.yld i H x H' ∧ tn (i + 1) s2.heap ∧ ∀ b ∈ fp, H' b = none) E s1) E s
  done : ∀ (X : Cx), X.prog = P → X.w = w → X.K = K → X.calm = true → ∀ (i : Nat) (pins : List (Addr × Obj)) (s : Shared) (σ : St) (H : Hp) (E : Value → Shared → Prop), Inv X pins σ H s → (∀ b ∈ fp, FpOk X pins H b) → tn i s.heap → J.stop i H →
    wpAny (model P w) X.A (pyNext (.ref it)) (fun r s1 => r = none ∧ Inv X pins σ H s1) E s
  self : ∀ (A : Around) (i : Nat) (s : Shared) (Q : Value → Shared → Prop) (E : Value → Shared → Prop), tn i s.heap → Q (.ref it) s → wpAny (model P w) A (pyIter (.ref it)) Q E s
abbrev TI := St → Hp → (It → Hp → Prop) → Prop
/-- an iterator has come -/
def PIE (X : Cx) (pins : List (Addr × Obj)) (σ : St) (tg : Expr) (R : It → Hp → Prop) (itv : Value) (s2 : Shared) : Prop :=
  ∃ (it : Addr) (fp : List Addr) (tn : Nat → Heap → Prop) (J : It) (H' : Hp), itv = .ref it ∧ Inv X pins σ H' s2 ∧ Turn X.prog X.w X.K tg J fp it tn ∧ tn 0 s2.heap ∧ (∀ b ∈ fp, FpOk X pins H' b) ∧ R J H'
def PI (X : Cx) (tg iter : Expr) (wi : TI) : Prop :=
  ∀ (pins : List (Addr × Obj)) (s : Shared) (σ : St) (H : Hp) (R : It → Hp → Prop), Inv X pins σ H s → wi σ H R →
    wpAny (model X.prog X.w) X.A (eval iter X.env) (fun v s1 => wpAny (model X.prog X.w) X.A (pyIter v) (PIE X pins σ tg R) X.xe s1) X.xe s

/-- the step ahead of the store is nothing for an iterator that keeps no tuple -/
theorem go_of {M : Model} {A : Around} {E : Value → Shared → Prop} {s : Shared} {tg : Expr} {it : Addr} {u : Value} {o : Obj} {n : String} {vs : Array Value} {Q : Unit → Shared → Prop} (ho : s.heap.get? it = some o) (hc : o.cls = .type n) (hd : o.data = .fields vs)
    (hn : ["enumerate", "zip", "dict_itemiterator", "dict_reverseitemiterator", "odict_iterator", "itertools.zip_longest", "itertools.pairwise"].contains n = false) (hQ : Q () s) : wpAny M A (letOwnedTupleGo tg (.ref it) u) Q E s := by
  unfold letOwnedTupleGo
  cases tg <;> first
    | exact wpAny_pure hQ
    | (cases u <;> first
        | exact wpAny_pure hQ
        | (refine wpAny_bind (wpAny_load ho ?_)
           rw [hc, hd]
           show wpAny M A (if (["enumerate", "zip", "dict_itemiterator", "dict_reverseitemiterator", "odict_iterator", "itertools.zip_longest", "itertools.pairwise"].contains n && vs[0]? == some (rawInt _)) = true then _ else _) Q E s
           rw [if_neg (by intro h; rw [hn, Bool.false_and] at h; cases h)]
           exact wpAny_pure hQ))

/-- the list at a, as it stands at each turn (a loop may append to it) -/
def Itl (K : PySem.W.Frag) (a : Addr) : It :=
  ⟨fun i H => ∃ xs x, SqL K H a xs ∧ xs[i]? = some x, fun i H x H' => H' = H ∧ ∀ xs, SqL K H a xs → xs[i]? = some x, fun i H => ∃ xs, SqL K H a xs ∧ xs.length ≤ i⟩
def Itt (K : PySem.W.Frag) (a : Addr) : It :=
  ⟨fun i H => ∃ xs x, SqT K H a xs ∧ xs[i]? = some x, fun i H x H' => H' = H ∧ ∀ xs, SqT K H a xs → xs[i]? = some x, fun i H => ∃ xs, SqT K H a xs ∧ xs.length ≤ i⟩
/-- lo, lo + 1, .. (n of them) -/
def Itr (lo : Int) (n : Nat) : It := ⟨fun i _ => i < n, fun i H x H' => H' = H ∧ x = .int (lo + i), fun i _ => n ≤ i⟩
theorem turn_list {P : Program} {w : World} {K : PySem.W.Frag} {tg : Expr} (a it : Addr) : Turn P w K tg (Itl K a) [it] it (fun i h => h.IsListIter it a i) where
  mem := by simp
  obj := fun i h st b hb => by
    have e : b = it := by simpa using hb
    subst e
    obtain ⟨o, e, c, d⟩ := st
    exact ⟨o, e, fun v z => by rw [d] at z; cases z⟩
  keep := fun i h h' st k => st.at fun o e => k it (by simp) o e
  item := by
    intro X hP hw hK hc i pins s σ H E I hf st hg
    subst hP hw hK
    obtain ⟨xs, x, hq, hx⟩ := hg
    obtain ⟨its, rv, p, hz⟩ := I.list hq
    obtain ⟨u, hu, ru⟩ := rv.get hx
    obtain ⟨f0, f1, f2, f3, f4, f5⟩ := hf it (by simp)
    refine wpAny_pyNext_list_item st p.isList (x := u) (by simpa using hu) fun h' st' sb => ?_
    have I1 : Inv X pins σ H { s with heap := h' } := I.turned (t' := s.toks) (fun b o hb e => (sb.2 b hb).trans e) f0 f1 f3 f4 f5
    obtain ⟨o, e, c, d⟩ := id st'
    exact ⟨u, rfl, go_of (s := { s with heap := h' }) e c d (by decide) ⟨x, H, I1, ru, ⟨rfl, fun ys hy => by rw [I.list_inj hy hq]; exact hx⟩, st', fun b hb => (hf b hb).1⟩⟩
  done := by
    intro X hP hw hK hc i pins s σ H E I hf st hg
    subst hP hw hK
    obtain ⟨xs, hq, hx⟩ := hg
    obtain ⟨its, rv, p, hz⟩ := I.list hq
    obtain ⟨f0, f1, f2, f3, f4, f5⟩ := hf it (by simp)
    have hl := rv.length
    exact wpAny_pyNext_list_end (I.ok.hd hc) st p.isList (by simp; omega) fun h' eb => ⟨rfl, I.turned (t' := s.toks) (fun b o hb e => eb b o hb e) f0 f1 f3 f4 f5⟩
  self := fun _ _ _ _ _ st h => wpAny_pyIter_listiter st h
theorem turn_tuple {P : Program} {w : World} {K : PySem.W.Frag} {tg : Expr} (a it : Addr) : Turn P w K tg (Itt K a) [it] it (fun i h => h.IsTupleIter it a i) where
  mem := by simp
  obj := fun i h st b hb => by
    have e : b = it := by simpa using hb
    subst e
    obtain ⟨o, e, c, d⟩ := st
    exact ⟨o, e, fun v z => by rw [d] at z; cases z⟩
  keep := fun i h h' st k => st.at fun o e => k it (by simp) o e
  item := by
    intro X hP hw hK hc i pins s σ H E I hf st hg
    subst hP hw hK
    obtain ⟨xs, x, hq, hx⟩ := hg
    obtain ⟨its, rv, p, hz⟩ := I.tuple hq
    obtain ⟨u, hu, ru⟩ := rv.get hx
    obtain ⟨f0, f1, f2, f3, f4, f5⟩ := hf it (by simp)
    refine wpAny_pyNext_tuple_item st (show s.heap.IsTuple a its.toArray from p) (x := u) (by simpa using hu) fun h' st' sb => ?_
    have I1 : Inv X pins σ H { s with heap := h' } := I.turned (t' := s.toks) (fun b o hb e => (sb.2 b hb).trans e) f0 f1 f3 f4 f5
    obtain ⟨o, e, c, d⟩ := id st'
    exact ⟨u, rfl, go_of (s := { s with heap := h' }) e c d (by decide) ⟨x, H, I1, ru, ⟨rfl, fun ys hy => by rw [I.tuple_inj hy hq]; exact hx⟩, st', fun b hb => (hf b hb).1⟩⟩
  done := by
    intro X hP hw hK hc i pins s σ H E I hf st hg
    subst hP hw hK
    obtain ⟨xs, hq, hx⟩ := hg
    obtain ⟨its, rv, p, hz⟩ := I.tuple hq
    obtain ⟨f0, f1, f2, f3, f4, f5⟩ := hf it (by simp)
    have hl := rv.length
    exact wpAny_pyNext_tuple_end (I.ok.hd hc) st (show s.heap.IsTuple a its.toArray from p) (by simp; omega) fun h' eb => ⟨rfl, I.turned (t' := s.toks) (fun b o hb e => eb b o hb e) f0 f1 f3 f4 f5⟩
  self := fun _ _ _ _ _ st h => wpAny_pyIter_tupleiter st h
theorem turn_range {P : Program} {w : World} {K : PySem.W.Frag} {tg : Expr} (it : Addr) (lo : Int) (n : Nat) : Turn P w K tg (Itr lo n) [it] it (fun i h => IsRangeIter h it (lo + (i : Nat) * 1) ((n : Int) - (i : Nat)) 1) where
  mem := by simp
  obj := fun i h st b hb => by
    have e : b = it := by simpa using hb
    subst e
    exact ⟨_, st, fun v z => by
      have z' : Data.fields _ = Data.cell v := z
      cases z'⟩
  keep := fun i h h' st k => k it (by simp) _ st
  item := by
    intro X hP hw hK hc i pins s σ H E I hf st hg
    subst hP hw hK
    obtain ⟨f0, f1, f2, f3, f4, f5⟩ := hf it (by simp)
    have W := Walks.range (prog := X.prog) (w := X.w) (I.ok.hd hc) it lo 1 n
    refine W.item i s _ _ hg st fun v h' tk hv st' kk => ?_
    obtain ⟨t, rfl⟩ := hv
    have I1 : Inv X pins σ H { s with heap := h', toks := tk } := I.turned (fun b o hb e => kk b o (by simpa using hb) e) f0 f1 f3 f4 f5
    refine ⟨_, rfl, go_of (s := { s with heap := h', toks := tk }) (n := "range_iterator") st' rfl rfl (by decide) ⟨.int (lo + i), H, I1, ⟨t, ?_⟩, ⟨rfl, rfl⟩, st', fun b hb => (hf b hb).1⟩⟩
    rw [Int.mul_one]
  done := by
    intro X hP hw hK hc i pins s σ H E I hf st hg
    subst hP hw hK
    obtain ⟨f0, f1, f2, f3, f4, f5⟩ := hf it (by simp)
    exact wpAny_pyNext_range_end (I.ok.hd hc) st (by have : n ≤ i := hg; omega) fun h' eb => ⟨rfl, I.turned (t' := s.toks) (fun b o hb e => eb b o hb e) f0 f1 f3 f4 f5⟩
  self := fun _ _ _ _ _ st h => wpAny_pyIter_rangeiter st h
end L2

namespace L2
open PySem PySem.Spec PyProof.Rows
section
variable {X : Cx} {tg : Expr}
def iList (K : PySem.W.Frag) (tl : TE) : TI := fun σ H R => tl σ H fun x H1 => ∃ a, x = .ref a ∧ (∃ xs, SqL K H1 a xs) ∧ R (Itl K a) H1
def iTup (K : PySem.W.Frag) (tl : TE) : TI := fun σ H R => tl σ H fun x H1 => ∃ a, x = .ref a ∧ (∃ xs, SqT K H1 a xs) ∧ R (Itt K a) H1
theorem pi_list {l : Expr} {tl : TE} (hl : PE X l tl) : PI X tg l (iList X.K tl) := by
  intro pins s σ H R I h
  refine thn (hl pins s σ H _ I h) fun v s1 ⟨x, H1, I1, r1, q1⟩ => ?_
  obtain ⟨a, e, ⟨xs, hq⟩, q⟩ := q1
  subst e
  cases r1
  obtain ⟨its, rv, p, hz⟩ := I1.list hq
  refine wpAny_pyIter_list p.isList ?_
  refine ⟨s1.heap.objs.size, [s1.heap.objs.size], _, _, H1, rfl, I1.kept (t' := s1.toks) fun b o e => Heap.get?_push_of_some _ e, turn_list a _, ⟨_, Heap.get?_push_size _ rfl, rfl, rfl⟩, fun b hb => ?_, q⟩
  have e : b = s1.heap.objs.size := by simpa using hb
  subst e
  exact I1.fpOk (Nat.le_refl _) (I1.hok.fresh (Nat.le_refl _))
theorem pi_tup {l : Expr} {tl : TE} (hl : PE X l tl) : PI X tg l (iTup X.K tl) := by
  intro pins s σ H R I h
  refine thn (hl pins s σ H _ I h) fun v s1 ⟨x, H1, I1, r1, q1⟩ => ?_
  obtain ⟨a, e, ⟨xs, hq⟩, q⟩ := q1
  subst e
  cases r1
  obtain ⟨its, rv, p, hz⟩ := I1.tuple hq
  refine wpAny_pyIter_tuple (show s1.heap.IsTuple a its.toArray from p) ?_
  refine ⟨s1.heap.objs.size, [s1.heap.objs.size], _, _, H1, rfl, I1.kept (t' := s1.toks) fun b o e => Heap.get?_push_of_some _ e, turn_tuple a _, ⟨_, Heap.get?_push_size _ rfl, rfl, rfl⟩, fun b hb => ?_, q⟩
  have e : b = s1.heap.objs.size := by simpa using hb
  subst e
  exact I1.fpOk (Nat.le_refl _) (I1.hok.fresh (Nat.le_refl _))
/-- a range object just made, walked -/
theorem range_it {pins : List (Addr × Obj)} {σ : St} {H : Hp} {s : Shared} {R : It → Hp → Prop} {E : Value → Shared → Prop} {lo hi : Int} {t u v : Tok} {tk : Nat} (I : Inv X pins σ H s) (h1 : -(2 ^ 62) ≤ lo) (h2 : lo < 2 ^ 62) (h3 : -(2 ^ 62) ≤ hi) (h4 : hi < 2 ^ 62)
    (q : R (Itr lo (hi - lo).toNat) H) : wpAny (model X.prog X.w) X.A (pyIter (.ref s.heap.objs.size)) (PIE X pins σ tg R) E { s with heap := s.heap.push { cls := .type "range", data := .fields #[.int lo t, .int hi u, .int 1 v] }, toks := tk } := by
  refine wpAny_pyIter_range (IsRange.new ..) (small_one h1 h2 h3 h4) ?_
  have I1 : Inv X pins σ H { s with heap := s.heap.push { cls := .type "range", data := .fields #[.int lo t, .int hi u, .int 1 v] }, toks := tk } := I.kept fun b o e => Heap.get?_push_of_some _ e
  refine ⟨(s.heap.push { cls := .type "range", data := .fields #[.int lo t, .int hi u, .int 1 v] }).objs.size, [(s.heap.push { cls := .type "range", data := .fields #[.int lo t, .int hi u, .int 1 v] }).objs.size], _, _, H, rfl,
    I1.kept (t' := tk) fun b o e => Heap.get?_push_of_some _ e, turn_range _ lo (hi - lo).toNat, ?_, fun b hb => ?_, q⟩
  · have e1 : lo + ((0 : Nat) : Int) * 1 = lo := by simp
    have e2 : (((hi - lo).toNat : Nat) : Int) - ((0 : Nat) : Int) = Builtin.Range.rangeSize lo hi 1 := by rw [rangeSize_one]; split <;> omega
    show IsRangeIter _ _ (lo + ((0 : Nat) : Int) * 1) ((((hi - lo).toNat : Nat) : Int) - ((0 : Nat) : Int)) 1
    rw [e1, e2]
    exact Heap.get?_push_size _ rfl
  · have e : b = (s.heap.push { cls := .type "range", data := .fields #[.int lo t, .int hi u, .int 1 v] }).objs.size := by simpa using hb
    subst e
    exact I1.fpOk (Nat.le_refl _) (I1.hok.fresh (Nat.le_refl _))
def iRng1 (ta : TA) : TI := fun σ H R => ta σ H fun vs H1 => ∃ j : Int, vs = [.int j] ∧ -(2 ^ 62) ≤ j ∧ j < 2 ^ 62 ∧ R (Itr 0 j.toNat) H1
def iRng2 (ta : TA) : TI := fun σ H R => ta σ H fun vs H1 => ∃ i j : Int, vs = [.int i, .int j] ∧ (-(2 ^ 62) ≤ i ∧ i < 2 ^ 62 ∧ -(2 ^ 62) ≤ j ∧ j < 2 ^ 62) ∧ R (Itr i (j - i).toNat) H1
theorem pi_range1 {a : Expr} {ta : TA} {p pos : Pos} (hg : Gl X "range") (hm : X.mg "range" = none) (ha : PA X [a] ta) (hs : starEach [a] X.env = [(false, eval a X.env)] := by rfl) : PI X tg (.Call (.Name "range" p) [a] [] pos) (iRng1 ta) := by
  intro pins s σ H R I h
  refine Call_ (ld_blt I hg hm boot_range (PyProof.Rows.callWith_type1 (thn (ha pos pins s σ H _ I h) fun us s1 ⟨vs, H1, I1, r1, q1⟩ => ?_) hs rfl))
  obtain ⟨j, e, q1, q2, q⟩ := q1
  subst e
  cases r1 with
  | cons r rr =>
    cases rr
    obtain ⟨t, rfl⟩ := r
    exact call_range_1 (range_it I1 (by omega) (by omega) q1 q2 (by simpa using q))
theorem pi_range2 {a b : Expr} {ta : TA} {p pos : Pos} (hg : Gl X "range") (hm : X.mg "range" = none) (ha : PA X [a, b] ta) (hs : starEach [a, b] X.env = [(false, eval a X.env), (false, eval b X.env)] := by rfl) (hs2 : starEach [b] X.env = [(false, eval b X.env)] := by rfl) :
    PI X tg (.Call (.Name "range" p) [a, b] [] pos) (iRng2 ta) := by
  intro pins s σ H R I h
  refine Call_ (ld_blt I hg hm boot_range (PyProof.Rows.callWith_type1 (thn (ha pos pins s σ H _ I h) fun us s1 ⟨vs, H1, I1, r1, q1⟩ => ?_) (by rw [hs, hs2]) (by rw [hs2]; rfl)))
  obtain ⟨i, j, e, ⟨q1, q2, q3, q4⟩, q⟩ := q1
  subst e
  cases r1 with
  | cons r rr =>
    cases rr with
    | cons r' rr =>
      cases rr
      obtain ⟨t, rfl⟩ := r
      obtain ⟨t', rfl⟩ := r'
      exact call_range_2 (range_it I1 q1 q2 q3 q4 q)

/-! ### for -/
/-- W: the invariant by the turn and a measure; N: what the body is to reach -/
def tFor (wi : TI) (g : TG) (tb : TS) : TS := fun D σ H => wi σ H fun J H1 => ∃ W : Nat → Nat → St → Hp → Prop, (∃ m, W 0 m σ H1) ∧ ∀ i m σ H, W i m σ H →
  (J.stop i H ∧ D.nx σ H) ∨ (J.go i H ∧ ∃ N : St → Hp → Prop, (∀ σ' H', N σ' H' → ∃ m', m' < m ∧ W (i + 1) m' σ' H') ∧ ∀ x H', J.yld i H x H' → g x σ H' fun σ2 H2 => tb { D with nx := N, ct := N, bk := D.nx } σ2 H2)
/-- the records at fp as they stand -/
def pinsAt (fp : List Addr) (h : Heap) : List (Addr × Obj) := fp.filterMap fun b => (h.get? b).map fun o => (b, o)
theorem mem_pinsAt {fp : List Addr} {h : Heap} {b : Addr} {o : Obj} (hb : b ∈ fp) (e : h.get? b = some o) : (b, o) ∈ pinsAt fp h := List.mem_filterMap.mpr ⟨b, hb, by rw [e]; rfl⟩
theorem of_pinsAt {fp : List Addr} {h : Heap} {p : Addr × Obj} (hp : p ∈ pinsAt fp h) : p.1 ∈ fp ∧ h.get? p.1 = some p.2 := by
  obtain ⟨b, hb, e⟩ := List.mem_filterMap.mp hp
  cases q : h.get? b with
  | none => rw [q] at e; cases e
  | some o =>
    rw [q] at e
    have e' : (b, o) = p := Option.some.inj e
    subst e'
    exact ⟨hb, q⟩
theorem Inv.pinned {pins : List (Addr × Obj)} {σ : St} {H : Hp} {s : Shared} {fp : List Addr} (I : Inv X pins σ H s) (hf : ∀ b ∈ fp, FpOk X pins H b) (ho : ∀ b ∈ fp, ∃ o, s.heap.get? b = some o ∧ ∀ v, o.data ≠ .cell v) : Inv X (pins ++ pinsAt fp s.heap) σ H s :=
  I.pins_of fun p hp => (List.mem_append.mp hp).elim (fun z => I.pin p (List.mem_append_right _ z)) fun z => by
    obtain ⟨hb, e⟩ := of_pinsAt z
    obtain ⟨f0, f1, f2, _⟩ := hf p.1 hb
    obtain ⟨o, e', d⟩ := ho p.1 hb
    rw [e] at e'; cases e'
    exact ⟨e, f0, f1, f2, d⟩
theorem Inv.unpinned {pins pl : List (Addr × Obj)} {σ : St} {H : Hp} {s : Shared} (I : Inv X (pins ++ pl) σ H s) : Inv X pins σ H s := I.pins_of fun p hp => I.pin p (List.mem_append_right _ (List.mem_append_left _ hp))
theorem ps_for {iter : Expr} {body : List Stmt} {wi : TI} {g : TG} {tb : TS} {pos : Pos} (hp : PassesOwn (model X.prog X.w) X.A X.env X.xe) (hc : X.calm = true) (hi : PI X tg iter wi) (hg : PG X tg g) (hb : PSs X body tb)
    (hs : ∀ x, foldedSetIterable iter X.env x = pure x := by intro _; rfl) : PS X (.For tg iter body [] pos) (tFor wi g tb) := by
  intro pins s σ H D I h
  refine wpAny_For (thn (hi pins s σ H _ I h) fun v s1 h1 => thn h1 fun itv s2 h2 => ?_) hs
  obtain ⟨it, fp, tn, J, H2, e, I2, T, st2, f2, W, ⟨m0, w0⟩, turn⟩ := h2
  subst e
  -- what stays true of the iterator's objects through the loop
  have stat : ∀ {H' : Hp}, (∀ b ∈ fp, H' b = none) → ∀ b ∈ fp, FpOk X pins H' b := fun hn b hb => ⟨hn b hb, (f2 b hb).2⟩
  refine codeAny_forLoop_any (fun n s' => ∃ i σ' H', Inv X pins σ' H' s' ∧ tn i s'.heap ∧ (∀ b ∈ fp, H' b = none) ∧ W i n σ' H') ?_ m0 ⟨0, σ, H2, I2, st2, fun b hb => (f2 b hb).1, w0⟩
  rintro n s3 ⟨i, σ3, H3, I3, st3, fr3, w3⟩
  rcases turn i n σ3 H3 w3 with ⟨stop, qn⟩ | ⟨go, N, hN, step⟩
  · refine wpAny_passesOwn hp (thn (T.done X rfl rfl rfl hc i pins s3 σ3 H3 X.xe I3 (stat fr3) st3 stop) fun r s4 ⟨hr, I4⟩ => ?_)
    subst hr
    exact wpAny_execs_nil ⟨σ3, H3, I4, qn⟩
  · refine wpAny_passesOwn hp (thn (T.item X rfl rfl rfl hc i pins s3 σ3 H3 X.xe I3 (stat fr3) st3 go) fun r s4 ⟨u, hr, h4⟩ => ?_)
    subst hr
    refine wpAny_passesOwn hp (thn h4 fun _ s5 ⟨x, H5, I5, r5, y5, st5, fr5⟩ => ?_)
    have I5' := I5.pinned (stat fr5) (T.obj _ _ st5)
    refine wpAny_passesOwn hp (thn (hg _ s5 σ3 H5 x u _ I5' r5 (step x H5 y5)) fun _ s6 ⟨σ6, H6, I6, q6⟩ => ?_)
    refine wpAny_passesOwn hp (thn (hb _ s6 σ6 H6 _ I6 q6) fun f s7 q7 => ?_)
    have again : ∀ {σ7 : St} {H7 : Hp}, Inv X (pins ++ pinsAt fp s5.heap) σ7 H7 s7 → N σ7 H7 → ∃ m, m < n ∧ ∃ i σ' H', Inv X pins σ' H' s7 ∧ tn i s7.heap ∧ (∀ b ∈ fp, H' b = none) ∧ W i m σ' H' := fun {σ7 H7} I7 n7 => by
      obtain ⟨m', hm, w7⟩ := hN σ7 H7 n7
      refine ⟨m', hm, i + 1, σ7, H7, I7.unpinned, T.keep _ _ _ st5 fun b hb o e => (I7.pin (b, o) (List.mem_append_right _ (List.mem_append_right _ (mem_pinsAt hb e)))).1, fun b hb => ?_, w7⟩
      obtain ⟨o, e, d⟩ := T.obj _ _ st5 b hb
      exact (I7.pin (b, o) (List.mem_append_right _ (List.mem_append_right _ (mem_pinsAt hb e)))).2.1
    cases f with
    | next => obtain ⟨σ7, H7, I7, n7⟩ := q7; exact again I7 n7
    | cont => obtain ⟨σ7, H7, I7, n7⟩ := q7; exact again I7 n7
    | brk => obtain ⟨σ7, H7, I7, q7⟩ := q7; exact ⟨σ7, H7, I7.unpinned, q7⟩
    | ret v => obtain ⟨x7, σ7, H7, I7, r7, q7⟩ := q7; exact ⟨x7, σ7, H7, I7.unpinned, r7, q7⟩
end

/-! ### the forms one uses -/
/-- over a list that the body leaves as it is -/
theorem for_list {K : PySem.W.Frag} {a : Addr} {xs : List V} {g : TG} {tb : TS} {D : Ends} {σ : St} {H : Hp} (Pv : Nat → St → Hp → Prop) (h0 : Pv 0 σ H) (hl : ∀ i σ H, i ≤ xs.length → Pv i σ H → SqL K H a xs)
    (hs : ∀ i x σ H, xs[i]? = some x → Pv i σ H → g x σ H fun σ2 H2 => tb { D with nx := Pv (i + 1), ct := Pv (i + 1), bk := D.nx } σ2 H2) (hd : ∀ σ H, Pv xs.length σ H → D.nx σ H) :
    ∃ W : Nat → Nat → St → Hp → Prop, (∃ m, W 0 m σ H) ∧ ∀ i m σ H, W i m σ H →
      ((Itl K a).stop i H ∧ D.nx σ H) ∨ ((Itl K a).go i H ∧ ∃ N : St → Hp → Prop, (∀ σ' H', N σ' H' → ∃ m', m' < m ∧ W (i + 1) m' σ' H') ∧ ∀ x H', (Itl K a).yld i H x H' → g x σ H' fun σ2 H2 => tb { D with nx := N, ct := N, bk := D.nx } σ2 H2) := by
  refine ⟨fun i m σ H => m = xs.length - i ∧ i ≤ xs.length ∧ Pv i σ H, ⟨xs.length, by simp, Nat.zero_le _, h0⟩, ?_⟩
  rintro i m σ H ⟨rfl, hi, p⟩
  have q := hl i σ H hi p
  by_cases hlt : i < xs.length
  · refine .inr ⟨⟨xs, xs[i], q, by simp [hlt]⟩, Pv (i + 1), fun σ' H' p' => ⟨xs.length - (i + 1), by omega, rfl, hlt, p'⟩, fun x H' y => ?_⟩
    obtain ⟨e, y⟩ := y
    subst e
    exact hs i x σ _ (y xs q) p
  · have e : i = xs.length := by omega
    subst e
    exact .inl ⟨⟨xs, q, Nat.le_refl _⟩, hd σ H p⟩
theorem for_tup {K : PySem.W.Frag} {a : Addr} {xs : List V} {g : TG} {tb : TS} {D : Ends} {σ : St} {H : Hp} (Pv : Nat → St → Hp → Prop) (h0 : Pv 0 σ H) (hl : ∀ i σ H, i ≤ xs.length → Pv i σ H → SqT K H a xs)
    (hs : ∀ i x σ H, xs[i]? = some x → Pv i σ H → g x σ H fun σ2 H2 => tb { D with nx := Pv (i + 1), ct := Pv (i + 1), bk := D.nx } σ2 H2) (hd : ∀ σ H, Pv xs.length σ H → D.nx σ H) :
    ∃ W : Nat → Nat → St → Hp → Prop, (∃ m, W 0 m σ H) ∧ ∀ i m σ H, W i m σ H →
      ((Itt K a).stop i H ∧ D.nx σ H) ∨ ((Itt K a).go i H ∧ ∃ N : St → Hp → Prop, (∀ σ' H', N σ' H' → ∃ m', m' < m ∧ W (i + 1) m' σ' H') ∧ ∀ x H', (Itt K a).yld i H x H' → g x σ H' fun σ2 H2 => tb { D with nx := N, ct := N, bk := D.nx } σ2 H2) := by
  refine ⟨fun i m σ H => m = xs.length - i ∧ i ≤ xs.length ∧ Pv i σ H, ⟨xs.length, by simp, Nat.zero_le _, h0⟩, ?_⟩
  rintro i m σ H ⟨rfl, hi, p⟩
  have q := hl i σ H hi p
  by_cases hlt : i < xs.length
  · refine .inr ⟨⟨xs, xs[i], q, by simp [hlt]⟩, Pv (i + 1), fun σ' H' p' => ⟨xs.length - (i + 1), by omega, rfl, hlt, p'⟩, fun x H' y => ?_⟩
    obtain ⟨e, y⟩ := y
    subst e
    exact hs i x σ _ (y xs q) p
  · have e : i = xs.length := by omega
    subst e
    exact .inl ⟨⟨xs, q, Nat.le_refl _⟩, hd σ H p⟩
theorem for_range {lo : Int} {n : Nat} {g : TG} {tb : TS} {D : Ends} {σ : St} {H : Hp} (Pv : Nat → St → Hp → Prop) (h0 : Pv 0 σ H)
    (hs : ∀ i σ H, i < n → Pv i σ H → g (.int (lo + i)) σ H fun σ2 H2 => tb { D with nx := Pv (i + 1), ct := Pv (i + 1), bk := D.nx } σ2 H2) (hd : ∀ σ H, Pv n σ H → D.nx σ H) :
    ∃ W : Nat → Nat → St → Hp → Prop, (∃ m, W 0 m σ H) ∧ ∀ i m σ H, W i m σ H →
      ((Itr lo n).stop i H ∧ D.nx σ H) ∨ ((Itr lo n).go i H ∧ ∃ N : St → Hp → Prop, (∀ σ' H', N σ' H' → ∃ m', m' < m ∧ W (i + 1) m' σ' H') ∧ ∀ x H', (Itr lo n).yld i H x H' → g x σ H' fun σ2 H2 => tb { D with nx := N, ct := N, bk := D.nx } σ2 H2) := by
  refine ⟨fun i m σ H => m = n - i ∧ i ≤ n ∧ Pv i σ H, ⟨n, by simp, Nat.zero_le _, h0⟩, ?_⟩
  rintro i m σ H ⟨rfl, hi, p⟩
  by_cases hlt : i < n
  · refine .inr ⟨hlt, Pv (i + 1), fun σ' H' p' => ⟨n - (i + 1), by omega, rfl, hlt, p'⟩, fun x H' y => ?_⟩
    obtain ⟨e, y⟩ := y
    subst e y
    exact hs i σ _ hlt p
  · have e : i = n := by omega
    subst e
    exact .inl ⟨Nat.le_refl _, hd σ H p⟩
/-- while, by a word and a measure of the state -/
theorem while_by {c : TT} {tb : TS} {D : Ends} {σ : St} {H : Hp} (Pv : St → Hp → Prop) (μ : St → Hp → Nat) (h0 : Pv σ H)
    (hs : ∀ σ H, Pv σ H → c σ H fun b H1 => if b = true then tb { D with nx := fun σ' H' => Pv σ' H' ∧ μ σ' H' < μ σ H, ct := fun σ' H' => Pv σ' H' ∧ μ σ' H' < μ σ H, bk := D.nx } σ H1 else D.nx σ H1)
    (mono : ∀ σ H Q Q', (∀ b H1, Q b H1 → Q' b H1) → c σ H Q → c σ H Q') : tWhile c tb D σ H := by
  refine ⟨fun m σ H => m = μ σ H ∧ Pv σ H, ⟨_, rfl, h0⟩, ?_⟩
  rintro m σ H ⟨rfl, p⟩
  refine mono σ H _ _ (fun b H1 q => ?_) (hs σ H p)
  cases b with
  | true => exact ⟨_, fun σ' H' ⟨p', l⟩ => ⟨_, l, rfl, p'⟩, q⟩
  | false => exact q
end L2

namespace L2
open PySem PySem.Spec PyProof.Rows

abbrev R2 := V → V → Hp → VK → Prop
/-- a two-place operation on values: f is binaryOp op, inplaceOp op or compareOp op -/
def OpR (X : Cx) (f : Value → Value → Sem Value) (r : R2) : Prop :=
  ∀ (pins : List (Addr × Obj)) (s : Shared) (σ : St) (H : Hp) (x y : V) (v u : Value) (Q : VK), Inv X pins σ H s → RelV x v → RelV y u → r x y H Q →
    wpAny (model X.prog X.w) X.A (f v u) (EP X pins σ Q) X.xe s
/-- a one-place operation -/
def UnR (X : Cx) (f : Value → Sem Value) (r : V → Hp → VK → Prop) : Prop :=
  ∀ (pins : List (Addr × Obj)) (s : Shared) (σ : St) (H : Hp) (x : V) (v : Value) (Q : VK), Inv X pins σ H s → RelV x v → r x H Q →
    wpAny (model X.prog X.w) X.A (f v) (EP X pins σ Q) X.xe s
/-- a call of a value that is known (a builtin, a type) with values -/
def CallR (X : Cx) (f : Value) (r : List V → Hp → VK → Prop) : Prop :=
  ∀ (pins : List (Addr × Obj)) (s : Shared) (σ : St) (H : Hp) (xs : List V) (us : List Value) (Q : VK), Inv X pins σ H s → Vals xs us → r xs H Q →
    wpAny (model X.prog X.w) X.A (call f us) (EP X pins σ Q) X.xe s
/-- a value's truth -/
def TruR (X : Cx) (r : V → Hp → (Bool → Hp → Prop) → Prop) : Prop :=
  ∀ (pins : List (Addr × Obj)) (s : Shared) (σ : St) (H : Hp) (x : V) (v : Value) (Q : Bool → Hp → Prop), Inv X pins σ H s → RelV x v → r x H Q →
    wpAny (model X.prog X.w) X.A (truthy v) (TP X pins σ Q) X.xe s

def tOp (r : R2) (ta tb : TE) : TE := fun σ H Q => ta σ H fun x H1 => tb σ H1 fun y H2 => r x y H2 Q
def tUn (r : V → Hp → VK → Prop) (ta : TE) : TE := fun σ H Q => ta σ H fun x H1 => r x H1 Q
/-- ints in, under C, and a value out -/
def rI (C : Int → Int → Prop) (g : Int → Int → V) : R2 := fun x y H Q => ∃ i j, x = .int i ∧ y = .int j ∧ C i j ∧ Q (g i j) H
def rI0 (g : Int → Int → V) : R2 := fun x y H Q => ∃ i j, x = .int i ∧ y = .int j ∧ Q (g i j) H
def rU (g : Int → V) : V → Hp → VK → Prop := fun x H Q => ∃ i, x = .int i ∧ Q (g i) H

section
variable {X : Cx} {a b c : Expr} {ta tb tc : TE} {pos : Pos}

theorem binT (ha : PE X a ta) (hb : PE X b tb) {pins : List (Addr × Obj)} {s : Shared} {σ : St} {H : Hp} {R : V → V → Hp → Prop} (I : Inv X pins σ H s)
    (h : ta σ H fun x H1 => tb σ H1 fun y H2 => R x y H2) {Q : Value → Shared → Prop} {f : Value → Value → Sem Value}
    (hf : ∀ v u s2 x y H2, Inv X pins σ H2 s2 → RelV x v → RelV y u → R x y H2 → wpAny (model X.prog X.w) X.A (f v u) Q X.xe s2) :
    wpAny (model X.prog X.w) X.A (eval a X.env) (fun v s₁ => wpAny (model X.prog X.w) X.A (eval b X.env) (fun u s₂ => wpAny (model X.prog X.w) X.A (f v u) Q X.xe s₂) X.xe s₁) X.xe s := by
  refine thn (ha pins s σ H _ I h) fun v s1 ⟨x, H1, I1, r1, q1⟩ => ?_
  refine thn (hb pins s1 σ H1 _ I1 q1) fun u s2 ⟨y, H2, I2, r2, q2⟩ => ?_
  exact hf v u s2 x y H2 I2 r1 r2 q2

theorem pe_op {op : Operator} {r : R2} (ho : OpR X (binaryOp op) r) (ha : PE X a ta) (hb : PE X b tb) : PE X (.BinOp a op b pos) (tOp r ta tb) := by
  intro pins s σ H Q I h
  exact wpAny_BinOp (binT ha hb I h fun v u s2 x y H2 I2 rx ry q => ho pins s2 σ H2 x y v u Q I2 rx ry q)
theorem pe_un {op : UnaryOp} {r : V → Hp → VK → Prop} (ho : UnR X (unaryOp op) r) (ha : PE X a ta) : PE X (.UnaryOp op a pos) (tUn r ta) := by
  intro pins s σ H Q I h
  exact UnaryOp_ (thn (ha pins s σ H _ I h) fun v s1 ⟨x, H1, I1, r1, q1⟩ => ho pins s1 σ H1 x v Q I1 r1 q1)
/-- a op= e at a name: the name's slot i -/
theorem augR {op : Operator} {r : R2} (ho : OpR X (inplaceOp op) r) {pins : List (Addr × Obj)} {s : Shared} {σ : St} {H : Hp} {x y : V} {v u : Value} {Q : VK} (I : Inv X pins σ H s)
    (rx : RelV x v) (ry : RelV y u) (q : r x y H Q) : wpAny (model X.prog X.w) X.A (inplaceOp op v u) (EP X pins σ Q) X.xe s := ho pins s σ H x y v u Q I rx ry q

/-! ### ints -/
theorem opI {f : Value → Value → Sem Value} {C : Int → Int → Prop} {g : Int → Int → Int}
    (rule : ∀ (i j : Int) (t u : Tok) (s : Shared) (Q : Value → Shared → Prop) (E : Value → Shared → Prop), C i j → Q (.int (g i j) s.toks) { s with toks := s.toks + 1 } → wpAny (model X.prog X.w) X.A (f (.int i t) (.int j u)) Q E s) :
    OpR X f (rI C fun i j => .int (g i j)) := by
  intro pins s σ H x y v u Q I rx ry h
  obtain ⟨i, j, rfl, rfl, hc, q⟩ := h
  obtain ⟨t, rfl⟩ := rx
  obtain ⟨t', rfl⟩ := ry
  exact rule i j t t' s _ _ hc ⟨.int (g i j), H, I.tok _, ⟨_, rfl⟩, q⟩
theorem opI0 {f : Value → Value → Sem Value} {g : Int → Int → Int}
    (rule : ∀ (i j : Int) (t u : Tok) (s : Shared) (Q : Value → Shared → Prop) (E : Value → Shared → Prop), Q (.int (g i j) s.toks) { s with toks := s.toks + 1 } → wpAny (model X.prog X.w) X.A (f (.int i t) (.int j u)) Q E s) :
    OpR X f (rI0 fun i j => .int (g i j)) := by
  intro pins s σ H x y v u Q I rx ry h
  obtain ⟨i, j, rfl, rfl, q⟩ := h
  obtain ⟨t, rfl⟩ := rx
  obtain ⟨t', rfl⟩ := ry
  exact rule i j t t' s _ _ ⟨.int (g i j), H, I.tok _, ⟨_, rfl⟩, q⟩
theorem opB0 {f : Value → Value → Sem Value} {g : Int → Int → Bool}
    (rule : ∀ (i j : Int) (t u : Tok) (s : Shared) (Q : Value → Shared → Prop) (E : Value → Shared → Prop), Q (.bool (g i j)) s → wpAny (model X.prog X.w) X.A (f (.int i t) (.int j u)) Q E s) :
    OpR X f (rI0 fun i j => .bl (g i j)) := by
  intro pins s σ H x y v u Q I rx ry h
  obtain ⟨i, j, rfl, rfl, q⟩ := h
  obtain ⟨t, rfl⟩ := rx
  obtain ⟨t', rfl⟩ := ry
  exact rule i j t t' s _ _ ⟨.bl (g i j), H, I, rfl, q⟩

def CDiv (i j : Int) : Prop := 0 < j ∧ j < 1073741824
def CDivN (i j : Int) : Prop := j ≠ 0 ∧ j.natAbs < 1073741824
def CPow (i j : Int) : Prop := 0 ≤ j ∧ j ≤ 1000000 ∧ i.natAbs < 2 ^ 64
def CMul (i j : Int) : Prop := (-(2 ^ 64) < i ∧ i < 2 ^ 64) ∨ (-(2 ^ 64) < j ∧ j < 2 ^ 64)
theorem CMul.ok {i j : Int} (h : CMul i j) : IntMulOk i j := by
  rcases h with ⟨h1, h2⟩ | ⟨h1, h2⟩
  · exact .of_left (intBits_le_64 h1 h2)
  · exact .of_right (intBits_le_64 h1 h2)
theorem two_pow_nn (k : Nat) : (0 : Int) ≤ 2 ^ k := by
  rw [two_pow_cast]
  exact Int.natCast_nonneg _

theorem op_add : OpR X (binaryOp .Add) (rI0 fun i j => .int (i + j)) := opI0 fun _ _ _ _ _ _ _ q => add_int q
theorem op_sub : OpR X (binaryOp .Sub) (rI0 fun i j => .int (i - j)) := opI0 fun _ _ _ _ _ _ _ q => sub_int q
theorem op_mul : OpR X (binaryOp .Mult) (rI CMul fun i j => .int (i * j)) := opI fun _ _ _ _ _ _ _ hc q => mul_int q hc.ok
/-- // by a positive divisor -/
theorem op_fdiv : OpR X (binaryOp .FloorDiv) (rI CDiv fun i j => .int (i / j)) := opI fun i j _ _ _ _ _ hc q => by
  have h1 : (0 : Int) < j := hc.1
  have h2 : j < 1073741824 := hc.2
  exact floordiv_int (by omega) (by rw [Int.fdiv_eq_ediv_of_nonneg i (by omega)]; exact q) (.inl (PyProof.noPylong_small (by omega)))
theorem op_fdivN : OpR X (binaryOp .FloorDiv) (rI CDivN fun i j => .int (i.fdiv j)) := opI fun _ _ _ _ _ _ _ hc q => floordiv_int hc.1 q (.inl (PyProof.noPylong_small hc.2))
/-- % by a positive divisor of any size -/
theorem op_mod : OpR X (binaryOp .Mod) (rI (fun _ j => 0 < j) fun i j => .int (i % j)) := opI fun i j _ _ _ _ _ hc q => by
  have h1 : (0 : Int) < j := hc
  exact mod_int' (by omega) (by rw [Int.fmod_eq_emod_of_nonneg i (by omega)]; exact q)
theorem op_modN : OpR X (binaryOp .Mod) (rI (fun _ j => j ≠ 0) fun i j => .int (i.fmod j)) := opI fun _ _ _ _ _ _ _ hc q => mod_int' hc q
theorem op_pow : OpR X (binaryOp .Pow) (rI CPow fun i j => .int (i ^ j.toNat)) := opI fun _ _ _ _ _ _ _ hc q => pow_int_small hc.1 hc.2.1 hc.2.2 q
theorem op_shl : OpR X (binaryOp .LShift) (rI CPow fun i j => .int (i * 2 ^ j.toNat)) := opI fun _ _ _ _ _ _ _ hc q => lshift_int_small hc.1 hc.2.1 hc.2.2 q
theorem op_shr : OpR X (binaryOp .RShift) (rI (fun _ j => 0 ≤ j) fun i j => .int (i / 2 ^ j.toNat)) := opI fun i j _ _ _ _ _ hc q =>
  rshift_int hc (by rw [Int.fdiv_eq_ediv_of_nonneg i (two_pow_nn _)]; exact q)
theorem op_and : OpR X (binaryOp .BitAnd) (rI0 fun i j => .int (Builtin.bitAnd i j)) := opI0 fun _ _ _ _ _ _ _ q => and_int q
theorem op_or : OpR X (binaryOp .BitOr) (rI0 fun i j => .int (Builtin.bitOr i j)) := opI0 fun _ _ _ _ _ _ _ q => or_int q
theorem op_xor : OpR X (binaryOp .BitXor) (rI0 fun i j => .int (Builtin.bitXor i j)) := opI0 fun _ _ _ _ _ _ _ q => xor_int q

theorem iop_add : OpR X (inplaceOp .Add) (rI0 fun i j => .int (i + j)) := opI0 fun _ _ _ _ _ _ _ q => iadd_int q
theorem iop_sub : OpR X (inplaceOp .Sub) (rI0 fun i j => .int (i - j)) := opI0 fun _ _ _ _ _ _ _ q => isub_int q
theorem iop_mul : OpR X (inplaceOp .Mult) (rI CMul fun i j => .int (i * j)) := opI fun _ _ _ _ _ _ _ hc q => imul_int q hc.ok
theorem iop_fdiv : OpR X (inplaceOp .FloorDiv) (rI CDiv fun i j => .int (i / j)) := opI fun i j _ _ _ _ _ hc q => by
  have h1 : (0 : Int) < j := hc.1
  have h2 : j < 1073741824 := hc.2
  exact ifloordiv_int (by omega) (by rw [Int.fdiv_eq_ediv_of_nonneg i (by omega)]; exact q) (.inl (PyProof.noPylong_small (by omega)))
theorem iop_mod : OpR X (inplaceOp .Mod) (rI (fun _ j => 0 < j) fun i j => .int (i % j)) := opI fun i j _ _ _ _ _ hc q => by
  have h1 : (0 : Int) < j := hc
  exact imod_int (by omega) (by rw [Int.fmod_eq_emod_of_nonneg i (by omega)]; exact q)
theorem iop_shl : OpR X (inplaceOp .LShift) (rI CPow fun i j => .int (i * 2 ^ j.toNat)) := opI fun _ _ _ _ _ _ _ hc q => ilshift_int_small hc.1 hc.2.1 hc.2.2 q
theorem iop_shr : OpR X (inplaceOp .RShift) (rI (fun _ j => 0 ≤ j) fun i j => .int (i / 2 ^ j.toNat)) := opI fun i j _ _ _ _ _ hc q =>
  irshift_int hc (by rw [Int.fdiv_eq_ediv_of_nonneg i (two_pow_nn _)]; exact q)
theorem iop_and : OpR X (inplaceOp .BitAnd) (rI0 fun i j => .int (Builtin.bitAnd i j)) := opI0 fun _ _ _ _ _ _ _ q => iand_int q
theorem iop_or : OpR X (inplaceOp .BitOr) (rI0 fun i j => .int (Builtin.bitOr i j)) := opI0 fun _ _ _ _ _ _ _ q => ior_int q
theorem iop_xor : OpR X (inplaceOp .BitXor) (rI0 fun i j => .int (Builtin.bitXor i j)) := opI0 fun _ _ _ _ _ _ _ q => ixor_int q

theorem unI {f : Value → Sem Value} {g : Int → Int}
    (rule : ∀ (i : Int) (t : Tok) (s : Shared) (Q : Value → Shared → Prop) (E : Value → Shared → Prop), Q (.int (g i) s.toks) { s with toks := s.toks + 1 } → wpAny (model X.prog X.w) X.A (f (.int i t)) Q E s) :
    UnR X f (rU fun i => .int (g i)) := by
  intro pins s σ H x v Q I rx h
  obtain ⟨i, rfl, q⟩ := h
  obtain ⟨t, rfl⟩ := rx
  exact rule i t s _ _ ⟨.int (g i), H, I.tok _, ⟨_, rfl⟩, q⟩
theorem un_neg : UnR X (unaryOp .USub) (rU fun i => .int (-i)) := unI fun _ _ _ _ _ q => neg_int q
theorem un_inv : UnR X (unaryOp .Invert) (rU fun i => .int (Builtin.bitNot i)) := unI fun _ _ _ _ _ q => invert_int q

/-! ### bools among ints: n += (a < b) -/
theorem op_add_ib : OpR X (binaryOp .Add) (fun x y H Q => ∃ i k, x = .int i ∧ y = .bl k ∧ Q (.int (i + b2i k)) H) := by
  intro pins s σ H x y v u Q I rx ry h
  obtain ⟨i, k, rfl, rfl, q⟩ := h
  obtain ⟨t, rfl⟩ := rx
  cases ry
  exact add_int_bool ⟨.int (i + b2i k), H, I.tok _, ⟨_, rfl⟩, q⟩
end

/-! ### comparisons -/
/-- the scalars that == tells apart as data does -/
def scal : V → V → Bool
  | .non, .non => true | .non, .int _ => true | .int _, .non => true | .non, .bl _ => true | .bl _, .non => true | .non, .str _ => true | .str _, .non => true
  | .int _, .int _ => true | .bl _, .bl _ => true | .str _, .str _ => true | .byt _, .byt _ => true
  | .int _, .str _ => true | .str _, .int _ => true | .bl _, .str _ => true | .str _, .bl _ => true
  | _, _ => false
def rEq : R2 := fun x y H Q => scal x y = true ∧ Q (.bl (decide (x = y))) H
def rNe : R2 := fun x y H Q => scal x y = true ∧ Q (.bl (!decide (x = y))) H

theorem dec_int {i j : Int} : decide (V.int i = V.int j) = (i == j) := by
  rw [Bool.eq_iff_iff]
  simp
theorem dec_bl {i j : Bool} : decide (V.bl i = V.bl j) = (i == j) := by
  rw [Bool.eq_iff_iff]
  simp
theorem dec_str {i j : Str} : decide (V.str i = V.str j) = (i == j) := by
  rw [Bool.eq_iff_iff]
  simp
theorem dec_byt {i j : Array UInt8} : decide (V.byt i = V.byt j) = (i.toList == j.toList) := by
  rw [Bool.eq_iff_iff]
  cases i
  cases j
  simp

section
variable {X : Cx} {a b c : Expr} {ta tb tc : TE} {pos : Pos}
theorem fin_bl {pins : List (Addr × Obj)} {σ : St} {H : Hp} {s : Shared} {Q : VK} {k k' : Bool} (I : Inv X pins σ H s) (q : Q (.bl k) H) (e : k = k') : EP X pins σ Q (.bool k') s := by
  subst e
  exact ⟨.bl k, H, I, rfl, q⟩
theorem op_eq : OpR X (compareOp .Eq) rEq := by
  intro pins s σ H x y v u Q I rx ry h
  obtain ⟨hs, q⟩ := h
  cases x with
  | non =>
    cases rx
    cases y with
    | non => cases ry; exact PySem.EqNone.eq_none_none (fin_bl I q (by simp))
    | bl j => cases ry; exact PySem.EqNone.eq_none_bool (fin_bl I q (by simp))
    | int j => obtain ⟨t', rfl⟩ := ry; exact PySem.EqNone.eq_none_int (fin_bl I q (by simp))
    | str j => obtain ⟨t', rfl⟩ := ry; exact PySem.EqNone.eq_none_str (fin_bl I q (by simp))
    | _ => exact absurd (show false = true from hs) Bool.false_ne_true
  | bl i =>
    cases rx
    cases y with
    | non => cases ry; exact PySem.EqNone.eq_bool_none (fin_bl I q (by simp))
    | bl j => cases ry; exact eq_bool (fin_bl I q dec_bl)
    | str j => obtain ⟨t', rfl⟩ := ry; exact PySem.EqMixed.eq_bool_str (fin_bl I q (by simp))
    | _ => exact absurd (show false = true from hs) Bool.false_ne_true
  | int i =>
    obtain ⟨t, rfl⟩ := rx
    cases y with
    | non => cases ry; exact PySem.EqNone.eq_int_none (fin_bl I q (by simp))
    | int j => obtain ⟨t', rfl⟩ := ry; exact eq_int (fin_bl I q dec_int)
    | str j => obtain ⟨t', rfl⟩ := ry; exact PySem.EqMixed.eq_int_str (fin_bl I q (by simp))
    | _ => exact absurd (show false = true from hs) Bool.false_ne_true
  | str i =>
    obtain ⟨t, rfl⟩ := rx
    cases y with
    | non => cases ry; exact PySem.EqNone.eq_str_none (fin_bl I q (by simp))
    | bl j => cases ry; exact PySem.EqMixed.eq_str_bool (fin_bl I q (by simp))
    | int j => obtain ⟨t', rfl⟩ := ry; exact PySem.EqMixed.eq_str_int (fin_bl I q (by simp))
    | str j => obtain ⟨t', rfl⟩ := ry; exact eq_str (fin_bl I q dec_str)
    | _ => exact absurd (show false = true from hs) Bool.false_ne_true
  | byt i =>
    obtain ⟨t, rfl⟩ := rx
    cases y with
    | byt j => obtain ⟨t', rfl⟩ := ry; exact PySem.W.eq_bytes (fin_bl I q dec_byt)
    | _ => exact absurd (show false = true from hs) Bool.false_ne_true
  | _ => cases y <;> exact absurd (show false = true from hs) Bool.false_ne_true
theorem op_ne : OpR X (compareOp .NotEq) rNe := by
  intro pins s σ H x y v u Q I rx ry h
  obtain ⟨hs, q⟩ := h
  cases x with
  | non =>
    cases rx
    cases y with
    | non => cases ry; exact PySem.EqNone.ne_none_none (fin_bl I q (by simp))
    | bl j => cases ry; exact PySem.EqNone.ne_none_bool (fin_bl I q (by simp))
    | int j => obtain ⟨t', rfl⟩ := ry; exact PySem.EqNone.ne_none_int (fin_bl I q (by simp))
    | str j => obtain ⟨t', rfl⟩ := ry; exact PySem.EqNone.ne_none_str (fin_bl I q (by simp))
    | _ => exact absurd (show false = true from hs) Bool.false_ne_true
  | bl i =>
    cases rx
    cases y with
    | non => cases ry; exact PySem.EqNone.ne_bool_none (fin_bl I q (by simp))
    | bl j => cases ry; exact ne_bool (fin_bl I q (congrArg not dec_bl))
    | str j => obtain ⟨t', rfl⟩ := ry; exact PySem.EqMixed.ne_bool_str (fin_bl I q (by simp))
    | _ => exact absurd (show false = true from hs) Bool.false_ne_true
  | int i =>
    obtain ⟨t, rfl⟩ := rx
    cases y with
    | non => cases ry; exact PySem.EqNone.ne_int_none (fin_bl I q (by simp))
    | int j => obtain ⟨t', rfl⟩ := ry; exact ne_int (fin_bl I q (congrArg not dec_int))
    | str j => obtain ⟨t', rfl⟩ := ry; exact PySem.EqMixed.ne_int_str (fin_bl I q (by simp))
    | _ => exact absurd (show false = true from hs) Bool.false_ne_true
  | str i =>
    obtain ⟨t, rfl⟩ := rx
    cases y with
    | non => cases ry; exact PySem.EqNone.ne_str_none (fin_bl I q (by simp))
    | bl j => cases ry; exact PySem.EqMixed.ne_str_bool (fin_bl I q (by simp))
    | int j => obtain ⟨t', rfl⟩ := ry; exact PySem.EqMixed.ne_str_int (fin_bl I q (by simp))
    | str j => obtain ⟨t', rfl⟩ := ry; exact ne_str (fin_bl I q (congrArg not dec_str))
    | _ => exact absurd (show false = true from hs) Bool.false_ne_true
  | byt i =>
    obtain ⟨t, rfl⟩ := rx
    cases y with
    | byt j => obtain ⟨t', rfl⟩ := ry; exact PySem.W.ne_bytes (fin_bl I q (congrArg not dec_byt))
    | _ => exact absurd (show false = true from hs) Bool.false_ne_true
  | _ => cases y <;> exact absurd (show false = true from hs) Bool.false_ne_true

theorem op_lt : OpR X (compareOp .Lt) (rI0 fun i j => .bl (decide (i < j))) := opB0 fun _ _ _ _ _ _ _ q => lt_int q
theorem op_le : OpR X (compareOp .LtE) (rI0 fun i j => .bl (decide (i ≤ j))) := opB0 fun _ _ _ _ _ _ _ q => le_int q
theorem op_gt : OpR X (compareOp .Gt) (rI0 fun i j => .bl (decide (j < i))) := opB0 fun _ _ _ _ _ _ _ q => gt_int q
theorem op_ge : OpR X (compareOp .GtE) (rI0 fun i j => .bl (decide (j ≤ i))) := opB0 fun _ _ _ _ _ _ _ q => ge_int q
theorem op_lt_str : OpR X (compareOp .Lt) (fun x y H Q => ∃ i j, x = .str i ∧ y = .str j ∧ Q (.bl (decide (i.cps.toList < j.cps.toList))) H) := by
  intro pins s σ H x y v u Q I rx ry h
  obtain ⟨i, j, rfl, rfl, q⟩ := h
  obtain ⟨t, rfl⟩ := rx
  obtain ⟨t', rfl⟩ := ry
  exact lt_str (fin_bl I q rfl)
/-- the one string within the other -/
theorem op_in_str : OpR X (compareOp .In) (fun x y H Q => ∃ i j, x = .str i ∧ y = .str j ∧ Q (.bl (!(Builtin.Str.occurrences j i 0 j.length 1).isEmpty)) H) := by
  intro pins s σ H x y v u Q I rx ry h
  obtain ⟨i, j, rfl, rfl, q⟩ := h
  obtain ⟨t, rfl⟩ := rx
  obtain ⟨t', rfl⟩ := ry
  exact in_str (fin_bl I q rfl)

/-- is None, is not None: the right side a value none -/
theorem op_isN : OpR X (compareOp .Is) (fun x y H Q => y = .non ∧ Q (.bl (decide (x = .non))) H) := by
  intro pins s σ H x y v u Q I rx ry h
  obtain ⟨rfl, q⟩ := h
  cases ry
  refine is_none_gen (fin_bl I q ?_)
  cases x <;> first
    | (cases rx; rfl)
    | (obtain ⟨t, rfl⟩ := rx; rfl)
theorem op_notN : OpR X (compareOp .IsNot) (fun x y H Q => y = .non ∧ Q (.bl (!decide (x = .non))) H) := by
  intro pins s σ H x y v u Q I rx ry h
  obtain ⟨rfl, q⟩ := h
  cases ry
  refine isnot_none_gen (fin_bl I q ?_)
  cases x <;> first
    | (cases rx; rfl)
    | (obtain ⟨t, rfl⟩ := rx; rfl)

theorem op_notin_str : OpR X (compareOp .NotIn) (fun x y H Q => ∃ i j, x = .str i ∧ y = .str j ∧ Q (.bl (!(!(Builtin.Str.occurrences j i 0 j.length 1).isEmpty))) H) := by
  intro pins s σ H x y v u Q I rx ry h
  obtain ⟨i, j, rfl, rfl, q⟩ := h
  obtain ⟨t, rfl⟩ := rx
  obtain ⟨t', rfl⟩ := ry
  exact notIn_str (fin_bl I q rfl)
/-- is, is not of two objects that are tracked lists or instances -/
def isObj : HO → Bool
  | .lst _ => true
  | .ins _ _ _ => true
  | _ => false
theorem obj_there {pins : List (Addr × Obj)} {s : Shared} {σ : St} {H : Hp} {a : Addr} {o : HO} (I : Inv X pins σ H s) (h : H a = some o) (p : isObj o = true) : ∃ ob, s.heap.get? a = some ob ∧ ob.cls ≠ .type "tuple" := by
  cases o with
  | lst xs =>
    obtain ⟨_, its, n, _, e⟩ : xs.length ≤ sizeLine ∧ ∃ (its : List Value) (n : Nat), Vals xs its ∧ s.heap.get? a = some { cls := .type "list", data := .seq its.toArray n } := I.hok a _ h
    exact ⟨_, e, (by show Value.type "list" ≠ .type "tuple"; decide +kernel)⟩
  | ins C dx fs =>
    have x := I.hok a _ h
    obtain ⟨_, _, _, e, _⟩ := x
    exact ⟨_, e, (by show Value.ref C ≠ .type "tuple"; exact fun z => by cases z)⟩
  | _ => exact absurd (show false = true from p) Bool.false_ne_true
theorem op_is_ref : OpR X (compareOp .Is) (fun x y H Q => ∃ a b oa ob, x = .ref a ∧ y = .ref b ∧ H a = some oa ∧ isObj oa = true ∧ H b = some ob ∧ isObj ob = true ∧ Q (.bl (decide (a = b))) H) := by
  intro pins s σ H x y v u Q I rx ry h
  obtain ⟨a, b, oa, ob, rfl, rfl, ha, pa, hb, pb, q⟩ := h
  cases rx
  cases ry
  obtain ⟨o1, e1, n1⟩ := obj_there I ha pa
  obtain ⟨o2, e2, _⟩ := obj_there I hb pb
  by_cases z : a = b
  · subst z
    exact wpAny_is_ref_self (fin_bl I q (by simp))
  · exact wpAny_is_ref_other z e1 e2 n1 (fin_bl I q (by simp [z]))
theorem op_isnot_ref : OpR X (compareOp .IsNot) (fun x y H Q => ∃ a b oa ob, x = .ref a ∧ y = .ref b ∧ H a = some oa ∧ isObj oa = true ∧ H b = some ob ∧ isObj ob = true ∧ Q (.bl (!decide (a = b))) H) := by
  intro pins s σ H x y v u Q I rx ry h
  obtain ⟨a, b, oa, ob, rfl, rfl, ha, pa, hb, pb, q⟩ := h
  cases rx
  cases ry
  obtain ⟨o1, e1, n1⟩ := obj_there I ha pa
  obtain ⟨o2, e2, _⟩ := obj_there I hb pb
  by_cases z : a = b
  · subst z
    exact wpAny_isNot_ref_self (fin_bl I q (by simp))
  · exact wpAny_isNot_ref_other z e1 e2 n1 (fin_bl I q (by simp [z]))

/-- two rules for one operation: by cases -/
theorem OpR.or {f : Value → Value → Sem Value} {r r' : R2} (h : OpR X f r) (h' : OpR X f r') : OpR X f (fun x y H Q => r x y H Q ∨ r' x y H Q) := by
  intro pins s σ H x y v u Q I rx ry q
  rcases q with q | q
  · exact h pins s σ H x y v u Q I rx ry q
  · exact h' pins s σ H x y v u Q I rx ry q

theorem nomark (b : Expr) {op : CmpOp} (h : op ≠ .In := by decide) (h2 : op ≠ .NotIn := by decide) : behindInMarks op b = false := by
  have e1 : (op == CmpOp.In) = false := by cases op <;> first | rfl | exact absurd rfl h
  have e2 : (op == CmpOp.NotIn) = false := by cases op <;> first | rfl | exact absurd rfl h2
  cases b <;> simp [behindInMarks, e1, e2]
/-- a comparison as a value; hm: nomark b, or (for in, not in) by with_unfolding_all rfl -/
theorem pe_cmpR {op : CmpOp} {r : R2} (ho : OpR X (compareOp op) r) (ha : PE X a ta) (hb : PE X b tb) (hm : behindInMarks op b = false) : PE X (.Compare a [op] [b] pos) (tOp r ta tb) := by
  intro pins s σ H Q I h
  exact wpAny_Compare1 (binT ha hb I h fun v u s2 x y H2 I2 rx ry q => ho pins s2 σ H2 x y v u Q I2 rx ry q) hm
/-- a reading of a value as a test -/
def tTest (t : TE) : TT := fun σ H Q => t σ H fun x H' => ∃ k, x = .bl k ∧ Q k H'
theorem pt_cmpR {op : CmpOp} {r : R2} (ho : OpR X (compareOp op) r) (ha : PE X a ta) (hb : PE X b tb) (hm : behindInMarks op b = false) : PT X (.Compare a [op] [b] pos) (tTest (tOp r ta tb)) := by
  intro pins s σ H Q I h
  refine wpAny_isTrue_Compare1 (thn (ha pins s σ H _ I h) fun v s1 ⟨x, H1, I1, r1, q1⟩ => thn (hb pins s1 σ H1 _ I1 q1) fun u s2 ⟨y, H2, I2, r2, q2⟩ =>
    thn (ho pins s2 σ H2 x y v u _ I2 r1 r2 q2) fun c s3 ⟨z, H3, I3, r3, k, e, q3⟩ => ?_) hm
  subst e
  cases r3
  exact wpAny_truthy_bool ⟨H3, I3, q3⟩
/-- a op1 b op2 c -/
def tChain (r r' : R2) (ta tb tc : TE) : TE := fun σ H Q => ta σ H fun x H1 => tb σ H1 fun y H2 => r x y H2 fun z H3 => ∃ k, z = .bl k ∧
  (if k = true then tc σ H3 fun w' H4 => r' y w' H4 Q else Q (.bl false) H3)
theorem pe_chain {op op' : CmpOp} {r r' : R2} (ho : OpR X (compareOp op) r) (ho' : OpR X (compareOp op') r') (ha : PE X a ta) (hb : PE X b tb) (hc : PE X c tc)
    (hm : lastMarks [op, op'] [b, c] = false := by with_unfolding_all rfl) : PE X (.Compare a [op, op'] [b, c] pos) (tChain r r' ta tb tc) := by
  intro pins s σ H Q I h
  refine Compare_chain (thn (ha pins s σ H _ I h) fun v s1 ⟨x, H1, I1, r1, q1⟩ => chain_link (thn (hb pins s1 σ H1 _ I1 q1) fun u s2 ⟨y, H2, I2, r2, q2⟩ =>
    thn (ho pins s2 σ H2 x y v u _ I2 r1 r2 q2) fun d s3 ⟨z, H3, I3, r3, k, e, q3⟩ => ?_)) hm
  subst e
  cases r3
  refine wpAny_truthy_bool ?_
  cases k with
  | false => exact ite_ff ⟨.bl false, H3, I3, rfl, q3⟩
  | true => exact ite_tt (chain_last (thn (hc pins s3 σ H3 _ I3 q3) fun w' s4 ⟨z', H4, I4, r4, q4⟩ => ho' pins s4 σ H4 y z' u w' Q I4 r2 r4 q4))
theorem pt_chain {op op' : CmpOp} {r r' : R2} (ho : OpR X (compareOp op) r) (ho' : OpR X (compareOp op') r') (ha : PE X a ta) (hb : PE X b tb) (hc : PE X c tc)
    (hm : lastMarks [op, op'] [b, c] = false := by with_unfolding_all rfl) : PT X (.Compare a [op, op'] [b, c] pos) (tTest (tChain r r' ta tb tc)) := by
  intro pins s σ H Q I h
  refine isTrue_chain (thn (ha pins s σ H _ I h) fun v s1 ⟨x, H1, I1, r1, q1⟩ => test_link (thn (hb pins s1 σ H1 _ I1 q1) fun u s2 ⟨y, H2, I2, r2, q2⟩ =>
    thn (ho pins s2 σ H2 x y v u _ I2 r1 r2 q2) fun d s3 ⟨z, H3, I3, r3, k, e, q3⟩ => ?_)) hm
  subst e
  cases r3
  refine wpAny_truthy_bool ?_
  cases k with
  | false =>
    obtain ⟨k', e', q'⟩ := q3
    cases e'
    exact ite_ff ⟨H3, I3, q'⟩
  | true =>
    refine ite_tt (test_last (thn (hc pins s3 σ H3 _ I3 q3) fun w' s4 ⟨z', H4, I4, r4, q4⟩ => thn (ho' pins s4 σ H4 y z' u w' _ I4 r2 r4 q4) fun d' s5 ⟨z2, H5, I5, r5, k2, e2, q5⟩ => ?_))
    subst e2
    cases r5
    exact wpAny_truthy_bool ⟨H5, I5, q5⟩

/-! ### truth -/
/-- a value's truth by the abstract heap -/
def TruV (K : PySem.W.Frag) (x : V) (H : Hp) (k : Bool) : Prop :=
  match x with
  | .non => k = false
  | .bl b => k = b
  | .int i => k = (i != 0)
  | .str y => y.length ≤ sizeLine ∧ k = ((y.length : Int) != 0)
  | .byt y => y.size ≤ sizeLine ∧ k = ((y.size : Int) != 0)
  | .ref p => (∃ xs, SqL K H p xs ∧ k = !xs.isEmpty) ∨ (∃ xs, SqT K H p xs ∧ k = !xs.isEmpty) ∨ ∃ kvs, H p = some (.dK kvs) ∧ k = !kvs.isEmpty
  | _ => False
theorem isEmpty_kv {κ : Type} {kvs : List (κ × V)} {vs : List (κ × Value)} (r : KV kvs vs) : (!vs.isEmpty) = !kvs.isEmpty := by
  cases r <;> rfl
theorem isEmpty_of {xs : List V} {its : List Value} (r : Vals xs its) : (!its.toArray.isEmpty) = !xs.isEmpty := by
  cases r <;> simp
theorem line63 : (sizeLine : Nat) < 2 ^ 63 := by rw [sizeLine_eq]; decide
theorem tru_ok : TruR X (fun x H Q => ∃ k, TruV X.K x H k ∧ Q k H) := by
  intro pins s σ H x v Q I rx h
  obtain ⟨k, e, q⟩ := h
  have hl := line63
  have hs : sizeLine = 16777216 := sizeLine_eq
  cases x with
  | non =>
    cases rx
    have e' : k = false := e
    subst e'
    exact truthy_none ⟨H, I, q⟩
  | bl b =>
    cases rx
    have e' : k = b := e
    subst e'
    exact wpAny_truthy_bool ⟨H, I, q⟩
  | int i =>
    obtain ⟨t, rfl⟩ := rx
    have e' : k = (i != 0) := e
    subst e'
    exact PySem.P.truthy_int ⟨H, I, q⟩
  | str y =>
    obtain ⟨t, rfl⟩ := rx
    obtain ⟨hy, e'⟩ : y.length ≤ sizeLine ∧ k = ((y.length : Int) != 0) := e
    subst e'
    exact PySem.P.truthy_str (by omega) ⟨H, I.tok _, q⟩
  | byt y =>
    obtain ⟨t, rfl⟩ := rx
    obtain ⟨hy, e'⟩ : y.size ≤ sizeLine ∧ k = ((y.size : Int) != 0) := e
    subst e'
    exact PySem.W.truthy_bytes (by omega) ⟨H, I.tok _, q⟩
  | ref p =>
    cases rx
    have e' : (∃ xs, SqL X.K H p xs ∧ k = !xs.isEmpty) ∨ (∃ xs, SqT X.K H p xs ∧ k = !xs.isEmpty) ∨ ∃ kvs, H p = some (.dK kvs) ∧ k = !kvs.isEmpty := e
    rcases e' with ⟨xs, hx, e'⟩ | ⟨xs, hx, e'⟩ | ⟨kvs, hx, e'⟩
    · subst e'
      obtain ⟨its, r, pl, hz⟩ := I.list hx
      have hlen := r.length
      exact wpAny_truthy_list pl.isList (by simp only [List.size_toArray]; omega) ⟨H, I.tok _, by rw [isEmpty_of r]; exact q⟩
    · subst e'
      obtain ⟨its, r, pl, hz⟩ := I.tuple hx
      have hlen := r.length
      exact truthy_tuple pl (by simp only [List.size_toArray]; omega) ⟨H, I.tok _, by rw [isEmpty_of r]; exact q⟩
    · subst e'
      obtain ⟨hz, hS, vs, r, m⟩ : kvs.length ≤ sizeLine ∧ (p == sysModules) = false ∧ ∃ vs, KV kvs vs ∧ s.heap.DictOf (mixKind X.prog X.w) p vs := I.hok p _ hx
      have hlen : kvs.length = vs.length := Paired.length r
      exact wpAny_truthy_dict hS m (by omega) ⟨H, I.tok _, by rw [isEmpty_kv r]; exact q⟩
  | _ => exact (show False from e).elim
/-- any expression whose test is its value's truth (a name, a call, a subscript, a field ..: he by fun _ => rfl) -/
theorem pt_truth (ha : PE X a ta) (he : ∀ whole, isTrue a X.env whole = (do let v ← whole; standAt a.pos; holding [v] (truthy v))) :
    PT X a (fun σ H Q => ta σ H fun x H' => ∃ k, TruV X.K x H' k ∧ Q k H') := by
  intro pins s σ H Q I h
  exact isTrue_plain (thn (ha pins s σ H _ I h) fun v s1 ⟨x, H1, I1, r1, q1⟩ => tru_ok pins s1 σ H1 x v Q I1 r1 q1) (he _)

/-! ### strs and bytes -/
theorem pe_byt {x : List UInt8} {k : Nat} : PE X (.Constant (.bytes x) k pos) (fun _ H Q => Q (.byt x.toArray) H) := fun _ _ _ H _ I h => PySem.W.Constant_bytes ⟨.byt x.toArray, H, I.tok _, ⟨_, rfl⟩, h⟩
theorem op_add_str : OpR X (binaryOp .Add) (fun x y H Q => ∃ i j, x = .str i ∧ y = .str j ∧ i.length + j.length ≤ sizeLine ∧ Q (.str (i ++ j)) H) := by
  intro pins s σ H x y v u Q I rx ry h
  obtain ⟨i, j, rfl, rfl, hz, q⟩ := h
  obtain ⟨t, rfl⟩ := rx
  obtain ⟨t', rfl⟩ := ry
  exact add_str (fun t' tk => ⟨.str (i ++ j), H, I.tok _, ⟨_, rfl⟩, q⟩) hz
theorem iop_add_str : OpR X (inplaceOp .Add) (fun x y H Q => ∃ i j, x = .str i ∧ y = .str j ∧ i.length + j.length ≤ sizeLine ∧ Q (.str (i ++ j)) H) := by
  intro pins s σ H x y v u Q I rx ry h
  obtain ⟨i, j, rfl, rfl, hz, q⟩ := h
  obtain ⟨t, rfl⟩ := rx
  obtain ⟨t', rfl⟩ := ry
  exact iadd_str (fun t' tk => ⟨.str (i ++ j), H, I.tok _, ⟨_, rfl⟩, q⟩) hz
theorem op_add_byt : OpR X (binaryOp .Add) (fun x y H Q => ∃ i j, x = .byt i ∧ y = .byt j ∧ i.size + j.size ≤ 16777216 ∧ Q (.byt (i ++ j)) H) := by
  intro pins s σ H x y v u Q I rx ry h
  obtain ⟨i, j, rfl, rfl, hz, q⟩ := h
  obtain ⟨t, rfl⟩ := rx
  obtain ⟨t', rfl⟩ := ry
  exact PySem.W.KBy.add_bytes hz (fun t' tk => ⟨.byt (i ++ j), H, I.tok _, ⟨_, rfl⟩, q⟩)

def PlainIxT (b : Expr) : Prop := ∀ o i, subscripted b false o i = operate [o, i] (getItem o i)
/-- s[i], 0 ≤ i < len -/
theorem pe_item_str (ha : PE X a ta) (hb : PE X b tb) (hs : PlainIxT b) :
    PE X (.Subscript a b pos) (tOp (fun x y H Q => ∃ z i c, x = .str z ∧ y = .int i ∧ 0 ≤ i ∧ i < 2 ^ 63 ∧ i < z.length ∧ z.cps[i.toNat]? = some c ∧ Q (.str ⟨#[c]⟩) H) ta tb) := by
  intro pins s σ H Q I h
  refine Subscript_ (binT ha hb I h fun v u s2 x y H2 I2 rx ry q => ?_)
  obtain ⟨z, i, c, rfl, rfl, h0, h63, h1, hc, q⟩ := q
  obtain ⟨t, rfl⟩ := rx
  obtain ⟨t', rfl⟩ := ry
  have e : seqIndex? i z.length = some i.toNat := PySem.StrLaws.seqIndex_nonneg h0 h1
  exact tail_any (typeIs_str s2 z t) slot_str_getitem.lookup (getItem_str (c := c) (by
    have e1 : decide (i < -(2 ^ 63 : Int)) = false := decide_eq_false (by omega)
    have e2 : decide (i ≥ 2 ^ 63) = false := decide_eq_false (by omega)
    rw [e1, e2] <;> rfl) (by rw [e]; exact hc) ⟨.str ⟨#[c]⟩, H2, I2.tok _, ⟨_, rfl⟩, q⟩) (hs _ _)
/-- b[i], 0 ≤ i < len -/
theorem pe_item_byt (ha : PE X a ta) (hb : PE X b tb) (hs : PlainIxT b) :
    PE X (.Subscript a b pos) (tOp (fun x y H Q => ∃ (z : List UInt8) (i : Int), x = .byt z.toArray ∧ y = .int i ∧ z.length ≤ sizeLine ∧ 0 ≤ i ∧ i < z.length ∧ Q (.int ((z.getD i.toNat 0).toNat : Nat)) H) ta tb) := by
  intro pins s σ H Q I h
  refine Subscript_ (binT ha hb I h fun v u s2 x y H2 I2 rx ry q => ?_)
  obtain ⟨z, i, rfl, rfl, hz, h0, h1, q⟩ := q
  obtain ⟨t, rfl⟩ := rx
  obtain ⟨t', rfl⟩ := ry
  have hl : sizeLine = 16777216 := sizeLine_eq
  exact tail_any (PySem.W.typeIs_bytes s2 z.toArray t) PySem.W.FB.slot_bytes_getitem.lookup (PySem.W.getItem_bytes (by omega) h0 h1 ⟨.int ((z.getD i.toNat 0).toNat : Nat), H2, I2.tok _, ⟨_, rfl⟩, q⟩) (hs _ _)

/-! ### scalar builtins, by CallR -/
theorem vals1 {x : V} {us : List Value} (r : Vals [x] us) : ∃ u, us = [u] ∧ RelV x u := by
  cases r with
  | cons r1 r2 => cases r2; exact ⟨_, rfl, r1⟩
theorem vals2 {x y : V} {us : List Value} (r : Vals [x, y] us) : ∃ u w', us = [u, w'] ∧ RelV x u ∧ RelV y w' := by
  cases r with
  | cons r1 r2 =>
    cases r2 with
    | cons r3 r4 => cases r4; exact ⟨_, _, rfl, r1, r3⟩
theorem call_abs : CallR X (.builtin "abs") (fun xs H Q => ∃ i, xs = [.int i] ∧ Q (.int (if i < 0 then -i else i)) H) := by
  intro pins s σ H xs us Q I r h
  obtain ⟨i, rfl, q⟩ := h
  obtain ⟨u, rfl, t, rfl⟩ := vals1 r
  exact call_abs_int fun u tk => ⟨.int (if i < 0 then -i else i), H, I.tok _, ⟨_, rfl⟩, q⟩
theorem call_max2 (hc : X.calm = true) : CallR X (.builtin "max") (fun xs H Q => ∃ i j, xs = [.int i, .int j] ∧ Q (.int (if j > i then j else i)) H) := by
  intro pins s σ H xs us Q I r h
  obtain ⟨i, j, rfl, q⟩ := h
  obtain ⟨u, w', rfl, ⟨t, rfl⟩, ⟨t', rfl⟩⟩ := vals2 r
  refine max_two_ints (I.ok.hd hc) fun h' tk k => ⟨_, H, I.kept k, ?_, q⟩
  by_cases hj : j > i
  · rw [if_pos hj, if_pos hj]; exact ⟨_, rfl⟩
  · rw [if_neg hj, if_neg hj]; exact ⟨_, rfl⟩
theorem call_min2 (hc : X.calm = true) : CallR X (.builtin "min") (fun xs H Q => ∃ i j, xs = [.int i, .int j] ∧ Q (.int (if j < i then j else i)) H) := by
  intro pins s σ H xs us Q I r h
  obtain ⟨i, j, rfl, q⟩ := h
  obtain ⟨u, w', rfl, ⟨t, rfl⟩, ⟨t', rfl⟩⟩ := vals2 r
  refine min_two_ints (I.ok.hd hc) fun h' tk k => ⟨_, H, I.kept k, ?_, q⟩
  by_cases hj : j < i
  · rw [if_pos hj, if_pos hj]; exact ⟨_, rfl⟩
  · rw [if_neg hj, if_neg hj]; exact ⟨_, rfl⟩
theorem call_int1 : CallR X (.type "int") (fun xs H Q => (∃ i, xs = [.int i] ∧ Q (.int i) H) ∨ ∃ k, xs = [.bl k] ∧ Q (.int (if k then 1 else 0)) H) := by
  intro pins s σ H xs us Q I r h
  rcases h with ⟨i, rfl, q⟩ | ⟨k, rfl, q⟩
  · obtain ⟨u, rfl, t, rfl⟩ := vals1 r
    exact call_int_int ⟨.int i, H, I, ⟨_, rfl⟩, q⟩
  · obtain ⟨u, rfl, r1⟩ := vals1 r
    cases r1
    exact call_int_bool ⟨.int (if k then 1 else 0), H, I.tok _, ⟨_, rfl⟩, q⟩
theorem call_bool1 : CallR X (.type "bool") (fun xs H Q => (∃ i, xs = [.int i] ∧ Q (.bl (i != 0)) H) ∨ ∃ k, xs = [.bl k] ∧ Q (.bl k) H) := by
  intro pins s σ H xs us Q I r h
  rcases h with ⟨i, rfl, q⟩ | ⟨k, rfl, q⟩
  · obtain ⟨u, rfl, t, rfl⟩ := vals1 r
    exact call_bool_int ⟨.bl (i != 0), H, I, rfl, q⟩
  · obtain ⟨u, rfl, r1⟩ := vals1 r
    cases r1
    exact call_bool_bool ⟨.bl k, H, I, rfl, q⟩
theorem call_str_int : CallR X (.type "str") (fun xs H Q => ∃ i, xs = [.int i] ∧ i.natAbs.log2 < 1920 ∧ Q (.str (toString i)) H) := by
  intro pins s σ H xs us Q I r h
  obtain ⟨i, rfl, hz, q⟩ := h
  obtain ⟨u, rfl, t, rfl⟩ := vals1 r
  exact PySem.P.str_of_int hz ⟨.str _, H, I.tok _, ⟨_, rfl⟩, q⟩
theorem call_ord : CallR X (.builtin "ord") (fun xs H Q => ∃ x, xs = [.str x] ∧ x.length = 1 ∧ Q (.int (x.cps.getD 0 0 : Nat)) H) := by
  intro pins s σ H xs us Q I r h
  obtain ⟨x, rfl, hz, q⟩ := h
  obtain ⟨u, rfl, t, rfl⟩ := vals1 r
  exact ord_of_one hz ⟨.int _, H, I.tok _, ⟨_, rfl⟩, q⟩
theorem call_chr : CallR X (.builtin "chr") (fun xs H Q => ∃ i, xs = [.int i] ∧ 0 ≤ i ∧ i ≤ 1114111 ∧ Q (.str ⟨#[i.toNat]⟩) H) := by
  intro pins s σ H xs us Q I r h
  obtain ⟨i, rfl, h0, h1, q⟩ := h
  obtain ⟨u, rfl, t, rfl⟩ := vals1 r
  exact chr_of_range h0 h1 ⟨.str _, H, I.tok _, ⟨_, rfl⟩, q⟩
/-- len of a str, a bytes, a list, a tuple -/
def LenV (K : PySem.W.Frag) (x : V) (H : Hp) (n : Nat) : Prop :=
  match x with
  | .str y => y.length ≤ sizeLine ∧ n = y.length
  | .byt y => y.size ≤ sizeLine ∧ n = y.size
  | .ref p => (∃ xs, SqL K H p xs ∧ n = xs.length) ∨ ∃ xs, SqT K H p xs ∧ n = xs.length
  | _ => False
theorem call_len : CallR X (.builtin "len") (fun xs H Q => ∃ x n, xs = [x] ∧ LenV X.K x H n ∧ Q (.int n) H) := by
  intro pins s σ H xs us Q I r h
  obtain ⟨x, n, rfl, e, q⟩ := h
  obtain ⟨u, rfl, rx⟩ := vals1 r
  have hl := line63
  have hs : sizeLine = 16777216 := sizeLine_eq
  cases x with
  | str y =>
    obtain ⟨t, rfl⟩ := rx
    obtain ⟨hy, e'⟩ : y.length ≤ sizeLine ∧ n = y.length := e
    subst e'
    exact len_str (by omega) ⟨.int _, H, I.tok _, ⟨_, rfl⟩, q⟩
  | byt y =>
    obtain ⟨t, rfl⟩ := rx
    obtain ⟨hy, e'⟩ : y.size ≤ sizeLine ∧ n = y.size := e
    subst e'
    exact PySem.W.len_bytes (by omega) ⟨.int _, H, I.tok _, ⟨_, rfl⟩, q⟩
  | ref p =>
    cases rx
    have e' : (∃ xs, SqL X.K H p xs ∧ n = xs.length) ∨ ∃ xs, SqT X.K H p xs ∧ n = xs.length := e
    rcases e' with ⟨xs, hx, e'⟩ | ⟨xs, hx, e'⟩
    · subst e'
      obtain ⟨its, r', pl, hz⟩ := I.list hx
      have hlen := r'.length
      exact Calls.call_len_list pl.isList (by simp only [List.size_toArray]; omega) ⟨.int xs.length, H, I.tok _, ⟨_, by simp only [List.size_toArray]; rw [hlen]⟩, q⟩
    · subst e'
      obtain ⟨its, r', pl, hz⟩ := I.tuple hx
      have hlen := r'.length
      exact len_tuple pl (by simp only [List.size_toArray]; omega) ⟨.int xs.length, H, I.tok _, ⟨_, by simp only [List.size_toArray]; rw [hlen]⟩, q⟩
  | _ => exact (show False from e).elim
/-- divmod: a new tuple -/
theorem call_divmod : CallR X (.builtin "divmod") (fun xs H Q => ∃ i j, xs = [.int i, .int j] ∧ CDiv i j ∧ ∀ p, H p = none → Q (.ref p) (upd H p (.tup [.int (i / j), .int (i % j)]))) := by
  intro pins s σ H xs us Q I r h
  obtain ⟨i, j, rfl, ⟨h1, h2⟩, q⟩ := h
  obtain ⟨u, w', rfl, ⟨t, rfl⟩, ⟨t', rfl⟩⟩ := vals2 r
  refine divmod_int (by omega) ?_ (.inl (PyProof.noPylong_small (by omega)))
  rw [Int.fdiv_eq_ediv_of_nonneg i (by omega), Int.fmod_eq_emod_of_nonneg i (by omega)]
  have hn : H s.heap.objs.size = none := I.hok.fresh (Nat.le_refl _)
  refine ⟨.ref s.heap.objs.size, _, ?_, rfl, q _ hn⟩
  refine I.laid (fun b o e => Heap.get?_push_of_some _ e) (Nat.le_refl _) ⟨by simp only [List.length_cons, List.length_nil]; rw [sizeLine_eq]; decide, [.int (i / j) s.toks, .int (i % j) (s.toks + 1)], .cons ⟨_, rfl⟩ (.cons ⟨_, rfl⟩ .nil), ?_⟩
  exact ⟨_, Heap.get?_push_size s.heap rfl, rfl, 0, rfl⟩
end
end L2

namespace L2
open PySem PySem.Spec PyProof.Rows

/-! ### an instance, its attributes a map -/
structure ObjM (h : Heap) (x dx C : Addr) (mA : Str → Option Value) : Prop where
  obj : h.get? x = some (PySem.W.instObj C dx)
  ns : h.Ns1 dx mA
  ne : dx ≠ x

theorem lookIn_ns {h : Heap} {dx : Addr} {mA : Str → Option Value} (n : h.Ns1 dx mA) : ∃ od, h.get? dx = some od ∧ ∀ name, PySem.W.lookIn name od = some (mA name) := by
  obtain ⟨o, es, ep, ho, hd, hk, _, hm⟩ := n
  refine ⟨o, ho, fun name => ?_⟩
  have e := hm name
  unfold nsFind findBy at e
  rw [← Array.find?_toList] at e
  unfold PySem.W.lookIn
  rw [hd]
  dsimp only
  split
  · rename_i y q
    rw [q] at e
    exact congrArg some e
  · rename_i q
    rw [q] at e
    have a : es.toList.any (·.refKey) = false := by
      rw [List.any_eq_false]
      intro y hy
      obtain ⟨z, t, hkey⟩ := hk y (Array.mem_toList_iff.mp hy)
      simp [DictEntry.refKey, hkey]
    have a' : ¬ es.toList.any (·.refKey) = true := by rw [a]; exact Bool.false_ne_true
    rw [if_neg a']
    exact congrArg some e

theorem ObjM.look {h : Heap} {x dx C : Addr} {mA : Str → Option Value} (I : ObjM h x dx C mA) : ∃ od, PySem.W.InstAt h x (PySem.W.instObj C dx) C (some od) ∧ ∀ name, PySem.W.lookIn name od = some (mA name) :=
  let ⟨od, ho, hl⟩ := lookIn_ns I.ns
  ⟨od, ⟨I.obj, rfl, rfl, ho⟩, hl⟩

section
variable {prog : Program} {w : World} {A : Around} {E : Value → Shared → Prop} {s : Shared} {K : PySem.W.Frag} {x dx C f : Addr} {mA : Str → Option Value} {name : Str} {v : Value}

theorem get_map {expr : Bool} {Q : Value → Shared → Prop} (X : K.In s.heap) (I : ObjM s.heap x dx C mA) (hg : PySem.W.plainGet K C name = true) (hh : PySem.W.hasDictIn K C = true)
    (ha : PySem.W.findIn K (.ref C) name = some none) (hv : mA name = some v) (hv' : PySem.W.handedIn v = true) (h : Q v { s with toks := s.toks + 1 }) :
    wpAny (model prog w) A (getAttr (.ref x) name expr) Q E s := by
  obtain ⟨od, J, hl⟩ := I.look
  exact PySem.W.get_value X J (PySem.W.plainGet_of hg).1 (PySem.W.findObj_own hh ha rfl (by rw [hl, hv])) hv' h

theorem get_const {expr : Bool} {a : Value} {Q : Value → Shared → Prop} (X : K.In s.heap) (I : ObjM s.heap x dx C mA) (hg : PySem.W.plainGet K C name = true) (hh : PySem.W.hasDictIn K C = true)
    (ha : PySem.W.findIn K (.ref C) name = some (some a)) (hn : PySem.W.specialIn K a "__get__" = some none) (hc : PySem.W.copiedNames.contains name = false) (hv : mA name = none) (hv' : PySem.W.handedIn a = true)
    (h : Q a { s with toks := s.toks + 1 }) : wpAny (model prog w) A (getAttr (.ref x) name expr) Q E s := by
  obtain ⟨od, J, hl⟩ := I.look
  exact PySem.W.get_value X J (PySem.W.plainGet_of hg).1 (PySem.W.findObj_cls hh ha hn hv' hc (by rw [hl, hv])) hv' h

theorem get_meth {pl : Sem Bool} {Q : Value × List Value → Shared → Prop} (X : K.In s.heap) (I : ObjM s.heap x dx C mA) (hg : PySem.W.plainGet K C name = true)
    (hf : PySem.W.findIn K (.ref C) name = some (some (.ref f))) (ht : PySem.W.isFn K (.ref f) = true) (hv : mA name = none) (h : Q (.ref f, [.ref x]) s) :
    wpAny (model prog w) A (getMethod (.ref x) name pl) Q E s := by
  obtain ⟨od, J, hl⟩ := I.look
  exact PySem.W.method_fn X J (PySem.W.plainGet_of hg).1 (PySem.W.plainGet_of hg).2 hf (beq_iff_eq.mp ht) (by show (PySem.W.lookIn name od).map (·.isSome) = some false; rw [hl, hv]; rfl) h

theorem set_map {ns : List Str} {Q : Unit → Shared → Prop} (X : K.In s.heap) (I : ObjM s.heap x dx C mA)
    (hs : PySem.W.findIn K (.ref C) "__setattr__" = some (some (.builtin "object.__setattr__"))) (hp : PySem.W.plainOver K C = true) (ht : PySem.W.takerIn K C name = some none) (hh : PySem.W.hasDictIn K C = true)
    (hw : PySem.Within mA ns) (hsz : ns.length ≤ sizeLine)
    (h : ∀ h', ObjM h' x dx C (fun y => if y = name then some v else mA y) → Heap.SameBut dx s.heap h' → Q () { s with heap := h', toks := s.toks + 2 }) :
    wpAny (model prog w) A (setAttr (.ref x) name v) Q E s := by
  obtain ⟨od, J, hl⟩ := I.look
  refine PySem.W.set_plain X J hs (PySem.W.osa_open (s := { s with toks := s.toks + 1 }) (r := none) X J hp ht fun b => ?_)
  obtain ⟨cd, hc, hd'⟩ := PySem.W.any_some hh
  have hx : s.heap.get? x = some ⟨.ref C, some dx, .plain, #[]⟩ := I.obj
  refine wpAny_bind (wpAny_pure (wpAny_bind (wpAny_bind (wpAny_loadPart hx (wpAny_bind (PySem.W.Looks.here (s := { s with toks := s.toks + 1 }) (PySem.W.looks_clsIn X hc) ?_))))))
  rw [hd']
  refine wpAny_pure (a := some dx) (wpAny_bind (wpAny_pure (wpAny_bind ?_)))
  refine wpAny_nsSet1 (s := { s with toks := s.toks + 1 }) I.ns fun h' hn2 hs2 => ?_
  obtain ⟨oD, esD, epD, hoD, hdD, hcD⟩ := hn2.count (PySem.Within.cons name v hw)
  refine wpAny_bind (wpAny_lookBehind hoD (by rw [hdD]; exact pastItsLine_dict (Nat.le_trans hcD (by rw [List.length_cons]; omega))) ?_)
  exact wpAny_pure (h _ ⟨(hs2.2 _ (Ne.symm I.ne)).trans I.obj, hn2, I.ne⟩ hs2)

/-- C(..): the dict at the heap's end, the instance behind it; then its __init__ -/
theorem make_map {R : Result → Shared → Prop} {vs : List Value} {kw : List (Str × Value)} (X : K.In s.heap) (hm : PySem.W.makesIn K C = true)
    (hi : PySem.W.findIn K (.ref C) "__init__" = some (some (.ref f))) (hf : PySem.W.typeIn K (.ref f) = some (.type "function"))
    (h : codeAny (model prog w) (A.under (.builtin "type.__call__" ⟨.ref C :: vs, kw⟩)) (.call (.ref f) ⟨.ref (s.heap.objs.size + 1) :: vs, kw⟩) (PySem.W.InitBack (s.heap.objs.size + 1) R)
      { s with heap := (s.heap.push PySem.W.emptyDict).push (PySem.W.instObj C s.heap.objs.size) }) :
    codeAny (model prog w) A (.call (.ref C) ⟨vs, kw⟩) R s := by
  obtain ⟨hh, g, d, t, os⟩ := s
  exact PySem.W.make_core (PySem.W.makes_of X hm) (PySem.W.looks_findIn X hi) (fun self => PySem.W.bind_fn X self hf) (.inl rfl) h
/-- C() where there is no __init__ but object's -/
theorem make_map0 {R : Result → Shared → Prop} (X : K.In s.heap) (hm : PySem.W.makesIn K C = true)
    (hi : PySem.W.findIn K (.ref C) "__init__" = some (some (.builtin "object.__init__")))
    (hb : ∀ self, PySem.W.Looks (model prog w) s.heap (bindSpecial (.builtin "object.__init__") self) (.builtin "object.__init__", [self]))
    (h : codeAny (model prog w) (A.under (.builtin "type.__call__" ⟨[.ref C], []⟩)) (.call (.builtin "object.__init__") ⟨[.ref (s.heap.objs.size + 1)], []⟩) (PySem.W.InitBack (s.heap.objs.size + 1) R)
      { s with heap := (s.heap.push PySem.W.emptyDict).push (PySem.W.instObj C s.heap.objs.size) }) :
    codeAny (model prog w) A (.call (.ref C) ⟨[], []⟩) R s := by
  obtain ⟨hh, g, d, t, os⟩ := s
  exact PySem.W.make_core (PySem.W.makes_of X hm) (PySem.W.looks_findIn X hi) hb (.inr ⟨rfl, rfl⟩) h
end

/-! ### the attributes as a list of pairs -/
def putF (f : Str) (v : V) : List (Str × V) → List (Str × V)
  | [] => [(f, v)]
  | (g, x) :: r => if g = f then (g, v) :: r else (g, x) :: putF f v r
theorem lookup_putF (f g : Str) (v : V) : ∀ fs : List (Str × V), (putF f v fs).lookup g = if g = f then some v else fs.lookup g
  | [] => by
    show List.lookup g [(f, v)] = _
    by_cases h : g = f
    · have hb : (g == f) = true := beq_iff_eq.mpr h
      simp only [List.lookup, hb, if_pos h]
    · have hb : (g == f) = false := beq_eq_false_iff_ne.mpr h
      simp only [List.lookup, hb, if_neg h]
  | (k, x) :: r => by
    have ih := lookup_putF f g v r
    rw [show putF f v ((k, x) :: r) = (if k = f then (k, v) :: r else (k, x) :: putF f v r) from rfl]
    by_cases hk : k = f
    · rw [if_pos hk]
      by_cases h : g = k
      · have hb : (g == k) = true := beq_iff_eq.mpr h
        simp only [List.lookup, hb, if_pos (h.trans hk)]
      · have hb : (g == k) = false := beq_eq_false_iff_ne.mpr h
        simp only [List.lookup, hb, if_neg (fun e : g = f => h (e.trans hk.symm))]
    · rw [if_neg hk]
      by_cases h : g = k
      · have hb : (g == k) = true := beq_iff_eq.mpr h
        simp only [List.lookup, hb, if_neg (fun e : g = f => hk (h.symm.trans e))]
      · have hb : (g == k) = false := beq_eq_false_iff_ne.mpr h
        simp only [List.lookup, hb]
        exact ih
theorem keys_putF (f : Str) (v : V) : ∀ fs : List (Str × V), f ∈ (putF f v fs).map (·.1) ∧ ∀ g, g ∈ fs.map (·.1) → g ∈ (putF f v fs).map (·.1)
  | [] => ⟨by simp [putF], fun g h => by simp at h⟩
  | (k, x) :: r => by
    obtain ⟨i1, i2⟩ := keys_putF f v r
    rw [show putF f v ((k, x) :: r) = (if k = f then (k, v) :: r else (k, x) :: putF f v r) from rfl]
    by_cases hk : k = f
    · rw [if_pos hk]
      subst hk
      exact ⟨by simp, fun g h => by simpa using h⟩
    · rw [if_neg hk]
      refine ⟨?_, fun g h => ?_⟩
      · rw [List.map_cons]
        exact List.mem_cons_of_mem _ i1
      · rw [List.map_cons] at h ⊢
        rcases List.mem_cons.mp h with e | e
        · exact List.mem_cons.mpr (.inl e)
        · exact List.mem_cons_of_mem _ (i2 g e)
theorem length_putF (f : Str) (v : V) : ∀ fs : List (Str × V), (putF f v fs).length ≤ fs.length + 1
  | [] => by simp [putF]
  | (k, x) :: r => by
    have ih := length_putF f v r
    rw [show putF f v ((k, x) :: r) = (if k = f then (k, v) :: r else (k, x) :: putF f v r) from rfl]
    by_cases hk : k = f
    · rw [if_pos hk, List.length_cons, List.length_cons]; omega
    · rw [if_neg hk, List.length_cons, List.length_cons]; omega

theorem RelO.some_of {v : V} {o : Option Value} (r : RelO (some v) o) : ∃ u, o = some u ∧ RelV v u := by
  cases o with
  | none => exact (show False from r).elim
  | some u => exact ⟨u, rfl, r⟩
theorem RelO.none_of {o : Option Value} (r : RelO none o) : o = none := by
  cases o with
  | none => rfl
  | some u => exact (show False from r).elim
theorem handed_of {v : V} {u : Value} (r : RelV v u) : PySem.W.handedIn u = true := by
  cases v with
  | non => cases (show u = Value.none from r); rfl
  | bl b => cases (show u = Value.bool b from r); rfl
  | int i => obtain ⟨t, e⟩ := (show ∃ t, u = Value.int i t from r); cases e; rfl
  | str x => obtain ⟨t, e⟩ := (show ∃ t, u = Value.str x t from r); cases e; rfl
  | byt b => obtain ⟨t, e⟩ := (show ∃ t, u = Value.bytes b t from r); cases e; rfl
  | flt b => obtain ⟨t, e⟩ := (show ∃ t, u = Value.float b t from r); cases e; rfl
  | ref a => cases (show u = Value.ref a from r); rfl
  | ty n => cases (show u = Value.type n from r); rfl

section
variable {P : Program} {w : World} {H H' : Hp} {h h' : Heap} {a C dx : Addr} {fs fs' : List (Str × V)}
theorem ins_get (hok : HOk P w H h) (e : H a = some (.ins C dx fs)) : ∃ mA, ObjM h a dx C mA ∧ (∀ f, RelO (fs.lookup f) (mA f)) ∧ PySem.Within mA (fs.map (·.1)) ∧ fs.length ≤ 1000 ∧ H dx = some (.own a) := by
  obtain ⟨d, z, ne, ob, mA, n, r, q⟩ := (show ObjOk P w H h a (.ins C dx fs) from hok a _ e)
  exact ⟨mA, ⟨ob, n, ne⟩, r, q, z, d⟩
end

/-! ### what of the text a class must have -/
structure Cls (K : PySem.W.Frag) (C : Addr) : Prop where
  pg : PySem.W.plainGet K C Str.empty = true
  hd : PySem.W.hasDictIn K C = true
  po : PySem.W.plainOver K C = true
  sa : PySem.W.findIn K (.ref C) "__setattr__" = some (some (.builtin "object.__setattr__"))
theorem Cls.get {K : PySem.W.Frag} {C : Addr} (c : Cls K C) (f : Str) : PySem.W.plainGet K C f = true := c.pg
/-- no class of it has the name -/
def NoAttr (K : PySem.W.Frag) (C : Addr) (f : Str) : Prop := PySem.W.findIn K (.ref C) f = some none
theorem NoAttr.taker {K : PySem.W.Frag} {C : Addr} {f : Str} (n : NoAttr K C f) : PySem.W.takerIn K C f = some none := by
  unfold PySem.W.takerIn
  rw [show PySem.W.findIn K (.ref C) f = some none from n]
  rfl
/-- a constant of the class -/
structure Con (K : PySem.W.Frag) (C : Addr) (f : Str) (v : V) (u : Value) : Prop where
  at_ : PySem.W.findIn K (.ref C) f = some (some u)
  rel : RelV v u
  get : PySem.W.specialIn K u "__get__" = some none
  cp : PySem.W.copiedNames.contains f = false
/-- a method: a plain def of the class or of one above it -/
structure Meth (K : PySem.W.Frag) (C : Addr) (m : Str) (f : Addr) : Prop where
  at_ : PySem.W.findIn K (.ref C) m = some (some (.ref f))
  fn : PySem.W.isFn K (.ref f) = true
  kp : PySem.W.keepIn K (.ref f) = true

section
variable {X : Cx} {pins : List (Addr × Obj)} {σ : St} {H : Hp} {s : Shared} {a C dx : Addr} {fs : List (Str × V)} {f : Str} {v : V} {A : Around} {E : Value → Shared → Prop}

theorem getattr_ok {b : Bool} {Q : Value → Shared → Prop} (I : Inv X pins σ H s) (e : H a = some (.ins C dx fs)) (c : Cls X.K C) (n : NoAttr X.K C f) (l : fs.lookup f = some v)
    (h : ∀ u s', Inv X pins σ H s' → RelV v u → Q u s') : wpAny (model X.prog X.w) A (getAttr (.ref a) f b) Q E s := by
  obtain ⟨mA, O, r, _, _, _⟩ := ins_get I.hok e
  obtain ⟨u, hu, ru⟩ := RelO.some_of (v := v) (o := mA f) (by rw [← l]; exact r f)
  exact get_map I.kIn O (c.get f) c.hd n hu (handed_of ru) (h u _ (I.tok _) ru)

theorem getcon_ok {b : Bool} {u : Value} {Q : Value → Shared → Prop} (I : Inv X pins σ H s) (e : H a = some (.ins C dx fs)) (c : Cls X.K C) (k : Con X.K C f v u) (l : fs.lookup f = none)
    (h : ∀ s', Inv X pins σ H s' → Q u s') : wpAny (model X.prog X.w) A (getAttr (.ref a) f b) Q E s := by
  obtain ⟨mA, O, r, _, _, _⟩ := ins_get I.hok e
  have hn : mA f = none := RelO.none_of (by rw [← l]; exact r f)
  exact get_const I.kIn O (c.get f) c.hd k.at_ k.get k.cp hn (handed_of k.rel) (h _ (I.tok _))

theorem getmeth_ok {m : Str} {g : Addr} {pl : Sem Bool} {Q : Value × List Value → Shared → Prop} (I : Inv X pins σ H s) (e : H a = some (.ins C dx fs)) (c : Cls X.K C) (k : Meth X.K C m g) (l : fs.lookup m = none)
    (h : Q (.ref g, [.ref a]) s) : wpAny (model X.prog X.w) A (getMethod (.ref a) m pl) Q E s := by
  obtain ⟨mA, O, r, _, _, _⟩ := ins_get I.hok e
  have hn : mA m = none := RelO.none_of (by rw [← l]; exact r m)
  exact get_meth I.kIn O (c.get m) k.at_ k.fn hn h

theorem setattr_ok {y : V} {u : Value} {Q : Unit → Shared → Prop} (I : Inv X pins σ H s) (e : H a = some (.ins C dx fs)) (c : Cls X.K C) (n : NoAttr X.K C f) (hl : fs.length < 1000) (ry : RelV y u)
    (h : ∀ s', Inv X pins σ (upd H a (.ins C dx (putF f y fs))) s' → Q () s') : wpAny (model X.prog X.w) A (setAttr (.ref a) f u) Q E s := by
  obtain ⟨mA, O, r, wi, _, ho⟩ := ins_get I.hok e
  have hz : (fs.map (·.1)).length ≤ sizeLine := by rw [List.length_map, sizeLine_eq]; omega
  refine set_map I.kIn O c.sa c.po n.taker c.hd wi hz fun h' O' sb => h _ ?_
  have hd : ∃ o, h'.get? dx = some o := let ⟨o, _, _, e', _⟩ := O'.ns; ⟨o, e'⟩
  refine I.write (x := a) (e := dx) (by rw [e]; exact True.intro) (.inr ho) (fun b q hb z => (sb.2 b hb).trans z) hd ?_
  refine ⟨by rw [upd_ne O.ne]; exact ho, ?_, O.ne, O'.obj, _, O'.ns, fun g => ?_, fun g hg => ?_⟩
  · have := length_putF f y fs; omega
  · show RelO ((putF f y fs).lookup g) (if g = f then some u else mA g)
    rw [lookup_putF]
    by_cases q : g = f
    · rw [if_pos q, if_pos q]; exact ry
    · rw [if_neg q, if_neg q]; exact r g
  · by_cases q : g = f
    · rw [q]; exact (keys_putF f y fs).1
    · refine (keys_putF f y fs).2 g (wi g fun z => hg ?_)
      show (if g = f then some u else mA g) = none
      rw [if_neg q]; exact z

/-- a new instance, tracked, without attributes -/
theorem Inv.made (I : Inv X pins σ H s) : Inv X pins σ (upd (upd H s.heap.objs.size (.own (s.heap.objs.size + 1))) (s.heap.objs.size + 1) (.ins C s.heap.objs.size []))
    { s with heap := (s.heap.push PySem.W.emptyDict).push (PySem.W.instObj C s.heap.objs.size) } := by
  have e1 : (s.heap.push PySem.W.emptyDict).get? s.heap.objs.size = some PySem.W.emptyDict := Heap.get?_push_size s.heap rfl
  have e2 : ((s.heap.push PySem.W.emptyDict).push (PySem.W.instObj C s.heap.objs.size)).get? (s.heap.objs.size + 1) = some (PySem.W.instObj C s.heap.objs.size) := by
    have := Heap.get?_push_size (s.heap.push PySem.W.emptyDict) (o := PySem.W.instObj C s.heap.objs.size) rfl
    rwa [Heap.size_push] at this
  have e3 : (s.heap.push PySem.W.emptyDict).Ns s.heap.objs.size (fun _ => none) := ⟨PySem.W.emptyDict, #[], _, e1, rfl, (fun e he => absurd he (by simp)), fun _ => rfl⟩
  have I1 := I.laid (a := s.heap.objs.size) (o := .own (s.heap.objs.size + 1)) (h' := s.heap.push PySem.W.emptyDict) (t' := s.toks) (fun b u q => Heap.get?_push_of_some _ q) (Nat.le_refl _) ⟨_, e1⟩
  refine I1.laid (a := s.heap.objs.size + 1) (o := .ins C s.heap.objs.size []) (t' := s.toks) (fun b u q => Heap.get?_push_of_some _ q) (Nat.le_of_eq (Heap.size_push _ _)) ?_
  have ne : s.heap.objs.size ≠ s.heap.objs.size + 1 := Nat.ne_of_lt (Nat.lt_succ_self _)
  refine ⟨by rw [upd_ne ne, upd_same], Nat.zero_le _, ne, e2, fun _ => none, (Heap.Ns1.of_empty e3).at fun o q => Heap.get?_push_of_some _ q, fun _ => True.intro, fun y hy => absurd rfl hy⟩

/-- e.f where nothing but the object is asked: through attributeBase (super) and the last hold -/
theorem attr_of {prog : Program} {w : World} {env : Env} {e : Expr} {f : Str} {pos : Pos} {s : Shared} {Q : Value → Shared → Prop} (hb : attributeBase e f env (eval e env) = eval e env)
    (h : wpAny (model prog w) A (eval e env) (fun o s₁ => wpAny (model prog w) A (getAttr o f true) Q E s₁) E s) : wpAny (model prog w) A (eval (.Attribute e f pos) env) Q E s :=
  Attribute_any_ h (by rw [arm_eval_Attribute, hb])
end

/-! ### readings and rules -/
/-- e.f, an attribute of the instance -/
def tFld (K : PySem.W.Frag) (ta : TE) (f : Str) : TE := fun σ H Q => ta σ H fun x H1 => ∃ a C dx fs v, x = .ref a ∧ H1 a = some (.ins C dx fs) ∧ Cls K C ∧ NoAttr K C f ∧ fs.lookup f = some v ∧ Q v H1
/-- e.f, a constant of the class -/
def tCon (K : PySem.W.Frag) (ta : TE) (f : Str) : TE := fun σ H Q => ta σ H fun x H1 => ∃ a C dx fs v u, x = .ref a ∧ H1 a = some (.ins C dx fs) ∧ Cls K C ∧ Con K C f v u ∧ fs.lookup f = none ∧ Q v H1
/-- e.f = value -/
def sFld (K : PySem.W.Frag) (ta tv : TE) (f : Str) : TS := fun D σ H => tv σ H fun y H1 => ta σ H1 fun x H2 => ∃ a C dx fs, x = .ref a ∧ H2 a = some (.ins C dx fs) ∧ Cls K C ∧ NoAttr K C f ∧ fs.length < 1000 ∧
  D.nx σ (upd H2 a (.ins C dx (putF f y fs)))
/-- an augmented operator on two values -/
def InOp (X : Cx) (op : Operator) (rd : V → V → Hp → VK → Prop) : Prop :=
  ∀ (pins : List (Addr × Obj)) (s : Shared) (σ : St) (H : Hp) (x y : V) (u v : Value) (Q : VK), Inv X pins σ H s → RelV x u → RelV y v → rd x y H Q → wpAny (model X.prog X.w) X.A (inplaceOp op u v) (EP X pins σ Q) X.xe s
/-- e.f op= value -/
def sFldAug (K : PySem.W.Frag) (ta tv : TE) (rd : V → V → Hp → VK → Prop) (f : Str) : TS := fun D σ H => ta σ H fun x H1 => ∃ a C dx fs v, x = .ref a ∧ H1 a = some (.ins C dx fs) ∧ Cls K C ∧ NoAttr K C f ∧ fs.lookup f = some v ∧
  tv σ H1 fun y H2 => rd v y H2 fun z H3 => ∃ dx' fs', H3 a = some (.ins C dx' fs') ∧ fs'.length < 1000 ∧ D.nx σ (upd H3 a (.ins C dx' (putF f z fs')))

section
variable {X : Cx} {o e value : Expr} {f : Str} {pos pos' tpos : Pos} {ta tv : TE}
theorem pe_fld (he : PE X e ta) (hb : attributeBase e f X.env (eval e X.env) = eval e X.env) : PE X (.Attribute e f pos) (tFld X.K ta f) := by
  intro pins s σ H Q I h
  refine attr_of hb (thn (he pins s σ H _ I h) fun u s1 ⟨x, H1, I1, rx, a, C, dx, fs, v, ex, ea, c, n, l, q⟩ => ?_)
  subst ex
  obtain rfl : u = Value.ref a := rx
  exact getattr_ok I1 ea c n l fun u' s2 I2 ru => ⟨v, H1, I2, ru, q⟩
theorem pe_con (he : PE X e ta) (hb : attributeBase e f X.env (eval e X.env) = eval e X.env) : PE X (.Attribute e f pos) (tCon X.K ta f) := by
  intro pins s σ H Q I h
  refine attr_of hb (thn (he pins s σ H _ I h) fun u s1 ⟨x, H1, I1, rx, a, C, dx, fs, v, u0, ex, ea, c, k, l, q⟩ => ?_)
  subst ex
  obtain rfl : u = Value.ref a := rx
  exact getcon_ok I1 ea c k l fun s2 I2 => ⟨v, H1, I2, k.rel, q⟩
theorem ps_fld (ha : PE X o ta) (hv : PE X value tv) (hs : swapsWith value (some (.Attribute o f pos')) pos.line X.env = pure false) : PS X (.Assign [.Attribute o f pos'] value pos) (sFld X.K ta tv f) := by
  intro pins s σ H D I h
  refine plainObj_wpAny_Assign_Attribute (thn (hv pins s σ H _ I h) fun u s1 ⟨y, H1, I1, ry, q⟩ => thn (ha pins s1 σ H1 _ I1 q) fun ov s2 ⟨x, H2, I2, rx, a, C, dx, fs, ex, ea, c, n, l, q2⟩ => ?_) hs
  subst ex
  obtain rfl : ov = Value.ref a := rx
  exact setattr_ok I2 ea c n l ry fun s3 I3 => ⟨σ, _, I3, q2⟩
theorem ps_fldaug {op : Operator} {rd : V → V → Hp → VK → Prop} (ha : PE X o ta) (hv : PE X value tv) (hop : InOp X op rd) : PS X (.AugAssign (.Attribute o f tpos) op value pos) (sFldAug X.K ta tv rd f) := by
  intro pins s σ H D I h
  refine wpAny_AugAssign_AttributeAny (thn (ha pins s σ H _ I h) fun ov s1 ⟨x, H1, I1, rx, a, C, dx, fs, v, ex, ea, c, n, l, q⟩ => ?_)
  subst ex
  obtain rfl : ov = Value.ref a := rx
  refine getattr_ok I1 ea c n l fun u s2 I2 ru => thn (hv pins s2 σ H1 _ I2 q) fun w3 s3 ⟨y, H2, I3, ry, q3⟩ => thn (hop pins s3 σ H2 v y u w3 _ I3 ru ry q3) fun w4 s4 ⟨z, H3, I4, rz, dx', fs', ea', l', q4⟩ => ?_
  exact setattr_ok I4 ea' c n l' rz fun s5 I5 => ⟨σ, _, I5, q4⟩
def rAdd : V → V → Hp → VK → Prop := fun x y H Q => ∃ i j, x = .int i ∧ y = .int j ∧ Q (.int (i + j)) H
def rSub : V → V → Hp → VK → Prop := fun x y H Q => ∃ i j, x = .int i ∧ y = .int j ∧ Q (.int (i - j)) H
theorem in_add : InOp X .Add rAdd := by
  rintro pins s σ H x y u v Q I rx ry ⟨i, j, rfl, rfl, q⟩
  obtain ⟨t, rfl⟩ := (show ∃ t, u = Value.int i t from rx)
  obtain ⟨t', rfl⟩ := (show ∃ t', v = Value.int j t' from ry)
  exact PyProof.Rows.iadd_int ⟨.int (i + j), H, I.tok _, ⟨_, rfl⟩, q⟩
theorem in_sub : InOp X .Sub rSub := by
  rintro pins s σ H x y u v Q I rx ry ⟨i, j, rfl, rfl, q⟩
  obtain ⟨t, rfl⟩ := (show ∃ t, u = Value.int i t from rx)
  obtain ⟨t', rfl⟩ := (show ∃ t', v = Value.int j t' from ry)
  exact PyProof.Rows.isub_int ⟨.int (i - j), H, I.tok _, ⟨_, rfl⟩, q⟩

/-- what is between an instance and its method: the tree of a method call -/
theorem methcall_of {pl : Sem Bool} {m : Str} {apos : Pos} {args : List Expr} {pins : List (Addr × Obj)} {s : Shared} {σ : St} {H : Hp} {Q : Value → Shared → Prop} {te : TE} (he : PE X e te) (I : Inv X pins σ H s)
    (h : te σ H fun x H1 => ∃ a C dx fs g, x = .ref a ∧ H1 a = some (.ins C dx fs) ∧ Cls X.K C ∧ Meth X.K C m g ∧ fs.lookup m = none ∧
      ∀ s1, Inv X pins σ H1 s1 → wpAny (model X.prog X.w) X.A (callWith pos (.ref g) [.ref a] (backTo pos (starEach args X.env)) (backToKw pos (keywordEach [] X.env))) Q X.xe s1)
    (ht : eval (.Call (.Attribute e m apos) args [] pos) X.env = (do
      let ov ← eval e X.env
      standAt apos.atName
      let (f, first) ← holding [ov] (getMethod ov m pl)
      callWith pos f first (backTo pos (starEach args X.env)) (backToKw pos (keywordEach [] X.env)))) :
    wpAny (model X.prog X.w) X.A (eval (.Call (.Attribute e m apos) args [] pos) X.env) Q X.xe s := by
  refine PySem.W.methodCall_KW (pl := pl) (thn (he pins s σ H _ I h) fun u s1 ⟨x, H1, I1, rx, a, C, dx, fs, g, ex, ea, c, k, l, q⟩ => ?_) ht
  subst ex
  obtain rfl : u = Value.ref a := rx
  exact getmeth_ok I1 ea c k l (q s1 I1)
end

/-! ### isinstance -/
section
variable {X : Cx} {pins : List (Addr × Obj)} {σ : St} {H : Hp} {s : Shared} {A : Around} {E : Value → Shared → Prop} {Q : Value → Shared → Prop} {c : Value} {b : Bool}
/-- the type of a value, as the fragment's deciders take it; for an instance its class -/
inductive TyOf (K : PySem.W.Frag) (H : Hp) : V → Value → Prop where
  | non : TyOf K H .non (.type "NoneType")
  | bl (x : Bool) : TyOf K H (.bl x) (.type "bool")
  | int (i : Int) : TyOf K H (.int i) (.type "int")
  | str (x : Str) : TyOf K H (.str x) (.type "str")
  | flt (x : UInt64) : TyOf K H (.flt x) (.type "float")
  | lst {a : Addr} {xs : List V} (e : H a = some (.lst xs)) : TyOf K H (.ref a) (.type "list")
  | frz {a : Addr} {o : Obj} {xs : List V} (e : H a = some (.frz o (.lst xs))) : TyOf K H (.ref a) (.type "list")
  | tup {a : Addr} {xs : List V} (e : H a = some (.tup xs)) : TyOf K H (.ref a) (.type "tuple")
  | dK {a : Addr} {kvs : List (Key × V)} (e : H a = some (.dK kvs)) : TyOf K H (.ref a) (.type "dict")
  | dT {a : Addr} {kvs : List (List Key × V)} (e : H a = some (.dT kvs)) : TyOf K H (.ref a) (.type "dict")
  | ins {a C dx : Addr} {fs : List (Str × V)} (e : H a = some (.ins C dx fs)) (cl : Cls K C) (ha : PySem.W.findIn K (.ref C) "__class__" = some (some (.builtin "object.__class__")))
      (hn : PySem.W.specialIn K (.builtin "object.__class__") "__get__" = some (some (.builtin "getset_descriptor.__get__"))) (htk : PySem.W.takesIn K (.builtin "object.__class__") = some true)
      (hm : PySem.W.mroIn K C (.type "object") = some true) : TyOf K H (.ref a) (.ref C)
/-- isinstance(x, c) for one class c, a built-in or an own one: kitOne's answer -/
theorem isinst_ok {x : V} {u t : Value} (I : Inv X pins σ H s) (rx : RelV x u) (ty : TyOf X.K H x t) (e : PySem.W.kitOne X.K t c = some b) (h : ∀ tk, Q (.bool b) { s with toks := tk }) :
    wpAny (model X.prog X.w) A (call (.builtin "isinstance") [u, c]) Q E s := by
  cases ty with
  | non => cases (show u = Value.none from rx); exact PySem.W.kia_one PySem.W.kitx_none I.kIn True.intro e (fun z => nomatch z) h
  | bl y => cases (show u = Value.bool y from rx); exact PySem.W.kia_one PySem.W.kitx_bool I.kIn True.intro e (fun z => nomatch z) h
  | int i => obtain ⟨t, q⟩ := (show ∃ t, u = Value.int i t from rx); cases q; exact PySem.W.kia_one PySem.W.kitx_int I.kIn True.intro e (fun z => nomatch z) h
  | str y => obtain ⟨t, q⟩ := (show ∃ t, u = Value.str y t from rx); cases q; exact PySem.W.kia_one PySem.W.kitx_str I.kIn True.intro e (fun z => nomatch z) h
  | flt y => obtain ⟨t, q⟩ := (show ∃ t, u = Value.float y t from rx); cases q; exact PySem.W.kia_one PySem.W.kitx_float I.kIn True.intro e (fun z => nomatch z) h
  | @lst a xs ea =>
    cases (show u = Value.ref a from rx)
    obtain ⟨_, _, n, _, h1⟩ := (show ObjOk X.prog X.w H s.heap a (.lst xs) from I.hok a _ ea)
    exact PySem.W.kia_one PySem.W.kitx_list I.kIn ⟨_, h1, rfl⟩ e (fun z => nomatch z) h
  | @frz a ob xs ea =>
    cases (show u = Value.ref a from rx)
    obtain ⟨_, _, _, n, _, h1⟩ := (show ObjOk X.prog X.w H s.heap a (.frz ob (.lst xs)) from I.hok a _ ea)
    exact PySem.W.kia_one PySem.W.kitx_list I.kIn ⟨_, h1, rfl⟩ e (fun z => nomatch z) h
  | @tup a xs ea =>
    cases (show u = Value.ref a from rx)
    obtain ⟨_, _, _, p⟩ := (show ObjOk X.prog X.w H s.heap a (.tup xs) from I.hok a _ ea)
    obtain ⟨o, h1, h2, _⟩ := p
    exact PySem.W.kia_one PySem.W.kitx_tuple I.kIn ⟨o, h1, h2⟩ e (fun z => nomatch z) h
  | @dK a kvs ea =>
    cases (show u = Value.ref a from rx)
    obtain ⟨_, _, vs, _, p⟩ := (show ObjOk X.prog X.w H s.heap a (.dK kvs) from I.hok a _ ea)
    obtain ⟨o, es, ep, h1, h2, _⟩ := p
    exact PySem.W.kia_one PySem.W.kitx_dict I.kIn ⟨o, h1, h2.1⟩ e (fun z => nomatch z) h
  | @dT a kvs ea =>
    cases (show u = Value.ref a from rx)
    obtain ⟨_, _, xs, _, o, es, ep, h1, h2, _⟩ := (show ObjOk X.prog X.w H s.heap a (.dT kvs) from I.hok a _ ea)
    exact PySem.W.kia_one PySem.W.kitx_dict I.kIn ⟨o, h1, h2.1⟩ e (fun z => nomatch z) h
  | @ins a C dx fs ea cl ha hn htk hm =>
    cases (show u = Value.ref a from rx)
    obtain ⟨mA, O, _⟩ := ins_get I.hok ea
    obtain ⟨od, J, _⟩ := O.look
    exact PySem.W.kia_one (PySem.W.kitx_own (cl.get _) cl.hd ha hn htk hm) I.kIn J e (fun z => nomatch z) h
end
end L2

namespace L2
open PySem PySem.Spec PyProof.Rows

/-! ### room -/
structure Room (k : Nat) (A : Around) : Prop where
  hd : A.handled = none
  dp : A.depth + 3 * k + 5 < recursionLimit
  un : A.units + 16 * k + 200 < cLine
theorem Room.mono {j k : Nat} {A : Around} (r : Room k A) (h : j ≤ k) : Room j A := ⟨r.hd, by have := r.dp; omega, by have := r.un; omega⟩
theorem Room.deeper {k : Nat} {A : Around} (r : Room (k + 1) A) (env : Env) : Room k (A.deeper env) :=
  ⟨r.hd, by have := r.dp; show A.depth + 1 + 3 * k + 5 < _; omega, by have := r.un; show A.units + 3 + 16 * k + 200 < _; omega⟩
theorem Room.in1 {k : Nat} {A : Around} (r : Room (k + 1) A) : Room k A.in1 :=
  ⟨r.hd, by have := r.dp; show A.depth + 3 * k + 5 < _; omega, by have := r.un; show A.units + 1 + 16 * k + 200 < _; omega⟩
theorem make_depth {A : Around} {C : Addr} {us : List Value} {kw : List (Str × Value)} : (A.under (.builtin "type.__call__" ⟨.ref C :: us, kw⟩)).depth = A.depth + 1 := by
  first | rfl | simp [Around.under, Code.weight, Code.isCreation, Code.isGuard, Code.isCaller, Code.frames, Code.isFrame, guardIds]
theorem make_units {A : Around} {C : Addr} {us : List Value} {kw : List (Str × Value)} : (A.under (.builtin "type.__call__" ⟨.ref C :: us, kw⟩)).units = A.units + 1 := by
  first | rfl | simp [Around.under, Code.cUnits, Code.frames, Code.isFrame]
theorem Room.make {k : Nat} {A : Around} (r : Room (k + 1) A) (C : Addr) (us : List Value) (kw : List (Str × Value)) : Room k (A.under (.builtin "type.__call__" ⟨.ref C :: us, kw⟩)) :=
  ⟨r.hd, by have := r.dp; rw [make_depth]; omega, by have := r.un; rw [make_units]; omega⟩
theorem Room.depth {k : Nat} {A : Around} (r : Room k A) : A.depth < recursionLimit := by have := r.dp; omega
theorem Room.units {k : Nat} {A : Around} (r : Room k A) : A.units + 64 < cLine := by have := r.un; omega
theorem Room.units0 {k : Nat} {A : Around} (r : Room k A) : A.units < cLine := by have := r.un; omega

/-! ### argument lists and displays -/
def tNil : TA := fun _ H Q => Q [] H
def tCons (ta : TE) (tr : TA) : TA := fun σ H Q => ta σ H fun x H1 => tr σ H1 fun xs H2 => Q (x :: xs) H2
section
variable {X : Cx} {e : Expr} {es : List Expr} {te : TE} {t : TA} {pos : Pos}
theorem pa_nil : PA X [] tNil := fun _ _ _ _ H Q I h => Calls.spliced_nil ⟨[], H, I, .nil, h⟩
theorem pa_cons (ha : PE X e te) (hr : PA X es t) (hs : starEach (e :: es) X.env = (false, eval e X.env) :: starEach es X.env := by rfl) : PA X (e :: es) (tCons te t) := by
  intro pos pins s σ H Q I h
  rw [hs]
  show wpAny _ _ (spliced ((false, eval e X.env) :: backTo pos (starEach es X.env))) _ _ s
  refine Calls.spliced_cons (thn (ha pins s σ H _ I h) fun u s1 ⟨x, H1, I1, r1, q1⟩ => ?_)
  exact thn (hr pos pins s1 σ H1 _ I1 q1) fun us s2 ⟨xs, H2, I2, r2, q2⟩ => ⟨x :: xs, H2, I2, .cons r1 r2, q2⟩

/-- a tuple, a list of written items -/
def tTup (t : TA) : TE := fun σ H Q => t σ H fun xs H1 => xs.length ≤ sizeLine ∧ ∀ p, H1 p = none → Q (.ref p) (upd H1 p (.tup xs))
def tLst (t : TA) : TE := fun σ H Q => t σ H fun xs H1 => xs.length ≤ sizeLine ∧ ∀ p, H1 p = none → Q (.ref p) (upd H1 p (.lst xs))
theorem pe_tup {x1} (h : PA X es t) : PE X (.Tuple es x1 pos) (tTup t) := by
  intro pins s σ H Q I hq
  refine wpAny_Tuple_spliced (thn (h pos pins s σ H _ I hq) fun us s1 ⟨xs, H1, I1, r, z, q⟩ => ⟨by rw [← r.length]; exact z, ?_⟩)
  have hf : H1 s1.heap.objs.size = none := I1.hok.fresh (Nat.le_refl _)
  refine ⟨.ref s1.heap.objs.size, upd H1 s1.heap.objs.size (.tup xs), I1.laid (t' := s1.toks) (fun b u e => Heap.get?_push_of_some _ e) (Nat.le_refl _) ?_, rfl, q _ hf⟩
  exact ⟨z, us, r, ⟨_, Heap.get?_push_size _ rfl, rfl, _, rfl⟩⟩
theorem pe_lst (h : PA X es t) : PE X (.List es pos) (tLst t) := by
  intro pins s σ H Q I hq
  refine wpAny_List_spliced (thn (h pos pins s σ H _ I hq) fun us s1 ⟨xs, H1, I1, r, z, q⟩ => ⟨by rw [← r.length]; exact z, ?_⟩)
  have hf : H1 s1.heap.objs.size = none := I1.hok.fresh (Nat.le_refl _)
  refine ⟨.ref s1.heap.objs.size, upd H1 s1.heap.objs.size (.lst xs), I1.laid (t' := s1.toks) (fun b u e => Heap.get?_push_of_some _ e) (Nat.le_refl _) ?_, rfl, q _ hf⟩
  exact ⟨z, us, 0, r, Heap.get?_push_size _ rfl⟩
end

/-! ### what a def promises -/
/-- a def's promise: the bound arguments in the parameters' order, the heap, the wanted end, the wanted exception -/
abbrev Sp := List V → Hp → VK → XK → Prop
/-- how an exception lies behind a call (file 08 gives it): the callers' frames, abstract heap and state ahead of the call, the wish, the exception, the state -/
abbrev CXT := List Env → Hp → Shared → XK → Value → Shared → Prop

/-- the state at a call -/
structure Env0 (P : Program) (w : World) (K : PySem.W.Frag) (mg : Str → Option Value) (base : Heap) (A : Around) (outer : List Env) (s : Shared) (H : Hp) : Prop where
  frames : A.frames = some outer
  mod : Mod K mg base
  bs : ∀ b o, base.get? b = some o → s.heap.get? b = some o ∧ H b = none
  bsz : base.objs.size ≤ s.heap.objs.size
  funs : s.heap.FunFrames base outer
  frf : ∀ b ∈ frs outer, H b = none
  hok : HOk P w H s.heap
  bare : AllBare s.gens
/-- a call's end -/
def CE (outer : List Env) (P : Program) (w : World) (H : Hp) (s : Shared) (Q : VK) (u : Value) (s' : Shared) : Prop :=
  ∃ v H', s'.os = s.os ∧ AllBare s'.gens ∧ Un (frs outer) [] H H' s.heap s'.heap ∧ HOk P w H' s'.heap ∧ RelV v u ∧ Q v H'
def CR (CX : CXT) (outer : List Env) (P : Program) (w : World) (H : Hp) (s : Shared) (Q : VK) (E : XK) (r : Result) (s' : Shared) : Prop :=
  match r with
  | .ok (.ret u) => CE outer P w H s Q u s'
  | .ok _ => False
  | .error e => CX outer H s E e s'
structure FnOk (P : Program) (w : World) (K : PySem.W.Frag) (mg : Str → Option Value) (base : Heap) (CX : CXT) (k : Nat) (f : Addr) (fd : FuncData) (ps : List Str) (sp : Sp) : Prop where
  len : ∀ vs H Q E, sp vs H Q E → vs.length = ps.length
  run : ∀ (A : Around) (outer : List Env) (s : Shared) (H : Hp) (args : Args) (us : List Value) (vs : List V) (Q : VK) (E : XK), Room k A → Env0 P w K mg base A outer s H → BindsTo s fd args (ps.zip us) → Vals vs us → sp vs H Q E →
    codeAny (model P w) A (.call (.ref f) args) (CR CX outer P w H s Q E) s
theorem FnOk.mono {P : Program} {w : World} {K : PySem.W.Frag} {mg : Str → Option Value} {base : Heap} {CX : CXT} {j k : Nat} {f : Addr} {fd : FuncData} {ps : List Str} {sp : Sp} (F : FnOk P w K mg base CX j f fd ps sp) (h : j ≤ k) :
    FnOk P w K mg base CX k f fd ps sp := ⟨F.len, fun A outer s H args us vs Q E hr => F.run A outer s H args us vs Q E (hr.mono h)⟩
/-- a weaker promise -/
theorem FnOk.imp {P : Program} {w : World} {K : PySem.W.Frag} {mg : Str → Option Value} {base : Heap} {CX : CXT} {k : Nat} {f : Addr} {fd : FuncData} {ps : List Str} {sp sp' : Sp} (F : FnOk P w K mg base CX k f fd ps sp)
    (h : ∀ vs H Q E, sp' vs H Q E → sp vs H Q E) : FnOk P w K mg base CX k f fd ps sp' :=
  ⟨fun vs H Q E q => F.len vs H Q E (h _ _ _ _ q), fun A outer s H args us vs Q E hr he hb hv hs => F.run A outer s H args us vs Q E hr he hb hv (h _ _ _ _ hs)⟩

theorem Env0.make {P : Program} {w : World} {K : PySem.W.Frag} {mg : Str → Option Value} {base : Heap} {A : Around} {outer : List Env} {s : Shared} {H : Hp} (e : Env0 P w K mg base A outer s H) (C : Addr) (us : List Value) (kw : List (Str × Value)) :
    Env0 P w K mg base (A.under (.builtin "type.__call__" ⟨.ref C :: us, kw⟩)) outer s H := ⟨by first | exact e.frames | (simpa [Around.under, Code.envs, Code.isFrame, pushEnvs] using e.frames), e.mod, e.bs, e.bsz, e.funs, e.frf, e.hok, e.bare⟩
theorem Env0.in1 {P : Program} {w : World} {K : PySem.W.Frag} {mg : Str → Option Value} {base : Heap} {A : Around} {outer : List Env} {s : Shared} {H : Hp} (e : Env0 P w K mg base A outer s H) :
    Env0 P w K mg base A.in1 outer s H := ⟨e.frames, e.mod, e.bs, e.bsz, e.funs, e.frf, e.hok, e.bare⟩

section
variable {X : Cx} {pins : List (Addr × Obj)} {σ : St} {H : Hp} {s s' : Shared}
/-- from a body: what a callee wants -/
theorem Inv.env0 (I : Inv X pins σ H s) : Env0 X.prog X.w X.K X.mg X.base X.A X.stack s H :=
  ⟨I.ok.frames, I.ok.mod, I.bs, Nat.le_trans I.ok.bsz I.sz, I.stack, I.stkFree, I.hok, I.bare⟩
/-- behind a call -/
theorem Inv.after {Q : VK} {u : Value} (I : Inv X pins σ H s) (h : CE X.stack X.prog X.w H s Q u s') : EP X pins σ Q u s' := by
  obtain ⟨v, H', os, bare, un, hok, r, q⟩ := h
  obtain ⟨hh, g, d, t, os'⟩ := s'
  obtain rfl : os' = s.os := os
  exact ⟨v, H', I.call (h' := hh) (g' := g) (d' := d) (t' := t) (ch := []) un hok bare (fun b z => absurd z (by simp)), r, q⟩
end

/-! ### calls -/
/-- f(..): the written arguments, then the defaults dvs; E: what is wanted of an exception -/
def tCall (sp : Sp) (dvs : List V) (E : XK) (t : TA) : TE := fun σ H Q => t σ H fun vs H1 => sp (vs ++ dvs) H1 Q E
/-- o.m(..) of an instance of the class at C -/
def tMeth (C : Addr) (m : Str) (sp : Sp) (dvs : List V) (E : XK) (ta : TE) (t : TA) : TE := fun σ H Q => ta σ H fun x H1 => ∃ a dx fs, x = .ref a ∧ H1 a = some (.ins C dx fs) ∧ fs.lookup m = none ∧
  t σ H1 fun vs H2 => sp (x :: (vs ++ dvs)) H2 Q E
/-- C(..): a new instance and its dict, then __init__ -/
def tMake (C : Addr) (sp : Sp) (dvs : List V) (E : XK) (t : TA) : TE := fun σ H Q => t σ H fun vs H1 => ∀ x dx, H1 x = none → H1 dx = none → dx ≠ x →
  sp (.ref x :: (vs ++ dvs)) (upd (upd H1 dx (.own x)) x (.ins C dx [])) (fun v H2 => v = .non ∧ Q (.ref x) H2) E

/-- how the parameters are bound: us the positional arguments, kw the keywords' values by name, ds the defaults that fill up -/
def Binds (K : PySem.W.Frag) (fd : FuncData) (ps : List Str) (ds : List Value) : Prop :=
  ∀ (s : Shared) (us : List Value), K.In s.heap → (us ++ ds).length = ps.length → BindsTo s fd ⟨us, []⟩ (ps.zip (us ++ ds))
/-- every parameter is given -/
theorem Binds.all {K : PySem.W.Frag} {fd : FuncData} {ps : List Str} (h : ∀ us : List Value, us.length = ps.length → bindArgs fd ⟨us, []⟩ = pure (ps.zip us)) : Binds K fd ps [] := fun s us _ hl => by
  rw [List.append_nil] at hl ⊢
  exact .of_eq (h us hl)

/-- an exception of a callee reaches what this body wants of exceptions -/
def Passes (CX : CXT) (X : Cx) (E : XK) : Prop := ∀ (pins : List (Addr × Obj)) (σ : St) (H : Hp) (s : Shared) (e : Value) (s' : Shared), Inv X pins σ H s → CX X.stack H s E e s' → X.xe e s'

section
variable {X : Cx} {CX : CXT} {k : Nat} {f C : Addr} {fd : FuncData} {ps : List Str} {sp : Sp} {dvs : List V} {ds : List Value} {E : XK} {x m : Str} {p pos apos : Pos} {e o : Expr} {es : List Expr} {ta : TE} {t : TA}

/-- the callee runs -/
theorem run_fn {pins : List (Addr × Obj)} {σ : St} {H : Hp} {s : Shared} {Q : VK} {us : List Value} {vs : List V} (F : FnOk X.prog X.w X.K X.mg X.base CX k f fd ps sp) (hr : Room k X.A) (hb : Binds X.K fd ps ds) (hd : Vals dvs ds) (hx : Passes CX X E)
    (I : Inv X pins σ H s) (r : Vals vs us) (h : sp (vs ++ dvs) H Q E) : wpAny (model X.prog X.w) X.A (call (.ref f) us) (EP X pins σ Q) X.xe s := by
  have r2 : Vals (vs ++ dvs) (us ++ ds) := r.append hd
  have hl : (us ++ ds).length = ps.length := by rw [← r2.length]; exact F.len _ _ _ _ h
  refine wpAny_call (codeAny_mono (F.run X.A X.stack s H ⟨us, []⟩ (us ++ ds) (vs ++ dvs) Q E hr I.env0 (hb s us I.kIn hl) r2 h) fun r s' hq => ?_)
  cases r with
  | error e => exact hx pins σ H s e s' I hq
  | ok fl =>
    cases fl with
    | ret u => exact I.after hq
    | next => exact False.elim hq
    | brk => exact False.elim hq
    | cont => exact False.elim hq

theorem pe_call (F : FnOk X.prog X.w X.K X.mg X.base CX k f fd ps sp) (hr : Room k X.A) (hg : Gl X x) (hm : X.mg x = some (.ref f)) (hk : PySem.W.keepIn X.K (.ref f) = true) (hb : Binds X.K fd ps ds) (hd : Vals dvs ds) (hx : Passes CX X E)
    (ha : PA X (e :: es) t) (hdb : (x == ("__debug__" : Str)) = false := by decide) (he : starEach (e :: es) X.env = (false, eval e X.env) :: starEach es X.env := by rfl) (hpl : (backTo pos (starEach es X.env)).any (·.1) = false := by rfl) :
    PE X (.Call (.Name x p) (e :: es) [] pos) (tCall sp dvs E t) := by
  intro pins s σ H Q I h
  refine wpAny_Call_Name_kw (ld_glob I hg hm ?_ hdb)
  refine PySem.W.callWith_K (h₀ := X.base) I.ok.mod.kin hk (thn (ha pos pins s σ H _ I h) fun us s1 ⟨vs, H1, I1, r, q⟩ => ⟨I1.kIn, ?_⟩) he hpl
  exact run_fn F hr hb hd hx I1 r q
theorem pe_call0 (F : FnOk X.prog X.w X.K X.mg X.base CX k f fd ps sp) (hr : Room k X.A) (hg : Gl X x) (hm : X.mg x = some (.ref f)) (hk : PySem.W.keepIn X.K (.ref f) = true) (hb : Binds X.K fd ps ds) (hd : Vals dvs ds) (hx : Passes CX X E)
    (hdb : (x == ("__debug__" : Str)) = false := by decide) : PE X (.Call (.Name x p) [] [] pos) (tCall sp dvs E tNil) := by
  intro pins s σ H Q I h
  refine wpAny_Call_Name_kw (ld_glob I hg hm ?_ hdb)
  exact PySem.W.callWith_K0 I.kIn hk (run_fn (us := []) F hr hb hd hx I .nil h)

/-- o.m(e, ..) -/
theorem pe_meth {pl : Sem Bool} (he : PE X o ta) (c : Cls X.K C) (hm : Meth X.K C m f) (F : FnOk X.prog X.w X.K X.mg X.base CX k f fd ps sp) (hr : Room k X.A) (hb : Binds X.K fd ps ds) (hd : Vals dvs ds) (hx : Passes CX X E) (ha : PA X (e :: es) t)
    (hst : starEach (e :: es) X.env = (false, eval e X.env) :: starEach es X.env := by rfl) (hpl : (backTo pos (starEach es X.env)).any (·.1) = false := by rfl)
    (ht : eval (.Call (.Attribute o m apos) (e :: es) [] pos) X.env = (do
      let ov ← eval o X.env
      standAt apos.atName
      let (f, first) ← holding [ov] (getMethod ov m pl)
      callWith pos f first (backTo pos (starEach (e :: es) X.env)) (backToKw pos (keywordEach [] X.env))) := by rfl) :
    PE X (.Call (.Attribute o m apos) (e :: es) [] pos) (tMeth C m sp dvs E ta t) := by
  intro pins s σ H Q I h
  refine PySem.W.methodCall_KW (pl := pl) (thn (he pins s σ H _ I h) fun u s1 ⟨x, H1, I1, rx, a, dx, fs, ex, ea, l, q⟩ => ?_) ht
  subst ex
  obtain rfl : u = Value.ref a := rx
  refine getmeth_ok I1 ea c hm l ?_
  refine PySem.W.callWith_K (first := [.ref a]) (h₀ := X.base) I.ok.mod.kin hm.kp (thn (ha pos pins s1 σ H1 _ I1 q) fun us s2 ⟨vs, H2, I2, r, q2⟩ => ⟨I2.kIn, ?_⟩) hst hpl
  exact run_fn (us := .ref a :: us) (vs := .ref a :: vs) F hr hb hd hx I2 (.cons rfl r) q2
/-- o.m() -/
theorem pe_meth0 {pl : Sem Bool} (he : PE X o ta) (c : Cls X.K C) (hm : Meth X.K C m f) (F : FnOk X.prog X.w X.K X.mg X.base CX k f fd ps sp) (hr : Room k X.A) (hb : Binds X.K fd ps ds) (hd : Vals dvs ds) (hx : Passes CX X E)
    (ht : eval (.Call (.Attribute o m apos) [] [] pos) X.env = (do
      let ov ← eval o X.env
      standAt apos.atName
      let (f, first) ← holding [ov] (getMethod ov m pl)
      callWith pos f first (backTo pos (starEach [] X.env)) (backToKw pos (keywordEach [] X.env))) := by rfl) :
    PE X (.Call (.Attribute o m apos) [] [] pos) (tMeth C m sp dvs E ta tNil) := by
  intro pins s σ H Q I h
  refine PySem.W.methodCall_KW (pl := pl) (thn (he pins s σ H _ I h) fun u s1 ⟨x, H1, I1, rx, a, dx, fs, ex, ea, l, q⟩ => ?_) ht
  subst ex
  obtain rfl : u = Value.ref a := rx
  refine getmeth_ok I1 ea c hm l ?_
  exact PySem.W.callWith_K0 (first := [.ref a]) I1.kIn hm.kp (run_fn (us := [.ref a]) (vs := [.ref a]) F hr hb hd hx I1 (.cons rfl .nil) q)

/-- what a class must have to be made -/
structure Mk (K : PySem.W.Frag) (C f : Addr) : Prop where
  makes : PySem.W.makesIn K C = true
  init : PySem.W.findIn K (.ref C) "__init__" = some (some (.ref f))
  fn : PySem.W.isFn K (.ref f) = true
  kp : PySem.W.keepIn K (.ref C) = true

theorem run_make {pins : List (Addr × Obj)} {σ : St} {H : Hp} {s : Shared} {Q : VK} {us : List Value} {vs : List V} (M : Mk X.K C f) (F : FnOk X.prog X.w X.K X.mg X.base CX k f fd ps sp) (hr : Room (k + 1) X.A) (hb : Binds X.K fd ps ds) (hd : Vals dvs ds)
    (hx : Passes CX X E) (I : Inv X pins σ H s) (r : Vals vs us)
    (h : ∀ x dx, H x = none → H dx = none → dx ≠ x → sp (.ref x :: (vs ++ dvs)) (upd (upd H dx (.own x)) x (.ins C dx [])) (fun v H2 => v = .non ∧ Q (.ref x) H2) E) :
    wpAny (model X.prog X.w) X.A (call (.ref C) us) (EP X pins σ Q) X.xe s := by
  have hq := h (s.heap.objs.size + 1) s.heap.objs.size (I.hok.fresh (Nat.le_succ _)) (I.hok.fresh (Nat.le_refl _)) (Nat.ne_of_lt (Nat.lt_succ_self _))
  have I2 := Inv.made (C := C) I
  have r2 : Vals (V.ref (s.heap.objs.size + 1) :: (vs ++ dvs)) (Value.ref (s.heap.objs.size + 1) :: (us ++ ds)) := .cons rfl (r.append hd)
  have hl : (Value.ref (s.heap.objs.size + 1) :: us ++ ds).length = ps.length := by
    have e := r2.length
    rw [F.len _ _ _ _ hq] at e
    exact e.symm
  refine wpAny_call (make_map (f := f) I.kIn M.makes M.init (beq_iff_eq.mp M.fn) (codeAny_mono (F.run _ X.stack _ _ ⟨Value.ref (s.heap.objs.size + 1) :: us, []⟩ (Value.ref (s.heap.objs.size + 1) :: (us ++ ds)) _ _ E (hr.make C us [])
    (I2.env0.make C us []) (hb _ (Value.ref (s.heap.objs.size + 1) :: us) I2.kIn hl) r2 hq) fun r s' hq' => ?_))
  cases r with
  | error e => exact hx pins σ _ _ e s' I2 hq'
  | ok fl =>
    cases fl with
    | ret u =>
      obtain ⟨v, H', I3, rv, ev, q3⟩ := I2.after hq'
      subst ev
      exact ⟨rv, ⟨V.ref (s.heap.objs.size + 1), H', I3, rfl, q3⟩⟩
    | next => exact False.elim hq'
    | brk => exact False.elim hq'
    | cont => exact False.elim hq'
theorem pe_make (M : Mk X.K C f) (F : FnOk X.prog X.w X.K X.mg X.base CX k f fd ps sp) (hr : Room (k + 1) X.A) (hg : Gl X x) (hm : X.mg x = some (.ref C)) (hb : Binds X.K fd ps ds) (hd : Vals dvs ds) (hx : Passes CX X E)
    (ha : PA X (e :: es) t) (hdb : (x == ("__debug__" : Str)) = false := by decide) (he : starEach (e :: es) X.env = (false, eval e X.env) :: starEach es X.env := by rfl) (hpl : (backTo pos (starEach es X.env)).any (·.1) = false := by rfl) :
    PE X (.Call (.Name x p) (e :: es) [] pos) (tMake C sp dvs E t) := by
  intro pins s σ H Q I h
  refine wpAny_Call_Name_kw (ld_glob I hg hm ?_ hdb)
  refine PySem.W.callWith_K (h₀ := X.base) I.ok.mod.kin M.kp (thn (ha pos pins s σ H _ I h) fun us s1 ⟨vs, H1, I1, r, q⟩ => ⟨I1.kIn, ?_⟩) he hpl
  exact run_make M F hr hb hd hx I1 r q
theorem pe_make0 (M : Mk X.K C f) (F : FnOk X.prog X.w X.K X.mg X.base CX k f fd ps sp) (hr : Room (k + 1) X.A) (hg : Gl X x) (hm : X.mg x = some (.ref C)) (hb : Binds X.K fd ps ds) (hd : Vals dvs ds) (hx : Passes CX X E)
    (hdb : (x == ("__debug__" : Str)) = false := by decide) : PE X (.Call (.Name x p) [] [] pos) (tMake C sp dvs E tNil) := by
  intro pins s σ H Q I h
  refine wpAny_Call_Name_kw (ld_glob I hg hm ?_ hdb)
  exact PySem.W.callWith_K0 I.kIn M.kp (run_make (us := []) M F hr hb hd hx I .nil h)
end

/-! ### keywords -/
/-- the values of the keywords, from the left -/
def PK (X : Cx) (kws : List Keyword) (t : TA) : Prop :=
  ∀ (pos : Pos) (pins : List (Addr × Obj)) (s : Shared) (σ : St) (H : Hp) (Q : List V → Hp → Prop), Inv X pins σ H s → t σ H Q → wpAny (model X.prog X.w) X.A (evalAll ((backToKw pos (keywordEach kws X.env)).map (·.2))) (AP X pins σ Q) X.xe s
section
variable {X : Cx} {CX : CXT} {k : Nat} {f C : Addr} {fd : FuncData} {ps ks : List Str} {sp : Sp} {E : XK} {x m : Str} {p pos apos kpos : Pos} {e o : Expr} {es : List Expr} {kws : List Keyword} {te ta : TE} {t tk : TA} {nm : Option Str}
theorem pk_nil : PK X [] tNil := fun _ _ _ _ H Q I h => wpAny_evalAll_nil ⟨[], H, I, .nil, h⟩
theorem pk_cons (ha : PE X e te) (hr : PK X kws t) : PK X (⟨nm, e, kpos⟩ :: kws) (tCons te t) := by
  intro pos pins s σ H Q I h
  show wpAny _ _ (evalAll ((do let v ← eval e X.env; standAt pos; pure v) :: (backToKw pos (keywordEach kws X.env)).map (·.2))) _ _ s
  refine wpAny_evalAll_cons (wpAny_bind (thn (ha pins s σ H _ I h) fun u s1 ⟨x, H1, I1, r1, q1⟩ => wpAny_bind (wpAny_standAt (wpAny_pure ?_))))
  exact thn (hr pos pins s1 σ H1 _ I1 q1) fun us s2 ⟨xs, H2, I2, r2, q2⟩ => ⟨x :: xs, H2, I2, .cons r1 r2, q2⟩

/-- how a call with keywords binds: g puts the positional values us and the keywords' values ws (names ks) in the parameters' order, defaults among them -/
structure KBinds (K : PySem.W.Frag) (fd : FuncData) (ps ks : List Str) (g : List Value → List Value → List Value) (gV : List V → List V → List V) : Prop where
  to : ∀ (s : Shared) (us ws : List Value), K.In s.heap → (g us ws).length = ps.length → BindsTo s fd ⟨us, ks.zip ws⟩ (ps.zip (g us ws))
  rel : ∀ {vs : List V} {us : List Value} {zs : List V} {ws : List Value}, Vals vs us → Vals zs ws → Vals (gV vs zs) (g us ws)
def tCallK (sp : Sp) (gV : List V → List V → List V) (E : XK) (t tk : TA) : TE := fun σ H Q => t σ H fun vs H1 => tk σ H1 fun zs H2 => sp (gV vs zs) H2 Q E
variable {g : List Value → List Value → List Value} {gV : List V → List V → List V}
theorem run_fnk {pins : List (Addr × Obj)} {σ : St} {H : Hp} {s : Shared} {Q : VK} {us ws : List Value} {vs zs : List V} (F : FnOk X.prog X.w X.K X.mg X.base CX k f fd ps sp) (hr : Room k X.A) (hb : KBinds X.K fd ps ks g gV) (hx : Passes CX X E)
    (I : Inv X pins σ H s) (r : Vals vs us) (rz : Vals zs ws) (h : sp (gV vs zs) H Q E) : wpAny (model X.prog X.w) X.A (call (.ref f) us (ks.zip ws)) (EP X pins σ Q) X.xe s := by
  have r2 := hb.rel r rz
  have hl : (g us ws).length = ps.length := by rw [← r2.length]; exact F.len _ _ _ _ h
  refine wpAny_call (codeAny_mono (F.run X.A X.stack s H ⟨us, ks.zip ws⟩ (g us ws) (gV vs zs) Q E hr I.env0 (hb.to s us ws I.kIn hl) r2 h) fun r s' hq => ?_)
  cases r with
  | error e => exact hx pins σ H s e s' I hq
  | ok fl =>
    cases fl with
    | ret u => exact I.after hq
    | next => exact False.elim hq
    | brk => exact False.elim hq
    | cont => exact False.elim hq
/-- f(e, .., k = v, ..) -/
theorem pe_callK (F : FnOk X.prog X.w X.K X.mg X.base CX k f fd ps sp) (hr : Room k X.A) (hg : Gl X x) (hm : X.mg x = some (.ref f)) (hk : PySem.W.keepIn X.K (.ref f) = true) (hb : KBinds X.K fd ps ks g gV) (hx : Passes CX X E)
    (ha : PA X (e :: es) t) (hkw : PK X kws tk) (hall : (backToKw pos (keywordEach kws X.env)).all (·.1.isSome) = true := by rfl) (hks : (backToKw pos (keywordEach kws X.env)).filterMap (·.1) = ks := by rfl)
    (hdb : (x == ("__debug__" : Str)) = false := by decide) (he : starEach (e :: es) X.env = (false, eval e X.env) :: starEach es X.env := by rfl)
    (hpl : ((backTo pos (starEach (e :: es) X.env)).any (·.1) || (backToKw pos (keywordEach kws X.env)).any (·.1.isNone)) = false := by rfl) :
    PE X (.Call (.Name x p) (e :: es) kws pos) (tCallK sp gV E t tk) := by
  intro pins s σ H Q I h
  refine wpAny_Call_Name_kw (ld_glob I hg hm ?_ hdb)
  refine PySem.W.callWith_KW (h₀ := X.base) I.ok.mod.kin hk hall (thn (ha pos pins s σ H _ I h) fun us s1 ⟨vs, H1, I1, r, q⟩ => ?_) hpl he
  refine thn (hkw pos pins s1 σ H1 _ I1 q) fun ws s2 ⟨zs, H2, I2, rz, q2⟩ => ⟨I2.kIn, ?_⟩
  rw [hks]
  exact run_fnk F hr hb hx I2 r rz q2
end

/-! ### a def's body keeps its promise -/
/-- names: the parameters first -/
structure FnScope (N P : List Str) (sc : Scope) : Prop where
  kind : sc.kind = .function
  co : sc.isCoroutine = false
  gen : sc.isGenerator = false
  nd : N.Nodup
  pre : N.take P.length = P
  par : ∀ x ∈ P, sc.names.lookup x = some .local ∨ sc.names.lookup x = some .cell
  nofree : ∀ y ∈ sc.names, y.2 ≠ .free

theorem bindL_out {kindOf : Str → Option NameKind} {x : Str} : ∀ {binds : List (Str × Value)} {m : Str → Option Value}, (∀ v, (x, v) ∉ binds) → bindL kindOf binds m x = m x
  | [], _, _ => rfl
  | (n, v) :: r, m, h => by
    unfold bindL
    rw [bindL_out fun w hw => h w (List.mem_cons_of_mem _ hw)]
    split
    · have : x ≠ n := by rintro rfl; exact h v List.mem_cons_self
      simp [this]
    · rfl
theorem bindC_out {kindOf : Str → Option NameKind} {x : Str} : ∀ {binds : List (Str × Value)} {m : Str → Option Value}, (∀ v, (x, v) ∉ binds) → bindC kindOf binds m x = m x
  | [], _, _ => rfl
  | (n, v) :: r, m, h => by
    unfold bindC
    rw [bindC_out fun w hw => h w (List.mem_cons_of_mem _ hw)]
    split
    · rfl
    · have : x ≠ n := by rintro rfl; exact h v List.mem_cons_self
      simp [this]
theorem bindL_get {kindOf : Str → Option NameKind} {x : Str} {v : Value} : ∀ {P : List Str} {vs : List Value} {i : Nat} {m : Str → Option Value}, P.Nodup → P[i]? = some x → vs[i]? = some v → kindOf x = some .local →
    bindL kindOf (P.zip vs) m x = some v
  | [], _, _, _, _, h, _, _ => by simp at h
  | _ :: _, [], _, _, _, _, h, _ => by simp at h
  | p :: P, w :: vs, 0, m, nd, h1, h2, hk => by
    simp at h1 h2; subst h1; subst h2
    show bindL kindOf ((p, w) :: P.zip vs) m p = _
    unfold bindL
    rw [bindL_out fun v hv => (List.nodup_cons.mp nd).1 (List.of_mem_zip hv).1, if_pos hk]
    simp
  | p :: P, w :: vs, i + 1, m, nd, h1, h2, hk => by
    show bindL kindOf ((p, w) :: P.zip vs) m x = _
    unfold bindL
    exact bindL_get (i := i) (List.nodup_cons.mp nd).2 (by simpa using h1) (by simpa using h2) hk
theorem bindC_get {kindOf : Str → Option NameKind} {x : Str} {v : Value} : ∀ {P : List Str} {vs : List Value} {i : Nat} {m : Str → Option Value}, P.Nodup → P[i]? = some x → vs[i]? = some v → kindOf x ≠ some .local →
    bindC kindOf (P.zip vs) m x = some v
  | [], _, _, _, _, h, _, _ => by simp at h
  | _ :: _, [], _, _, _, _, h, _ => by simp at h
  | p :: P, w :: vs, 0, m, nd, h1, h2, hk => by
    simp at h1 h2; subst h1; subst h2
    show bindC kindOf ((p, w) :: P.zip vs) m p = _
    unfold bindC
    rw [bindC_out fun v hv => (List.nodup_cons.mp nd).1 (List.of_mem_zip hv).1, if_neg hk]
    simp
  | p :: P, w :: vs, i + 1, m, nd, h1, h2, hk => by
    show bindC kindOf ((p, w) :: P.zip vs) m x = _
    unfold bindC
    exact bindC_get (i := i) (List.nodup_cons.mp nd).2 (by simpa using h1) (by simpa using h2) hk

/-- the names' values at the entry -/
def start (N : List Str) (vs : List V) : St := vs.map some ++ List.replicate (N.length - vs.length) none

/-- the context of a def's body, at its entry; an exception leaves the frame, then lies as CX says -/
def cxOf (CX : CXT) (P : Program) (w : World) (K : PySem.W.Frag) (mg : Str → Option Value) (base : Heap) (N : List Str) (qual : Str) (scope : Scope) (f : Addr) (cd : Value) (A : Around) (outer : List Env) (s : Shared) (H : Hp) (E : XK) : Cx where
  prog := P
  w := w
  K := K
  mg := mg
  base := base
  A := A.deeper (envOfC qual scope s.heap.objs.size f cd)
  N := N
  s₀ := s
  H₀ := H
  env := envOfC qual scope s.heap.objs.size f cd
  outer := outer
  stack := envOfC qual scope s.heap.objs.size f cd :: outer
  ex := []
  calm := true
  fn := fun _ => true
  pn := []
  xe := fun e s' => wpAny (model P w) (A.deeper (envOfC qual scope s.heap.objs.size f cd)) (leaving (envOfC qual scope s.heap.objs.size f cd) e) (fun _ s'' => CX outer H s E e s'') (fun e' s'' => CX outer H s E e' s'') s'

theorem cell_has {sc : Scope} {n : Nat} {x : Str} (h : sc.names.lookup x = some .cell) : ∃ c, (cellsFrom n sc.names []).lookup x = some c := by
  have q := PySem.W.cellsFrom_some sc.names n [] (.inl h)
  exact Option.isSome_iff_exists.mp q

theorem inv_start {CX : CXT} {P : Program} {w : World} {K : PySem.W.Frag} {mg : Str → Option Value} {base : Heap} {N ps : List Str} {qual : Str} {scope : Scope} {f : Addr} {cd : Value} {A : Around} {outer : List Env} {s s1 : Shared} {H : Hp} {E : XK} {us : List Value} {vs : List V}
    (S : FnScope N ps scope) (hd : A.handled = none) (e0 : Env0 P w K mg base A outer s H) (hl : vs.length = ps.length) (r : Vals vs us)
    (x : InCallC s s.heap.objs.size (bindL (envOfC qual scope s.heap.objs.size f cd).kindOf (ps.zip us) fun _ => none) (cellsFrom (s.heap.objs.size + 1) scope.names []) (bindC (envOfC qual scope s.heap.objs.size f cd).kindOf (ps.zip us) fun _ => none) s1) :
    Inv (cxOf CX P w K mg base N qual scope f cd A outer s H E) [] (start N vs) H s1 := by
  have hpl : ps.length ≤ N.length := by have := congrArg List.length S.pre; rw [List.length_take] at this; omega
  obtain ⟨h1, tk, rfl, hk⟩ := x.done
  have noA : ∀ b : Addr, b ∉ (cxOf CX P w K mg base N qual scope f cd A outer s H E).ex := fun b z => absurd (show b ∈ ([] : List Addr) from z) (by simp)
  refine ⟨⟨e0.mod, S.kind, rfl, rfl, Nat.le_refl _, fun y z c h1 h2 => ?_, fun y hy => ?_, fun y c _ h => ?_, fun _ => hd, Around.frames_deeper e0.frames, .inr ⟨rfl, rfl⟩, fun b z => absurd z (noA b), e0.bs, e0.bsz, fun b _ _ => noA b, fun b z => absurd z (noA b), e0.funs, e0.frf⟩,
    rfl, e0.bare, Un.kept hk, ⟨_, x.toInCall.ns, fun i y v h1 h2 h3 => ?_⟩, fun y c h => ⟨_, x.cell y c h⟩, e0.hok.fresh (Nat.le_refl _), fun y c h => ?_, fun p hp => absurd (show p ∈ ([] : List (Addr × Obj)) from hp) (by simp), e0.hok.kept hk, ?_⟩
  · exact name_of_addr x.apart (PySem.mem_of_lookup h1) (PySem.mem_of_lookup h2)
  · have hy : scope.names.lookup y = some .cell ∨ scope.names.lookup y = some .free := hy
    rcases hy with hy | hy
    · exact cell_has hy
    · exact absurd rfl (S.nofree _ (PySem.mem_of_lookup hy))
  · exact Nat.le_of_lt (x.above y c (PySem.mem_of_lookup h))
  · have hi : i < vs.length := by
      unfold start at h2
      by_cases hi : i < vs.length
      · exact hi
      · rw [List.getElem?_append_right (by simpa using hi)] at h2
        rw [List.getElem?_replicate] at h2
        split at h2 <;> cases h2
    have ha : vs[i]? = some v := by
      unfold start at h2
      rw [List.getElem?_append_left (by simpa using hi), List.getElem?_map] at h2
      cases e : vs[i]? with
      | none => rw [e] at h2; cases h2
      | some a => rw [e] at h2; cases h2; rfl
    obtain ⟨u, hu, rv⟩ := r.get ha
    have hp : ps[i]? = some y := by
      rw [← S.pre, List.getElem?_take_of_lt (by omega)]; exact h1
    have ndP : ps.Nodup := by rw [← S.pre]; exact S.nd.sublist (List.take_sublist _ _)
    refine ⟨u, rv, ?_⟩
    rcases S.par y (List.mem_of_getElem? hp) with k | k
    · exact .inl ⟨k, bindL_get ndP hp hu k⟩
    · obtain ⟨c, e⟩ := cell_has (n := s.heap.objs.size + 1) k
      refine .inr ⟨.inl k, c, e, ?_⟩
      have q := x.cell y c e
      rw [bindC_get ndP hp hu (by show scope.names.lookup y ≠ _; rw [k]; decide)] at q
      exact q
  · exact e0.hok.fresh (Nat.le_of_lt (x.above y c (PySem.mem_of_lookup h)))
  · unfold start
    show _ = N.length
    rw [List.length_append, List.length_map, List.length_replicate]
    omega

/-- THE RULE: a def (or a method) of the text, by its body. The body's reading t is chosen for each entry; it is run at the parameters' values -/
theorem fn_of {CX : CXT} {P : Program} {w : World} {K : PySem.W.Frag} {mg : Str → Option Value} {base : Heap} {k : Nat} {f : Addr} {name qual : Str} {params : Arguments} {body : List Stmt} {scope : Scope} {dV kV doc pm cdv ct oc : Value} {an od : Option Addr}
    {osl : Array (Option Value)} {N ps : List Str} {sp : Sp} (lk : K.lookup f = some ⟨oc, od, .func (PySem.W.fnOf name qual params body scope dV kV doc pm an cdv ct), osl⟩) (hcd : PySem.W.codeIn K cdv qual = true) (S : FnScope N ps scope)
    (len : ∀ vs H Q E, sp vs H Q E → vs.length = ps.length)
    (hbody : ∀ (A : Around) (outer : List Env) (s : Shared) (H : Hp) (vs : List V) (Q : VK) (E : XK), Room k (A.deeper (envOfC qual scope s.heap.objs.size f cdv)) → sp vs H Q E →
      ∃ t, PSs (cxOf CX P w K mg base N qual scope f cdv A outer s H E) body t ∧ t { nx := fun _ H' => Q .non H', rt := Q } (start N vs) H) :
    FnOk P w K mg base CX (k + 1) f (PySem.W.fnOf name qual params body scope dV kV doc pm an cdv ct) ps sp := by
  refine ⟨len, fun A outer s H args us vs Q E hr e0 hb r hsp => ?_⟩
  have hl := len _ _ _ _ hsp
  have KX : K.In s.heap := e0.mod.kin.keeps fun b o e => (e0.bs b o e).1
  have lim : s.heap.NoLimit := e0.mod.nolimit.keeps fun b o e => (e0.bs b o e).1
  have hkind : ∀ y ∈ ps.zip us, scope.names.lookup y.1 = some .local ∨ (scope.names.lookup y.1 = some .cell ∧ ((cellsFrom (s.heap.objs.size + 1) scope.names []).lookup y.1).isSome = true) := fun ⟨n, v⟩ hy => by
    rcases S.par n (List.of_mem_zip hy).1 with q | q
    · exact .inl q
    · exact .inr ⟨q, PySem.W.cellsFrom_some _ _ _ (.inl q)⟩
  refine codeAny_call_function hr.depth (KX _ _ lk) rfl S.co S.gen rfl (PySem.W.codeRec_of KX hcd) (hb _ _ _ _ ?_)
  refine wpAny_newFunctionEnv_cells S.kind hkind fun env he s1 x => ?_
  subst he
  refine ⟨lim.keeps x.toInCall.keep, codeAny_func ?_⟩
  obtain ⟨t, ht, hq⟩ := hbody A outer s H vs Q E (hr.deeper _) hsp
  have I : Inv (cxOf CX P w K mg base N qual scope f cdv A outer s H E) [] (start N vs) H s1 := inv_start S hr.hd e0 hl r x
  refine wpAny_mono (ht [] s1 (start N vs) H _ I hq) (fun fl s' hs => ?_) fun e s' hs => hs
  have fin : ∀ {σ' : St} {H' : Hp} {v : V} {u : Value}, Inv (cxOf CX P w K mg base N qual scope f cdv A outer s H E) [] σ' H' s' → RelV v u → Q v H' → CE outer P w H s Q u s' :=
    fun {σ' H' v u} J rv q => ⟨v, H', J.os, J.bare, J.base, J.hok, rv, q⟩
  cases fl with
  | ret u =>
    obtain ⟨v, σ', H', J, rv, q⟩ := hs
    exact fin J rv q
  | next =>
    obtain ⟨σ', H', J, q⟩ := hs
    exact fin (v := V.non) (u := Value.none) J rfl q
  | brk =>
    obtain ⟨_, _, _, q⟩ := hs
    exact False.elim q
  | cont =>
    obtain ⟨_, _, _, q⟩ := hs
    exact False.elim q
end L2

namespace L2
open PySem PySem.Spec PyProof.Rows
section
variable {X : Cx} {x : Str} {p pos : Pos} {e : Expr} {es : List Expr} {t : TA} {id T : String} {r : List V → Hp → VK → Prop}

def tCB (r : List V → Hp → VK → Prop) (t : TA) : TE := fun σ H Q => t σ H fun vs H1 => r vs H1 Q
/-- f(e, ..), f a built-in function -/
theorem pe_callB (hc : CallR X (.builtin id) r) (hg : Gl X x) (hm : X.mg x = none) (hv : bootBuiltins x = some (.builtin id)) (ha : PA X (e :: es) t) (hn : x ≠ "__name__" := by decide) (hdb : (x == ("__debug__" : Str)) = false := by decide)
    (he : starEach (e :: es) X.env = (false, eval e X.env) :: starEach es X.env := by rfl) (hpl : (backTo pos (starEach es X.env)).any (·.1) = false := by rfl) : PE X (.Call (.Name x p) (e :: es) [] pos) (tCB r t) := by
  intro pins s σ H Q I h
  refine wpAny_Call_Name_kw (ld_blt I hg hm hv ?_ hn hdb)
  exact PyProof.Rows.callWith_builtin1 (thn (ha pos pins s σ H _ I h) fun us s1 ⟨vs, H1, I1, r1, q1⟩ => hc pins s1 σ H1 vs us Q I1 r1 q1) he hpl
/-- T(e, ..), T a built-in type -/
theorem pe_callTy (hc : CallR X (.type T) r) (hg : Gl X x) (hm : X.mg x = none) (hv : bootBuiltins x = some (.type T)) (ha : PA X (e :: es) t) (hn : x ≠ "__name__" := by decide) (hdb : (x == ("__debug__" : Str)) = false := by decide)
    (he : starEach (e :: es) X.env = (false, eval e X.env) :: starEach es X.env := by rfl) (hpl : (backTo pos (starEach es X.env)).any (·.1) = false := by rfl) : PE X (.Call (.Name x p) (e :: es) [] pos) (tCB r t) := by
  intro pins s σ H Q I h
  refine wpAny_Call_Name_kw (ld_blt I hg hm hv ?_ hn hdb)
  exact PyProof.Rows.callWith_type1 (thn (ha pos pins s σ H _ I h) fun us s1 ⟨vs, H1, I1, r1, q1⟩ => hc pins s1 σ H1 vs us Q I1 r1 q1) he hpl
/-- T() -/
theorem pe_callTy0 (hc : CallR X (.type T) r) (hg : Gl X x) (hm : X.mg x = none) (hv : bootBuiltins x = some (.type T)) (hn : x ≠ "__name__" := by decide) (hdb : (x == ("__debug__" : Str)) = false := by decide) :
    PE X (.Call (.Name x p) [] [] pos) (tCB r tNil) := by
  intro pins s σ H Q I h
  refine wpAny_Call_Name_kw (ld_blt I hg hm hv ?_ hn hdb)
  exact PyProof.Rows.callWith_type0 (hc pins s σ H [] [] Q I .nil h)
end
end L2

namespace HT
open PySem PyProof.Rows

/-- t < u of tuples of ints -/
def lexLt : List Int → List Int → Bool
  | [], [] => false
  | [], _ :: _ => true
  | _ :: _, [] => false
  | x :: xs, y :: ys => if x = y then lexLt xs ys else decide (x < y)
theorem lexLt_cons (x y : Int) (xs ys : List Int) : lexLt (x :: xs) (y :: ys) = if x = y then lexLt xs ys else decide (x < y) := rfl
theorem lexLt_nil_nil : lexLt [] [] = false := rfl
theorem lexLt_nil_cons (y : Int) (ys : List Int) : lexLt [] (y :: ys) = true := rfl
theorem lexLt_cons_nil (x : Int) (xs : List Int) : lexLt (x :: xs) [] = false := rfl

theorem eqAt_int (A : Around) (s : Shared) (a : Int) (t : Tok) (c : Int) (u : Tok) : ∃ e, SeqAt.EqAt A s (.int a t) (.int c u) e ∧ (e = true ↔ a = c) :=
  ⟨(a == c), SeqAt.EqAt.int_int a t c u, by simp⟩
theorem rcLt_int (A : Around) (s : Shared) (a : Int) (t : Tok) (c : Int) (u : Tok) (prog : Program) (w : World) (E : Value → Shared → Prop) (Q : Value → Shared → Prop) (h : Q (.bool (decide (a < c))) s) :
    wpAny (model prog w) A (richCompare .Lt (.int a t) (.int c u)) Q E s :=
  (PyProof.Rows.lt_int h : wpAny (model prog w) A (compareOp .Lt (.int a t) (.int c u)) Q E s)

section
open PySem.SeqAt
open PySem.AutoSeq1 (wpAny_loadPart')
open PySem.MeetsSeq PySem.MeetsSeq2 PySem.MeetsSeq3

theorem tuple_lt_ints (l b : Addr) (items items2 : Array Value) (n n2 : Nat) (dd dd2 : Option Addr) (sl sl2 : Array (Option Value)) (ns ms : List Int) (hi : IntsAre items.toList ns) (hj : IntsAre items2.toList ms) :
    Meets (Builtin.«tuple.__lt__» ⟨[.ref l, .ref b], []⟩)
      (fun _ R s => s.heap.get? l = some { cls := .type "tuple", dict := dd, data := .seq items n, slots := sl } ∧ s.heap.get? b = some { cls := .type "tuple", dict := dd2, data := .seq items2 n2, slots := sl2 } ∧
        R (.ok (.ret (.bool (lexLt ns ms)))) s) :=
  .of_wp fun prog w A R s h => by
    obtain ⟨hp, g, d, tk, os⟩ := s; obtain ⟨hl, hb, h⟩ := h
    have f2 := AutoSeq1.sub_tuple_tuple
    have z1 : items.size = ns.length := by rw [← hi.length]; simp
    have z2 : items2.size = ms.length := by rw [← hj.length]; simp
    wp_walk using wpAny_loadPart' hl, wpAny_loadPart' hb, wpAny_forIn_list _ (fun rest b s' => b.1 = none ∧ s' = ⟨hp, g, d, tk, os⟩ ∧ ∃ (vs ws : List Value) (ns' ms' : List Int), rest = vs.zip ws ∧
      IntsAre vs ns' ∧ IntsAre ws ms' ∧ ns'.length + items2.size = ms'.length + items.size ∧ R (.ok (.ret (.bool (lexLt ns' ms')))) ⟨hp, g, d, tk, os⟩) _
    case turn =>
      rintro ⟨y, x⟩ rest b s' ⟨hb', rfl, vs, ws, ns', ms', hz, hvi, hwi, hlen, hR⟩
      cases hvi with
      | nil => rw [List.zip_nil_left] at hz; cases hz
      | cons a t hvi' =>
        cases hwi with
        | nil => rw [List.zip_nil_right] at hz; cases hz
        | cons c u hwi' =>
          rw [List.zip_cons_cons] at hz
          injection hz with hyx hrest
          injection hyx with hy hx
          subst hy hx
          rw [lexLt_cons] at hR
          simp only [List.length_cons] at hlen
          obtain ⟨e, he, hiff⟩ := eqAt_int A.in1 ⟨hp, g, d, tk, os⟩ a t c u
          refine wpAny_bind (he prog w _ _ ?_)
          cases e with
          | true =>
            rw [if_pos (hiff.mp rfl)] at hR
            wp_walk
            exact ⟨rfl, rfl, _, _, _, _, hrest, hvi', hwi', by omega, hR⟩
          | false =>
            rw [if_neg (fun q => absurd (hiff.mpr q) Bool.false_ne_true)] at hR
            have hri := rcLt_int A.in1 ⟨hp, g, d, tk, os⟩ a t c u prog w
            wp_walk using hri
            exact ⟨_, rfl, by simpa using hR⟩
    case fin =>
      rintro ⟨b1, b2⟩ s' ⟨hb', rfl, vs, ws, ns', ms', hz, hvi, hwi, hlen, hR⟩
      simp only at hb'
      subst hb'
      have hv : lexLt ns' ms' = decide (items.size < items2.size) := by
        cases hvi with
        | nil =>
          cases hwi with
          | nil =>
            simp only [List.length_nil] at hlen
            rw [lexLt_nil_nil]
            exact (decide_eq_false (by omega)).symm
          | cons c u hw =>
            simp only [List.length_nil, List.length_cons] at hlen
            rw [lexLt_nil_cons]
            exact (decide_eq_true (by omega)).symm
        | cons a t hv =>
          cases hwi with
          | nil =>
            simp only [List.length_nil, List.length_cons] at hlen
            rw [lexLt_cons_nil]
            exact (decide_eq_false (by omega)).symm
          | cons c u hw =>
            rw [List.zip_cons_cons] at hz
            cases hz
      rw [hv] at hR
      wp_walk
      exact ⟨_, rfl, by simpa [Builtin.Tuple.tupleCompareSizes] using hR⟩
    case h =>
      exact ⟨rfl, rfl, items.toList, items2.toList, ns, ms, rfl, hi, hj, by omega, h⟩
end

section
variable {prog : Program} {w : World} {A : Around} {E : Value → Shared → Prop} {s : Shared}

theorem lt_tupInts {l b : Addr} {items items2 : Array Value} {ns ms : List Int} {Q : Value → Shared → Prop} (hl : IsTup s.heap l items) (hb : IsTup s.heap b items2) (hi : IntsAre items.toList ns) (hj : IntsAre items2.toList ms)
    (hu : A.units < cLine) (h : Q (.bool (lexLt ns ms)) s) : wpAny (model prog w) A (compareOp .Lt (.ref l) (.ref b)) Q E s := by
  obtain ⟨⟨cls, dd, data, sl⟩, ho, hc, n, hd⟩ := id hl
  obtain ⟨⟨cls2, dd2, data2, sl2⟩, ho2, hc2, n2, hd2⟩ := id hb
  simp only at hc hd hc2 hd2
  subst hc hd hc2 hd2
  exact richCompare_meets_room (op := .Lt) ⟨_, ho, rfl⟩ ⟨_, ho2, rfl⟩ PySem.F.slot_tuple_lt PySem.F.entry_tuple_lt (PySem.F.args_tuple_lt_2 _ _) (tuple_lt_ints l b items items2 n n2 dd dd2 sl sl2 ns ms hi hj)
    ⟨ho, ho2, show Value.bool (lexLt ns ms) ≠ Value.notImplemented ∧ Q (.bool (lexLt ns ms)) s from ⟨(fun x => nomatch x), h⟩⟩ hu

/-- t + u, t not empty -/
theorem cat_tup {t b : Addr} {vs ws : List Value} {Q : Value → Shared → Prop} (ht : IsTup s.heap t vs.toArray) (hb : IsTup s.heap b ws.toArray) (hv : vs ≠ [])
    (h1 : ws = [] → Q (.ref t) s) (h2 : ws ≠ [] → Q (.ref s.heap.objs.size) { s with heap := s.heap.push { cls := .type "tuple", data := .seq (vs ++ ws).toArray } })
    (hsz : vs.length + ws.length ≤ sizeLine) : wpAny (model prog w) A (binaryOp .Add (.ref t) (.ref b)) Q E s := by
  obtain ⟨⟨cls, dd, data, sl⟩, ho, hc, n, hd⟩ := id ht
  obtain ⟨⟨cls2, dd2, data2, sl2⟩, ho2, hc2, n2, hd2⟩ := id hb
  simp only at hc hd hc2 hd2
  subst hc hd hc2 hd2
  have e : vs.toArray ++ ws.toArray = (vs ++ ws).toArray := by simp
  by_cases hw : ws = []
  · exact concat_meets ⟨_, ho, rfl⟩ ⟨_, ho2, rfl⟩ noFill_tuple_add seq_tuple_add PySem.F.slot_tuple_add PySem.F.entry_tuple_add (PySem.F.args_tuple_add_2 _ _)
      (tuple_addW1 t b vs.toArray ws.toArray n n2 dd dd2 sl sl2 (by simpa using hv) (by simp [hw])) ⟨ho, ho2, h1 hw⟩
  · refine concat_meets ⟨_, ho, rfl⟩ ⟨_, ho2, rfl⟩ noFill_tuple_add seq_tuple_add PySem.F.slot_tuple_add PySem.F.entry_tuple_add (PySem.F.args_tuple_add_2 _ _)
      (tuple_addW2 t b vs.toArray ws.toArray n n2 dd dd2 sl sl2 (by simpa using hv) (by simpa using hw) (by rw [List.size_toArray, List.size_toArray]; exact hsz)) ⟨ho, ho2, ?_⟩
    rw [e]
    exact h2 hw

/-! ### t[a:b], not the whole -/
/-- a slice's bound as a place among n (d where it is left out) -/
def sIx (n d : Nat) : Option Int → Nat
  | none => d
  | some v => if v < 0 then (v + (n : Int)).toNat else min v.toNat n
theorem sIx_none (n d : Nat) : sIx n d none = d := rfl
theorem sIx_nat (n d k : Nat) : sIx n d (some (k : Int)) = min k n := by
  show (if (k : Int) < 0 then ((k : Int) + (n : Int)).toNat else min (k : Int).toNat n) = min k n
  rw [if_neg (by omega), Int.toNat_natCast]
theorem sIx_le (n d : Nat) (hd : d ≤ n) (o : Option Int) : sIx n d o ≤ n := by
  cases o with
  | none => exact hd
  | some v =>
    show (if v < 0 then (v + (n : Int)).toNat else min v.toNat n) ≤ n
    by_cases hv : v < 0
    · rw [if_pos hv]; omega
    · rw [if_neg hv]; exact Nat.min_le_right _ _
theorem clip_eq (v : Int) (n d : Nat) : (if v < 0 then max (v + (n : Int)) 0 else min v (n : Int)) = ((sIx n d (some v) : Nat) : Int) := by
  show (if v < 0 then max (v + (n : Int)) 0 else min v (n : Int)) = (((if v < 0 then (v + (n : Int)).toNat else min v.toNat n) : Nat) : Int)
  by_cases hv : v < 0
  · simp only [if_pos hv]; omega
  · simp only [if_neg hv]; omega
theorem adjust_gen (lo hi : Option Int) (n : Nat) : Builtin.Slice.sliceAdjust lo hi 1 (n : Int) = (((sIx n 0 lo : Nat) : Int), ((sIx n n hi : Nat) : Int)) := by
  have h1 : ¬ ((1 : Int) < 0) := by omega
  unfold Builtin.Slice.sliceAdjust
  simp only [h1, if_false]
  refine Prod.ext ?_ ?_
  · cases lo with
    | none => rfl
    | some v => exact clip_eq v n 0
  · cases hi with
    | none => rfl
    | some v => exact clip_eq v n n
theorem places_gen (i j : Nat) : Builtin.Slice.slicePlaces (i : Int) (j : Int) 1 = j - i := by
  unfold Builtin.Slice.slicePlaces
  have h1 : (1 : Int) > 0 := by omega
  simp only [h1, if_true, Int.ediv_one]
  split <;> omega
theorem slicePart_ {v : Value} {o : Option Int} {Q : Option Int → Shared → Prop} (p : IsPart v o) (h : Q o s) : wpAny (model prog w) A (Builtin.Slice.slicePartIndex v) Q E s := by
  cases p with
  | none => exact slicePart_none h
  | int i t => exact slicePart_int h
theorem sliceApplied_gen {sl : Addr} {vl vu : Value} {lo hi : Option Int} {n : Nat} {Q : Int × Int × Nat → Shared → Prop} (hs : s.heap.IsSliceOf sl vl vu .none) (pl : IsPart vl lo) (pu : IsPart vu hi)
    (h : Q (((sIx n 0 lo : Nat) : Int), 1, sIx n n hi - sIx n 0 lo) s) : wpAny (model prog w) A (Builtin.Slice.sliceApplied (.ref sl) (pure (n : Int))) Q E s := by
  obtain ⟨os, hos, hcs, hds⟩ := id hs
  unfold Builtin.Slice.sliceApplied Builtin.Slice.sliceFields
  refine wpAny_bind (wpAny_bind (wpAny_field hos hds (x := vl) rfl (wpAny_bind (wpAny_field hos hds (x := vu) rfl (wpAny_bind (wpAny_field hos hds (x := .none) rfl (wpAny_pure ?_)))))))
  refine wpAny_bind (slicePart_none ?_)
  show wpAny _ _ (if ((1 : Int) == 0) = true then _ else _) _ _ s
  rw [if_neg (by decide)]
  refine wpAny_bind (slicePart_ pl (wpAny_bind (slicePart_ pu (wpAny_bind (wpAny_pure ?_)))))
  show wpAny _ _ (match Builtin.Slice.sliceAdjust lo hi 1 (n : Int) with | (lo, hi) => pure (lo, (1 : Int), Builtin.Slice.slicePlaces lo hi 1)) _ _ s
  rw [adjust_gen lo hi n]
  show wpAny _ _ (pure (((sIx n 0 lo : Nat) : Int), (1 : Int), Builtin.Slice.slicePlaces ((sIx n 0 lo : Nat) : Int) ((sIx n n hi : Nat) : Int) 1)) _ _ s
  rw [places_gen]
  exact wpAny_pure h
theorem pick_gen (xs : Array Value) (i k : Nat) : ((List.range k).filterMap fun (m : Nat) => xs[((i : Int) + (m : Int) * 1).toNat]?).toArray = ((xs.toList.drop i).take k).toArray := by
  have e : (fun (m : Nat) => xs[((i : Int) + (m : Int) * 1).toNat]?) = fun m => xs[i + m]? := by
    funext m
    have : ((i : Int) + (m : Int) * 1).toNat = i + m := by omega
    rw [this]
  rw [e]
  have := pick_run xs i k
  rw [List.filterMap_map] at this
  have e2 : ((fun x => xs[x]?) ∘ fun x => i + x) = fun m => xs[i + m]? := rfl
  rw [e2] at this
  rw [this]

theorem getItem_tuple_cut {t sl : Addr} {items : Array Value} {vl vu : Value} {lo hi : Option Int} {Q : Value → Shared → Prop} (ht : IsTup s.heap t items) (hs : s.heap.IsSliceOf sl vl vu .none) (pl : IsPart vl lo) (pu : IsPart vu hi)
    (hw : ¬ (sIx items.size 0 lo = 0 ∧ sIx items.size items.size hi = items.size))
    (h : Q (.ref s.heap.objs.size) { s with heap := s.heap.push { cls := .type "tuple", data := .seq ((items.toList.drop (sIx items.size 0 lo)).take (sIx items.size items.size hi - sIx items.size 0 lo)).toArray } })
    (hsz : items.size ≤ sizeLine) : wpAny (model prog w) A (getItem (.ref t) (.ref sl)) Q E s := by
  have htake : sizeOk (.seq ((items.toList.drop (sIx items.size 0 lo)).take (sIx items.size items.size hi - sIx items.size 0 lo)).toArray) := by
    show ((items.toList.drop (sIx items.size 0 lo)).take (sIx items.size items.size hi - sIx items.size 0 lo)).toArray.size ≤ sizeLine
    rw [List.size_toArray, List.length_take, List.length_drop, Array.length_toList]
    omega
  have hj : sIx items.size items.size hi ≤ items.size := sIx_le _ _ (Nat.le_refl _) hi
  obtain ⟨os, hos, hcs, hds⟩ := id hs
  have hTs : s.TypeIs (.ref sl) "slice" := ⟨os, hos, hcs⟩
  unfold getItem
  try with_reducible refine wpAny_holding ?_
  first | refine wpAny_bind (wpAny_pure ?_) | skip
  refine wpAny_bind (wpAny_sequenceKey ht.typeIs (by decide) ?_)
  refine wpAny_bind (wpAny_callSpecial?_slot (name := Str.ofString "__getitem__") ht.typeIs PyProof.Rows.slot_tuple_getitem
    (wpAny_call_entry PyProof.Rows.slot_tuple_getitem ht.typeIs entry_tuple_getitem ?_ (args_tuple_getitem _ _)))
  show wpAny _ _ (Builtin.Tuple.tupleItemsOf (.ref t) >>= _) _ _ s
  refine wpAny_bind (tupleItemsOf_ ht ?_)
  refine wpAny_bind (wpAny_typeOf hTs ?_)
  rw [if_pos (by decide)]
  refine wpAny_bind (sliceApplied_gen hs pl pu ?_)
  have hno : ¬ ((((sIx items.size 0 lo : Nat) : Int) == 0 && (1 : Int) == 1 && (sIx items.size items.size hi - sIx items.size 0 lo) == items.size) = true) := by
    intro q
    rw [Bool.and_eq_true, Bool.and_eq_true] at q
    have q1 : ((sIx items.size 0 lo : Nat) : Int) = 0 := eq_of_beq q.1.1
    have q2 : sIx items.size items.size hi - sIx items.size 0 lo = items.size := eq_of_beq q.2
    exact hw ⟨by omega, by omega⟩
  show wpAny _ _ (if (((sIx items.size 0 lo : Nat) : Int) == 0 && (1 : Int) == 1 && (sIx items.size items.size hi - sIx items.size 0 lo) == items.size) = true then _ else _) _ _ s
  rw [if_neg hno, pick_gen]
  first
    | exact wpAny_bind (m := Builtin.Tuple.tupleExact _) (wpAny_newObj_type (wpAny_pure ⟨_, rfl, wpAny_pure h⟩) htake)
    | exact wpAny_bind (m := Builtin.Tuple.tupleExact _) (wpAny_newObj_type (wpAny_bind (wpAny_pure (wpAny_pure ⟨_, rfl, wpAny_pure h⟩))) htake)
    | exact wpAny_bind (wpAny_bind (m := Builtin.Tuple.tupleExact _) (wpAny_newObj_type (wpAny_pure (wpAny_pure ⟨_, rfl, wpAny_pure h⟩)) htake))
    | exact wpAny_bind (wpAny_bind (m := Builtin.Tuple.tupleExact _) (wpAny_newObj_type (wpAny_pure ⟨_, rfl, wpAny_pure h⟩) htake))
end
end HT

namespace L2
open PySem PySem.Spec PyProof.Rows

/-! ### the parts of a slice -/
abbrev TO := St → Hp → (Option Int → Hp → Prop) → Prop
/-- a slice's part (left out, or an int) -/
def PO (X : Cx) (e : Option Expr) (t : TO) : Prop :=
  ∀ (pins : List (Addr × Obj)) (s : Shared) (σ : St) (H : Hp) (Q : Option Int → Hp → Prop), Inv X pins σ H s → t σ H Q →
    wpAny (model X.prog X.w) X.A (evalPart e X.env) (fun u s' => ∃ o H', Inv X pins σ H' s' ∧ IsPart u o ∧ Q o H') X.xe s
def tNoPart : TO := fun _ H Q => Q none H
def tPart (t : TE) : TO := fun σ H Q => t σ H fun x H1 => ∃ i, x = .int i ∧ Q (some i) H1

theorem intsAre_of {ns : List Int} : ∀ {us : List Value}, Vals (ns.map V.int) us → IntsAre us ns := by
  induction ns with
  | nil => intro us r; rw [List.map_nil] at r; cases r; exact .nil
  | cons n ns ih =>
    intro us r
    rw [List.map_cons] at r
    cases r with
    | cons r1 r2 =>
      obtain ⟨t, e⟩ := r1
      subst e
      exact .cons n t (ih r2)

section
variable {X : Cx} {e : Expr} {te : TE} {lo hi : Option Expr} {tl th : TO} {pos p2 : Pos}

theorem po_none : PO X none tNoPart := by
  intro pins s σ H Q I h
  rw [evalPart_none]
  exact wpAny_pure ⟨none, H, I, .none, h⟩
theorem po_some (h : PE X e te) : PO X (some e) (tPart te) := by
  intro pins s σ H Q I hw
  rw [evalPart_some]
  refine thn (h pins s σ H _ I hw) fun u s1 ⟨x, H1, I1, r1, q1⟩ => ?_
  obtain ⟨i, rfl, q⟩ := q1
  obtain ⟨t, rfl⟩ := r1
  exact ⟨some i, H1, I1, .int i t, q⟩

/-- what a slice of a value is, by values: the slice object stands at sl -/
def SlR (X : Cx) (r : V → Option Int → Option Int → Hp → VK → Prop) : Prop :=
  ∀ (pins : List (Addr × Obj)) (s : Shared) (σ : St) (H : Hp) (x : V) (v vl vu : Value) (lo hi : Option Int) (sl : Addr) (Q : VK), Inv X pins σ H s → RelV x v → s.heap.IsSliceOf sl vl vu .none → IsPart vl lo → IsPart vu hi → r x lo hi H Q →
    ∃ T id, typeLookup (.type T) "__getitem__" = pure (some (.builtin id)) ∧ s.TypeIs v T ∧ wpAny (model X.prog X.w) X.A (getItem v (.ref sl)) (EP X pins σ Q) X.xe s
theorem SlR.or {r r' : V → Option Int → Option Int → Hp → VK → Prop} (h : SlR X r) (h' : SlR X r') : SlR X (fun x lo hi H Q => r x lo hi H Q ∨ r' x lo hi H Q) := by
  intro pins s σ H x v vl vu lo hi sl Q I rx hs pl pu q
  rcases q with q | q
  · exact h pins s σ H x v vl vu lo hi sl Q I rx hs pl pu q
  · exact h' pins s σ H x v vl vu lo hi sl Q I rx hs pl pu q
def tSl (r : V → Option Int → Option Int → Hp → VK → Prop) (te : TE) (tl th : TO) : TE := fun σ H Q => te σ H fun x H1 => tl σ H1 fun l H2 => th σ H2 fun u H3 => r x l u H3 Q
/-- a[lo:hi], any a -/
theorem pe_slice {r : V → Option Int → Option Int → Hp → VK → Prop} (hr : SlR X r) (he : PE X e te) (hl : PO X lo tl) (hu : PO X hi th) : PE X (.Subscript e (.Slice lo hi none p2) pos) (tSl r te tl th) := by
  intro pins s σ H Q I h
  refine Subscript_ (thn (he pins s σ H _ I h) fun v s1 ⟨x, H1, I1, r1, q1⟩ => ?_)
  refine wpAny_Slice (thn (hl pins s1 σ H1 _ I1 q1) fun vl s2 ⟨l, H2, I2, pl, q2⟩ => thn (hu pins s2 σ H2 _ I2 q2) fun vu s3 ⟨u, H3, I3, pu, q3⟩ => ?_)
  rw [evalPart_none]
  refine wpAny_pure ?_
  have I4 : Inv X pins σ H3 { s3 with heap := s3.heap.push { cls := .type "slice", data := .fields #[vl, vu, .none] } } := I3.kept (t' := s3.toks) fun b ob q => Heap.get?_push_of_some _ q
  obtain ⟨T, id, hT, ht, hg⟩ := hr pins { s3 with heap := s3.heap.push { cls := .type "slice", data := .fields #[vl, vu, .none] } } σ H3 x v vl vu l u s3.heap.objs.size Q I4 r1 (Heap.IsSliceOf.new ..) pl pu q3
  show wpAny (model X.prog X.w) X.A (subscriptTail e (.Slice lo hi none p2) v (.ref s3.heap.objs.size)) (EP X pins σ Q) X.xe { s3 with heap := s3.heap.push { cls := .type "slice", data := .fields #[vl, vu, .none] } }
  exact tail_any (ops := [.ref s3.heap.objs.size, v]) ht hT hg (by with_unfolding_all rfl)

/-- the items of xs[lo:hi] -/
def cutV (xs : List V) (lo hi : Option Int) : List V := (xs.drop (HT.sIx xs.length 0 lo)).take (HT.sIx xs.length xs.length hi - HT.sIx xs.length 0 lo)
theorem cutV_length (xs : List V) (lo hi : Option Int) : (cutV xs lo hi).length ≤ xs.length := by
  unfold cutV
  rw [List.length_take, List.length_drop]
  omega
/-- t[lo:hi], not the whole of it (the whole would be t itself) -/
def rSlT (K : PySem.W.Frag) : V → Option Int → Option Int → Hp → VK → Prop := fun x lo hi H Q => ∃ a xs, x = .ref a ∧ SqT K H a xs ∧
  ¬ (HT.sIx xs.length 0 lo = 0 ∧ HT.sIx xs.length xs.length hi = xs.length) ∧ ∀ p, H p = none → Q (.ref p) (upd H p (.tup (cutV xs lo hi)))
theorem sl_tup : SlR X (rSlT X.K) := by
  intro pins s σ H x v vl vu lo hi sl Q I rx hs pl pu h
  obtain ⟨a, xs, rfl, hx, hw, q⟩ := h
  cases rx
  obtain ⟨its, r, ht, hz⟩ := I.tuple hx
  have hlen : its.toArray.size = xs.length := by rw [List.size_toArray]; exact r.length.symm
  refine ⟨"tuple", _, PyProof.Rows.slot_tuple_getitem.lookup, ht.typeIs, ?_⟩
  refine HT.getItem_tuple_cut ht hs pl pu (by rw [hlen]; exact hw) ?_ (by rw [hlen]; exact hz)
  rw [hlen]
  refine ⟨.ref s.heap.objs.size, _, I.laid (t' := s.toks) (o := .tup (cutV xs lo hi)) (fun b ob q => Heap.get?_push_of_some _ q) (Nat.le_refl _) ?_, rfl, q _ (I.hok.fresh (Nat.le_refl _))⟩
  exact ⟨Nat.le_trans (cutV_length xs lo hi) hz, _, (r.drop (HT.sIx xs.length 0 lo)).take (HT.sIx xs.length xs.length hi - HT.sIx xs.length 0 lo), IsTup.new _ _⟩

/-! ### t < u, t + u -/
def rLtT (K : PySem.W.Frag) : R2 := fun x y H Q => ∃ a b ns ms, x = .ref a ∧ y = .ref b ∧ SqT K H a (ns.map V.int) ∧ SqT K H b (ms.map V.int) ∧ Q (.bl (HT.lexLt ns ms)) H
theorem op_ltT (hu : X.A.units < cLine) : OpR X (compareOp .Lt) (rLtT X.K) := by
  intro pins s σ H x y v u Q I rx ry h
  obtain ⟨a, b, ns, ms, rfl, rfl, ha, hb, q⟩ := h
  cases rx
  cases ry
  obtain ⟨its, r1, p1, _⟩ := I.tuple ha
  obtain ⟨its2, r2, p2, _⟩ := I.tuple hb
  have i1 : IntsAre its.toArray.toList ns := intsAre_of r1
  have i2 : IntsAre its2.toArray.toList ms := intsAre_of r2
  exact HT.lt_tupInts p1 p2 i1 i2 hu ⟨.bl (HT.lexLt ns ms), H, I, rfl, q⟩
/-- t + u, t not empty: u empty gives t itself -/
def rCatT (K : PySem.W.Frag) : R2 := fun x y H Q => ∃ a b xs ys, x = .ref a ∧ y = .ref b ∧ SqT K H a xs ∧ SqT K H b ys ∧ xs ≠ [] ∧ xs.length + ys.length ≤ sizeLine ∧
  (ys = [] → Q (.ref a) H) ∧ (ys ≠ [] → ∀ p, H p = none → Q (.ref p) (upd H p (.tup (xs ++ ys))))
theorem Vals.nil_iff {xs : List V} {us : List Value} (r : Vals xs us) : us = [] ↔ xs = [] := by
  cases r with
  | nil => simp
  | cons _ _ => simp
theorem op_catT : OpR X (binaryOp .Add) (rCatT X.K) := by
  intro pins s σ H x y v u Q I rx ry h
  obtain ⟨a, b, xs, ys, rfl, rfl, ha, hb, hx, hz, q1, q2⟩ := h
  cases rx
  cases ry
  obtain ⟨its, r1, p1, _⟩ := I.tuple ha
  obtain ⟨its2, r2, p2, _⟩ := I.tuple hb
  refine HT.cat_tup p1 p2 (fun z => hx (r1.nil_iff.mp z)) (fun z => ⟨.ref a, H, I, rfl, q1 (r2.nil_iff.mp z)⟩) (fun z => ?_) (by rw [← r1.length, ← r2.length]; exact hz)
  refine ⟨.ref s.heap.objs.size, _, I.laid (t' := s.toks) (o := .tup (xs ++ ys)) (fun b ob q => Heap.get?_push_of_some _ q) (Nat.le_refl _) ?_, rfl, q2 (fun w => z (r2.nil_iff.mpr w)) _ (I.hok.fresh (Nat.le_refl _))⟩
  exact ⟨by rw [List.length_append]; exact hz, _, r1.append r2, IsTup.new _ _⟩
/-- tuple(t) -/
theorem call_tupleT : CallR X (.type "tuple") (fun xs H Q => ∃ a ys, xs = [.ref a] ∧ SqT X.K H a ys ∧ Q (.ref a) H) := by
  intro pins s σ H xs us Q I r h
  obtain ⟨a, ys, rfl, ha, q⟩ := h
  obtain ⟨u, rfl, ru⟩ := vals1 r
  cases ru
  obtain ⟨its, _, p1, _⟩ := I.tuple ha
  exact call_tuple_same (items := its.toArray) p1 ⟨.ref a, H, I, rfl, q⟩
end
end L2

namespace L2
open PySem PySem.Spec PyProof.Rows

/-! ### places -/
/-- the place that an index of any sign means -/
def ixN (n : Nat) (i : Int) : Option Nat := if 0 ≤ i then (if i < n then some i.toNat else none) else if -(n : Int) ≤ i then some (i + n).toNat else none
def atI {α : Type} (xs : List α) (i : Int) : Option α := (ixN xs.length i).bind fun j => xs[j]?
theorem ixN_seq {n : Nat} {i : Int} {j : Nat} (h : ixN n i = some j) : seqIndex? i n = some j ∧ j < n ∧ -(n : Int) ≤ i ∧ i < n := by
  unfold ixN at h
  by_cases h0 : 0 ≤ i
  · rw [if_pos h0] at h
    by_cases h1 : i < n
    · rw [if_pos h1] at h
      have e : i.toNat = j := Option.some.inj h
      exact ⟨by rw [seqIndex_of h0 h1, e], by omega, by omega, h1⟩
    · rw [if_neg h1] at h; cases h
  · rw [if_neg h0] at h
    by_cases h1 : -(n : Int) ≤ i
    · rw [if_pos h1] at h
      have e : (i + n).toNat = j := Option.some.inj h
      exact ⟨by rw [seqIndex_neg (by omega) h1, e], by omega, h1, by omega⟩
    · rw [if_neg h1] at h; cases h
theorem atI_get {α : Type} {xs : List α} {i : Int} {v : α} (h : atI xs i = some v) : ∃ j, seqIndex? i xs.length = some j ∧ xs[j]? = some v ∧ j < xs.length ∧ -(xs.length : Int) ≤ i ∧ i < xs.length := by
  unfold atI at h
  cases e : ixN xs.length i with
  | none => rw [e] at h; cases h
  | some j =>
    rw [e] at h
    obtain ⟨h1, h2, h3, h4⟩ := ixN_seq e
    exact ⟨j, h1, h, h2, h3, h4⟩
theorem atI_nat {α : Type} {xs : List α} {j : Nat} {v : α} (h : xs[j]? = some v) : atI xs (j : Int) = some v := by
  have hj : j < xs.length := (List.getElem?_eq_some_iff.mp h).1
  have e : ixN xs.length (j : Int) = some j := by
    unfold ixN
    rw [if_pos (by omega), if_pos (by omega)]; simp
  unfold atI; rw [e]; exact h
theorem atI_last {α : Type} (xs : List α) (v : α) : atI (xs ++ [v]) (-1) = some v := by
  have hl : (xs ++ [v]).length = xs.length + 1 := by simp
  have e : ixN (xs ++ [v]).length (-1) = some xs.length := by
    unfold ixN
    rw [hl, if_neg (by decide), if_pos (by omega)]
    congr 1
    omega
  unfold atI
  rw [e]
  show (xs ++ [v])[xs.length]? = some v
  simp

/-! ### what may be subscripted -/
/-- what stands as an index of a plain subscript -/
def PlainIx (b : Expr) : Prop := ∀ o i, subscripted b false o i = operate [o, i] (getItem o i)
/-- a subscript by values -/
def IxR (X : Cx) (r : R2) : Prop :=
  ∀ (value slice : Expr) (pins : List (Addr × Obj)) (s : Shared) (σ : St) (H : Hp) (x y : V) (v u : Value) (Q : VK), Inv X pins σ H s → RelV x v → RelV y u → r x y H Q →
    subscripted slice false v u = operate [v, u] (getItem v u) → wpAny (model X.prog X.w) X.A (subscriptTail value slice v u) (EP X pins σ Q) X.xe s
/-- a call of a builtin's method by values: the receiver, the arguments -/
def MtR (X : Cx) (id : String) (r : V → List V → Hp → VK → Prop) : Prop :=
  ∀ (pins : List (Addr × Obj)) (s : Shared) (σ : St) (H : Hp) (x : V) (xs : List V) (v : Value) (us : List Value) (Q : VK), Inv X pins σ H s → RelV x v → Vals xs us → r x xs H Q →
    wpAny (model X.prog X.w) X.A (call (.builtin id) (v :: us)) (EP X pins σ Q) X.xe s
section
variable {X : Cx} {a b : Expr} {ta tb : TE} {pos : Pos}
theorem IxR.or {r r' : R2} (h : IxR X r) (h' : IxR X r') : IxR X (fun x y H Q => r x y H Q ∨ r' x y H Q) := by
  intro value slice pins s σ H x y v u Q I rx ry q hs
  rcases q with q | q
  · exact h value slice pins s σ H x y v u Q I rx ry q hs
  · exact h' value slice pins s σ H x y v u Q I rx ry q hs
theorem MtR.or {id : String} {r r' : V → List V → Hp → VK → Prop} (h : MtR X id r) (h' : MtR X id r') : MtR X id (fun x xs H Q => r x xs H Q ∨ r' x xs H Q) := by
  intro pins s σ H x xs v us Q I rx rs q
  rcases q with q | q
  · exact h pins s σ H x xs v us Q I rx rs q
  · exact h' pins s σ H x xs v us Q I rx rs q
/-- a[b] -/
theorem pe_ix {r : R2} (hr : IxR X r) (ha : PE X a ta) (hb : PE X b tb) (hs : PlainIx b) : PE X (.Subscript a b pos) (tOp r ta tb) := by
  intro pins s σ H Q I h
  exact Subscript_ (binT ha hb I h fun v u s2 x y H2 I2 rx ry q => hr a b pins s2 σ H2 x y v u Q I2 rx ry q (hs _ _))

def rIxL (K : PySem.W.Frag) : R2 := fun x y H Q => ∃ p xs i v, x = .ref p ∧ y = .int i ∧ SqL K H p xs ∧ atI xs i = some v ∧ Q v H
def rIxT (K : PySem.W.Frag) : R2 := fun x y H Q => ∃ p xs i v, x = .ref p ∧ y = .int i ∧ SqT K H p xs ∧ atI xs i = some v ∧ Q v H
def rIxS : R2 := fun x y H Q => ∃ z i c, x = .str z ∧ y = .int i ∧ z.length ≤ sizeLine ∧ atI z.cps.toList i = some c ∧ Q (.str ⟨#[c]⟩) H
theorem ix_list : IxR X (rIxL X.K) := by
  intro value slice pins s σ H x y v u Q I rx ry h hs
  obtain ⟨p, xs, i, z, rfl, rfl, hq, he, q⟩ := h
  cases rx
  obtain ⟨t, rfl⟩ := ry
  obtain ⟨its, r, pl, hz⟩ := I.list hq
  obtain ⟨j, h1, h2, h3, h4, h5⟩ := atI_get he
  obtain ⟨w, ew, rw'⟩ := r.get h2
  have hl := r.length
  have hn := line63
  have fin : EP X pins σ Q w s := ⟨z, H, I, rw', q⟩
  by_cases h0 : 0 ≤ i
  · have hj : i.toNat = j := by
      rw [seqIndex_of h0 h5] at h1
      exact Option.some.inj h1
    exact item_listR pl.isList h0 (by omega) (by rw [hj]; simpa using ew) fin hs
  · have hj : (i + (its.toArray.size : Int)).toNat = j := by
      rw [seqIndex_neg (by omega) h4] at h1
      rw [List.size_toArray, ← hl]
      exact Option.some.inj h1
    exact subscriptTail_builtinR (x := w) pl.isList.typeIs slot_list_getitem.lookup
      (wpAny_getItem_list_neg (Q := fun r s' => r = w ∧ EP X pins σ Q r s') pl.isList (by omega) (by rw [List.size_toArray] <;> omega) (by omega) (by rw [hj]; simpa using ew) ⟨rfl, fin⟩) hs
theorem ix_tup : IxR X (rIxT X.K) := by
  intro value slice pins s σ H x y v u Q I rx ry h hs
  obtain ⟨p, xs, i, z, rfl, rfl, hq, he, q⟩ := h
  cases rx
  obtain ⟨t, rfl⟩ := ry
  obtain ⟨its, r, pl, hz⟩ := I.tuple hq
  obtain ⟨j, h1, h2, h3, h4, h5⟩ := atI_get he
  obtain ⟨w, ew, rw'⟩ := r.get h2
  have hl := r.length
  have hn := line63
  have fin : EP X pins σ Q w s := ⟨z, H, I, rw', q⟩
  exact subscriptTail_builtinR (x := w) pl.typeIs slot_tuple_getitem.lookup
    (getItem_tuple (j := j) (Q := fun r s' => r = w ∧ EP X pins σ Q r s') pl (by omega) (by omega) (by rw [List.size_toArray, ← hl]; exact h1) (by simpa using ew) ⟨rfl, fin⟩) hs
theorem ix_str : IxR X rIxS := by
  intro value slice pins s σ H x y v u Q I rx ry h hs
  obtain ⟨z, i, c, rfl, rfl, hz, he, q⟩ := h
  obtain ⟨t, rfl⟩ := rx
  obtain ⟨t', rfl⟩ := ry
  obtain ⟨j, h1, h2, h3, h4, h5⟩ := atI_get he
  have hl : z.cps.toList.length = z.length := by simp [Str.length]
  rw [hl] at h1 h4 h5
  have hn := line63
  exact tail_any (typeIs_str s z t) slot_str_getitem.lookup (getItem_str (c := c) (by
    have e1 : decide (i < -(2 ^ 63 : Int)) = false := decide_eq_false (by omega)
    have e2 : decide (i ≥ 2 ^ 63) = false := decide_eq_false (by omega)
    rw [e1, e2, Bool.or_false]) (by rw [h1]; simpa using h2) ⟨.str ⟨#[c]⟩, H, I.tok _, ⟨_, rfl⟩, q⟩) hs
/-- list, tuple or str -/
def rIx (K : PySem.W.Frag) : R2 := fun x y H Q => rIxL K x y H Q ∨ rIxT K x y H Q ∨ rIxS x y H Q
theorem ix_seq : IxR X (rIx X.K) := ix_list.or (ix_tup.or ix_str)

/-! ### xs[i] = v, any sign -/
/-- the list's object behind a store -/
theorem mapSeq_set (its : List Value) (n j : Nat) (u : Value) : Obj.mapSeq (·.setIfInBounds j u) { cls := .type "list", data := .seq its.toArray n } = { cls := .type "list", data := .seq (its.set j u).toArray n } := by
  simp [Obj.mapSeq]
theorem Inv.lst {pins : List (Addr × Obj)} {σ : St} {H : Hp} {s : Shared} {p : Addr} {xs : List V} (I : Inv X pins σ H s) (h : H p = some (.lst xs)) :
    ∃ (its : List Value) (n : Nat), Vals xs its ∧ s.heap.get? p = some { cls := .type "list", data := .seq its.toArray n } ∧ xs.length ≤ sizeLine := by
  obtain ⟨z, its, n, r, e⟩ := I.hok p _ h
  exact ⟨its, n, r, e, z⟩
/-- the list at p is written by an update of its object -/
theorem Inv.lstUpd {pins : List (Addr × Obj)} {σ : St} {H : Hp} {s : Shared} {p : Addr} {xs ys : List V} {its its' : List Value} {n n' : Nat} {f : Obj → Obj} (I : Inv X pins σ H s) (h : H p = some (.lst xs))
    (ho : s.heap.get? p = some { cls := .type "list", data := .seq its.toArray n }) (hf : f { cls := .type "list", data := .seq its.toArray n } = { cls := .type "list", data := .seq its'.toArray n' }) (r : Vals ys its') (hz : ys.length ≤ sizeLine) (t : Nat) :
    Inv X pins σ (upd H p (.lst ys)) { s with heap := s.heap.update p f, toks := t } := by
  have e : (s.heap.update p f).get? p = some { cls := .type "list", data := .seq its'.toArray n' } := by
    rw [Heap.get?_update_self f ho (by rw [hf] <;> rfl), hf]
  refine I.write (x := p) (e := p) (by rw [h]; trivial) (.inl rfl) (fun b u hb q => (Heap.get?_update_other _ _ (Ne.symm hb)).trans q) ⟨_, e⟩ ?_
  exact ⟨hz, its', n', r, e⟩
def rSetL : V → V → V → Hp → (Hp → Prop) → Prop := fun o i v H Q => ∃ p xs k j, o = .ref p ∧ i = .int k ∧ H p = some (.lst xs) ∧ ixN xs.length k = some j ∧ Q (upd H p (.lst (xs.set j v)))
theorem set_list : PSet X rSetL := by
  intro pins s σ H o i v ov iv u Q I ro ri rv h
  obtain ⟨p, xs, k, j, rfl, rfl, hp, hj, q⟩ := h
  cases ro
  obtain ⟨t, rfl⟩ := ri
  obtain ⟨its, n, r, ho, hz⟩ := I.lst hp
  obtain ⟨h1, h2, h3, h4⟩ := ixN_seq hj
  have hl := r.length
  have hn := line63
  have I' : Inv X pins σ (upd H p (.lst (xs.set j v))) { s with heap := s.heap.update p (Obj.mapSeq (·.setIfInBounds j u)) } :=
    I.lstUpd hp ho (mapSeq_set its n j u) (r.set rv j) (by rw [List.length_set]; exact hz) s.toks
  by_cases h0 : 0 ≤ k
  · have hk : k.toNat = j := by
      rw [seqIndex_of h0 h4] at h1
      exact Option.some.inj h1
    exact PySem.W.ki_setAt ho h0 (by omega) (by rw [List.size_toArray, ← hl]; exact h4) (by rw [hk]; exact ⟨_, I', q⟩)
  · have hk : (k + (its.toArray.size : Int)).toNat = j := by
      rw [seqIndex_neg (by omega) h3] at h1
      rw [List.size_toArray, ← hl]
      exact Option.some.inj h1
    exact PySem.W.ki_setBack ho (by omega) (by rw [List.size_toArray, ← hl]; exact h3) (by omega) (by rw [hk]; exact ⟨_, I', q⟩)

/-! ### slices -/
theorem slice_bounds (lo hi : Option Int) (n : Nat) : (sliceBounds lo hi none n).1 = ((HT.sIx n 0 lo : Nat) : Int) ∧ (sliceBounds lo hi none n).2.1 = ((HT.sIx n n hi : Nat) : Int) ∧ (sliceBounds lo hi none n).2.2 = 1 := by
  refine ⟨?_, ?_, rfl⟩
  · cases lo with
    | none => simp [sliceBounds, HT.sIx]
    | some i =>
      simp only [sliceBounds, HT.sIx, Option.getD_none, show (1 : Int) > 0 by decide, if_true]
      by_cases h : i < 0
      · simp only [h, if_true] <;> omega
      · simp only [h, if_false] <;> omega
  · cases hi with
    | none => simp [sliceBounds, HT.sIx]
    | some i =>
      simp only [sliceBounds, HT.sIx, Option.getD_none, show (1 : Int) > 0 by decide, if_true]
      by_cases h : i < 0
      · simp only [h, if_true] <;> omega
      · simp only [h, if_false] <;> omega
theorem slicePick_cut (its : List Value) (lo hi : Option Int) : slicePick its.toArray lo hi none = ((its.drop (HT.sIx its.length 0 lo)).take (HT.sIx its.length its.length hi - HT.sIx its.length 0 lo)).toArray := by
  obtain ⟨h1, h2, h3⟩ := slice_bounds lo hi its.toArray.size
  unfold slicePick
  rw [h1, h2, h3]
  simp only [sliceRange_one, pick_run, List.size_toArray] <;> rfl
/-- xs[lo:hi] of a list: a new list -/
def rSlL (K : PySem.W.Frag) : V → Option Int → Option Int → Hp → VK → Prop := fun x lo hi H Q => ∃ a xs, x = .ref a ∧ SqL K H a xs ∧ ∀ p, H p = none → Q (.ref p) (upd H p (.lst (cutV xs lo hi)))
theorem sl_list : SlR X (rSlL X.K) := by
  intro pins s σ H x v vl vu lo hi sl Q I rx hs pl pu h
  obtain ⟨a, xs, rfl, hx, q⟩ := h
  cases rx
  obtain ⟨its, r, ht, hz⟩ := I.list hx
  have hlen := r.length
  refine ⟨"list", _, slot_list_getitem.lookup, ht.isList.typeIs, ?_⟩
  refine wpAny_getItem_list_slice ht.isList hs pl pu .none (by simp) ?_ (by rw [List.size_toArray] <;> omega)
  rw [slicePick_cut, ← hlen]
  refine ⟨.ref s.heap.objs.size, _, I.laid (t' := s.toks) (o := .lst (cutV xs lo hi)) (fun b ob q => Heap.get?_push_of_some _ q) (Nat.le_refl _) ?_, rfl, q _ (I.hok.fresh (Nat.le_refl _))⟩
  exact ⟨Nat.le_trans (cutV_length xs lo hi) hz, _, 0, (r.drop (HT.sIx xs.length 0 lo)).take (HT.sIx xs.length xs.length hi - HT.sIx xs.length 0 lo), Heap.get?_push_size _ rfl⟩

/-! ### in, not in: flat items -/
def flatV : V → Bool
  | .non => true
  | .bl _ => true
  | .int _ => true
  | .str _ => true
  | _ => false
/-- == of flat values -/
def eqV : V → V → Bool
  | .non, .non => true
  | .bl a, .bl b => a == b
  | .bl a, .int b => (if a then 1 else 0) == b
  | .int a, .bl b => a == (if b then 1 else 0)
  | .int a, .int b => a == b
  | .str a, .str b => a == b
  | _, _ => false
theorem eqAt_V {A : Around} {s : Shared} {y x : V} {u v : Value} (ry : RelV y u) (rx : RelV x v) (fy : flatV y = true) (fx : flatV x = true) : SeqAt.EqAt A s u v (eqV y x) := by
  cases y with
  | non =>
    cases ry
    cases x with
    | non => cases rx; exact SeqAt.EqAt.same _
    | bl b => cases rx; exact SeqAt.EqAt.none_bool b
    | int b => obtain ⟨t, rfl⟩ := rx; exact SeqAt.EqAt.none_int b t
    | str b => obtain ⟨t, rfl⟩ := rx; exact SeqAt.EqAt.none_str b t
    | _ => exact absurd (show false = true from fx) Bool.false_ne_true
  | bl a =>
    cases ry
    cases x with
    | non => cases rx; exact SeqAt.EqAt.bool_none a
    | bl b => cases rx; exact SeqAt.EqAt.bool_bool a b
    | int b => obtain ⟨t, rfl⟩ := rx; exact SeqAt.EqAt.bool_int a b t
    | str b => obtain ⟨t, rfl⟩ := rx; exact SeqAt.EqAt.bool_str a b t
    | _ => exact absurd (show false = true from fx) Bool.false_ne_true
  | int a =>
    obtain ⟨t', rfl⟩ := ry
    cases x with
    | non => cases rx; exact SeqAt.EqAt.int_none a t'
    | bl b => cases rx; exact SeqAt.EqAt.int_bool a t' b
    | int b => obtain ⟨t, rfl⟩ := rx; exact SeqAt.EqAt.int_int a t' b t
    | str b => obtain ⟨t, rfl⟩ := rx; exact SeqAt.EqAt.int_str a t' b t
    | _ => exact absurd (show false = true from fx) Bool.false_ne_true
  | str a =>
    obtain ⟨t', rfl⟩ := ry
    cases x with
    | non => cases rx; exact SeqAt.EqAt.str_none a t'
    | bl b => cases rx; exact SeqAt.EqAt.str_bool a t' b
    | int b => obtain ⟨t, rfl⟩ := rx; exact SeqAt.EqAt.str_int a t' b t
    | str b => obtain ⟨t, rfl⟩ := rx; exact SeqAt.EqAt.str_str a t' b t
    | _ => exact absurd (show false = true from fx) Bool.false_ne_true
  | _ => exact absurd (show false = true from fy) Bool.false_ne_true
/-- the items' answers, read off the values (a value's own answer does not lean on its token) -/
def eqU (x : V) (u : Value) : Bool := match u with
  | .none => eqV .non x
  | .bool b => eqV (.bl b) x
  | .int i _ => eqV (.int i) x
  | .str z _ => eqV (.str z) x
  | _ => false
theorem eqU_of {x y : V} {u : Value} (r : RelV y u) (f : flatV y = true) : eqU x u = eqV y x := by
  cases y with
  | non => cases r; rfl
  | bl b => cases r; rfl
  | int i => obtain ⟨t, rfl⟩ := r; rfl
  | str z => obtain ⟨t, rfl⟩ := r; rfl
  | _ => exact absurd (show false = true from f) Bool.false_ne_true
theorem any_eqU {x : V} : ∀ {xs : List V} {us : List Value}, Vals xs us → xs.all flatV = true → us.any (eqU x) = xs.any fun y => eqV y x
  | _, _, .nil, _ => rfl
  | y :: xs, u :: us, .cons r t, f => by
    rw [List.all_cons, Bool.and_eq_true] at f
    rw [List.any_cons, List.any_cons, eqU_of r f.1, any_eqU t f.2]
theorem mem_eqAt {A : Around} {s : Shared} {x : V} {v : Value} (rx : RelV x v) (fx : flatV x = true) : ∀ {xs : List V} {us : List Value}, Vals xs us → xs.all flatV = true → ∀ u ∈ us, SeqAt.EqAt A s u v (eqU x u)
  | _, _, .nil, _ => fun u hu => by cases hu
  | y :: xs, u :: us, .cons r t, f => fun u' hu => by
    rw [List.all_cons, Bool.and_eq_true] at f
    rcases List.mem_cons.mp hu with rfl | hu
    · rw [eqU_of r f.1]; exact eqAt_V r rx f.1 fx
    · exact mem_eqAt rx fx t f.2 u' hu
def inV (x : V) (xs : List V) : Bool := xs.any fun y => eqV y x
/-- x in a list or tuple of flat items -/
def rIn (K : PySem.W.Frag) (neg : Bool) : R2 := fun x y H Q => ∃ p xs, y = .ref p ∧ (SqL K H p xs ∨ SqT K H p xs) ∧ flatV x = true ∧ xs.all flatV = true ∧ Q (.bl (if neg then !inV x xs else inV x xs)) H
theorem op_in_seq : OpR X (compareOp .In) (rIn X.K false) := by
  intro pins s σ H x y v u Q I rx ry h
  obtain ⟨p, xs, rfl, hq, fx, fs, q⟩ := h
  cases ry
  rcases hq with hq | hq
  · obtain ⟨its, r, pl, hz⟩ := I.list hq
    refine SeqAt.in_listAt (eqU x) pl.isList (fun w hw => mem_eqAt rx fx r fs w (by simpa using hw)) ⟨.bl _, H, I, rfl, ?_⟩
    rw [show its.toArray.any (eqU x) = its.any (eqU x) by simp, any_eqU r fs]
    exact q
  · obtain ⟨its, r, pl, hz⟩ := I.tuple hq
    refine SeqAt.in_tupleAt (eqU x) pl (fun w hw => mem_eqAt rx fx r fs w (by simpa using hw)) ⟨.bl _, H, I, rfl, ?_⟩
    rw [show its.toArray.any (eqU x) = its.any (eqU x) by simp, any_eqU r fs]
    exact q
theorem op_notIn_seq : OpR X (compareOp .NotIn) (rIn X.K true) := by
  intro pins s σ H x y v u Q I rx ry h
  obtain ⟨p, xs, rfl, hq, fx, fs, q⟩ := h
  cases ry
  rcases hq with hq | hq
  · obtain ⟨its, r, pl, hz⟩ := I.list hq
    refine SeqAt.notIn_listAt (eqU x) pl.isList (fun w hw => mem_eqAt rx fx r fs w (by simpa using hw)) ⟨.bl _, H, I, rfl, ?_⟩
    rw [show its.toArray.any (eqU x) = its.any (eqU x) by simp, any_eqU r fs]
    exact q
  · obtain ⟨its, r, pl, hz⟩ := I.tuple hq
    refine SeqAt.notIn_tupleAt (eqU x) pl (fun w hw => mem_eqAt rx fx r fs w (by simpa using hw)) ⟨.bl _, H, I, rfl, ?_⟩
    rw [show its.toArray.any (eqU x) = its.any (eqU x) by simp, any_eqU r fs]
    exact q
theorem op_notIn_str : OpR X (compareOp .NotIn) (fun x y H Q => ∃ i j, x = .str i ∧ y = .str j ∧ Q (.bl (!(!(Builtin.Str.occurrences j i 0 j.length 1).isEmpty))) H) := by
  intro pins s σ H x y v u Q I rx ry h
  obtain ⟨i, j, rfl, rfl, q⟩ := h
  obtain ⟨t, rfl⟩ := rx
  obtain ⟨t', rfl⟩ := ry
  exact notIn_str ⟨.bl _, H, I, rfl, q⟩

/-! ### len, list(x), tuple(x) of any list or tuple that is read -/
theorem call_len_seq : CallR X (.builtin "len") (fun xs H Q => ∃ p ys, xs = [.ref p] ∧ (SqL X.K H p ys ∨ SqT X.K H p ys) ∧ Q (.int ys.length) H) := by
  intro pins s σ H xs us Q I r h
  obtain ⟨p, ys, rfl, hq, q⟩ := h
  obtain ⟨u, rfl, rx⟩ := vals1 r
  cases rx
  have hn := line63
  rcases hq with hq | hq
  · obtain ⟨its, r', pl, hz⟩ := I.list hq
    have hlen := r'.length
    exact Calls.call_len_list pl.isList (by simp only [List.size_toArray] <;> omega) ⟨.int ys.length, H, I.tok _, ⟨s.toks + 1, by rw [List.size_toArray, hlen]⟩, q⟩
  · obtain ⟨its, r', pl, hz⟩ := I.tuple hq
    have hlen := r'.length
    exact len_tuple pl (by simp only [List.size_toArray] <;> omega) ⟨.int ys.length, H, I.tok _, ⟨s.toks + 1, by rw [List.size_toArray, hlen]⟩, q⟩
theorem call_len_str : CallR X (.builtin "len") (fun xs H Q => ∃ z, xs = [.str z] ∧ z.length ≤ sizeLine ∧ Q (.int z.length) H) := by
  intro pins s σ H xs us Q I r h
  obtain ⟨z, rfl, hz, q⟩ := h
  obtain ⟨u, rfl, t, rfl⟩ := vals1 r
  have hn := line63
  exact len_str (by omega) ⟨.int z.length, H, I.tok _, ⟨_, rfl⟩, q⟩
theorem CallR.or {f : Value} {r r' : List V → Hp → VK → Prop} (h : CallR X f r) (h' : CallR X f r') : CallR X f (fun xs H Q => r xs H Q ∨ r' xs H Q) := by
  intro pins s σ H xs us Q I rs q
  rcases q with q | q
  · exact h pins s σ H xs us Q I rs q
  · exact h' pins s σ H xs us Q I rs q
theorem call_list_of : CallR X (.type "list") (fun xs H Q => ∃ p ys, xs = [.ref p] ∧ (SqL X.K H p ys ∨ SqT X.K H p ys) ∧ ∀ l, H l = none → Q (.ref l) (upd H l (.lst ys))) := by
  intro pins s σ H xs us Q I r h
  obtain ⟨p, ys, rfl, hq, q⟩ := h
  obtain ⟨u, rfl, rx⟩ := vals1 r
  cases rx
  have fin : ∀ (its : List Value), Vals ys its → ys.length ≤ sizeLine → ∀ (h' : Heap) (c' : Nat), (∀ b o', s.heap.get? b = some o' → h'.get? b = some o') →
      h'.get? s.heap.objs.size = some { cls := .type "list", dict := none, data := .seq its.toArray c', slots := #[] } → EP X pins σ Q (.ref s.heap.objs.size) { s with heap := h' } := fun its r' hz h' c' kp e =>
    ⟨.ref s.heap.objs.size, _, I.laid (t' := s.toks) kp (Nat.le_refl _) (show ObjOk X.prog X.w _ h' _ (.lst ys) from ⟨hz, its, c', r', e⟩), rfl, q _ (I.hok.fresh (Nat.le_refl _))⟩
  rcases hq with hq | hq
  · obtain ⟨its, r', pl, hz⟩ := I.list hq
    have hlen := r'.length
    obtain ⟨o, ho, hc, n, hd⟩ := pl.isList
    exact call_list_seq p (.inl rfl) ho hc hd (fun h' c' kp e => fin its r' hz h' c' kp e) (by simp only [List.size_toArray] <;> omega)
  · obtain ⟨its, r', pl, hz⟩ := I.tuple hq
    have hlen := r'.length
    obtain ⟨o, ho, hc, n, hd⟩ := pl
    exact call_list_seq p (.inr rfl) ho hc hd (fun h' c' kp e => fin its r' hz h' c' kp e) (by simp only [List.size_toArray] <;> omega)
theorem call_tuple_of : CallR X (.type "tuple") (fun xs H Q => ∃ p ys, xs = [.ref p] ∧ ((SqL X.K H p ys ∧ ∀ l, H l = none → Q (.ref l) (upd H l (.tup ys))) ∨ (SqT X.K H p ys ∧ Q (.ref p) H))) := by
  intro pins s σ H xs us Q I r h
  obtain ⟨p, ys, rfl, h⟩ := h
  obtain ⟨u, rfl, rx⟩ := vals1 r
  cases rx
  rcases h with ⟨hq, q⟩ | ⟨hq, q⟩
  · obtain ⟨its, r', pl, hz⟩ := I.list hq
    have hlen := r'.length
    refine call_tuple_list pl.isList (fun h' kp => ?_) (by simp only [List.size_toArray] <;> omega)
    have I1 : Inv X pins σ H { s with heap := h' } := I.kept (t' := s.toks) kp
    have I2 : Inv X pins σ (upd H h'.objs.size (.tup ys)) { s with heap := h'.push { cls := .type "tuple", data := .seq its.toArray } } :=
      I1.laid (t' := s.toks) (fun b o e => Heap.get?_push_of_some _ e) (Nat.le_refl _) (show ObjOk X.prog X.w _ _ _ (.tup ys) from ⟨hz, its, r', IsTup.new _ _⟩)
    exact ⟨.ref h'.objs.size, _, I2, rfl, q _ (I1.hok.fresh (Nat.le_refl _))⟩
  · obtain ⟨its, r', pl, hz⟩ := I.tuple hq
    exact call_tuple_same pl ⟨.ref p, H, I, rfl, q⟩

/-! ### the call of a builtin's method: o.m(..) -/
/-- the value is of that builtin type -/
def tyV (K : PySem.W.Frag) (T : String) (x : V) (H : Hp) : Prop := match x with
  | .str _ => T = "str"
  | .int _ => T = "int"
  | .ref p => (T = "list" ∧ ∃ xs, SqL K H p xs) ∨ (T = "tuple" ∧ ∃ o, K.lookup p = some o ∧ o.cls = .type "tuple" ∧ o.dict = none) ∨
      (T = "dict" ∧ ((∃ kvs, H p = some (.dK kvs)) ∨ ∃ kvs, H p = some (.dT kvs))) ∨ (T = "set" ∧ ∃ S n, H p = some (.set S n))
  | _ => False
theorem tyV_is {pins : List (Addr × Obj)} {σ : St} {H : Hp} {s : Shared} {T : String} {x : V} {v : Value} (I : Inv X pins σ H s) (r : RelV x v) (ty : tyV X.K T x H) :
    s.TypeIs v T ∧ ∀ a, v = .ref a → ∃ ob, s.heap.get? a = some ob ∧ ob.dict = none := by
  cases x with
  | str z =>
    obtain ⟨t, rfl⟩ := r
    cases (show T = "str" from ty)
    exact ⟨typeIs_str s z t, fun _ e => nomatch e⟩
  | int i =>
    obtain ⟨t, rfl⟩ := r
    cases (show T = "int" from ty)
    exact ⟨typeIs_int s i t, fun _ e => nomatch e⟩
  | ref p =>
    cases r
    rcases ty with ⟨rfl, xs, hq⟩ | ⟨rfl, o, hk, hc, hd⟩ | ⟨rfl, hk⟩ | ⟨rfl, S, n, hk⟩
    · obtain ⟨its, _, pl, _⟩ := I.list hq
      refine ⟨pl.isList.typeIs, fun a e => ?_⟩
      cases e
      obtain ⟨o, n, e, c, hd, _⟩ := pl
      exact ⟨o, e, hd⟩
    · refine ⟨⟨o, I.kIn p o hk, hc⟩, fun a e => ?_⟩
      cases e
      exact ⟨o, I.kIn _ o hk, hd⟩
    · have z : ∃ o, s.heap.get? p = some o ∧ o.ExactDict := by
        rcases hk with ⟨kvs, hk⟩ | ⟨kvs, hk⟩
        · obtain ⟨_, _, _, _, o, _, _, e, ex, _⟩ := I.hok p _ hk
          exact ⟨o, e, ex⟩
        · obtain ⟨_, _, _, _, o, _, _, e, ex, _⟩ := I.hok p _ hk
          exact ⟨o, e, ex⟩
      obtain ⟨o, e, ex⟩ := z
      refine ⟨⟨o, e, ex.1⟩, fun a e2 => ?_⟩
      cases e2
      exact ⟨o, e, ex.2.1⟩
    · obtain ⟨o, _, _, _, e, ex, _⟩ := I.hok p _ hk
      refine ⟨⟨o, e, ex.1⟩, fun a e2 => ?_⟩
      cases e2
      exact ⟨o, e, ex.2.1⟩
  | _ => exact False.elim ty
def tBM0 (K : PySem.W.Frag) (T : String) (r : V → List V → Hp → VK → Prop) (to : TE) : TE := fun σ H Q => to σ H fun x H1 => tyV K T x H1 ∧ r x [] H1 Q
def tBM (K : PySem.W.Frag) (T : String) (r : V → List V → Hp → VK → Prop) (to : TE) (t : TA) : TE := fun σ H Q => to σ H fun x H1 => tyV K T x H1 ∧ t σ H1 fun xs H2 => r x xs H2 Q
variable {o e : Expr} {es : List Expr} {to : TE} {t : TA} {name : Str} {apos cpos : Pos} {T id : String} {r : V → List V → Hp → VK → Prop}
theorem pe_bm0 (pa : PlainAttrs T) (slot : Slot T name id) (hty : typeOf (.builtin id) = pure (.type "method_descriptor")) (hm : MtR X id r) (ho : PE X o to)
    (hbase : attributeBase o name X.env (eval o X.env) = eval o X.env := by rfl) (hline : (apos.endLine == cpos.line) = true := by rfl) : PE X (.Call (.Attribute o name apos) [] [] cpos) (tBM0 X.K T r to) := by
  intro pins s σ H Q I h
  refine wpAny_Call_method0_late hbase hline (thn (ho pins s σ H _ I h) fun v s1 ⟨x, H1, I1, r1, ty, q1⟩ => ?_)
  obtain ⟨h1, h2⟩ := tyV_is I1 r1 ty
  exact ⟨T, id, pa, slot, hty, h1, h2, Calls.callWith_builtin rfl (PySem.evalArgs_none (hm pins s1 σ H1 x [] v [] Q I1 r1 .nil q1))⟩
theorem pe_bm (pa : PlainAttrs T) (slot : Slot T name id) (hty : typeOf (.builtin id) = pure (.type "method_descriptor")) (hm : MtR X id r) (ho : PE X o to) (ha : PA X (e :: es) t)
    (hbase : attributeBase o name X.env (eval o X.env) = eval o X.env := by rfl)
    (hfew : ((backTo cpos (starEach (e :: es) X.env)).all (fun x => !x.1) && (backToKw cpos (keywordEach [] X.env)).all (fun x => x.1.isSome)
      && decide ((e :: es).length + ([] : List Keyword).length + (if ([] : List Keyword).isEmpty then 0 else 1) < 30)) = true := by rfl)
    (hline : (apos.endLine == cpos.line) = true := by rfl) (hs : starEach (e :: es) X.env = (false, eval e X.env) :: starEach es X.env := by rfl) (hplain : (backTo cpos (starEach es X.env)).any (·.1) = false := by rfl) :
    PE X (.Call (.Attribute o name apos) (e :: es) [] cpos) (tBM X.K T r to t) := by
  intro pins s σ H Q I h
  refine wpAny_Call_method_late hbase hfew hline rfl (thn (ho pins s σ H _ I h) fun v s1 ⟨x, H1, I1, r1, ty, q1⟩ => ?_)
  obtain ⟨h1, h2⟩ := tyV_is I1 r1 ty
  refine ⟨T, id, pa, slot, hty, h1, h2, ?_⟩
  have hA := ha cpos pins s1 σ H1 _ I1 q1
  rw [hs] at hA ⊢
  refine Calls.callWith_builtin (by show (false || (backTo cpos (starEach es X.env)).any (·.1)) = false; rw [hplain] <;> rfl) (Calls.evalArgs_plain ?_)
  exact thn hA fun us s2 ⟨vs, H2, I2, r2, q2⟩ => hm pins s2 σ H2 x vs v us Q I2 r1 r2 q2
/- xs.append(e), list.index on a module's tuple .. are MtR facts of 06m -/
end
end L2

namespace L2
open PySem PySem.Spec PyProof.Rows

def MtM (X : Cx) (id : String) (r : V → List V → Hp → VK → Prop) : Prop :=
  ∀ (pins : List (Addr × Obj)) (s : Shared) (σ : St) (H : Hp) (x : V) (xs : List V) (v : Value) (us : List Value) (Q : VK), Inv X pins σ H s → RelV x v → Vals xs us → r x xs H Q →
    wpAny (model X.prog X.w) X.A (call (.builtin id) (v :: us)) (EP X pins σ Q) X.xe s

/-! ### lists of values -/
theorem Vals.one : ∀ {x : V} {us : List Value}, Vals [x] us → ∃ u, us = [u] ∧ RelV x u
  | _, _, .cons r .nil => ⟨_, rfl, r⟩
theorem Vals.two : ∀ {x y : V} {us : List Value}, Vals [x, y] us → ∃ u v, us = [u, v] ∧ RelV x u ∧ RelV y v
  | _, _, _, .cons r (.cons q .nil) => ⟨_, _, rfl, r, q⟩
theorem Vals.zero : ∀ {us : List Value}, Vals [] us → us = []
  | _, .nil => rfl
theorem Vals.dropLast {xs : List V} {us : List Value} (h : Vals xs us) : Vals xs.dropLast us.dropLast := by
  induction h with
  | nil => exact .nil
  | cons r t ih =>
    cases t with
    | nil => exact .nil
    | cons q t' => exact .cons r ih
theorem Vals.eraseIdx : ∀ {xs : List V} {us : List Value} (i : Nat), Vals xs us → Vals (xs.eraseIdx i) (us.eraseIdx i)
  | _, _, _, .nil => .nil
  | _, _, 0, .cons _ t => t
  | _, _, i + 1, .cons r t => .cons r (Vals.eraseIdx i t)
theorem Vals.reverse {xs : List V} {us : List Value} (h : Vals xs us) : Vals xs.reverse us.reverse := by
  induction h with
  | nil => exact .nil
  | cons r t ih => rw [List.reverse_cons, List.reverse_cons]; exact Vals.append ih (.cons r .nil)
theorem Vals.rep {xs : List V} {us : List Value} (h : Vals xs us) : ∀ k : Nat, Vals (List.replicate k xs).flatten (List.replicate k us).flatten
  | 0 => .nil
  | k + 1 => by
    rw [List.replicate_succ, List.replicate_succ, List.flatten_cons, List.flatten_cons]
    exact Vals.append h (Vals.rep h k)
theorem erase_last {α : Type} (l : List α) : l.eraseIdx (l.length - 1) = l.dropLast := by
  induction l with
  | nil => rfl
  | cons a r ih =>
    cases r with
    | nil => rfl
    | cons b r =>
      have e : (a :: b :: r).length - 1 = ((b :: r).length - 1) + 1 := by
        have h1 : (a :: b :: r).length = r.length + 2 := rfl
        have h2 : (b :: r).length = r.length + 1 := rfl
        omega
      rw [e, List.eraseIdx_cons_succ, ih]
      all_goals rfl
theorem len_erase {α : Type} : ∀ (l : List α) (i : Nat), (l.eraseIdx i).length ≤ l.length
  | [], _ => Nat.le_refl _
  | _ :: _, 0 => Nat.le_succ _
  | _ :: r, i + 1 => Nat.succ_le_succ (len_erase r i)
theorem foldl_rep (its : List Value) : ∀ (k : Nat) (acc : List Value),
    List.foldl (fun x1 x2 => x1 ++ x2) acc.toArray (List.replicate k its.toArray) = (acc ++ (List.replicate k its).flatten).toArray
  | 0, acc => by simp
  | k + 1, acc => by
    have e : acc.toArray ++ its.toArray = (acc ++ its).toArray := by simp
    have e2 : (acc ++ its) ++ (List.replicate k its).flatten = acc ++ (List.replicate (k + 1) its).flatten := by
      rw [List.replicate_succ, List.flatten_cons, List.append_assoc]
    rw [← e2, ← foldl_rep its k (acc ++ its), ← e, List.replicate_succ, List.foldl_cons]

section
variable {X : Cx} {pins : List (Addr × Obj)} {σ : St} {H : Hp} {s : Shared} {l b : Addr} {xs ys zs : List V}

/-! ### the two steps: a tracked list is rewritten, a new list is laid -/
theorem Inv.lset {its its' : List Value} {n : Nat} {f : Array Value → Array Value} {t' : Nat} (I : Inv X pins σ H s) (hH : H l = some (.lst xs))
    (e : s.heap.get? l = some { cls := .type "list", data := .seq its.toArray n }) (hf : f its.toArray = its'.toArray) (hv : Vals ys its') (hz : ys.length ≤ sizeLine) :
    Inv X pins σ (upd H l (.lst ys)) { s with heap := s.heap.update l (Obj.mapSeq f), toks := t' } := by
  have q := PySem.IsL.update e f
  rw [hf] at q
  refine I.write (x := l) (e := l) (by rw [hH]; exact trivial) (.inl rfl) (fun b' u hb hu => (Heap.get?_update_other s.heap (Obj.mapSeq f) (Ne.symm hb)).trans hu) ⟨_, q⟩ ?_
  exact ⟨hz, its', _, hv, q⟩
theorem Inv.lnew {its : List Value} {t' : Nat} (I : Inv X pins σ H s) (hv : Vals ys its) (hz : ys.length ≤ sizeLine) :
    Inv X pins σ (upd H s.heap.objs.size (.lst ys)) { s with heap := s.heap.push { cls := .type "list", data := .seq its.toArray }, toks := t' } :=
  I.laid (fun _ _ q => Heap.get?_push_of_some _ q) (Nat.le_refl _) ⟨hz, its, 0, hv, Heap.get?_push_size _ rfl⟩
theorem Inv.fresh (I : Inv X pins σ H s) : H s.heap.objs.size = none := I.hok.fresh (Nat.le_refl _)
theorem Inv.lstM (I : Inv X pins σ H s) (hH : H l = some (.lst xs)) : xs.length ≤ sizeLine ∧ ∃ (its : List Value) (n : Nat), Vals xs its ∧ xs.length = its.length ∧ s.heap.get? l = some { cls := .type "list", data := .seq its.toArray n } := by
  obtain ⟨z, its, n, r, e⟩ := I.hok l _ hH
  exact ⟨z, its, n, r, r.length, e⟩

theorem notLongL {n : Nat} (h : n ≤ sizeLine) : Builtin.List.listTooLong n = false := by
  unfold Builtin.List.listTooLong
  exact decide_eq_false (by omega)
end

section
variable {X : Cx}

/-! ### methods -/
def rAppend : V → List V → Hp → VK → Prop := fun x vs H Q => ∃ l xs y, x = .ref l ∧ vs = [y] ∧ H l = some (.lst xs) ∧ xs.length < sizeLine ∧ Q .non (upd H l (.lst (xs ++ [y])))
theorem mt_append : MtM X "list.append" rAppend := by
  intro pins s σ H x vs v us Q I rx rv h
  obtain ⟨l, xs, y, rfl, rfl, hH, hz, q⟩ := h
  cases rx
  obtain ⟨u, rfl, ru⟩ := rv.one
  obtain ⟨z, its, n, r, hl, e⟩ := I.lstM hH
  refine call_meets F.slot_list_append ⟨_, e, rfl⟩ F.entry_list_append (F.args_list_append_2 _ _) (PySem.list_append l its.toArray n u (by rw [List.size_toArray]; omega)) ⟨e, ?_⟩
  refine ⟨.non, _, I.lset (its' := its ++ [u]) hH e (by simp) (r.append (.cons ru .nil)) ?_, rfl, q⟩
  rw [List.length_append, List.length_singleton]
  omega

def rExtend : V → List V → Hp → VK → Prop := fun x vs H Q => ∃ l b xs zs, x = .ref l ∧ vs = [.ref b] ∧ H l = some (.lst xs) ∧ H b = some (.lst zs) ∧ xs.length + zs.length ≤ sizeLine ∧ Q .non (upd H l (.lst (xs ++ zs)))
theorem mt_extend : MtM X "list.extend" rExtend := by
  intro pins s σ H x vs v us Q I rx rv h
  obtain ⟨l, b, xs, zs, rfl, rfl, hH, hB, hz, q⟩ := h
  cases rx
  obtain ⟨u, rfl, ru⟩ := rv.one
  cases ru
  obtain ⟨z, its, n, r, hl, e⟩ := I.lstM hH
  obtain ⟨z2, its2, n2, r2, hl2, e2⟩ := I.lstM hB
  have hsz : its.toArray.size + its2.toArray.size ≤ sizeLine := by rw [List.size_toArray, List.size_toArray]; omega
  have hlong : ¬ (!its.toArray.isEmpty && Builtin.List.listTooLong (its.toArray.size + its2.toArray.size)) = true := by
    rw [notLongL hsz, Bool.and_false]
    exact Bool.false_ne_true
  refine call_meets F.slot_list_extend ⟨_, e, rfl⟩ F.entry_list_extend (F.args_list_extend_2 _ _)
    (AutoSeq1.list_extend_list_list_0 l its.toArray n b its2.toArray n2 hlong (by rw [List.size_toArray]; omega) (by omega)) ⟨e, e2, ?_⟩
  refine ⟨.non, _, I.lset (its' := its ++ its2) hH e (by simp) (r.append r2) ?_, rfl, q⟩
  rw [List.length_append]
  omega

def rPop : V → List V → Hp → VK → Prop := fun x vs H Q => ∃ l xs y, x = .ref l ∧ vs = [] ∧ H l = some (.lst xs) ∧ xs[xs.length - 1]? = some y ∧ Q y (upd H l (.lst xs.dropLast))
theorem mt_pop : MtM X "list.pop" rPop := by
  intro pins s σ H x vs v us Q I rx rv h
  obtain ⟨l, xs, y, rfl, rfl, hH, hy, q⟩ := h
  cases rx
  have hus := rv.zero
  subst hus
  obtain ⟨z, its, n, r, hl, e⟩ := I.lstM hH
  obtain ⟨u, hu, ru⟩ := r.get hy
  have hy' : its.toArray[its.toArray.size - 1]? = some u := by
    show its.toArray[its.length - 1]? = some u
    rw [← Array.getElem?_toList, ← hl]
    exact hu
  refine call_meets F.slot_list_pop ⟨_, e, rfl⟩ F.entry_list_pop (F.args_list_pop_1 _) (MeetsSeq.list_pop_last l its.toArray n u hy' (by rw [List.size_toArray]; omega)) ⟨e, ?_⟩
  refine ⟨y, _, I.lset (its' := its.dropLast) hH e ?_ r.dropLast ?_, ru, q⟩
  · show its.toArray.eraseIdxIfInBounds (its.toArray.size - 1) = its.dropLast.toArray
    rw [List.size_toArray, List.eraseIdxIfInBounds_toArray, erase_last]
  · rw [List.length_dropLast]
    omega

def rPopAt : V → List V → Hp → VK → Prop := fun x vs H Q => ∃ l xs i k y, x = .ref l ∧ vs = [.int i] ∧ H l = some (.lst xs) ∧ -(2 ^ 63) ≤ i ∧ i < 2 ^ 63 ∧ seqIndex? i xs.length = some k ∧ xs[k]? = some y ∧ Q y (upd H l (.lst (xs.eraseIdx k)))
theorem mt_popAt : MtM X "list.pop" rPopAt := by
  intro pins s σ H x vs v us Q I rx rv h
  obtain ⟨l, xs, i, k, y, rfl, rfl, hH, h1, h2, hk, hy, q⟩ := h
  cases rx
  obtain ⟨u, rfl, ru⟩ := rv.one
  obtain ⟨t, rfl⟩ := ru
  obtain ⟨z, its, n, r, hl, e⟩ := I.lstM hH
  obtain ⟨w, hw, rw'⟩ := r.get hy
  refine call_meets F.slot_list_pop ⟨_, e, rfl⟩ F.entry_list_pop (F.args_list_pop_2 _ _)
    (MeetsSeq.list_pop_at l its.toArray n i t k w (fitsIndex_both h1 h2) (by rw [List.size_toArray, ← hl]; exact hk) (by rw [← Array.getElem?_toList]; exact hw) (by rw [List.size_toArray]; omega)) ⟨e, ?_⟩
  refine ⟨y, _, I.lset (its' := its.eraseIdx k) hH e ?_ (r.eraseIdx k) ?_, rw', q⟩
  · show its.toArray.eraseIdxIfInBounds k = (its.eraseIdx k).toArray
    rw [List.eraseIdxIfInBounds_toArray]
  · have := len_erase xs k
    omega

def rReverse : V → List V → Hp → VK → Prop := fun x vs H Q => ∃ l xs, x = .ref l ∧ vs = [] ∧ H l = some (.lst xs) ∧ Q .non (upd H l (.lst xs.reverse))
theorem mt_reverse : MtM X "list.reverse" rReverse := by
  intro pins s σ H x vs v us Q I rx rv h
  obtain ⟨l, xs, rfl, rfl, hH, q⟩ := h
  cases rx
  have hus := rv.zero
  subst hus
  obtain ⟨z, its, n, r, hl, e⟩ := I.lstM hH
  refine call_meets F.slot_list_reverse ⟨_, e, rfl⟩ F.entry_list_reverse (F.args_list_reverse_1 _) (AutoSeq1.list_reverse_list_0 l its.toArray n (by rw [List.size_toArray]; omega)) ⟨e, ?_⟩
  refine ⟨.non, _, I.lset (its' := its.reverse) hH e (by simp) r.reverse ?_, rfl, q⟩
  rw [List.length_reverse]
  omega

def rClear : V → List V → Hp → VK → Prop := fun x vs H Q => ∃ l xs, x = .ref l ∧ vs = [] ∧ H l = some (.lst xs) ∧ Q .non (upd H l (.lst []))
theorem mt_clear : MtM X "list.clear" rClear := by
  intro pins s σ H x vs v us Q I rx rv h
  obtain ⟨l, xs, rfl, rfl, hH, q⟩ := h
  cases rx
  have hus := rv.zero
  subst hus
  obtain ⟨z, its, n, r, hl, e⟩ := I.lstM hH
  refine call_meets F.slot_list_clear ⟨_, e, rfl⟩ F.entry_list_clear (F.args_list_clear_1 _) (AutoSeq1.list_clear_list_0 l its.toArray n (by rw [List.size_toArray]; omega)) ⟨e, ?_⟩
  exact ⟨.non, _, I.lset (its' := []) (ys := []) hH e rfl .nil (Nat.zero_le _), rfl, q⟩

/-! ### list + list, list += list, list * int -/
def rCat : R2 := fun x y H Q => ∃ l b xs zs, x = .ref l ∧ y = .ref b ∧ H l = some (.lst xs) ∧ H b = some (.lst zs) ∧ xs.length + zs.length ≤ sizeLine ∧ ∀ p, H p = none → Q (.ref p) (upd H p (.lst (xs ++ zs)))
theorem op_cat : OpR X (binaryOp .Add) rCat := by
  intro pins s σ H x y v u Q I rx ry h
  obtain ⟨l, b, xs, zs, rfl, rfl, hH, hB, hz, q⟩ := h
  cases rx
  cases ry
  obtain ⟨z, its, n, r, hl, e⟩ := I.lstM hH
  obtain ⟨z2, its2, n2, r2, hl2, e2⟩ := I.lstM hB
  refine PySem.P.add_list e e2 ?_ (by rw [List.size_toArray, List.size_toArray]; omega)
  have ea : its.toArray ++ its2.toArray = (its ++ its2).toArray := by simp
  rw [ea]
  exact ⟨.ref _, _, I.lnew (t' := s.toks) (r.append r2) (by rw [List.length_append]; omega), rfl, q _ I.fresh⟩
/-- a list times an int (a negative one is nothing) -/
def rRep : R2 := fun x y H Q => ∃ l k xs, x = .ref l ∧ y = .int k ∧ H l = some (.lst xs) ∧ -(2 ^ 63) ≤ k ∧ k < 2 ^ 63 ∧ xs.length * k.toNat ≤ sizeLine ∧
  ∀ p, H p = none → Q (.ref p) (upd H p (.lst (List.replicate k.toNat xs).flatten))
theorem len_rep {α : Type} (xs : List α) (k : Nat) : (List.replicate k xs).flatten.length = k * xs.length := by
  induction k with
  | zero => simp
  | succ k ih => rw [List.replicate_succ, List.flatten_cons, List.length_append, ih, Nat.succ_mul, Nat.add_comm]
theorem op_rep : OpR X (binaryOp .Mult) rRep := by
  intro pins s σ H x y v u Q I rx ry h
  obtain ⟨l, k, xs, rfl, rfl, hH, h1, h2, hz, q⟩ := h
  cases rx
  obtain ⟨t, rfl⟩ := ry
  obtain ⟨z, its, n, r, hl, e⟩ := I.lstM hH
  have hlen : its.toArray.size * k.toNat ≤ sizeLine := by rw [List.size_toArray, ← hl]; exact hz
  have hcap : ¬ its.toArray.size * k.toNat > (2 ^ 63 - 1) / 8 := by
    have : (sizeLine : Nat) ≤ (2 ^ 63 - 1) / 8 := by decide
    omega
  have hfit : ¬ (!Builtin.List.listFitsIndex k) = true := by
    rw [fitsIndex_both h1 h2]
    exact Bool.false_ne_true
  have hlong : ¬ Builtin.List.listTooLong (its.toArray.size * k.toNat) = true := by
    rw [notLongL hlen]
    exact Bool.false_ne_true
  have hnew : List.foldl (fun x1 x2 => x1 ++ x2) #[] (List.replicate (if its.toArray.isEmpty = true then 0 else k.toNat) its.toArray) = (List.replicate k.toNat its).flatten.toArray := by
    have f0 : ∀ m : Nat, List.foldl (fun x1 x2 => x1 ++ x2) #[] (List.replicate m its.toArray) = (List.replicate m its).flatten.toArray := fun m => by
      have := foldl_rep its m []
      rw [List.nil_append] at this
      exact this
    rw [f0]
    cases its with
    | nil => simp
    | cons a r' => rw [if_neg (by simp)]
  refine wpAny_binaryOp_repeat_ref (T := "list") (U := "int") (by decide) ⟨_, e, rfl⟩ (fun s' => typeIs_int s' k t) noFill_list_mul F.fills_int_mul F.slot_int_rmul repeat_list F.slot_int_index.lookup
    (call_meets F.slot_int_rmul (typeIs_int s k t) F.entry_int_rmul (F.args_int_rmul_2 _ _) (int___rmul___int_list k t l its.toArray n)
      ⟨e, rfl, ⟨_, e, rfl⟩, call_meets F.slot_list_mul ⟨_, e, rfl⟩ F.entry_list_mul (F.args_list_mul_2 _ _) (AutoListH.list___mul___list_int_3 l its.toArray n k t hfit hcap hlong) ⟨e, ?_⟩⟩)
  rw [hnew]
  exact ⟨.ref _, _, I.lnew (t' := s.toks) (r.rep k.toNat) (by rw [len_rep, Nat.mul_comm]; exact hz), rfl, q _ I.fresh⟩

/-! ### del xs[i] -/
theorem del_list {pins : List (Addr × Obj)} {s : Shared} {σ : St} {H : Hp} {l : Addr} {xs : List V} {i : Int} {t : Tok} {k : Nat} {Q : Unit → Shared → Prop} (I : Inv X pins σ H s) (hH : H l = some (.lst xs))
    (h1 : -(2 ^ 63) ≤ i) (h2 : i < 2 ^ 63) (hk : seqIndex? i xs.length = some k) (h : ∀ s', Inv X pins σ (upd H l (.lst (xs.eraseIdx k))) s' → Q () s') :
    wpAny (model X.prog X.w) X.A (delItem (.ref l) (.int i t)) Q X.xe s := by
  obtain ⟨z, its, n, r, hl, e⟩ := I.lstM hH
  refine PySem.P.delItem_list (k := k) e (fitsIndex_both h1 h2) (by rw [List.size_toArray, ← hl]; exact hk) (h _ ?_) (by rw [List.size_toArray]; omega)
  refine I.lset (its' := its.eraseIdx k) (t' := s.toks) hH e ?_ (r.eraseIdx k) ?_
  · show its.toArray.eraseIdxIfInBounds k = (its.eraseIdx k).toArray
    rw [List.eraseIdxIfInBounds_toArray]
  · have := len_erase xs k
    omega
end

/-! ### xs[a:b] = ys -/
section
variable {prog : Program} {w : World} {A : Around} {E : Value → Shared → Prop} {s : Shared}
theorem splice_eq (its its2 : List Value) (a c : Nat) : its.toArray.extract 0 a ++ its2.toArray ++ its.toArray.extract c its.toArray.size = (its.take a ++ its2 ++ its.drop c).toArray := by
  apply Array.toList_inj.mp
  first
    | (simp
       exact List.take_of_length_le (by simp))
    | simp [List.take_of_length_le]
    | simp
theorem bounds_run {a c n : Nat} (hac : a ≤ c) (hc : c ≤ n) : sliceBounds (some (a : Int)) (some (c : Int)) none n = ((a : Int), (c : Int), 1) := by
  simp only [sliceBounds, Option.getD_none]
  have h1 : ¬ ((a : Int) < 0) := by omega
  have h2 : ¬ ((c : Int) < 0) := by omega
  simp only [h1, h2, if_false, show (1 : Int) > 0 by decide, if_true]
  congr 1
  · omega
  · congr 1; omega
set_option maxRecDepth 100000 in
/-- list.__setitem__ with a slice of step one and another list -/
theorem setItem_slice {l b sl : Addr} {items new : Array Value} {n n2 : Nat} {vl vu : Value} {a c : Nat} {Q : Unit → Shared → Prop}
    (e : s.heap.get? l = some { cls := .type "list", data := .seq items n }) (e2 : s.heap.get? b = some { cls := .type "list", data := .seq new n2 }) (hne : l ≠ b)
    (hs : s.heap.IsSliceOf sl vl vu .none) (pl : IsPart vl (some (a : Int))) (pu : IsPart vu (some (c : Int))) (hac : a ≤ c) (hc : c ≤ items.size)
    (hsz : items.size + new.size ≤ sizeLine) (h : Q () { s with heap := s.heap.update l (Obj.mapSeq fun xs => xs.extract 0 a ++ new ++ xs.extract c xs.size) }) :
    wpAny (model prog w) A (setItem (.ref l) (.ref sl) (.ref b)) Q E s := by
  have hl : s.heap.IsList l items := PySem.IsL.isList e
  have hb : s.heap.IsList b new := PySem.IsL.isList e2
  obtain ⟨os, hos, hcs, hds⟩ := id hs
  have hTs : s.TypeIs (.ref sl) "slice" := ⟨os, hos, hcs⟩
  have hstep : ¬ ((rawPart none == rawInt 0) = true) := Bool.false_ne_true
  have hsame : Builtin.List.listSameRef (.ref l) (.ref b) = false := by
    unfold Builtin.List.listSameRef
    exact beq_eq_false_iff_ne.mpr hne
  have hmax : (max (a : Int) (c : Int)).toNat = c := by omega
  have hz' : ((fun xs : Array Value => xs.extract 0 a ++ new ++ xs.extract c xs.size) items).size ≤ sizeLine + 1 := by
    simp only [Array.size_append, Array.size_extract]
    omega
  unfold setItem
  try with_reducible refine wpAny_holding ?_
  first | refine wpAny_bind (wpAny_pure ?_) | skip
  refine wpAny_bind (wpAny_sequenceKey hl.typeIs (by decide) ?_)
  refine wpAny_bind (wpAny_callSpecial?_slot (name := Str.ofString "__setitem__") hl.typeIs slot_list_setitem
    (wpAny_call_entry slot_list_setitem hl.typeIs entry_list_setitem ?_ (args_list_setitem _ _ _)))
  show wpAny _ _ (Builtin.List.listSubscript? (.ref sl) >>= _) _ _ s
  refine wpAny_bind ?_
  unfold Builtin.List.listSubscript?
  refine wpAny_bind (wpAny_specialOf hTs slice_no_index ?_)
  simp only [Option.isNone_none, if_true]
  refine wpAny_pure ?_
  show wpAny _ _ (typeOf (.ref sl) >>= _) _ _ s
  refine wpAny_bind (wpAny_typeOf hTs ?_)
  first
    | rw [if_neg (by decide)]
    | refine PySem.W.KFB.if_not (by decide) ?_
  rw [listSliceParts_eq]
  refine wpAny_bind (wpAny_bind (wpAny_field hos hds (x := .none) rfl (wpAny_bind (wpAny_listPart .none ?_))))
  rw [if_neg hstep]
  refine wpAny_bind (wpAny_field hos hds (x := vl) rfl (wpAny_bind (wpAny_listPart pl ?_)))
  refine wpAny_bind (wpAny_field hos hds (x := vu) rfl (wpAny_bind (wpAny_listPart pu (wpAny_pure ?_))))
  first
    | simp only [hsame, Bool.false_eq_true, if_false]
    | refine PySem.W.KFB.if_not hsame ?_
    | (dsimp only
       rw [if_neg (by rw [hsame]; exact Bool.false_ne_true)])
  refine wpAny_bind (m := Builtin.List.listAllItems (.ref b) "must assign iterable to extended slice") ?_
  unfold Builtin.List.listAllItems
  refine wpAny_bind (wpAny_typeOf hb.typeIs ?_)
  first
    | refine PySem.W.KFB.if_so (by decide) ?_
    | rw [if_pos (by decide)]
    | simp only [beq_self_eq_true, Bool.true_or, if_true]
  unfold Builtin.List.listItems
  refine wpAny_bind (wpAny_seqItems e2 rfl (wpAny_pure ?_))
  refine wpAny_bind (wpAny_bind (wpAny_seqItems e rfl (wpAny_pure ?_)))
  refine wpAny_bind (wpAny_of_eq ((sliceIndices_raw (some (a : Int)) (some (c : Int)) none items.size (by simp)).trans (congrArg (pure : Int × Int × Int → Sem (Int × Int × Int)) (bounds_run hac hc))) ?_)
  show wpAny _ _ (if ((1 : Int) == 1) = true then _ else _) _ _ s
  rw [if_pos (by decide)]
  refine wpAny_bind (wpAny_rule ?_)
  first
    | simp only [notLongL hsz, Bool.false_eq_true, if_false]
    | refine PySem.W.KFB.if_not (notLongL hsz) ?_
  first | refine wpAny_bind (wpAny_pure ?_) | skip
  show wpAny _ _ (updateSeq l (fun xs => xs.extract 0 ((a : Int)).toNat ++ new ++ xs.extract (max (a : Int) (c : Int)).toNat xs.size) >>= _) _ _ s
  rw [hmax, Int.toNat_natCast]
  refine wpAny_bind (wpAny_updateSeq (hz := Nat.le_trans (Nat.le_add_right _ _) hsz) (_hz' := hz') e rfl ?_)
  refine wpAny_bind (wpAny_letGo ?_)
  first
    | exact wpAny_bind (wpAny_pure (wpAny_pure ⟨.none, rfl, wpAny_pure h⟩))
    | exact wpAny_pure ⟨.none, rfl, wpAny_pure h⟩
end

section
variable {X : Cx}
/-- xs[a:c] = ys of another list, at the value level: sl is the slice object that was just made -/
theorem set_slice {pins : List (Addr × Obj)} {s : Shared} {σ : St} {H : Hp} {l b sl : Addr} {xs ys : List V} {a c : Int} {vl vu : Value} {Q : Unit → Shared → Prop} (I : Inv X pins σ H s)
    (hH : H l = some (.lst xs)) (hB : H b = some (.lst ys)) (hne : l ≠ b) (hs : s.heap.IsSliceOf sl vl vu .none) (ra : RelV (.int a) vl) (rc : RelV (.int c) vu) (h0 : 0 ≤ a) (hac : a ≤ c) (hc : c ≤ xs.length)
    (hz : xs.length + ys.length ≤ sizeLine) (h : ∀ s', Inv X pins σ (upd H l (.lst (xs.take a.toNat ++ ys ++ xs.drop c.toNat))) s' → Q () s') :
    wpAny (model X.prog X.w) X.A (setItem (.ref l) (.ref sl) (.ref b)) Q X.xe s := by
  obtain ⟨ta, rfl⟩ := ra
  obtain ⟨tc, rfl⟩ := rc
  obtain ⟨z, its, n, r, hl, e⟩ := I.lstM hH
  obtain ⟨z2, its2, n2, r2, hl2, e2⟩ := I.lstM hB
  obtain ⟨a', rfl⟩ := Int.eq_ofNat_of_zero_le h0
  obtain ⟨c', rfl⟩ := Int.eq_ofNat_of_zero_le (Int.le_trans h0 hac)
  simp only [Int.toNat_natCast] at h
  refine setItem_slice (a := a') (c := c') e e2 hne hs (.int _ _) (.int _ _) (by omega) (by rw [List.size_toArray]; omega) (by rw [List.size_toArray, List.size_toArray]; omega) (h _ ?_)
  refine I.lset (its' := its.take a' ++ its2 ++ its.drop c') (t' := s.toks) hH e ?_ (Vals.append (Vals.append (r.take _) r2) (r.drop _)) ?_
  · exact splice_eq its its2 a' c'
  · rw [List.length_append, List.length_append, List.length_take, List.length_drop]
    omega
end
end L2

namespace Att
open PySem PySem.W PySem.Calls PyProof.Rows

/-! ### the script -/
theorem ints_of_wellAll {P : Params} {h : Heap} : ∀ (ns : List Int) (vs : List Value), WellAll P h vs (ns.map WData.int) → IntsAre vs ns := by
  intro ns
  induction ns with
  | nil =>
    intro vs w
    rw [List.map_nil] at w
    cases w
    exact .nil
  | cons n ns ih =>
    intro vs w
    rw [List.map_cons] at w
    cases w with
    | cons a b =>
      cases a
      exact .cons _ _ (ih _ b)

theorem script_of {l : OpenLaw} {n : Nat} (hn : l.most = some n) {P : Params} {h : Heap} {args : List WData} {vals : List Value}
    (hpre : l.row.toRowW.claim.pre args = true) (hwl : WellAll P h vals args) :
    ∃ a vs ns, vals = [Value.ref a] ∧ args = [WData.list (ns.map WData.int)] ∧ h.get? a = some { cls := .type "list", data := .seq vs.toArray } ∧ IntsAre vs ns ∧ ns.length ≤ n := by
  have hsh : WShape.hasAll [] args [.list .int] = true := (pre_splitW hpre).1
  have hc : l.pre.holds [] { args := args } = true := (pre_splitW hpre).2
  obtain ⟨d, r, rfl, h1, h2⟩ := hasAllW_cons hsh
  obtain rfl := hasAllW_nil h2
  obtain ⟨xs, rfl, h3⟩ := hasW_list h1
  obtain ⟨ns, rfl⟩ := items_int h3
  have hlen : ns.length ≤ n := by
    unfold OpenLaw.pre at hc
    have h4 : (WTm.not (.lt (.lit (.int (n : Int))) (.len (.arg 0)))).holds [] { args := [.list (ns.map .int)] } = true := by
      have h4 := (holds_andW hc).1
      rw [hn] at h4
      exact h4
    have h5 := condW_of h4 (w_not (w_lt w_lit (w_len_list (w_arg rfl))))
    rw [List.length_map] at h5
    refine Nat.le_of_not_lt fun q => ?_
    have q' : (n : Int) < ((ns.length : Nat) : Int) := by omega
    first
      | (rw [decide_eq_true q'] at h5; exact absurd h5 (by decide))
      | (simp at h5; omega)
  cases hwl with
  | cons w1 w2 =>
    cases w2
    cases w1 with
    | list ho hall => exact ⟨_, _, ns, rfl, rfl, ho, ints_of_wellAll ns _ hall, hlen⟩

theorem post_true (l : OpenLaw) (args : List WData) : l.row.toRowW.claim.post args (.bool true) args = true :=
  postW_of (r := l.row.toRowW) (X := (true == true))
    (show WShape.has [] (.bool true) .bool = true by first | rfl | decide | simp [WShape.has, WShape.arms, WShape.armsAll])
    (show (WTm.eq .res (.lit (.bool true))).value [] { args := args, res := some (.bool true), after := args } = some (.bool (true == true)) from w_eq_bool (w_res rfl) w_lit) rfl

/-! ### the attachment: holds_open's last premise (the goal 'hc' behind k_head) from a wpAny of the law's body -/
theorem attach {l : OpenLaw} {n : Nat} {q : Program} {loose : List Str} {XP : (Str → Option Value) → Heap → Prop} {YP : World → Heap → Prop} {d : DefRec} {x : Str}
    (hn : l.most = some n) (hdf : d.params.defaults = [])
    (hbind : ∀ pm cd doc v : Value, bindArgs (docDef d.name d.params d.body d.scope pm cd doc) ⟨[v], []⟩ = pure [(x, v)])
    (hx : d.scope.names.lookup x = some .local ∨ d.scope.names.lookup x = some .cell)
    (hk : d.scope.kind = .function) (hco : d.scope.isCoroutine = false) (hgen : d.scope.isGenerator = false)
    (body : ∀ (w : World) (s₀ s₁ s : Shared) (mg mb : Str → Option Value) (fa : Addr) (o : Obj) (pm cd doc : Value) (a : Addr) (vs : List Value) (ns : List Int),
      Ground q loose [] XP w s₀ mg mb s₁.heap → YP w s₁.heap →
      s₁.heap.get? fa = some o → o.data = .func (docDef d.name d.params d.body d.scope pm cd doc) → s₁.heap.CodeRec cd d.name → mg d.name = some (.ref fa) →
      s₁.heap.get? a = some { cls := .type "list", data := .seq vs.toArray } → IntsAre vs ns → ns.length ≤ n →
      s.gens = #[] → s.os = s₁.os →
      Fr s₁.heap s₁.heap.objs.size s.heap (bindL (envOfC d.name d.scope s₁.heap.objs.size fa cd).kindOf [(x, .ref a)] fun _ => none) →
      Cl s₁.heap.objs.size (cellsFrom (s₁.heap.objs.size + 1) d.scope.names []) s.heap (bindC (envOfC d.name d.scope s₁.heap.objs.size fa cd).kindOf [(x, .ref a)] fun _ => none) →
      wpAny (model l.prog w) (callerA.deeper (envOfC d.name d.scope s₁.heap.objs.size fa cd)) (execs d.body (envOfC d.name d.scope s₁.heap.objs.size fa cd))
        (fun f s' => f = .ret (.bool true) ∧ OldK s₁.heap s'.heap ∧ s'.os = s₁.os ∧ AllBare s'.gens) (fun _ _ => False) s) :
    WalkO q loose XP YP l.row.toRowW d [] (fun f vs => PySem.call f vs) := by
  intro w s₀ s₁ mg mb G Y fa o pm cd doc dV kV ho hd hcd hD hmg hg args vals as hpre hlay hrd hwl hlo
  obtain rfl : dV = .none := Dflts.none hD hdf
  obtain rfl : kV = .none := Dflts.noKw hD
  obtain ⟨a, vs, ns, rfl, rfl, hobj, hints, hlen⟩ := script_of hn hpre hwl
  refine enter_call ?_
  refine call_cells_ret (o := o) (by rw [depth_caller]; decide) ho (fd_plain hd) G.T.nolimit hcd (hbind pm cd doc (.ref a)) (fun y hy => ?_) (fun h₁ tk F X => ?_) hco hgen hk
  · obtain rfl : y = (x, Value.ref a) := List.mem_singleton.mp hy
    rcases hx with e | e
    · exact .inl e
    · exact .inr ⟨e, cellsFrom_some _ _ _ (.inl e)⟩
  · refine wpAny_mono (body w s₀ s₁ { s₁ with heap := h₁, toks := tk } mg mb fa o pm cd doc a vs ns G Y ho (fd_plain hd) hcd hmg hobj hints hlen hg rfl F X) (fun f s' hq => ?_) (fun _ _ hq => hq)
    obtain ⟨rfl, h2, h3, h4⟩ := hq
    exact ⟨.inl ⟨.bool true, .bool true, [], rfl, fun _ => rfl, .bool true, post_true l _, fun _ => ⟨List.Pairwise.nil, fun _ hm => (nomatch hm)⟩⟩, h2, h3, h4⟩

/-- the same from a codeAny of the CALL (for a layer whose function contracts speak of calls) -/
theorem attach_call {l : OpenLaw} {n : Nat} {q : Program} {loose : List Str} {XP : (Str → Option Value) → Heap → Prop} {YP : World → Heap → Prop} {d : DefRec}
    (hn : l.most = some n) (hdf : d.params.defaults = [])
    (call : ∀ (w : World) (s₀ s₁ : Shared) (mg mb : Str → Option Value) (fa : Addr) (o : Obj) (pm cd doc : Value) (a : Addr) (vs : List Value) (ns : List Int),
      Ground q loose [] XP w s₀ mg mb s₁.heap → YP w s₁.heap →
      s₁.heap.get? fa = some o → o.data = .func (docDef d.name d.params d.body d.scope pm cd doc) → s₁.heap.CodeRec cd d.name → mg d.name = some (.ref fa) →
      s₁.heap.get? a = some { cls := .type "list", data := .seq vs.toArray } → IntsAre vs ns → ns.length ≤ n → s₁.gens = #[] →
      codeAny (model l.prog w) callerA (.call (.ref fa) ⟨[.ref a], []⟩) (fun r s' => r = .ok (.ret (.bool true)) ∧ OldK s₁.heap s'.heap ∧ s'.os = s₁.os ∧ AllBare s'.gens) s₁) :
    WalkO q loose XP YP l.row.toRowW d [] (fun f vs => PySem.call f vs) := by
  intro w s₀ s₁ mg mb G Y fa o pm cd doc dV kV ho hd hcd hD hmg hg args vals as hpre hlay hrd hwl hlo
  obtain rfl : dV = .none := Dflts.none hD hdf
  obtain rfl : kV = .none := Dflts.noKw hD
  obtain ⟨a, vs, ns, rfl, rfl, hobj, hints, hlen⟩ := script_of hn hpre hwl
  refine enter_call (codeAny_mono (call w s₀ s₁ mg mb fa o pm cd doc a vs ns G Y ho (fd_plain hd) hcd hmg hobj hints hlen hg) fun r s' hq => ?_)
  obtain ⟨rfl, h2, h3, h4⟩ := hq
  exact ⟨.inl ⟨.bool true, .bool true, [], rfl, fun _ => rfl, .bool true, post_true l _, fun _ => ⟨List.Pairwise.nil, fun _ hm => (nomatch hm)⟩⟩, h2, h3, h4⟩

/-- the same where the top left finished generators (o_head chose holds_openN): nothing may have changed at all and no generator may be left -/
theorem attachN {l : OpenLaw} {n : Nat} {q : Program} {loose : List Str} {XP : (Str → Option Value) → Heap → Prop} {YP : World → Heap → Prop} {d : DefRec} {x : Str}
    (hn : l.most = some n) (hdf : d.params.defaults = [])
    (hbind : ∀ pm cd doc v : Value, bindArgs (docDef d.name d.params d.body d.scope pm cd doc) ⟨[v], []⟩ = pure [(x, v)])
    (hx : d.scope.names.lookup x = some .local ∨ d.scope.names.lookup x = some .cell)
    (hk : d.scope.kind = .function) (hco : d.scope.isCoroutine = false) (hgen : d.scope.isGenerator = false)
    (body : ∀ (w : World) (s₀ s₁ s : Shared) (mg mb : Str → Option Value) (fa : Addr) (o : Obj) (pm cd doc : Value) (a : Addr) (vs : List Value) (ns : List Int),
      Ground q loose [] XP w s₀ mg mb s₁.heap → YP w s₁.heap →
      s₁.heap.get? fa = some o → o.data = .func (docDef d.name d.params d.body d.scope pm cd doc) → s₁.heap.CodeRec cd d.name → mg d.name = some (.ref fa) →
      s₁.heap.get? a = some { cls := .type "list", data := .seq vs.toArray } → IntsAre vs ns → ns.length ≤ n →
      s.gens = #[] → s.os = s₁.os →
      Fr s₁.heap s₁.heap.objs.size s.heap (bindL (envOfC d.name d.scope s₁.heap.objs.size fa cd).kindOf [(x, .ref a)] fun _ => none) →
      Cl s₁.heap.objs.size (cellsFrom (s₁.heap.objs.size + 1) d.scope.names []) s.heap (bindC (envOfC d.name d.scope s₁.heap.objs.size fa cd).kindOf [(x, .ref a)] fun _ => none) →
      wpAny (model l.prog w) (callerA.deeper (envOfC d.name d.scope s₁.heap.objs.size fa cd)) (execs d.body (envOfC d.name d.scope s₁.heap.objs.size fa cd))
        (fun f s' => f = .ret (.bool true) ∧ (∀ b o, s₁.heap.get? b = some o → s'.heap.get? b = some o) ∧ s'.os = s₁.os ∧ s'.gens = #[]) (fun _ _ => False) s) :
    WalkN q loose XP YP l.row.toRowW d [] (fun f vs => PySem.call f vs) := by
  intro w s₀ s₁ mg mb G Y fa o pm cd doc dV kV ho hd hcd hD hmg hg args vals as hpre hlay hrd hwl hlo
  obtain rfl : dV = .none := Dflts.none hD hdf
  obtain rfl : kV = .none := Dflts.noKw hD
  obtain ⟨a, vs, ns, rfl, rfl, hobj, hints, hlen⟩ := script_of hn hpre hwl
  refine enter_callW ?_
  refine call_cells_ret (o := o) (by rw [depth_caller]; decide) ho (fd_plain hd) G.T.nolimit hcd (hbind pm cd doc (.ref a)) (fun y hy => ?_) (fun h₁ tk F X => ?_) hco hgen hk
  · obtain rfl : y = (x, Value.ref a) := List.mem_singleton.mp hy
    rcases hx with e | e
    · exact .inl e
    · exact .inr ⟨e, cellsFrom_some _ _ _ (.inl e)⟩
  · refine wpAny_mono (body w s₀ s₁ { s₁ with heap := h₁, toks := tk } mg mb fa o pm cd doc a vs ns G Y ho (fd_plain hd) hcd hmg hobj hints hlen hg rfl F X) (fun f s' hq => ?_) (fun _ _ hq => hq)
    obtain ⟨rfl, h2, h3, h4⟩ := hq
    exact ⟨.inl ⟨.bool true, .bool true, [], rfl, fun _ => rfl, .bool true, post_true l _, fun _ => ⟨List.Pairwise.nil, fun _ hm => (nomatch hm)⟩⟩, h2, h3, h4⟩

/-! ### rules over ANY heap (no ledger) from facts about the written part K: the library's own take a ledger (News) for what they write -/
section
variable {prog : Program} {w : World} {A : Around} {E : Value → Shared → Prop} {s : Shared} {K : Frag}

/-- a def of the module, or a method (qual 'C.m'), entered: the frame is the next address; cells behind it -/
theorem call_fn {R : Result → Shared → Prop} {name qual : Str} {params : Arguments} {body : List Stmt} {scope : Scope} {dV kV doc pm cdv ct oc : Value} {an od : Option Addr} {osl : Array (Option Value)} {f : Addr} {args : Args} {binds : List (Str × Value)}
    (X : K.In s.heap) (hlim : s.heap.NoLimit) (ho : K.lookup f = some ⟨oc, od, .func (fnOf name qual params body scope dV kV doc pm an cdv ct), osl⟩) (hcd : codeIn K cdv qual = true) (hroom : A.depth < recursionLimit)
    (hbind : BindsTo s (fnOf name qual params body scope dV kV doc pm an cdv ct) args binds)
    (hkind : (binds.all fun y => scope.names.lookup y.1 == some .local || scope.names.lookup y.1 == some .cell) = true)
    (h : ∀ s₁, InCallC s s.heap.objs.size (bindL (envOfC qual scope s.heap.objs.size f cdv).kindOf binds fun _ => none) (cellsFrom (s.heap.objs.size + 1) scope.names [])
        (bindC (envOfC qual scope s.heap.objs.size f cdv).kindOf binds fun _ => none) s₁ →
      wpAny (model prog w) (A.deeper (envOfC qual scope s.heap.objs.size f cdv)) (execs body (envOfC qual scope s.heap.objs.size f cdv))
        (fun fl s' => R (.ok (.ret (match fl with | .ret v => v | _ => .none))) s')
        (fun e s' => wpAny (model prog w) (A.deeper (envOfC qual scope s.heap.objs.size f cdv)) (leaving (envOfC qual scope s.heap.objs.size f cdv) e) (fun _ s'' => R (.error e) s'') (fun e' s'' => R (.error e') s'') s') s₁)
    (hco : scope.isCoroutine = false) (hgen : scope.isGenerator = false) (hk : scope.kind = .function) : codeAny (model prog w) A (.call (.ref f) args) R s := by
  refine codeAny_call_function hroom (X _ _ ho) rfl hco hgen rfl (codeRec_of X hcd) (hbind _ _ _ _ ?_)
  refine wpAny_newFunctionEnv_cells hk (kindsX hkind _) fun env he s₁ x => ?_
  subst he
  exact ⟨hlim.keeps x.toInCall.keep, codeAny_func (h s₁ x)⟩

/-- C(..): dict at size, instance at size + 1, then __init__ -/
theorem make_obj {R : Result → Shared → Prop} {C fI : Addr} {rest : List Value} {kw : List (Str × Value)}
    (X : K.In s.heap) (hm : makesIn K C = true) (hi : findIn K (.ref C) "__init__" = some (some (.ref fI))) (hf : isFn K (.ref fI) = true)
    (h : codeAny (model prog w) (A.under (.builtin "type.__call__" ⟨.ref C :: rest, kw⟩)) (.call (.ref fI) ⟨.ref (s.heap.objs.size + 1) :: rest, kw⟩) (InitBack (s.heap.objs.size + 1) R)
      { s with heap := (s.heap.push emptyDict).push (instObj C s.heap.objs.size) }) : codeAny (model prog w) A (.call (.ref C) ⟨rest, kw⟩) R s := by
  obtain ⟨hh, g, d, t, os⟩ := s
  exact make_core (makes_of X hm) (looks_findIn X hi) (fun self => bind_fn X self (beq_iff_eq.mp hf)) (.inl rfl) h

/-- x.name where the instance's dict holds the name and the class does not -/
theorem get_field {x C : Addr} {ox : Obj} {es : List DictEntry} {n : Nat} {name : Str} {expr : Bool} {v : Value} {Q : Value → Shared → Prop}
    (X : K.In s.heap) (I : PySem.W.InstAt s.heap x ox C (some (dictOf es n))) (hg : plainGet K C name = true) (hh : hasDictIn K C = true) (ha : findIn K (.ref C) name = some none)
    (hl : getL name es = some (some v)) (hv : handedIn v = true) (h : Q v { s with toks := s.toks + 1 }) : wpAny (model prog w) A (getAttr (.ref x) name expr) Q E s :=
  get_value X I (plainGet_of hg).1 (findObj_own hh ha rfl hl) hv h

/-- x.m(..): the method found in the class -/
theorem get_method {x C f : Addr} {ox : Obj} {es : List DictEntry} {n : Nat} {name : Str} {pl : Sem Bool} {Q : Value × List Value → Shared → Prop}
    (X : K.In s.heap) (I : PySem.W.InstAt s.heap x ox C (some (dictOf es n))) (hg : plainGet K C name = true) (hf : findIn K (.ref C) name = some (some (.ref f))) (ht : isFn K (.ref f) = true)
    (hl : getL name es = some none) (h : Q (.ref f, [.ref x]) s) : wpAny (model prog w) A (getMethod (.ref x) name pl) Q E s :=
  method_fn X I (plainGet_of hg).1 (plainGet_of hg).2 hf (beq_iff_eq.mp ht) (by show (lookIn name (dictOf es n)).map _ = _; rw [lookIn_dict, hl]; rfl) h

/-! the whole heap as the ledger: makes every rule that writes through a ledger a rule over any heap -/
def noObjs (h : Heap) : Heap := { h with objs := #[] }
theorem noObjs_get (h : Heap) (b : Addr) : (noObjs h).get? b = none := by
  cases e : (noObjs h).get? b with
  | none => rfl
  | some o => exact absurd (Heap.lt_size e) (Nat.not_lt_zero _)
def ledger (h : Heap) (L d : Addr) : List (Addr × Obj) := (List.range h.objs.size).filterMap fun a => if a = L ∨ a = d then none else (h.get? a).map fun o => (a, o)
theorem mem_ledger {h : Heap} {L d a : Addr} {o : Obj} : (a, o) ∈ ledger h L d ↔ a ≠ L ∧ a ≠ d ∧ h.get? a = some o := by
  unfold ledger
  rw [List.mem_filterMap]
  constructor
  · rintro ⟨b, _, e⟩
    split at e
    · cases e
    · rename_i hb
      obtain ⟨o', ho, e'⟩ := Option.map_eq_some_iff.mp e
      cases e'
      exact ⟨fun q => hb (.inl q), fun q => hb (.inr q), ho⟩
  · rintro ⟨n1, n2, ho⟩
    refine ⟨a, List.mem_range.mpr (Heap.lt_size ho), ?_⟩
    rw [if_neg (show ¬ (a = L ∨ a = d) from fun q => q.elim n1 n2), ho] <;> rfl
theorem news_ledger {h : Heap} {L d : Addr} {od : Obj} (hne : d ≠ L) (ho : h.get? d = some od) : News (noObjs h) L h ([] ++ (d, od) :: ledger h L d) := by
  rintro ⟨a, o⟩ hp
  rcases List.mem_cons.mp hp with e | hp
  · cases e
    exact ⟨ho, hne, noObjs_get _ _⟩
  · obtain ⟨n1, n2, e⟩ := mem_ledger.mp hp
    exact ⟨e, n1, noObjs_get _ _⟩
theorem fr_all {h : Heap} {L : Addr} {m : Str → Option Value} (n : h.Ns L m) : Fr (noObjs h) L h m :=
  ⟨n, fun b o e => (by rw [noObjs_get] at e; cases e), Nat.zero_le _⟩
/-- Upd of the head entry (for append_K, setItem_K ..) -/
theorem upd_ledger {h : Heap} {L d : Addr} {o o' : Obj} : Upd d o o' ((d, o) :: ledger h L d) ((d, o') :: ledger h L d) :=
  .head fun ⟨_, _⟩ hp => (mem_ledger.mp hp).2.1

/-- x.name = v over any heap: L is any namespace of the heap (the frame's, say): its map stays, its object is not told; all else but the dict stays -/
theorem set_field {x C dx L : Addr} {ox : Obj} {m : Str → Option Value} {es es' : List DictEntry} {n n' : Nat} {name : Str} {v : Value} {Q : Unit → Shared → Prop}
    (X : K.In s.heap) (I : PySem.W.InstAt s.heap x ox C (some (dictOf es n))) (hd : ox.dict = some dx) (hL : s.heap.Ns L m) (hne : dx ≠ L)
    (hs : findIn K (.ref C) "__setattr__" = some (some (.builtin "object.__setattr__"))) (hp : plainOver K C = true) (ht : takerIn K C name = some none) (hh : hasDictIn K C = true) (hl : (getL name es).isSome = true)
    (e : (putL name (PyData.keyHash w.params name) (.str name (s.toks + 1)) v es, putN name es n) = (es', n')) (hz : es'.length ≤ 1000)
    (h : ∀ h' : Heap, h'.Ns L m → h'.get? dx = some (dictOf es' n') → (∀ b o, b ≠ dx → b ≠ L → s.heap.get? b = some o → h'.get? b = some o) → Q () { s with heap := h', toks := s.toks + 2 }) :
    wpAny (model prog w) A (setAttr (.ref x) name v) Q E s := by
  obtain ⟨e1, e2⟩ := Prod.mk.inj e
  have hdx : s.heap.get? dx = some (dictOf es n) := by
    have := I.dict
    rw [hd] at this
    exact this
  refine set_plain X I hs (osa_dict (s := { s with toks := s.toks + 1 }) (h₀ := noObjs s.heap) (L := L) (m := m) (od := dictOf es n) (od' := dictOf es' n') (es := es') (n := n') (pre := []) (post := ledger s.heap L dx)
    (fr_all hL) (news_ledger hne hdx) X I hd hp ht hh hl (fun _ q => nomatch q) (fun ⟨_, _⟩ q => (mem_ledger.mp q).2.1) (by rw [putName_dict, e1, e2]) rfl hz fun h' F' N' => ?_)
  exact h h' F'.ns (N'.get (List.Mem.head _)) fun b o n1 n2 ho => N'.get (List.Mem.tail _ (mem_ledger.mpr ⟨n2, n1, ho⟩))
end
end Att

namespace L2
open PySem PySem.Spec PyProof.Rows

theorem vals_ints : ∀ {vs : List Value} {ns : List Int}, IntsAre vs ns → Vals (ns.map V.int) vs
  | _, _, .nil => .nil
  | _, _, .cons n t h => .cons ⟨t, rfl⟩ (vals_ints h)

/-- nothing is tracked but the script, known to the object (or it is an object of the module) -/
def Only (H : Hp) : Prop := ∀ b, H b = none ∨ ∃ o xs, H b = some (.frz o (.lst xs))

/-- THE HEAD: the law's promise, at the heap behind the top. F, the promise of the law's def, may use that base is part of the heap (so K.In base, base.Ns mainGlobals mg stand in Mod) -/
theorem law_call {P : Program} {w : World} {K : PySem.W.Frag} {mg mb : Str → Option Value} {CX : CXT} {k : Nat} {fa a : Addr} {fd : FuncData} {x : Str} {sp : Sp} {s₁ : Shared} {vs : List Value} {ns : List Int}
    (KX : K.In s₁.heap) (hns : s₁.heap.Ns mainGlobals mg) (hb : s₁.heap.Ns builtinsNs mb) (hbb : ∀ x : Str, x ≠ "__name__" → mb x = bootBuiltins x) (hlim : s₁.heap.NoLimit) (hg : s₁.gens = #[])
    (ha : s₁.heap.get? a = some { cls := .type "list", data := .seq vs.toArray }) (hi : IntsAre vs ns) (hl : ns.length ≤ sizeLine) (hr : Room k callerA)
    (F : ∀ base : Heap, K.In base → base.Ns mainGlobals mg → FnOk P w K mg base CX k fa fd [x] sp) (hbind : ∀ (s : Shared) (u : Value), BindsTo s fd ⟨[u], []⟩ [(x, u)])
    (hsp : ∀ H : Hp, Only H → SqL K H a (ns.map V.int) → sp [.ref a] H (fun v _ => v = .bl true) fun _ _ _ => False)
    (hCX : ∀ H e s', CX [] H s₁ (fun _ _ _ => False) e s' → False) :
    codeAny (model P w) callerA (.call (.ref fa) ⟨[.ref a], []⟩) (fun r s' => r = .ok (.ret (.bool true)) ∧ OldK s₁.heap s'.heap ∧ s'.os = s₁.os ∧ AllBare s'.gens) s₁ := by
  have rv := vals_ints hi
  have lenV := hi.length
  -- from an abstract heap in which nothing but the script may be tracked
  have core : ∀ H : Hp, Only H → SqL K H a (ns.map V.int) → HOk P w H s₁.heap → (∀ b, H b ≠ none → b = a) → (H a ≠ none → K.lookup a = none) →
      codeAny (model P w) callerA (.call (.ref fa) ⟨[.ref a], []⟩) (fun r s' => r = .ok (.ret (.bool true)) ∧ OldK s₁.heap s'.heap ∧ s'.os = s₁.os ∧ AllBare s'.gens) s₁ := by
    intro H hO hS hok hA hK
    have base_of : ∀ {b : Addr} {o : Obj}, s₁.heap.get? b = some o → H b = none → (hidT s₁.heap H).get? b = some o := fun e n => hidT_get e n
    have noA : ∀ {b : Addr} {o : Obj} {es : Array DictEntry} {ep : Nat}, s₁.heap.get? b = some o → o.data = .dict es ep → H b = none := fun {b o es ep} e d => by
      cases q : H b with
      | none => rfl
      | some u =>
        have e' : b = a := hA b (by rw [q]; simp)
        subst e'
        rw [ha] at e; cases e
        have d' : Data.seq vs.toArray _ = Data.dict es ep := d
        cases d'
    have nsK : ∀ {b : Addr} {m : Str → Option Value}, s₁.heap.Ns b m → (hidT s₁.heap H).Ns b m := fun {b m} ⟨o, es, ep, e, d, r⟩ => ⟨o, es, ep, base_of e (noA e d), d, r⟩
    have hKb : K.In (hidT s₁.heap H) := fun b o e => base_of (KX b o e) (by
      cases q : H b with
      | none => rfl
      | some u =>
        have e' : b = a := hA b (by rw [q]; simp)
        subst e'
        rw [hK (by rw [q]; simp)] at e; cases e)
    have hM : Mod K mg (hidT s₁.heap H) := ⟨hKb, nsK hns, ⟨mb, nsK hb, hbb⟩, let ⟨mc, h1, h2⟩ := hlim; ⟨mc, nsK h1, h2⟩⟩
    have e0 : Env0 P w K mg (hidT s₁.heap H) callerA [] s₁ H := ⟨rfl, hM, fun b o e => of_hidT e, Nat.le_of_eq (hidT_size _ _), trivial, fun b hb => absurd (show b ∈ ([] : List Addr) from hb) (by simp), hok, .of_eq hg⟩
    refine codeAny_mono ((F _ hKb (nsK hns)).run callerA [] s₁ H ⟨[.ref a], []⟩ [.ref a] [.ref a] _ _ hr e0 (hbind s₁ (.ref a)) (.cons rfl .nil) (hsp H hO hS)) fun r s' h => ?_
    cases r with
    | error e => exact (hCX H e s' h).elim
    | ok fl =>
      cases fl with
      | next => exact False.elim h
      | brk => exact False.elim h
      | cont => exact False.elim h
      | ret u =>
        obtain ⟨v, H', os, bare, un, hok', r', q⟩ := h
        have q' : v = .bl true := q
        subst q'
        obtain rfl : u = Value.bool true := r'
        refine ⟨rfl, OldK.of_keep fun b o e => ?_, os, bare⟩
        cases q : H b with
        | none => exact un.keep b o e q (by intro z; exact absurd (show b ∈ ([] : List Addr) from z) (by simp)) (by simp)
        | some u =>
          rcases hO b with z | ⟨ob, xs, z⟩
          · rw [q] at z; cases z
          · have z2 := un.frzs b ob _ z
            obtain ⟨e1, _⟩ := hok b _ z
            obtain ⟨e2, _⟩ := hok' b _ z2
            rw [e] at e1; cases e1
            exact e2
  cases hk : K.lookup a with
  | some o =>
    -- the script is one of the module's own objects
    have e := KX a o hk
    rw [ha] at e
    cases e
    refine core (fun _ => none) (fun _ => .inl rfl) (.inr ⟨_, vs.toArray, _, hk, rfl, rfl, rfl, by rw [List.size_toArray, lenV]; exact hl, by simpa using rv⟩) (fun b u z => by have z' : (none : Option HO) = some u := z; cases z') (fun b z => absurd rfl z) fun z => absurd rfl z
  | none =>
    refine core (fun b => if b = a then some (.frz { cls := .type "list", data := .seq vs.toArray } (.lst (ns.map V.int))) else none) (fun b => ?_) (.inl (.inr ⟨{ cls := .type "list", data := .seq vs.toArray }, if_pos rfl⟩)) (fun b u z => ?_) (fun b z => ?_) fun _ => hk
    · by_cases hb : b = a
      · exact .inr ⟨_, _, if_pos hb⟩
      · exact .inl (if_neg hb)
    · by_cases hb : b = a
      · have z' := (if_pos hb).symm.trans z
        cases z'
        subst hb
        exact ⟨ha, by rw [List.length_map]; exact hl, vs, _, rv, ha⟩
      · have z' := (if_neg hb).symm.trans z
        cases z'
    · by_cases hb : b = a
      · exact hb
      · exact absurd (if_neg hb) z
end L2

namespace L2
open PySem PySem.Spec PyProof.Rows

abbrev KOf {K : PySem.W.Frag} {h : Heap} (_ : K.In h) : PySem.W.Frag := K

/-- the goal that k_head leaves (case hc), from the law's promise. F gives the function object fd (K's own) once, then the promise over every base -/
theorem walk_of {l : PySem.W.OpenLaw} {n k : Nat} {q : Program} {loose : List Str} {XP : (Str → Option Value) → Heap → Prop} {YP : World → Heap → Prop} {d : DefRec} {K : Params → PySem.W.Frag} {CX : World → CXT} {sp : World → Sp} {x : Str}
    (hn : l.most = some n) (hn2 : n ≤ sizeLine) (hdf : d.params.defaults = []) (hr : Room k callerA)
    (hY : ∀ (w : World) (h : Heap), YP w h → (K w.params).In h)
    (F : ∀ (w : World) (mg : Str → Option Value) (fa : Addr) (h : Heap), (K w.params).In h → h.Ns mainGlobals mg → mg d.name = some (.ref fa) →
      ∃ fd : FuncData, (∀ (s : Shared) (u : Value), BindsTo s fd ⟨[u], []⟩ [(x, u)]) ∧
        ∀ base : Heap, (K w.params).In base → base.Ns mainGlobals mg → FnOk l.prog w (K w.params) mg base (CX w) k fa fd [x] (sp w))
    (hsp : ∀ (w : World) (H : Hp) (a : Addr) (ns : List Int), ns.length ≤ n → Only H → SqL (K w.params) H a (ns.map V.int) → sp w [.ref a] H (fun v _ => v = .bl true) fun _ _ _ => False)
    (hCX : ∀ (w : World) (H : Hp) (s : Shared) (e : Value) (s' : Shared), CX w [] H s (fun _ _ _ => False) e s' → False) :
    PySem.W.WalkO q loose XP YP l.row.toRowW d [] (fun f vs => PySem.call f vs) := by
  refine Att.attach_call hn hdf fun w s₀ s₁ mg mb fa o pm cd doc a vs ns G Y ho hd hcd hmg hobj hints hlen hg => ?_
  have KX := hY w _ Y
  obtain ⟨fd, hb, hF⟩ := F w mg fa _ KX G.T.g hmg
  exact law_call KX G.T.g G.T.b G.T.builtins G.T.nolimit hg hobj hints (Nat.le_trans hlen hn2) hr hF hb (fun H hO hS => hsp w H a ns hlen hO hS) fun H e s' => hCX w H s₁ e s'
/-- the same where the promise hangs on the written part alone: (sp := My.sp_law), no hole under a binder -/
theorem walk_ofK {l : PySem.W.OpenLaw} {n k : Nat} {q : Program} {loose : List Str} {XP : (Str → Option Value) → Heap → Prop} {YP : World → Heap → Prop} {d : DefRec} {K : Params → PySem.W.Frag} {CX : CXT} {sp : PySem.W.Frag → Sp} {x : Str}
    (hn : l.most = some n) (hn2 : n ≤ sizeLine) (hdf : d.params.defaults = []) (hr : Room k callerA)
    (hY : ∀ (w : World) (h : Heap), YP w h → (K w.params).In h)
    (F : ∀ (w : World) (mg : Str → Option Value) (fa : Addr) (h : Heap), (K w.params).In h → h.Ns mainGlobals mg → mg d.name = some (.ref fa) →
      ∃ fd : FuncData, (∀ (s : Shared) (u : Value), BindsTo s fd ⟨[u], []⟩ [(x, u)]) ∧
        ∀ base : Heap, (K w.params).In base → base.Ns mainGlobals mg → FnOk l.prog w (K w.params) mg base CX k fa fd [x] (sp (K w.params)))
    (hsp : ∀ (K : PySem.W.Frag) (H : Hp) (a : Addr) (ns : List Int), ns.length ≤ n → Only H → SqL K H a (ns.map V.int) → sp K [.ref a] H (fun v _ => v = .bl true) fun _ _ _ => False)
    (hCX : ∀ (H : Hp) (s : Shared) (e : Value) (s' : Shared), CX [] H s (fun _ _ _ => False) e s' → False) :
    PySem.W.WalkO q loose XP YP l.row.toRowW d [] (fun f vs => PySem.call f vs) :=
  walk_of (K := K) (CX := fun _ => CX) (sp := fun w => sp (K w.params)) hn hn2 hdf hr hY F (fun w H a ns h1 h2 h3 => hsp (K w.params) H a ns h1 h2 h3) fun _ H s e s' => hCX H s e s'
end L2

/- THE LAST THEOREM (shape; LID, My.* are yours):
   My.Adr: a structure of the addresses that your layer names (classes, functions); My.Txt K t: a structure (Prop) of the equations over K;
   My.txt_mk : {K} {implicit addresses ..} (e1 : nsIn K mainGlobals "law" = some (some (.ref f))) (e2 : K.lookup f = some ⟨oc, od, .func (fnOf "law" "law" params body scope dV kV doc pm an cdv ct), sl⟩) (e3 : codeIn K cdv "law" = true) .. : ∃ t, My.Txt K t

set_option maxRecDepth 100000 in
set_option maxHeartbeats 0 in
theorem PySem.Challenge.cw_LID_holds : PySem.Challenge.rw_LID.Holds := by
  w_on; o_law; k_head; (case hw => w_witness2)
  k_fill
  refine L2.walk_of (l := PySem.Challenge.rw_LID) (n := 63) (k := 40) (x := "script") (CX := fun w => ..) (sp := fun _ => My.sp_law) rfl (by decide) rfl ⟨rfl, by decide, by decide⟩ (fun w h Y => PySem.W.kIn_of Y) ?F ?S ?C
  case F =>
    intro w mg fa h KX G hmg
    have T : ∃ t, My.Txt (L2.KOf KX) t := by
      dsimp only [L2.KOf]                          -- K must stand as «<heap const> w.params» for k_is
      refine' My.txt_mk ?e1 ?e2 ?e3 ..
      (case e1 => PySem.W.k_is)                    -- in the order: a name -> its address -> its object -> its parts
      (case e2 => PySem.W.k_is)
      ..
    obtain ⟨t, T⟩ := T
    have e0 := hmg.symm.trans (PySem.W.mg_of KX G T.law)
    cases e0                                       -- fa is the law's own address
    exact ⟨_, fun s u => .of_eq rfl, fun base kb nb => My.law_fn T kb nb⟩     -- if «.of_eq rfl» comes too early: refine' ⟨_, ?b, fun base kb nb => My.law_fn T kb nb⟩; exact fun s u => .of_eq rfl
  case S => exact fun w H a ns hl hO hS => ..
  case C => exact ..
(the tactic k_is has no namespace: write k_is) -/

/-! SHORT WORDS over the layer: a def of the text, its body, what a loop and a test want. -/
namespace L2
open PySem PySem.Spec PyProof.Rows

/-! ### the text by places -/
/-- the j-th statement of a class's body -/
def inClass (s : Stmt) (j : Nat) : Stmt := match s with
  | .ClassDef _ _ _ body _ _ _ _ _ _ _ => body.getD j (.Pass ⟨0, 0, 0, 0⟩)
  | _ => .Pass ⟨0, 0, 0, 0⟩
def defArgs (s : Stmt) : Arguments := match s with
  | .FunctionDef _ a _ _ _ _ _ _ _ _ => a
  | _ => { posonlyargs := [], args := [], vararg := none, kwonlyargs := [], kw_defaults := [], kwarg := none, defaults := [] }
def defBody (s : Stmt) : List Stmt := match s with
  | .FunctionDef _ _ b _ _ _ _ _ _ _ => b
  | _ => []
def defScope (s : Stmt) : Scope := match s with
  | .FunctionDef _ _ _ _ _ _ sc _ _ _ => sc
  | _ => { kind := .function, names := [], isGenerator := false, isCoroutine := false }

/-! ### no exception leaves a def -/
abbrev CX0 : CXT := fun _ _ _ _ _ _ => False
abbrev E0 : XK := fun _ _ _ => False
theorem pass0 {X : Cx} : Passes CX0 X E0 := fun _ _ _ _ _ _ _ h => h.elim

/-! ### a def (or method) of the text as it stands behind the top -/
structure Fun (K : PySem.W.Frag) (x qual : Str) (st : Stmt) (f : Addr) (fd : FuncData) : Prop where
  ex : ∃ (oc : Value) (od : Option Addr) (kV doc pm : Value) (an : Option Addr) (cdv ct : Value) (osl : Array (Option Value)),
    fd = PySem.W.fnOf x qual (defArgs st) (defBody st) (defScope st) .none kV doc pm an cdv ct ∧ K.lookup f = some ⟨oc, od, .func fd, osl⟩ ∧ PySem.W.codeIn K cdv qual = true
  kp : PySem.W.keepIn K (.ref f) = true
section
variable {P : Program} {w : World} {K : PySem.W.Frag} {mg : Str → Option Value} {base : Heap}
/-- THE RULE for a def: its body as a term of rules, and the reading of that term -/
theorem Fun.ok {x qual : Str} {st : Stmt} {f : Addr} {fd : FuncData} {N ps : List Str} {k : Nat} {sp : Sp} (F : Fun K x qual st f fd) (S : FnScope N ps (defScope st)) (len : ∀ vs H Q E, sp vs H Q E → vs.length = ps.length)
    (hbody : ∀ (cdv : Value) (A : Around) (outer : List Env) (s : Shared) (H : Hp) (vs : List V) (Q : VK) (E : XK), Room k (A.deeper (envOfC qual (defScope st) s.heap.objs.size f cdv)) → sp vs H Q E →
      ∃ t, PSs (cxOf CX0 P w K mg base N qual (defScope st) f cdv A outer s H E).nox (defBody st) t ∧ t { nx := fun _ H' => Q .non H', rt := Q } (start N vs) H) : FnOk P w K mg base CX0 (k + 1) f fd ps sp := by
  obtain ⟨oc, od, kV, doc, pm, an, cdv, ct, osl, rfl, lk, hcd⟩ := F.ex
  refine fn_of lk hcd S len fun A outer s H vs Q E hr hsp => ?_
  obtain ⟨t, h, q⟩ := hbody cdv A outer s H vs Q E hr hsp
  exact ⟨t, h.nox, q⟩
/-- how its arguments bind (no defaults): h is «fun _ _ _ _ _ _ us hl => match us, hl with | [_, _], _ => rfl», one _ a parameter -/
theorem Fun.binds {x qual : Str} {st : Stmt} {f : Addr} {fd : FuncData} {ps : List Str} (F : Fun K x qual st f fd)
    (h : ∀ (kV doc pm : Value) (an : Option Addr) (cdv ct : Value) (us : List Value), us.length = ps.length → bindArgs (PySem.W.fnOf x qual (defArgs st) (defBody st) (defScope st) .none kV doc pm an cdv ct) ⟨us, []⟩ = pure (ps.zip us)) : Binds K fd ps [] := by
  obtain ⟨oc, od, kV, doc, pm, an, cdv, ct, osl, rfl, lk, hcd⟩ := F.ex
  exact .all (h kV doc pm an cdv ct)
theorem fun_mk {x qual : Str} {st : Stmt} {f : Addr} {oc : Value} {od an : Option Addr} {osl : Array (Option Value)} {kV doc pm cdv ct : Value} (l : K.lookup f = some ⟨oc, od, .func (PySem.W.fnOf x qual (defArgs st) (defBody st) (defScope st) .none kV doc pm an cdv ct), osl⟩)
    (c : PySem.W.codeIn K cdv qual = true) (k : PySem.W.keepIn K (.ref f) = true) : Fun K x qual st f (PySem.W.fnOf x qual (defArgs st) (defBody st) (defScope st) .none kV doc pm an cdv ct) := ⟨⟨oc, od, kV, doc, pm, an, cdv, ct, osl, rfl, l, c⟩, k⟩
end
theorem hu_of {A : Around} {k : Nat} (hr : Room k A) : A.units + 1 < cLine := Nat.lt_of_le_of_lt (Nat.add_le_add_left (by decide : 1 ≤ 64) _) hr.units
theorem small1000 {n : Nat} (h : n ≤ 1000) : n < sizeLine := Nat.lt_of_le_of_lt h (by decide)

/-! ### expressions in short: the name that stands in the i-th slot -/
section
variable {X : Cx}
theorem pv (i : Nat) {x : Str} {pos : Pos} (hN : X.N[i]? = some x := by rfl) (hv : Vis X.env.scope x := by first | exact Or.inl rfl | exact Or.inr (Or.inl rfl) | exact Or.inr (Or.inr rfl)) (hd : (x == ("__debug__" : Str)) = false := by decide)
    (hcd : (x == ("__classdict__" : Str)) = false := by decide) : PE X (.Name x pos) (tVar i) := pe_var hN hv hd hcd
end

/-! ### tests -/
theorem iteF {A B : Prop} (h : B) : if false = true then A else B := by
  rw [if_neg Bool.false_ne_true]
  exact h
theorem iteT {A B : Prop} (h : A) : if true = true then A else B := by
  rw [if_pos rfl]
  exact h
theorem ite2 {c A B : Prop} [Decidable c] (h1 : c → A) (h2 : ¬ c → B) : if c then A else B := by
  by_cases h : c
  · rw [if_pos h]
    exact h1 h
  · rw [if_neg h]
    exact h2 h
theorem iteNS {c A B : Prop} [Decidable c] (hc : c) (h : B) : if (!decide c) = true then A else B := by
  rw [decide_eq_true hc]
  exact iteF h

/-! ### heaps -/
/-- all that was tracked is as it was -/
def Same (H H' : Hp) : Prop := ∀ b o, H b = some o → H' b = some o
theorem Same.refl (H : Hp) : Same H H := fun _ _ h => h
theorem Same.trans {H H1 H2 : Hp} (a : Same H H1) (b : Same H1 H2) : Same H H2 := fun c o h => b c o (a c o h)
theorem Same.free {H H' : Hp} (e : Same H H') {l : Addr} (h : H' l = Option.none) : H l = Option.none := by
  cases q : H l with
  | none => rfl
  | some o =>
    rw [e l o q] at h
    cases h
theorem Same.seq {K : PySem.W.Frag} {H H' : Hp} {a : Addr} {xs : List V} (e : Same H H') (h : SqL K H a xs) : SqL K H' a xs := by
  rcases h with (h | ⟨o, h⟩) | h
  · exact .inl (.inl (e _ _ h))
  · exact .inl (.inr ⟨o, e _ _ h⟩)
  · exact .inr h

end L2

set_option Elab.async false
set_option linter.all false
set_option maxRecDepth 100000
/-! values as plain trees, each def by a mirror -/
namespace DL
open PySem PySem.Spec PyProof.Rows L2

inductive D where
  | non | bl (b : Bool) | int (i : Int) | str (x : Str) | tup (xs : List D) | lst (xs : List D) | dic (ks : List Str) (xs : List D)

structure Exn where
  cls : Str
  flds : List (Str × D)

inductive Res (α : Type) where
  | ok (a : α) | exn (x : Exn) | stuck
def Res.bind {α β : Type} (r : Res α) (f : α → Res β) : Res β := match r with
  | .ok a => f a
  | .exn x => .exn x
  | .stuck => .stuck

mutual
def Rep (K : PySem.W.Frag) (H : Hp) : D → V → Prop
  | .non, v => v = .non
  | .bl b, v => v = .bl b
  | .int i, v => v = .int i
  | .str x, v => v = .str x
  | .tup ds, v => ∃ a vs, v = .ref a ∧ SqT K H a vs ∧ Reps K H ds vs
  | .lst ds, v => ∃ a vs, v = .ref a ∧ SqL K H a vs ∧ Reps K H ds vs
  | .dic ks ds, v => ∃ a kvs vs, v = .ref a ∧ Rd H a (.dK kvs) ∧ kvs = (ks.map Sum.inr).zip vs ∧ ks.length = vs.length ∧ Reps K H ds vs
def Reps (K : PySem.W.Frag) (H : Hp) : List D → List V → Prop
  | [], vs => vs = []
  | d :: ds, vs => ∃ v r, vs = v :: r ∧ Rep K H d v ∧ Reps K H ds r
end

theorem Same.rd {H H' : Hp} (e : Same H H') {a : Addr} {o : HO} (h : Rd H a o) : Rd H' a o := by
  rcases h with h | ⟨o', h⟩
  · exact .inl (e _ _ h)
  · exact .inr ⟨o', e _ _ h⟩
theorem Same.sqT {K : PySem.W.Frag} {H H' : Hp} (e : Same H H') {a : Addr} {xs : List V} (h : SqT K H a xs) : SqT K H' a xs := by
  rcases h with h | h
  · exact .inl (Same.rd e h)
  · exact .inr h
theorem Same.sqL {K : PySem.W.Frag} {H H' : Hp} (e : Same H H') {a : Addr} {xs : List V} (h : SqL K H a xs) : SqL K H' a xs := by
  rcases h with h | h
  · exact .inl (Same.rd e h)
  · exact .inr h

mutual
theorem Rep.mono {K : PySem.W.Frag} {H H' : Hp} (e : Same H H') : ∀ {d : D} {v : V}, Rep K H d v → Rep K H' d v
  | .non, _, h => by unfold Rep at h ⊢; exact h
  | .bl _, _, h => by unfold Rep at h ⊢; exact h
  | .int _, _, h => by unfold Rep at h ⊢; exact h
  | .str _, _, h => by unfold Rep at h ⊢; exact h
  | .tup ds, _, h => by
    unfold Rep at h ⊢
    obtain ⟨a, vs, e1, e2, e3⟩ := h
    exact ⟨a, vs, e1, Same.sqT e e2, Reps.mono e e3⟩
  | .lst ds, _, h => by
    unfold Rep at h ⊢
    obtain ⟨a, vs, e1, e2, e3⟩ := h
    exact ⟨a, vs, e1, Same.sqL e e2, Reps.mono e e3⟩
  | .dic ks ds, _, h => by
    unfold Rep at h ⊢
    obtain ⟨a, kvs, vs, e1, e2, e3, e4, e5⟩ := h
    exact ⟨a, kvs, vs, e1, Same.rd e e2, e3, e4, Reps.mono e e5⟩
theorem Reps.mono {K : PySem.W.Frag} {H H' : Hp} (e : Same H H') : ∀ {ds : List D} {vs : List V}, Reps K H ds vs → Reps K H' ds vs
  | [], _, h => by unfold Reps at h ⊢; exact h
  | d :: ds, _, h => by
    unfold Reps at h ⊢
    obtain ⟨v, r, e1, e2, e3⟩ := h
    exact ⟨v, r, e1, Rep.mono e e2, Reps.mono e e3⟩
end

section
variable {K : PySem.W.Frag} {H : Hp} {v : V} {vs : List V} {d : D} {ds : List D}
theorem Rep.non_iff : Rep K H .non v ↔ v = .non := by unfold Rep; exact Iff.rfl
theorem Rep.bl_iff {b} : Rep K H (.bl b) v ↔ v = .bl b := by unfold Rep; exact Iff.rfl
theorem Rep.int_iff {i} : Rep K H (.int i) v ↔ v = .int i := by unfold Rep; exact Iff.rfl
theorem Rep.str_iff {x} : Rep K H (.str x) v ↔ v = .str x := by unfold Rep; exact Iff.rfl
theorem Rep.tup_iff : Rep K H (.tup ds) v ↔ ∃ a vs, v = .ref a ∧ SqT K H a vs ∧ Reps K H ds vs := by rw [Rep]
theorem Rep.lst_iff : Rep K H (.lst ds) v ↔ ∃ a vs, v = .ref a ∧ SqL K H a vs ∧ Reps K H ds vs := by rw [Rep]
theorem Reps.nil_iff : Reps K H [] vs ↔ vs = [] := by unfold Reps; exact Iff.rfl
theorem Reps.cons_iff : Reps K H (d :: ds) vs ↔ ∃ v r, vs = v :: r ∧ Rep K H d v ∧ Reps K H ds r := by rw [Reps]
theorem Reps.nil : Reps K H [] [] := Reps.nil_iff.mpr rfl
theorem Reps.cons (h : Rep K H d v) (h' : Reps K H ds vs) : Reps K H (d :: ds) (v :: vs) := Reps.cons_iff.mpr ⟨_, _, rfl, h, h'⟩
end
theorem Reps.length {K : PySem.W.Frag} {H : Hp} : ∀ {ds : List D} {vs : List V}, Reps K H ds vs → ds.length = vs.length
  | [], _, h => by rw [Reps.nil_iff.mp h]; rfl
  | d :: ds, _, h => by
    obtain ⟨v, r, rfl, _, h⟩ := Reps.cons_iff.mp h
    simp [Reps.length h]
theorem Reps.get {K : PySem.W.Frag} {H : Hp} : ∀ {ds : List D} {vs : List V} {i : Nat} {d : D}, Reps K H ds vs → ds[i]? = some d → ∃ v, vs[i]? = some v ∧ Rep K H d v
  | [], _, _, _, h, e => by simp at e
  | x :: ds, _, 0, d, h, e => by
    obtain ⟨v, r, rfl, h1, _⟩ := Reps.cons_iff.mp h
    simp at e; subst e; exact ⟨v, rfl, h1⟩
  | x :: ds, _, i + 1, d, h, e => by
    obtain ⟨v, r, rfl, _, h2⟩ := Reps.cons_iff.mp h
    obtain ⟨u, e1, e2⟩ := Reps.get (i := i) h2 (by simpa using e)
    exact ⟨u, by simpa using e1, e2⟩
theorem Reps.app {K : PySem.W.Frag} {H : Hp} : ∀ {ds es : List D} {vs us : List V}, Reps K H ds vs → Reps K H es us → Reps K H (ds ++ es) (vs ++ us)
  | [], _, _, _, h, h' => by rw [Reps.nil_iff.mp h]; exact h'
  | d :: ds, _, _, _, h, h' => by
    obtain ⟨v, r, rfl, h1, h2⟩ := Reps.cons_iff.mp h
    exact Reps.cons h1 (Reps.app h2 h')
theorem Reps.take {K : PySem.W.Frag} {H : Hp} : ∀ {ds : List D} {vs : List V} (n : Nat), Reps K H ds vs → Reps K H (ds.take n) (vs.take n)
  | _, _, 0, _ => by simp; exact Reps.nil
  | [], _, n + 1, h => by rw [Reps.nil_iff.mp h]; exact Reps.nil
  | d :: ds, _, n + 1, h => by
    obtain ⟨v, r, rfl, h1, h2⟩ := Reps.cons_iff.mp h
    exact Reps.cons h1 (Reps.take n h2)
theorem Reps.drop {K : PySem.W.Frag} {H : Hp} : ∀ {ds : List D} {vs : List V} (n : Nat), Reps K H ds vs → Reps K H (ds.drop n) (vs.drop n)
  | _, _, 0, h => by simpa using h
  | [], _, n + 1, h => by rw [Reps.nil_iff.mp h]; exact Reps.nil
  | d :: ds, _, n + 1, h => by
    obtain ⟨v, r, rfl, h1, h2⟩ := Reps.cons_iff.mp h
    exact Reps.drop n h2
theorem Reps.set {K : PySem.W.Frag} {H : Hp} {d : D} {v : V} (h : Rep K H d v) : ∀ {ds : List D} {vs : List V} (n : Nat), Reps K H ds vs → Reps K H (ds.set n d) (vs.set n v)
  | [], _, n, h' => by rw [Reps.nil_iff.mp h']; exact Reps.nil
  | x :: ds, _, 0, h' => by
    obtain ⟨v, r, rfl, h1, h2⟩ := Reps.cons_iff.mp h'
    exact Reps.cons h h2
  | x :: ds, _, n + 1, h' => by
    obtain ⟨v, r, rfl, h1, h2⟩ := Reps.cons_iff.mp h'
    exact Reps.cons h1 (Reps.set h n h2)
theorem Reps.ints {K : PySem.W.Frag} {H : Hp} : ∀ (ns : List Int), Reps K H (ns.map D.int) (ns.map V.int)
  | [] => Reps.nil
  | n :: r => Reps.cons (Rep.int_iff.mpr rfl) (Reps.ints r)

/-! ### growing -/
structure Grow (H H₀ H' H₀' : Hp) : Prop where
  s : Same H H'
  z : Same H₀ H₀'
  sub : Same H₀' H'
  nw : ∀ a, H₀' a ≠ none → H₀ a = none → H a = none
theorem Grow.refl {H H₀ : Hp} (h : Same H₀ H) : Grow H H₀ H H₀ := ⟨Same.refl _, Same.refl _, h, fun a h1 h2 => absurd h2 h1⟩
theorem Grow.trans {H H₀ H1 H01 H2 H02 : Hp} (a : Grow H H₀ H1 H01) (b : Grow H1 H01 H2 H02) : Grow H H₀ H2 H02 :=
  ⟨a.s.trans b.s, a.z.trans b.z, b.sub, fun x h1 h2 => by
    cases q : H01 x with
    | none => exact a.s.free (b.nw x h1 q)
    | some o => exact a.nw x (by rw [q]; simp) h2⟩
theorem Grow.alloc {H H₀ : Hp} {p : Addr} {o : HO} (hs : Same H₀ H) (hp : H p = none) : Grow H H₀ (upd H p o) (upd H₀ p o) :=
  ⟨same_new hp o, same_new (hs.free hp) o, fun b u e => by
    by_cases hb : b = p
    · subst hb; rw [upd_same] at e ⊢; exact e
    · rw [upd_ne hb] at e ⊢; exact hs _ _ e, fun a h1 h2 => by
    by_cases hb : a = p
    · subst hb; exact hp
    · rw [upd_ne hb] at h1; exact absurd h2 h1⟩
where
  same_new {H : Hp} {p : Addr} (h : H p = none) (o : HO) : Same H (upd H p o) := fun b u q => by rw [upd_ne (ne_of_none q h)]; exact q

/-! ### names' values -/
inductive Sl where
  | no | sh (d : D) | ow (d : D)
abbrev Ev := List Sl
def Reads (K : PySem.W.Frag) (H₀ : Hp) (σ : L2.St) (ρ : Ev) : Prop := ∀ (i : Nat) (d : D), ρ[i]? = some (.sh d) → ∃ v, σ[i]? = some (some v) ∧ Rep K H₀ d v
theorem Reads.mono {K : PySem.W.Frag} {H H' : Hp} {σ : L2.St} {ρ : Ev} (e : Same H H') (r : Reads K H σ ρ) : Reads K H' σ ρ := fun i d h =>
  let ⟨v, h1, h2⟩ := r i d h
  ⟨v, h1, h2.mono e⟩

/-- an exception as it is known -/
def ExR (K : PySem.W.Frag) (H : Hp) (x : Exn) (C : Value) (ox : Option Addr) : Prop :=
  PySem.W.nsIn K mainGlobals x.cls = some (some C) ∧ match ox with
    | none => x.flds = []
    | some a => ∃ fs, H a = some (.xd fs) ∧ ∀ n d, x.flds.lookup n = some d → ∃ v, fs.lookup n = some v ∧ Rep K H d v
def post (K : PySem.W.Frag) (E : XK) (H H₀ : Hp) (r : Res D) (Q : VK) : Prop := match r with
  | .ok d => ∀ v H' H₀', Grow H H₀ H' H₀' → Rep K H₀' d v → Q v H'
  | .exn x => ∀ C ox H' H₀', Grow H H₀ H' H₀' → ExR K H₀' x C ox → E C ox H'
  | .stuck => False
def posts (K : PySem.W.Frag) (E : XK) (H H₀ : Hp) (r : Res (List D)) (Q : List V → Hp → Prop) : Prop := match r with
  | .ok ds => ∀ vs H' H₀', Grow H H₀ H' H₀' → Reps K H₀' ds vs → Q vs H'
  | .exn x => ∀ C ox H' H₀', Grow H H₀ H' H₀' → ExR K H₀' x C ox → E C ox H'
  | .stuck => False
def postT (K : PySem.W.Frag) (E : XK) (H H₀ : Hp) (r : Res D) (Q : Bool → Hp → Prop) : Prop := match r with
  | .ok (.bl b) => ∀ H' H₀', Grow H H₀ H' H₀' → Q b H'
  | .ok _ => False
  | .exn x => ∀ C ox H' H₀', Grow H H₀ H' H₀' → ExR K H₀' x C ox → E C ox H'
  | .stuck => False
section
variable {K : PySem.W.Frag} {E : XK} {H H₀ H1 H01 : Hp}
theorem post.grow {r : Res D} {Q : VK} (h : post K E H H₀ r Q) (g : Grow H H₀ H1 H01) : post K E H1 H01 r Q := by
  cases r with
  | ok d => exact fun v H' H₀' g' => h v H' H₀' (g.trans g')
  | exn x => exact fun C ox H' H₀' g' => h C ox H' H₀' (g.trans g')
  | stuck => exact h
theorem posts.grow {r : Res (List D)} {Q : List V → Hp → Prop} (h : posts K E H H₀ r Q) (g : Grow H H₀ H1 H01) : posts K E H1 H01 r Q := by
  cases r with
  | ok d => exact fun v H' H₀' g' => h v H' H₀' (g.trans g')
  | exn x => exact fun C ox H' H₀' g' => h C ox H' H₀' (g.trans g')
  | stuck => exact h
theorem postT.grow {r : Res D} {Q : Bool → Hp → Prop} (h : postT K E H H₀ r Q) (g : Grow H H₀ H1 H01) : postT K E H1 H01 r Q := by
  cases r with
  | ok d =>
    cases d with
    | bl b => exact fun H' H₀' g' => h H' H₀' (g.trans g')
    | _ => exact h
  | exn x => exact fun C ox H' H₀' g' => h C ox H' H₀' (g.trans g')
  | stuck => exact h
/-- a bind's post, by parts -/
theorem post.bind {r : Res D} {g : D → Res D} {Q : VK} (h : post K E H H₀ (r.bind g) Q) :
    post K E H H₀ r fun v H1 => ∃ x H01, Grow H H₀ H1 H01 ∧ Rep K H01 x v ∧ r = .ok x ∧ post K E H1 H01 (g x) Q := by
  cases r with
  | ok d => exact fun v H' H₀' g' rp => ⟨d, H₀', g', rp, rfl, post.grow (r := g d) h g'⟩
  | exn x => exact h
  | stuck => exact h
end

def tD (K : PySem.W.Frag) (E : XK) (f : Ev → Res D) : TE := fun σ H Q => ∃ H₀ ρ, Same H₀ H ∧ Reads K H₀ σ ρ ∧ post K E H H₀ (f ρ) Q
def tDA (K : PySem.W.Frag) (E : XK) (f : Ev → Res (List D)) : TA := fun σ H Q => ∃ H₀ ρ, Same H₀ H ∧ Reads K H₀ σ ρ ∧ posts K E H H₀ (f ρ) Q
def tDT (K : PySem.W.Frag) (E : XK) (f : Ev → Res D) : TT := fun σ H Q => ∃ H₀ ρ, Same H₀ H ∧ Reads K H₀ σ ρ ∧ postT K E H H₀ (f ρ) Q

def DE (X : Cx) (E : XK) (e : Expr) (f : Ev → Res D) : Prop := PE X e (tD X.K E f)
def DA (X : Cx) (E : XK) (es : List Expr) (f : Ev → Res (List D)) : Prop := PA X es (tDA X.K E f)
def DT (X : Cx) (E : XK) (e : Expr) (f : Ev → Res D) : Prop := PT X e (tDT X.K E f)
def DW (X : Cx) (E : XK) (e : Expr) (f : Ev → Res D) : Prop := PW X e (tDT X.K E f)

section
variable {X : Cx} {E : XK} {e a b : Expr} {es : List Expr} {f g : Ev → Res D} {fa : Ev → Res (List D)} {pos : Pos}
theorem pe_weak {t t' : TE} (h : PE X e t) (w : ∀ σ H Q, t' σ H Q → t σ H Q) : PE X e t' := fun pins s σ H Q I q => h pins s σ H Q I (w σ H Q q)
theorem pa_weak {t t' : TA} (h : PA X es t) (w : ∀ σ H Q, t' σ H Q → t σ H Q) : PA X es t' := fun pos pins s σ H Q I q => h pos pins s σ H Q I (w σ H Q q)
theorem pt_weak {t t' : TT} (h : PT X e t) (w : ∀ σ H Q, t' σ H Q → t σ H Q) : PT X e t' := fun pins s σ H Q I q => h pins s σ H Q I (w σ H Q q)
theorem pw_weak {t t' : TT} (h : PW X e t) (w : ∀ σ H Q, t' σ H Q → t σ H Q) : PW X e t' := fun wh pins s σ H Q I q => h wh pins s σ H Q I (w σ H Q q)

/-! ### names, constants -/
def dVar (i : Nat) : Ev → Res D := fun ρ => match ρ[i]? with
  | some (.sh d) => .ok d
  | _ => .stuck
def dC (d : D) : Ev → Res D := fun _ => .ok d
theorem de_var {i : Nat} {x : Str} (hN : X.N[i]? = some x) (hv : Vis X.env.scope x) (hd : (x == ("__debug__" : Str)) = false := by decide) (hcd : (x == ("__classdict__" : Str)) = false := by decide) : DE X E (.Name x pos) (dVar i) := by
  refine pe_weak (pe_var hN hv hd hcd) fun σ H Q ⟨H₀, ρ, hs, hr, q⟩ => ?_
  unfold dVar at q
  cases e : ρ[i]? with
  | none => rw [e] at q; exact q.elim
  | some s =>
    rw [e] at q
    cases s with
    | sh d =>
      obtain ⟨v, e1, e2⟩ := hr i d e
      exact ⟨v, e1, q v H H₀ (Grow.refl hs) e2⟩
    | no => exact q.elim
    | ow d => exact q.elim
theorem de_int {i j} : DE X E (.Constant (.int i) j pos) (dC (.int i)) := pe_weak pe_int fun σ H Q ⟨H₀, ρ, hs, hr, q⟩ => q _ H H₀ (Grow.refl hs) (Rep.int_iff.mpr rfl)
theorem de_bl {i j} : DE X E (.Constant (.bool i) j pos) (dC (.bl i)) := pe_weak pe_bl fun σ H Q ⟨H₀, ρ, hs, hr, q⟩ => q _ H H₀ (Grow.refl hs) (Rep.bl_iff.mpr rfl)
theorem de_non {j} : DE X E (.Constant .none j pos) (dC .non) := pe_weak pe_non fun σ H Q ⟨H₀, ρ, hs, hr, q⟩ => q _ H H₀ (Grow.refl hs) (Rep.non_iff.mpr rfl)
theorem de_str {x j} : DE X E (.Constant (.str x) j pos) (dC (.str x)) := pe_weak pe_str fun σ H Q ⟨H₀, ρ, hs, hr, q⟩ => q _ H H₀ (Grow.refl hs) (Rep.str_iff.mpr rfl)
/-- a module's constant -/
theorem de_glob {x : Str} {v : V} {u : Value} {d : D} (hg : Gl X x) (hm : X.mg x = some u) (r : RelV v u) (hr : ∀ H, Rep X.K H d v) (hd : (x == ("__debug__" : Str)) = false := by decide) : DE X E (.Name x pos) (dC d) :=
  pe_weak (pe_glob hg hm r hd) fun σ H Q ⟨H₀, ρ, hs, hr', q⟩ => q _ H H₀ (Grow.refl hs) (hr H₀)

/-! ### operators -/
def bind2 (f g : Ev → Res D) (op : D → D → Res D) : Ev → Res D := fun ρ => (f ρ).bind fun x => (g ρ).bind fun y => op x y
def bind1 (f : Ev → Res D) (op : D → Res D) : Ev → Res D := fun ρ => (f ρ).bind op
def OpD (K : PySem.W.Frag) (E : XK) (r : R2) (op : D → D → Res D) : Prop := ∀ (x y : D) (v u : V) (H H₀ : Hp) (Q : VK), Same H₀ H → Rep K H₀ x v → Rep K H₀ y u → post K E H H₀ (op x y) Q → r v u H Q
theorem two_steps {r : R2} {op : D → D → Res D} (ho : OpD X.K E r op) (σ : L2.St) (H : Hp) (Q : VK) (h : tD X.K E (bind2 f g op) σ H Q) : tOp r (tD X.K E f) (tD X.K E g) σ H Q := by
  obtain ⟨H₀, ρ, hs, hr, q⟩ := h
  refine ⟨H₀, ρ, hs, hr, ?_⟩
  unfold bind2 at q
  cases e1 : f ρ with
  | stuck => rw [e1] at q; exact q
  | exn x => rw [e1] at q; exact q
  | ok x =>
    rw [e1] at q
    intro v H1 H01 g1 r1
    refine ⟨H01, ρ, g1.sub, hr.mono g1.z, ?_⟩
    replace q : post X.K E H H₀ ((g ρ).bind fun y => op x y) Q := q
    replace q := q.grow g1
    cases e2 : g ρ with
    | stuck => rw [e2] at q; exact q
    | exn x => rw [e2] at q; exact q
    | ok y =>
      rw [e2] at q
      intro u H2 H02 g2 r2
      exact ho x y v u H2 H02 Q g2.sub (r1.mono g2.z) r2 (post.grow (r := op x y) q g2)
theorem de_op {op : Operator} {r : R2} {o : D → D → Res D} (h : OpR X (binaryOp op) r) (ho : OpD X.K E r o) (ha : DE X E a f) (hb : DE X E b g) : DE X E (.BinOp a op b pos) (bind2 f g o) :=
  pe_weak (pe_op h ha hb) (two_steps ho)
theorem de_cmp {op : CmpOp} {r : R2} {o : D → D → Res D} (h : OpR X (compareOp op) r) (ho : OpD X.K E r o) (ha : DE X E a f) (hb : DE X E b g) (hm : behindInMarks op b = false) : DE X E (.Compare a [op] [b] pos) (bind2 f g o) :=
  pe_weak (pe_cmpR h ha hb hm) (two_steps ho)
theorem de_ix {r : R2} {o : D → D → Res D} (h : IxR X r) (ho : OpD X.K E r o) (ha : DE X E a f) (hb : DE X E b g) (hs : PlainIx b) : DE X E (.Subscript a b pos) (bind2 f g o) :=
  pe_weak (pe_ix h ha hb hs) (two_steps ho)
def UnD (K : PySem.W.Frag) (E : XK) (r : V → Hp → VK → Prop) (op : D → Res D) : Prop := ∀ (x : D) (v : V) (H H₀ : Hp) (Q : VK), Same H₀ H → Rep K H₀ x v → post K E H H₀ (op x) Q → r v H Q
theorem de_un {op : UnaryOp} {r : V → Hp → VK → Prop} {o : D → Res D} (h : UnR X (unaryOp op) r) (ho : UnD X.K E r o) (ha : DE X E a f) : DE X E (.UnaryOp op a pos) (bind1 f o) := by
  refine pe_weak (pe_un h ha) fun σ H Q ⟨H₀, ρ, hs, hr, q⟩ => ⟨H₀, ρ, hs, hr, ?_⟩
  unfold bind1 at q
  cases e1 : f ρ with
  | stuck => rw [e1] at q; exact q
  | exn x => rw [e1] at q; exact q
  | ok x =>
    rw [e1] at q
    intro v H1 H01 g1 r1
    exact ho x v H1 H01 Q g1.sub r1 (post.grow (r := o x) q g1)

/-! ### argument lists -/
def aNil : Ev → Res (List D) := fun _ => .ok []
def aCons (f : Ev → Res D) (fa : Ev → Res (List D)) : Ev → Res (List D) := fun ρ => (f ρ).bind fun x => (fa ρ).bind fun xs => .ok (x :: xs)
theorem da_nil : DA X E [] aNil := pa_weak pa_nil fun σ H Q ⟨H₀, ρ, hs, hr, q⟩ => q [] H H₀ (Grow.refl hs) Reps.nil
theorem da_cons (ha : DE X E e f) (hr : DA X E es fa) (hs : starEach (e :: es) X.env = (false, eval e X.env) :: starEach es X.env := by rfl) : DA X E (e :: es) (aCons f fa) := by
  refine pa_weak (pa_cons ha hr hs) fun σ H Q ⟨H₀, ρ, hs, hr, q⟩ => ⟨H₀, ρ, hs, hr, ?_⟩
  unfold aCons at q
  cases e1 : f ρ with
  | stuck => rw [e1] at q; exact q
  | exn x => rw [e1] at q; exact q
  | ok x =>
    rw [e1] at q
    intro v H1 H01 g1 r1
    refine ⟨H01, ρ, g1.sub, hr.mono g1.z, ?_⟩
    replace q : posts X.K E H H₀ ((fa ρ).bind fun xs => .ok (x :: xs)) Q := q
    replace q := q.grow g1
    cases e2 : fa ρ with
    | stuck => rw [e2] at q; exact q
    | exn x => rw [e2] at q; exact q
    | ok xs =>
      rw [e2] at q
      intro us H2 H02 g2 r2
      exact q (v :: us) H2 H02 g2 (Reps.cons (r1.mono g2.z) r2)
def line : Nat := 1000000
theorem line_le {n : Nat} (h : n ≤ line) : n ≤ sizeLine := Nat.le_trans h (by decide)
def bindA (fa : Ev → Res (List D)) (m : List D → Res D) : Ev → Res D := fun ρ => (fa ρ).bind m
def mTup : List D → Res D := fun ds => if ds.length ≤ line then .ok (.tup ds) else .stuck
def mLst : List D → Res D := fun ds => if ds.length ≤ line then .ok (.lst ds) else .stuck
theorem arg_steps {m : List D → Res D} {r : List V → Hp → VK → Prop} (ho : ∀ (ds : List D) (vs : List V) (H H₀ : Hp) (Q : VK), Same H₀ H → Reps X.K H₀ ds vs → post X.K E H H₀ (m ds) Q → r vs H Q)
    (σ : L2.St) (H : Hp) (Q : VK) (h : tD X.K E (bindA fa m) σ H Q) : tDA X.K E fa σ H fun vs H1 => r vs H1 Q := by
  obtain ⟨H₀, ρ, hs, hr, q⟩ := h
  refine ⟨H₀, ρ, hs, hr, ?_⟩
  unfold bindA at q
  cases e1 : fa ρ with
  | stuck => rw [e1] at q; exact q
  | exn x => rw [e1] at q; exact q
  | ok x =>
    rw [e1] at q
    intro v H1 H01 g1 r1
    exact ho x v H1 H01 Q g1.sub r1 (post.grow (r := m x) q g1)
theorem de_tup {x1} (h : DA X E es fa) : DE X E (.Tuple es x1 pos) (bindA fa mTup) := by
  refine pe_weak (pe_tup h) (arg_steps (r := fun xs H1 Q => xs.length ≤ sizeLine ∧ ∀ p, H1 p = none → Q (.ref p) (upd H1 p (.tup xs))) fun ds vs H H₀ Q hs hr q => ?_)
  unfold mTup at q
  by_cases hl : ds.length ≤ line
  · rw [if_pos hl] at q
    refine ⟨by rw [← hr.length]; exact line_le hl, fun p hp => q _ _ _ (Grow.alloc hs hp) (Rep.tup_iff.mpr ⟨p, vs, rfl, SqT.of upd_same, hr.mono (Grow.alloc hs hp).z⟩)⟩
  · rw [if_neg hl] at q; exact q.elim
theorem de_lst (h : DA X E es fa) : DE X E (.List es pos) (bindA fa mLst) := by
  refine pe_weak (pe_lst h) (arg_steps (r := fun xs H1 Q => xs.length ≤ sizeLine ∧ ∀ p, H1 p = none → Q (.ref p) (upd H1 p (.lst xs))) fun ds vs H H₀ Q hs hr q => ?_)
  unfold mLst at q
  by_cases hl : ds.length ≤ line
  · rw [if_pos hl] at q
    refine ⟨by rw [← hr.length]; exact line_le hl, fun p hp => q _ _ _ (Grow.alloc hs hp) (Rep.lst_iff.mpr ⟨p, vs, rfl, SqL.of upd_same, hr.mono (Grow.alloc hs hp).z⟩)⟩
  · rw [if_neg hl] at q; exact q.elim

/-! ### calls -/
/-- a def's promise by its mirror -/
def spD (K : PySem.W.Frag) (n : Nat) (m : List D → Res D) : Sp := fun vs H Q E => vs.length = n ∧ ∃ H₀ ds, Same H₀ H ∧ Reps K H₀ ds vs ∧ post K E H H₀ (m ds) Q
theorem de_call {CX : CXT} {k n : Nat} {fn : Addr} {fd : FuncData} {ps : List Str} {m : List D → Res D} {x : Str} {p : Pos} (F : FnOk X.prog X.w X.K X.mg X.base CX k fn fd ps (spD X.K n m)) (hr : Room k X.A) (hg : Gl X x) (hm : X.mg x = some (.ref fn))
    (hk : PySem.W.keepIn X.K (.ref fn) = true) (hb : Binds X.K fd ps []) (hx : Passes CX X E) (ha : DA X E (e :: es) fa) (hn : (e :: es).length = n := by rfl) (hl : ∀ ρ ds, fa ρ = .ok ds → ds.length = (e :: es).length)
    (hdb : (x == ("__debug__" : Str)) = false := by decide) (he : starEach (e :: es) X.env = (false, eval e X.env) :: starEach es X.env := by rfl) (hpl : (backTo pos (starEach es X.env)).any (·.1) = false := by rfl) :
    DE X E (.Call (.Name x p) (e :: es) [] pos) (bindA fa m) := by
  refine pe_weak (pe_call F hr hg hm hk hb .nil hx ha hdb he hpl) fun σ H Q h => ?_
  obtain ⟨H₀, ρ, hs, hr, q⟩ := h
  refine ⟨H₀, ρ, hs, hr, ?_⟩
  unfold bindA at q
  cases e1 : fa ρ with
  | stuck => rw [e1] at q; exact q
  | exn x => rw [e1] at q; exact q
  | ok ds =>
    rw [e1] at q
    intro v H1 H01 g1 r1
    refine ⟨?_, H01, ds, g1.sub, by simpa using r1, post.grow (r := m ds) q g1⟩
    have := r1.length
    have := hl ρ ds e1
    simp only [List.append_nil]
    omega
theorem aNil_len {ρ : Ev} {ds : List D} (h : aNil ρ = .ok ds) : ds.length = 0 := by cases h; rfl
theorem aCons_len {ρ : Ev} {ds : List D} {n : Nat} (hr : ∀ es, fa ρ = .ok es → es.length = n) (h : aCons f fa ρ = .ok ds) : ds.length = n + 1 := by
  unfold aCons at h
  cases e1 : f ρ with
  | stuck => rw [e1] at h; cases h
  | exn x => rw [e1] at h; cases h
  | ok x =>
    rw [e1] at h
    replace h : ((fa ρ).bind fun xs => Res.ok (x :: xs)) = .ok ds := h
    cases e2 : fa ρ with
    | stuck => rw [e2] at h; cases h
    | exn x => rw [e2] at h; cases h
    | ok xs =>
      rw [e2] at h
      cases h
      simp [hr xs e2]
/-- a built-in function -/
def CallD (X : Cx) (E : XK) (r : List V → Hp → VK → Prop) (m : List D → Res D) : Prop := ∀ (ds : List D) (vs : List V) (H H₀ : Hp) (Q : VK), Same H₀ H → Reps X.K H₀ ds vs → post X.K E H H₀ (m ds) Q → r vs H Q
theorem de_callB {id : String} {r : List V → Hp → VK → Prop} {m : List D → Res D} {x : Str} {p : Pos} (hc : CallR X (.builtin id) r) (hd : CallD X E r m) (hg : Gl X x) (hm : X.mg x = none) (hv : bootBuiltins x = some (.builtin id)) (ha : DA X E (e :: es) fa) (hn : x ≠ "__name__" := by decide) (hdb : (x == ("__debug__" : Str)) = false := by decide)
    (he : starEach (e :: es) X.env = (false, eval e X.env) :: starEach es X.env := by rfl) (hpl : (backTo pos (starEach es X.env)).any (·.1) = false := by rfl) : DE X E (.Call (.Name x p) (e :: es) [] pos) (bindA fa m) :=
  pe_weak (pe_callB hc hg hm hv ha hn hdb he hpl) (arg_steps hd)

/-! ### tests -/
theorem dt_of_tB (h : PT X e (tB (tD X.K E f))) : DT X E e f := by
  refine pt_weak h fun σ H Q ⟨H₀, ρ, hs, hr, q⟩ => ⟨H₀, ρ, hs, hr, ?_⟩
  cases e1 : f ρ with
  | stuck => rw [e1] at q; exact q
  | exn x => rw [e1] at q; exact q
  | ok d =>
    rw [e1] at q
    intro v H1 H01 g1 r1
    cases d with
    | bl b => rw [Rep.bl_iff.mp r1]; exact ⟨b, rfl, q H1 H01 g1⟩
    | _ => exact q.elim
theorem dt_val (h : DE X E e f) (he : ∀ whole, isTrue e X.env whole = (do let v ← whole; standAt e.pos; holding [v] (truthy v)) := by intro _; rfl) : DT X E e f := dt_of_tB (pt_val h he)
theorem dt_cmp {op : CmpOp} {r : R2} {o : D → D → Res D} (h : OpR X (compareOp op) r) (ho : OpD X.K E r o) (ha : DE X E a f) (hb : DE X E b g) (hm : behindInMarks op b = false) : DT X E (.Compare a [op] [b] pos) (bind2 f g o) := by
  refine pt_weak (pt_cmpR h ha hb hm) fun σ H Q h => ?_
  have w : tD X.K E (bind2 f g o) σ H fun x H' => ∃ k, x = .bl k ∧ Q k H' := by
    obtain ⟨H₀, ρ, hs, hr, q⟩ := h
    refine ⟨H₀, ρ, hs, hr, ?_⟩
    cases e1 : bind2 f g o ρ with
    | stuck => rw [e1] at q; exact q
    | exn x => rw [e1] at q; exact q
    | ok d =>
      rw [e1] at q
      intro v H1 H01 g1 r1
      cases d with
      | bl b => rw [Rep.bl_iff.mp r1]; exact ⟨b, rfl, q H1 H01 g1⟩
      | _ => exact q.elim
  exact two_steps ho σ H _ w
def dNot (f : Ev → Res D) : Ev → Res D := bind1 f fun x => match x with
  | .bl b => .ok (.bl (!b))
  | _ => .stuck
def dAnd (f g : Ev → Res D) : Ev → Res D := fun ρ => (f ρ).bind fun x => match x with
  | .bl true => g ρ
  | .bl false => .ok (.bl false)
  | _ => .stuck
def dOr (f g : Ev → Res D) : Ev → Res D := fun ρ => (f ρ).bind fun x => match x with
  | .bl true => .ok (.bl true)
  | .bl false => g ρ
  | _ => .stuck
theorem dt_not (ha : DT X E a f) : DT X E (.UnaryOp .Not a pos) (dNot f) := by
  refine pt_weak (pt_not ha) fun σ H Q ⟨H₀, ρ, hs, hr, q⟩ => ⟨H₀, ρ, hs, hr, ?_⟩
  unfold dNot bind1 at q
  cases e1 : f ρ with
  | stuck => rw [e1] at q; exact q
  | exn x => rw [e1] at q; exact q
  | ok d =>
    rw [e1] at q
    cases d with
    | bl b => exact q
    | _ => exact q.elim
theorem de_not (ha : DE X E a f) : DE X E (.UnaryOp .Not a pos) (dNot f) := by
  refine pe_weak (pe_not ha) fun σ H Q ⟨H₀, ρ, hs, hr, q⟩ => ⟨H₀, ρ, hs, hr, ?_⟩
  unfold dNot bind1 at q
  cases e1 : f ρ with
  | stuck => rw [e1] at q; exact q
  | exn x => rw [e1] at q; exact q
  | ok d =>
    rw [e1] at q
    intro v H1 H01 g1 r1
    cases d with
    | bl b => rw [Rep.bl_iff.mp r1]; exact ⟨b, rfl, q (.bl !b) H1 H01 g1 (Rep.bl_iff.mpr rfl)⟩
    | _ => exact q.elim
variable {rest : List Expr}
theorem dw_one_and (ha : DT X E a f) : DW X E (.BoolOp .And [a] pos) f := pw_and1 ha
theorem dw_one_or (ha : DT X E a f) : DW X E (.BoolOp .Or [a] pos) f := pw_or1 ha
theorem dw_and (ha : DT X E a f) (hb : DW X E (.BoolOp .And (b :: rest) pos) g) : DW X E (.BoolOp .And (a :: b :: rest) pos) (dAnd f g) := by
  refine pw_weak (pw_and ha hb) fun σ H Q ⟨H₀, ρ, hs, hr, q⟩ => ⟨H₀, ρ, hs, hr, ?_⟩
  unfold dAnd at q
  cases e1 : f ρ with
  | stuck => rw [e1] at q; exact q
  | exn x => rw [e1] at q; exact q
  | ok d =>
    rw [e1] at q
    cases d with
    | bl b =>
      cases b with
      | true => exact fun H1 H01 g1 => ⟨H01, ρ, g1.sub, hr.mono g1.z, postT.grow (r := g ρ) q g1⟩
      | false => exact fun H1 H01 g1 => q H1 H01 g1
    | _ => exact q.elim
theorem dw_or (ha : DT X E a f) (hb : DW X E (.BoolOp .Or (b :: rest) pos) g) : DW X E (.BoolOp .Or (a :: b :: rest) pos) (dOr f g) := by
  refine pw_weak (pw_or ha hb) fun σ H Q ⟨H₀, ρ, hs, hr, q⟩ => ⟨H₀, ρ, hs, hr, ?_⟩
  unfold dOr at q
  cases e1 : f ρ with
  | stuck => rw [e1] at q; exact q
  | exn x => rw [e1] at q; exact q
  | ok d =>
    rw [e1] at q
    cases d with
    | bl b =>
      cases b with
      | false => exact fun H1 H01 g1 => ⟨H01, ρ, g1.sub, hr.mono g1.z, postT.grow (r := g ρ) q g1⟩
      | true => exact fun H1 H01 g1 => q H1 H01 g1
    | _ => exact q.elim
theorem DW.dt (h : DW X E e f) : DT X E e f := PW.pt h
theorem de_one {op} (h : DE X E a f) : DE X E (.BoolOp op [a] pos) f := pe_one h
theorem de_and (ha : DE X E a f) (hb : DE X E (.BoolOp .And (b :: rest) pos) g) : DE X E (.BoolOp .And (a :: b :: rest) pos) (dAnd f g) := by
  refine pe_weak (pe_and ha hb) fun σ H Q ⟨H₀, ρ, hs, hr, q⟩ => ⟨H₀, ρ, hs, hr, ?_⟩
  unfold dAnd at q
  cases e1 : f ρ with
  | stuck => rw [e1] at q; exact q
  | exn x => rw [e1] at q; exact q
  | ok d =>
    rw [e1] at q
    intro v H1 H01 g1 r1
    cases d with
    | bl b =>
      rw [Rep.bl_iff.mp r1]
      cases b with
      | true => exact ⟨true, rfl, H01, ρ, g1.sub, hr.mono g1.z, post.grow (r := g ρ) q g1⟩
      | false => exact ⟨false, rfl, q (.bl false) H1 H01 g1 (Rep.bl_iff.mpr rfl)⟩
    | _ => exact q.elim
theorem de_or (ha : DE X E a f) (hb : DE X E (.BoolOp .Or (b :: rest) pos) g) : DE X E (.BoolOp .Or (a :: b :: rest) pos) (dOr f g) := by
  refine pe_weak (pe_or ha hb) fun σ H Q ⟨H₀, ρ, hs, hr, q⟩ => ⟨H₀, ρ, hs, hr, ?_⟩
  unfold dOr at q
  cases e1 : f ρ with
  | stuck => rw [e1] at q; exact q
  | exn x => rw [e1] at q; exact q
  | ok d =>
    rw [e1] at q
    intro v H1 H01 g1 r1
    cases d with
    | bl b =>
      rw [Rep.bl_iff.mp r1]
      cases b with
      | false => exact ⟨false, rfl, H01, ρ, g1.sub, hr.mono g1.z, post.grow (r := g ρ) q g1⟩
      | true => exact ⟨true, rfl, q (.bl true) H1 H01 g1 (Rep.bl_iff.mpr rfl)⟩
    | _ => exact q.elim
def dIf (c f g : Ev → Res D) : Ev → Res D := fun ρ => (c ρ).bind fun x => match x with
  | .bl true => f ρ
  | .bl false => g ρ
  | _ => .stuck
theorem de_ifExp {c : Expr} {fc : Ev → Res D} (hc : DT X E c fc) (ha : DE X E a f) (hb : DE X E b g) : DE X E (.IfExp c a b pos) (dIf fc f g) := by
  refine pe_weak (pe_ifExp hc ha hb) fun σ H Q ⟨H₀, ρ, hs, hr, q⟩ => ⟨H₀, ρ, hs, hr, ?_⟩
  unfold dIf at q
  cases e1 : fc ρ with
  | stuck => rw [e1] at q; exact q
  | exn x => rw [e1] at q; exact q
  | ok d =>
    rw [e1] at q
    cases d with
    | bl b =>
      cases b with
      | true => exact fun H1 H01 g1 => ⟨H01, ρ, g1.sub, hr.mono g1.z, post.grow (r := f ρ) q g1⟩
      | false => exact fun H1 H01 g1 => ⟨H01, ρ, g1.sub, hr.mono g1.z, post.grow (r := g ρ) q g1⟩
    | _ => exact q.elim
end
end DL

set_option Elab.async false
set_option linter.all false
set_option maxRecDepth 100000
namespace DL
open PySem PySem.Spec PyProof.Rows L2

/-! ### own lists: what a def has made and still changes -/
def OwnR (K : PySem.W.Frag) (H₀ H : Hp) (a : Addr) (d : D) : Prop := match d with
  | .lst ds => ∃ vs, H a = some (.lst vs) ∧ Reps K H₀ ds vs
  | _ => False
structure SRx (K : PySem.W.Frag) (He H0e H₀ : Hp) (σ : L2.St) (H : Hp) (ρ : Ev) : Prop where
  g : Grow He H0e H H₀
  rd : Reads K H₀ σ ρ
  ow : ∀ (i : Nat) (d : D), ρ[i]? = some (.ow d) → ∃ a, σ[i]? = some (some (.ref a)) ∧ He a = none ∧ H₀ a = none ∧ OwnR K H₀ H a d
  ap : ∀ (i j : Nat) (d d' : D), i ≠ j → ρ[i]? = some (.ow d) → ρ[j]? = some (.ow d') → σ[i]? ≠ σ[j]?
  ln : ρ.length = σ.length
inductive Fl where
  | nx (ρ : Ev) | rt (d : D) | bk (ρ : Ev) | ct (ρ : Ev)
def postS (K : PySem.W.Frag) (E : XK) (He H0e H₀ : Hp) (r : Res Fl) (D : Ends) : Prop := match r with
  | .ok (.nx ρ) => ∀ σ H H₀', Same H₀ H₀' → SRx K He H0e H₀' σ H ρ → D.nx σ H
  | .ok (.rt d) => ∀ v H H₀', Grow He H0e H H₀' → Rep K H₀' d v → D.rt v H
  | .ok (.bk ρ) => ∀ σ H H₀', Same H₀ H₀' → SRx K He H0e H₀' σ H ρ → D.bk σ H
  | .ok (.ct ρ) => ∀ σ H H₀', Same H₀ H₀' → SRx K He H0e H₀' σ H ρ → D.ct σ H
  | .exn x => ∀ C ox H H₀', Grow He H0e H H₀' → ExR K H₀' x C ox → E C ox H
  | .stuck => False
theorem postS.grow {K : PySem.W.Frag} {E : XK} {He H0e H₀ H₁ : Hp} {r : Res Fl} {D : Ends} (h : postS K E He H0e H₀ r D) (s : Same H₀ H₁) : postS K E He H0e H₁ r D := by
  cases r with
  | ok f =>
    cases f with
    | nx ρ => exact fun σ H H₀' s' => h σ H H₀' (s.trans s')
    | rt d => exact h
    | bk ρ => exact fun σ H H₀' s' => h σ H H₀' (s.trans s')
    | ct ρ => exact fun σ H H₀' s' => h σ H H₀' (s.trans s')
  | exn x => exact h
  | stuck => exact h
def tS (K : PySem.W.Frag) (E : XK) (He H0e : Hp) (g : Ev → Res Fl) : TS := fun D σ H => ∃ H₀ ρ, SRx K He H0e H₀ σ H ρ ∧ postS K E He H0e H₀ (g ρ) D
def DS (X : Cx) (E : XK) (He H0e : Hp) (st : Stmt) (g : Ev → Res Fl) : Prop := PS X st (tS X.K E He H0e g)
def DSs (X : Cx) (E : XK) (He H0e : Hp) (st : List Stmt) (g : Ev → Res Fl) : Prop := PSs X st (tS X.K E He H0e g)

def shr (ρ : Ev) : Ev := ρ.map fun s => match s with
  | .ow d => .sh d
  | x => x
/-- what was new is frozen, for a look -/
def frz (He H₀ H : Hp) : Hp := fun a => match He a with
  | none => H a
  | some _ => H₀ a
section
variable {K : PySem.W.Frag} {E : XK} {He H0e H₀ H H1 : Hp} {σ : L2.St} {ρ : Ev}
theorem SRx.same (h : SRx K He H0e H₀ σ H ρ) (s : Same H H1) : SRx K He H0e H₀ σ H1 ρ :=
  ⟨⟨h.g.s.trans s, h.g.z, h.g.sub.trans s, h.g.nw⟩, h.rd, fun i d e => by
    obtain ⟨a, h1, h2, h3, h4⟩ := h.ow i d e
    refine ⟨a, h1, h2, h3, ?_⟩
    cases d with
    | lst ds => obtain ⟨vs, h5, h6⟩ := h4; exact ⟨vs, s _ _ h5, h6⟩
    | _ => exact h4, h.ap, h.ln⟩
theorem SRx.grow {H01 : Hp} (h : SRx K He H0e H₀ σ H ρ) (s : Grow H H₀ H1 H01) : SRx K He H0e H01 σ H1 ρ :=
  ⟨h.g.trans s, h.rd.mono s.z, fun i d e => by
    obtain ⟨a, h1, h2, h3, h4⟩ := h.ow i d e
    have ha : H01 a = none := by
      cases q : H01 a with
      | none => rfl
      | some o =>
        have := s.nw a (by rw [q]; simp) h3
        cases d with
        | lst ds => obtain ⟨vs, h5, _⟩ := h4; rw [h5] at this; cases this
        | _ => exact h4.elim
    refine ⟨a, h1, h2, ha, ?_⟩
    cases d with
    | lst ds => obtain ⟨vs, h5, h6⟩ := h4; exact ⟨vs, s.s _ _ h5, h6.mono s.z⟩
    | _ => exact h4, h.ap, h.ln⟩
theorem SRx.frz_sub (h : SRx K He H0e H₀ σ H ρ) : Same H₀ (frz He H₀ H) := fun b o e => by
  unfold frz
  cases q : He b with
  | none => exact h.g.sub _ _ e
  | some _ => exact e
theorem SRx.frz_le (h : SRx K He H0e H₀ σ H ρ) : Same (frz He H₀ H) H := fun b o e => by
  unfold frz at e
  cases q : He b with
  | none => rw [q] at e; exact e
  | some _ => rw [q] at e; exact h.g.sub _ _ e
theorem SRx.frz_grow (h : SRx K He H0e H₀ σ H ρ) : Grow He H0e H (frz He H₀ H) :=
  ⟨h.g.s, h.g.z.trans h.frz_sub, h.frz_le, fun a h1 h2 => by
    cases q : He a with
    | none => rfl
    | some o =>
      unfold frz at h1
      rw [q] at h1
      have := h.g.nw a h1 h2
      rw [q] at this; cases this⟩
theorem SRx.looks (h : SRx K He H0e H₀ σ H ρ) : Reads K (frz He H₀ H) σ (shr ρ) := fun i d e => by
  unfold shr at e
  rw [List.getElem?_map] at e
  cases q : ρ[i]? with
  | none => rw [q] at e; cases e
  | some s =>
    rw [q] at e
    cases s with
    | no => cases e
    | sh d' =>
      cases e
      obtain ⟨v, h1, h2⟩ := h.rd i d q
      exact ⟨v, h1, h2.mono h.frz_sub⟩
    | ow d' =>
      cases e
      obtain ⟨a, h1, h2, h3, h4⟩ := h.ow i d q
      refine ⟨_, h1, ?_⟩
      cases d with
      | lst ds =>
        obtain ⟨vs, h5, h6⟩ := h4
        exact Rep.lst_iff.mpr ⟨a, vs, rfl, SqL.of (by unfold frz; rw [h2]; exact h5), h6.mono h.frz_sub⟩
      | _ => exact h4.elim
theorem SRx.put (h : SRx K He H0e H₀ σ H ρ) {i : Nat} {d : D} {v : V} (r : Rep K H₀ d v) : SRx K He H0e H₀ (σ.set i (some v)) H (ρ.set i (.sh d)) := by
  have key : ∀ (j : Nat) (s : Sl), (ρ.set i (.sh d))[j]? = some s → (j = i ∧ s = .sh d ∧ i < σ.length) ∨ (j ≠ i ∧ ρ[j]? = some s) := fun j s e => by
    by_cases hj : i = j
    · subst hj
      rw [List.getElem?_set_self'] at e
      cases q : ρ[i]? with
      | none => rw [q] at e; cases e
      | some s' =>
        rw [q] at e
        cases e
        refine .inl ⟨rfl, rfl, ?_⟩
        rw [← h.ln]
        exact (List.getElem?_eq_some_iff.mp q).1
    · rw [List.getElem?_set_ne hj] at e
      exact .inr ⟨fun z => hj z.symm, e⟩
  refine ⟨h.g, fun j d' e => ?_, fun j d' e => ?_, fun j k d1 d2 hn e1 e2 => ?_, by simp [h.ln]⟩
  · rcases key j _ e with ⟨rfl, e', hl⟩ | ⟨hj, e'⟩
    · cases e'
      exact ⟨v, by rw [List.getElem?_set_self hl], r⟩
    · obtain ⟨v', h1, h2⟩ := h.rd j d' e'
      exact ⟨v', by rw [List.getElem?_set_ne (Ne.symm hj)]; exact h1, h2⟩
  · rcases key j _ e with ⟨rfl, e', hl⟩ | ⟨hj, e'⟩
    · cases e'
    · obtain ⟨a, h1, h2⟩ := h.ow j d' e'
      exact ⟨a, by rw [List.getElem?_set_ne (Ne.symm hj)]; exact h1, h2⟩
  · rcases key j _ e1 with ⟨_, e', _⟩ | ⟨hj, e1'⟩
    · cases e'
    rcases key k _ e2 with ⟨_, e', _⟩ | ⟨hk, e2'⟩
    · cases e'
    rw [List.getElem?_set_ne (Ne.symm hj), List.getElem?_set_ne (Ne.symm hk)]
    exact h.ap j k d1 d2 hn e1' e2'
theorem SRx.putOwn (h : SRx K He H0e H₀ σ H ρ) {i : Nat} {ds : List D} {vs : List V} {p : Addr} (hp : ∀ (j : Nat) (a : Addr), σ[j]? = some (some (V.ref a)) → a = p → ∀ d : D, ρ[j]? ≠ some (Sl.ow d)) (he : He p = none) (h0 : H₀ p = none) (hv : H p = some (.lst vs)) (r : Reps K H₀ ds vs) :
    SRx K He H0e H₀ (σ.set i (some (.ref p))) H (ρ.set i (.ow (.lst ds))) := by
  have key : ∀ (j : Nat) (s : Sl), (ρ.set i (.ow (.lst ds)))[j]? = some s → (j = i ∧ s = .ow (.lst ds) ∧ i < σ.length) ∨ (j ≠ i ∧ ρ[j]? = some s) := fun j s e => by
    by_cases hj : i = j
    · subst hj
      rw [List.getElem?_set_self'] at e
      cases q : ρ[i]? with
      | none => rw [q] at e; cases e
      | some s' =>
        rw [q] at e
        cases e
        refine .inl ⟨rfl, rfl, ?_⟩
        rw [← h.ln]
        exact (List.getElem?_eq_some_iff.mp q).1
    · rw [List.getElem?_set_ne hj] at e
      exact .inr ⟨fun z => hj z.symm, e⟩
  have other : ∀ (k : Nat) (d2 : D), k ≠ i → ρ[k]? = some (.ow d2) → some (some (V.ref p)) ≠ σ[k]? := fun k d2 hk e2 z => by
    obtain ⟨a, h1, _⟩ := h.ow k d2 e2
    rw [h1] at z
    cases z
    exact hp k p h1 rfl d2 e2
  refine ⟨h.g, fun j d' e => ?_, fun j d' e => ?_, fun j k d1 d2 hn e1 e2 => ?_, by simp [h.ln]⟩
  · rcases key j _ e with ⟨rfl, e', hl⟩ | ⟨hj, e'⟩
    · cases e'
    · obtain ⟨v', h1, h2⟩ := h.rd j d' e'
      exact ⟨v', by rw [List.getElem?_set_ne (Ne.symm hj)]; exact h1, h2⟩
  · rcases key j _ e with ⟨rfl, e', hl⟩ | ⟨hj, e'⟩
    · cases e'
      exact ⟨p, by rw [List.getElem?_set_self hl], he, h0, vs, hv, r⟩
    · obtain ⟨a, h1, h2⟩ := h.ow j d' e'
      exact ⟨a, by rw [List.getElem?_set_ne (Ne.symm hj)]; exact h1, h2⟩
  · rcases key j _ e1 with ⟨rfl, _, hl⟩ | ⟨hj, e1'⟩
    · rcases key k _ e2 with ⟨rfl, _, _⟩ | ⟨hk, e2'⟩
      · exact absurd rfl hn
      · rw [List.getElem?_set_self hl, List.getElem?_set_ne (Ne.symm hk)]
        exact other k d2 hk e2'
    · rcases key k _ e2 with ⟨rfl, _, hl⟩ | ⟨hk, e2'⟩
      · rw [List.getElem?_set_self hl, List.getElem?_set_ne (Ne.symm hj)]
        exact fun z => other j d1 hj e1' z.symm
      · rw [List.getElem?_set_ne (Ne.symm hj), List.getElem?_set_ne (Ne.symm hk)]
        exact h.ap j k d1 d2 hn e1' e2'
/-- an own list is changed in its place -/
theorem SRx.write (h : SRx K He H0e H₀ σ H ρ) {i : Nat} {d : D} {p : Addr} {ds : List D} {vs : List V} (e : ρ[i]? = some (.ow d)) (es : σ[i]? = some (some (.ref p))) (r : Reps K H₀ ds vs) :
    SRx K He H0e H₀ σ (upd H p (.lst vs)) (ρ.set i (.ow (.lst ds))) := by
  obtain ⟨a, h1, h2, h3, h4⟩ := h.ow i d e
  rw [h1] at es; cases es
  have hil : i < ρ.length := (List.getElem?_eq_some_iff.mp e).1
  have key : ∀ (j : Nat) (s : Sl), (ρ.set i (.ow (.lst ds)))[j]? = some s → (j = i ∧ s = .ow (.lst ds)) ∨ (j ≠ i ∧ ρ[j]? = some s) := fun j s e => by
    by_cases hj : i = j
    · subst hj
      rw [List.getElem?_set_self hil] at e
      cases e
      exact .inl ⟨rfl, rfl⟩
    · rw [List.getElem?_set_ne hj] at e
      exact .inr ⟨fun z => hj z.symm, e⟩
  refine ⟨⟨fun b o eb => ?_, h.g.z, fun b o eb => ?_, h.g.nw⟩, fun j d' e' => ?_, fun j d' e' => ?_, fun j k d1 d2 hn e1 e2 => ?_, by simp [h.ln]⟩
  · rw [upd_ne (by intro z; subst z; rw [h2] at eb; cases eb)]; exact h.g.s _ _ eb
  · rw [upd_ne (by intro z; subst z; rw [h3] at eb; cases eb)]; exact h.g.sub _ _ eb
  · rcases key j _ e' with ⟨rfl, e''⟩ | ⟨hj, e''⟩
    · cases e''
    · exact h.rd j d' e''
  · rcases key j _ e' with ⟨rfl, e''⟩ | ⟨hj, e''⟩
    · cases e''
      exact ⟨p, h1, h2, h3, vs, upd_same, r⟩
    · obtain ⟨b, k1, k2, k3, k4⟩ := h.ow j d' e''
      refine ⟨b, k1, k2, k3, ?_⟩
      have hb : b ≠ p := by
        intro z; subst z
        exact h.ap j i d' d hj e'' e (by rw [k1, h1])
      cases d' with
      | lst ds' =>
        obtain ⟨vs', h5, h6⟩ := k4
        exact ⟨vs', by rw [upd_ne hb]; exact h5, h6⟩
      | _ => exact k4.elim
  · rcases key j _ e1 with ⟨rfl, e1'⟩ | ⟨hj, e1'⟩
    · rcases key k _ e2 with ⟨rfl, _⟩ | ⟨hk, e2'⟩
      · exact absurd rfl hn
      · exact h.ap j k d d2 hn e e2'
    · rcases key k _ e2 with ⟨rfl, _⟩ | ⟨hk, e2'⟩
      · exact h.ap j k d1 d hn e1' e
      · exact h.ap j k d1 d2 hn e1' e2'
end

/-! ### no list within: such a value does not change -/
mutual
def flat : D → Bool
  | .lst _ => false
  | .dic _ _ => false
  | .tup ds => flats ds
  | _ => true
def flats : List D → Bool
  | [] => true
  | d :: ds => flat d && flats ds
end
mutual
theorem Rep.flat_to {K : PySem.W.Frag} {H H' : Hp} (e : ∀ a vs, Rd H a (.tup vs) → Rd H' a (.tup vs)) : ∀ {d : D} {v : V}, flat d = true → Rep K H d v → Rep K H' d v
  | .non, _, _, h => by unfold Rep at h ⊢; exact h
  | .bl _, _, _, h => by unfold Rep at h ⊢; exact h
  | .int _, _, _, h => by unfold Rep at h ⊢; exact h
  | .str _, _, _, h => by unfold Rep at h ⊢; exact h
  | .tup ds, _, f, h => by
    unfold flat at f
    obtain ⟨a, vs, e1, e2, e3⟩ := Rep.tup_iff.mp h
    refine Rep.tup_iff.mpr ⟨a, vs, e1, ?_, Reps.flat_to e f e3⟩
    rcases e2 with e2 | e2
    · exact .inl (e _ _ e2)
    · exact .inr e2
  | .lst ds, _, f, h => by unfold flat at f; cases f
  | .dic ks ds, _, f, h => by unfold flat at f; cases f
theorem Reps.flat_to {K : PySem.W.Frag} {H H' : Hp} (e : ∀ a vs, Rd H a (.tup vs) → Rd H' a (.tup vs)) : ∀ {ds : List D} {vs : List V}, flats ds = true → Reps K H ds vs → Reps K H' ds vs
  | [], _, _, h => by unfold Reps at h ⊢; exact h
  | d :: ds, _, f, h => by
    unfold flats at f
    rw [Bool.and_eq_true] at f
    obtain ⟨v, r, e1, e2, e3⟩ := Reps.cons_iff.mp h
    exact Reps.cons_iff.mpr ⟨v, r, e1, Rep.flat_to e f.1 e2, Reps.flat_to e f.2 e3⟩
end
/-- the tuples of a look stay -/
def addT (H₀ J : Hp) : Hp := fun a => match H₀ a with
  | some o => some o
  | none => match J a with
    | some (.tup vs) => some (.tup vs)
    | some (.frz o (.tup vs)) => some (.frz o (.tup vs))
    | _ => none
section
variable {K : PySem.W.Frag} {E : XK} {He H0e H₀ H H1 J : Hp} {σ : L2.St} {ρ : Ev}
theorem addT_le (h : Same H₀ J) : ∀ a o, addT H₀ J a = some o → J a = some o := fun a o e => by
  unfold addT at e
  cases q : H₀ a with
  | some u => rw [q] at e; cases e; exact h _ _ q
  | none =>
    rw [q] at e
    cases q2 : J a with
    | none => rw [q2] at e; cases e
    | some u =>
      rw [q2] at e
      cases u with
      | tup vs => cases e; rfl
      | frz o u' =>
        cases u' with
        | tup vs => cases e; rfl
        | _ => cases e
      | _ => cases e
theorem addT_rd (h : Same H₀ J) (a : Addr) (vs : List V) (e : Rd J a (.tup vs)) : Rd (addT H₀ J) a (.tup vs) := by
  rcases e with e | ⟨o, e⟩
  · refine .inl ?_
    unfold addT
    cases q : H₀ a with
    | some u => have := h _ _ q; rw [e] at this; cases this; rfl
    | none => rw [e]
  · refine .inr ⟨o, ?_⟩
    unfold addT
    cases q : H₀ a with
    | some u => have := h _ _ q; rw [e] at this; cases this; rfl
    | none => rw [e]
/-- behind a look: the state as it was, the tuples of what was told besides -/
theorem SRx.behind (h : SRx K He H0e H₀ σ H ρ) (g : Grow H (frz He H₀ H) H1 J) : SRx K He H0e (addT H₀ J) σ H1 ρ := by
  have hJ : Same H₀ J := h.frz_sub.trans g.z
  have le := addT_le (H₀ := H₀) (J := J) hJ
  have z : Same H₀ (addT H₀ J) := fun b o e => by unfold addT; rw [e]
  refine ⟨⟨h.g.s.trans g.s, h.g.z.trans z, fun b o e => g.sub _ _ (le b o e), fun a h1 h2 => ?_⟩, h.rd.mono z, fun i d e => ?_, h.ap, h.ln⟩
  · cases q : addT H₀ J a with
    | none => exact absurd q h1
    | some o =>
      have hj := le a o q
      exact (h.frz_grow.trans g).nw a (by rw [hj]; simp) h2
  · obtain ⟨a, k1, k2, k3, k4⟩ := h.ow i d e
    refine ⟨a, k1, k2, ?_, ?_⟩
    · cases d with
      | lst ds =>
        obtain ⟨vs, h5, _⟩ := k4
        have : frz He H₀ H a = some (.lst vs) := by unfold frz; rw [k2]; exact h5
        have := g.z _ _ this
        unfold addT
        rw [k3, this]
      | _ => exact k4.elim
    · cases d with
      | lst ds => obtain ⟨vs, h5, h6⟩ := k4; exact ⟨vs, g.s _ _ h5, h6.mono z⟩
      | _ => exact k4.elim
end
end DL

set_option Elab.async false
set_option linter.all false
set_option maxRecDepth 100000
namespace DL
open PySem PySem.Spec PyProof.Rows L2

section
variable {X : Cx} {E : XK} {He H0e : Hp} {st : Stmt} {rest : List Stmt} {e a b : Expr} {es : List Expr} {f g : Ev → Res D} {fa : Ev → Res (List D)} {s t : Ev → Res Fl} {pos : Pos}
theorem ps_weak {t t' : TS} (h : PS X st t) (w : ∀ D σ H, t' D σ H → t D σ H) : PS X st t' := fun pins s σ H D I q => h pins s σ H D I (w D σ H q)
theorem pss_weak {t t' : TS} (h : PSs X rest t) (w : ∀ D σ H, t' D σ H → t D σ H) : PSs X rest t' := fun pins s σ H D I q => h pins s σ H D I (w D σ H q)

/-! ### blocks -/
def sNext : Ev → Res Fl := fun ρ => .ok (.nx ρ)
def sSeq (s t : Ev → Res Fl) : Ev → Res Fl := fun ρ => (s ρ).bind fun r => match r with
  | .nx ρ' => t ρ'
  | r => .ok r
theorem dss_nil : DSs X E He H0e [] sNext := pss_weak pss_nil fun D σ H ⟨H₀, ρ, h, q⟩ => q σ H H₀ (Same.refl _) h
theorem dss_cons (h1 : DS X E He H0e st s) (h2 : DSs X E He H0e rest t) : DSs X E He H0e (st :: rest) (sSeq s t) := by
  refine pss_weak (pss_cons h1 h2) fun D σ H ⟨H₀, ρ, h, q⟩ => ⟨H₀, ρ, h, ?_⟩
  unfold sSeq at q
  cases e1 : s ρ with
  | stuck => rw [e1] at q; exact q
  | exn x => rw [e1] at q; exact q
  | ok r =>
    rw [e1] at q
    cases r with
    | nx ρ' => exact fun σ' H' H₀' s' h' => ⟨H₀', ρ', h', postS.grow (r := t ρ') q s'⟩
    | rt d => exact q
    | bk ρ' => exact q
    | ct ρ' => exact q
theorem ds_pass : DS X E He H0e (.Pass pos) sNext := ps_weak ps_pass fun D σ H ⟨H₀, ρ, h, q⟩ => q σ H H₀ (Same.refl _) h
def sBrk : Ev → Res Fl := fun ρ => .ok (.bk ρ)
def sCnt : Ev → Res Fl := fun ρ => .ok (.ct ρ)
theorem ds_break : DS X E He H0e (.Break pos) sBrk := ps_weak ps_break fun D σ H ⟨H₀, ρ, h, q⟩ => q σ H H₀ (Same.refl _) h
theorem ds_continue : DS X E He H0e (.Continue pos) sCnt := ps_weak ps_continue fun D σ H ⟨H₀, ρ, h, q⟩ => q σ H H₀ (Same.refl _) h
def sStuck : Ev → Res Fl := fun _ => .stuck
theorem ds_never : DS X E He H0e st sStuck := ps_weak ps_never fun D σ H ⟨H₀, ρ, h, q⟩ => q

/-- from a statement's wish to an expression's, in the plain mode -/
theorem plain {K : PySem.W.Frag} {H₀ H : Hp} {σ : L2.St} {ρ : Ev} {k : D → Res Fl} {D' : Ends} (h : SRx K He H0e H₀ σ H ρ) {r : Res D} {Q : VK}
    (q : postS K E He H0e H₀ (r.bind k) D') (hk : ∀ d v H' H₀', r = .ok d → Grow H H₀ H' H₀' → Rep K H₀' d v → postS K E He H0e H₀' (k d) D' → Q v H') : post K E H H₀ r Q := by
  cases r with
  | stuck => exact q
  | exn x => exact fun C ox H' H₀' g ex => q C ox H' H₀' (h.g.trans g) ex
  | ok d => exact fun v H' H₀' g rp => hk d v H' H₀' rfl g rp (postS.grow (r := k d) q g.z)
/-- .. in the mode of a look -/
theorem look {K : PySem.W.Frag} {H₀ H : Hp} {σ : L2.St} {ρ : Ev} {k : D → Res Fl} {D' : Ends} (h : SRx K He H0e H₀ σ H ρ) {r : Res D} {Q : VK}
    (q : postS K E He H0e H₀ (r.bind k) D') (hk : ∀ d v H' J, r = .ok d → Grow H (frz He H₀ H) H' J → Rep K J d v → postS K E He H0e H₀ (k d) D' → Q v H') : post K E H (frz He H₀ H) r Q := by
  cases r with
  | stuck => exact q
  | exn x => exact fun C ox H' H₀' g ex => q C ox H' H₀' (h.frz_grow.trans g) ex
  | ok d => exact fun v H' J g rp => hk d v H' J rfl g rp q
theorem lookT {K : PySem.W.Frag} {H₀ H : Hp} {σ : L2.St} {ρ : Ev} {k : Bool → Res Fl} {D' : Ends} (h : SRx K He H0e H₀ σ H ρ) {r : Res D} {Q : Bool → Hp → Prop}
    (q : postS K E He H0e H₀ (r.bind fun x => match x with | .bl b => k b | _ => .stuck) D') (hk : ∀ b H', Same H H' → postS K E He H0e H₀ (k b) D' → Q b H') : postT K E H (frz He H₀ H) r Q := by
  cases r with
  | stuck => exact q
  | exn x => exact fun C ox H' H₀' g ex => q C ox H' H₀' (h.frz_grow.trans g) ex
  | ok d =>
    cases d with
    | bl b => exact fun H' J g => hk b H' g.s q
    | _ => exact q.elim

/-! ### assignments, returns, tests -/
def sSet (i : Nat) (f : Ev → Res D) : Ev → Res Fl := fun ρ => (f ρ).bind fun d => .ok (.nx (ρ.set i (.sh d)))
def sSetL (i : Nat) (f : Ev → Res D) : Ev → Res Fl := fun ρ => (f (shr ρ)).bind fun d => if flat d = true then .ok (.nx (ρ.set i (.sh d))) else .stuck
def sRet (f : Ev → Res D) : Ev → Res Fl := fun ρ => (f (shr ρ)).bind fun d => .ok (.rt d)
def sDrop (f : Ev → Res D) : Ev → Res Fl := fun ρ => (f (shr ρ)).bind fun _ => .ok (.nx ρ)
def sIf (c : Ev → Res D) (s t : Ev → Res Fl) : Ev → Res Fl := fun ρ => (c (shr ρ)).bind fun x => match x with
  | .bl b => if b = true then s ρ else t ρ
  | _ => .stuck
theorem ds_set {i : Nat} {x : Str} {pos' : Pos} (hN : X.N.Nodup) (hi : X.N[i]? = some x) (hx : Loc X.env.scope x) (he : DE X E e f) (hs : swapsWith e (some (.Name x pos')) pos.line X.env = pure false := by rfl)
    (hf : X.fn x = true ∨ X.env.scope.names.lookup x = some .local := by first | exact .inl rfl | exact .inr rfl | assumption) : DS X E He H0e (.Assign [.Name x pos'] e pos) (sSet i f) := by
  refine ps_weak (ps_set hN hi hx he hs hf) fun D σ H ⟨H₀, ρ, h, q⟩ => ⟨H₀, ρ, h.g.sub, h.rd, ?_⟩
  refine plain h q fun d v H' H₀' _ g rp q' => ?_
  exact q' _ H' H₀' (Same.refl _) ((h.grow g).put rp)
theorem ds_setL {i : Nat} {x : Str} {pos' : Pos} (hN : X.N.Nodup) (hi : X.N[i]? = some x) (hx : Loc X.env.scope x) (he : DE X E e f) (hs : swapsWith e (some (.Name x pos')) pos.line X.env = pure false := by rfl)
    (hf : X.fn x = true ∨ X.env.scope.names.lookup x = some .local := by first | exact .inl rfl | exact .inr rfl | assumption) : DS X E He H0e (.Assign [.Name x pos'] e pos) (sSetL i f) := by
  refine ps_weak (ps_set hN hi hx he hs hf) fun D σ H ⟨H₀, ρ, h, q⟩ => ⟨frz He H₀ H, shr ρ, h.frz_le, h.looks, ?_⟩
  refine look h q fun d v H' J _ g rp q' => ?_
  by_cases fl : flat d = true
  · rw [if_pos fl] at q'
    have hJ : Same H₀ J := h.frz_sub.trans g.z
    refine q' _ H' (addT H₀ J) (fun b o e => by unfold addT; rw [e]) ((h.behind g).put (rp.flat_to (addT_rd hJ) fl))
  · rw [if_neg fl] at q'; exact q'.elim
theorem ds_ret (he : DE X E e f) : DS X E He H0e (.Return (some e) pos) (sRet f) := by
  refine ps_weak (ps_ret he) fun D σ H ⟨H₀, ρ, h, q⟩ => ⟨frz He H₀ H, shr ρ, h.frz_le, h.looks, ?_⟩
  exact look h q fun d v H' J _ g rp q' => q' v H' J (h.frz_grow.trans g) rp
def sRetN : Ev → Res Fl := fun _ => .ok (.rt .non)
theorem ds_retN : DS X E He H0e (.Return none pos) sRetN := ps_weak ps_retN fun D σ H ⟨H₀, ρ, h, q⟩ => q .non H H₀ h.g (Rep.non_iff.mpr rfl)
theorem ds_drop (he : DE X E e f) (hs : swapsWith e none pos.line X.env = pure false := by rfl) : DS X E He H0e (.Expr e pos) (sDrop f) := by
  refine ps_weak (ps_expr he hs) fun D σ H ⟨H₀, ρ, h, q⟩ => ⟨frz He H₀ H, shr ρ, h.frz_le, h.looks, ?_⟩
  exact look h q fun d v H' J _ g rp q' => q' σ H' H₀ (Same.refl _) (h.same g.s)
theorem ds_if {c : Expr} {fc : Ev → Res D} {sa sb : List Stmt} (hc : DT X E c fc) (ha : DSs X E He H0e sa s) (hb : DSs X E He H0e sb t) : DS X E He H0e (.If c sa sb pos) (sIf fc s t) := by
  refine ps_weak (ps_if hc ha hb) fun D σ H ⟨H₀, ρ, h, q⟩ => ⟨frz He H₀ H, shr ρ, h.frz_le, h.looks, ?_⟩
  refine lookT (k := fun b => if b = true then s ρ else t ρ) h q fun b H' hs q' => ?_
  cases b with
  | true => rw [if_pos rfl] at q' ⊢; exact ⟨H₀, ρ, h.same hs, q'⟩
  | false => rw [if_neg Bool.false_ne_true] at q' ⊢; exact ⟨H₀, ρ, h.same hs, q'⟩

/-! ### own lists -/
/-- an expression that makes a new list -/
def tF (K : PySem.W.Frag) (E : XK) (f : Ev → Res D) : TE := fun σ H Q => ∃ H₀ ρ, Same H₀ H ∧ Reads K H₀ σ ρ ∧ match f ρ with
  | .ok (.lst ds) => ∀ p vs H' H₀', Grow H H₀ H' H₀' → H p = none → H₀' p = none → H' p = some (.lst vs) → Reps K H₀' ds vs → Q (.ref p) H'
  | .ok _ => False
  | .exn x => ∀ C ox H' H₀', Grow H H₀ H' H₀' → ExR K H₀' x C ox → E C ox H'
  | .stuck => False
def DF (X : Cx) (E : XK) (e : Expr) (f : Ev → Res D) : Prop := PE X e (tF X.K E f)
def sOwn (i : Nat) (f : Ev → Res D) : Ev → Res Fl := fun ρ => (f ρ).bind fun d => match d with
  | .lst ds => .ok (.nx (ρ.set i (.ow (.lst ds))))
  | _ => .stuck
theorem ds_own {i : Nat} {x : Str} {pos' : Pos} (hN : X.N.Nodup) (hi : X.N[i]? = some x) (hx : Loc X.env.scope x) (he : DF X E e f) (hs : swapsWith e (some (.Name x pos')) pos.line X.env = pure false := by rfl)
    (hf : X.fn x = true ∨ X.env.scope.names.lookup x = some .local := by first | exact .inl rfl | exact .inr rfl | assumption) : DS X E He H0e (.Assign [.Name x pos'] e pos) (sOwn i f) := by
  refine ps_weak (ps_set hN hi hx he hs hf) fun D σ H ⟨H₀, ρ, h, q⟩ => ⟨H₀, ρ, h.g.sub, h.rd, ?_⟩
  unfold sOwn at q
  cases e1 : f ρ with
  | stuck => rw [e1] at q; exact q
  | exn x => rw [e1] at q; exact fun C ox H' H₀' g ex => q C ox H' H₀' (h.g.trans g) ex
  | ok d =>
    rw [e1] at q
    cases d with
    | lst ds =>
      intro p vs H' H₀' g hp h0 hv rp
      refine q _ H' H₀' g.z ((h.grow g).putOwn (fun j a ej ea d ed => ?_) (h.g.s.free hp) h0 hv rp)
      subst ea
      obtain ⟨a', k1, _, _, k4⟩ := h.ow j d ed
      rw [ej] at k1; cases k1
      cases d with
      | lst ds' => obtain ⟨vs', h5, _⟩ := k4; rw [hp] at h5; cases h5
      | _ => exact k4.elim
    | _ => exact q.elim
theorem df_lst (h : DA X E es fa) : DF X E (.List es pos) (bindA fa mLst) := by
  refine pe_weak (pe_lst h) fun σ H Q h => ?_
  obtain ⟨H₀, ρ, hs, hr, q⟩ := h
  refine ⟨H₀, ρ, hs, hr, ?_⟩
  unfold bindA at q
  cases e1 : fa ρ with
  | stuck => rw [e1] at q; exact q
  | exn x => rw [e1] at q; exact q
  | ok ds =>
    rw [e1] at q
    intro vs H1 H01 g1 r1
    replace q : match mLst ds with
      | .ok (.lst ds) => ∀ p vs H' H₀', Grow H H₀ H' H₀' → H p = none → H₀' p = none → H' p = some (.lst vs) → Reps X.K H₀' ds vs → Q (.ref p) H'
      | .ok _ => False
      | .exn x => ∀ C ox H' H₀', Grow H H₀ H' H₀' → ExR X.K H₀' x C ox → E C ox H'
      | .stuck => False := q
    unfold mLst at q
    by_cases hl : ds.length ≤ line
    · rw [if_pos hl] at q
      refine ⟨by rw [← r1.length]; exact line_le hl, fun p hp => ?_⟩
      have h0 : H01 p = none := g1.sub.free hp
      refine q p vs _ H01 (g1.trans ⟨fun b o q => by rw [upd_ne (ne_of_none q hp)]; exact q, Same.refl _, fun b o q => ?_, fun a h1 h2 => absurd h2 h1⟩) (g1.s.free hp) h0 upd_same r1
      rw [upd_ne (by intro z; subst z; rw [h0] at q; cases q)]; exact g1.sub _ _ q
    · rw [if_neg hl] at q; exact q.elim
/-- x.append(e) at an own name -/
def ownAt (ρ : Ev) (i : Nat) (k : List D → Res Fl) : Res Fl := match ρ[i]? with
  | some (.ow (.lst ds)) => k ds
  | _ => .stuck
def sAppend (i : Nat) (f : Ev → Res D) : Ev → Res Fl := fun ρ => ownAt ρ i fun ds => (f ρ).bind fun d => if ds.length < line then .ok (.nx (ρ.set i (.ow (.lst (ds ++ [d]))))) else .stuck
def sAppendL (i : Nat) (f : Ev → Res D) : Ev → Res Fl := fun ρ => ownAt ρ i fun ds => (f (shr ρ)).bind fun d => if flat d = true ∧ ds.length < line then .ok (.nx (ρ.set i (.ow (.lst (ds ++ [d]))))) else .stuck
theorem ownAt_of {K : PySem.W.Frag} {H₀ H : Hp} {σ : L2.St} {ρ : Ev} {i : Nat} {k : List D → Res Fl} {D' : Ends} (h : SRx K He H0e H₀ σ H ρ) (q : postS K E He H0e H₀ (ownAt ρ i k) D') :
    ∃ ds p vs, ρ[i]? = some (.ow (.lst ds)) ∧ σ[i]? = some (some (.ref p)) ∧ He p = none ∧ H₀ p = none ∧ H p = some (.lst vs) ∧ Reps K H₀ ds vs ∧ postS K E He H0e H₀ (k ds) D' := by
  unfold ownAt at q
  cases e : ρ[i]? with
  | none => rw [e] at q; exact q.elim
  | some s =>
    rw [e] at q
    cases s with
    | no => exact q.elim
    | sh d => exact q.elim
    | ow d =>
      cases d with
      | lst ds =>
        obtain ⟨p, h1, h2, h3, vs, h4, h5⟩ := h.ow i _ e
        exact ⟨ds, p, vs, rfl, h1, h2, h3, h4, h5, q⟩
      | _ => exact q.elim
theorem ds_append {i : Nat} {x : Str} {p1 p2 p3 : Pos} (hN : X.N[i]? = some x) (hv : Vis X.env.scope x) (he : DE X E e f)
    (hd : (x == ("__debug__" : Str)) = false := by decide) (hcd : (x == ("__classdict__" : Str)) = false := by decide)
    (hbase : attributeBase (.Name x p1) "append" X.env (eval (.Name x p1) X.env) = eval (.Name x p1) X.env := by rfl)
    (hfew : ((backTo p3 (starEach [e] X.env)).all (fun x => !x.1) && (backToKw p3 (keywordEach [] X.env)).all (fun x => x.1.isSome)
      && decide ([e].length + ([] : List Keyword).length + (if ([] : List Keyword).isEmpty then 0 else 1) < 30)) = true := by rfl)
    (hline : (p2.endLine == p3.line) = true := by rfl) (hs : starEach [e] X.env = (false, eval e X.env) :: starEach [] X.env := by rfl) (hplain : (backTo p3 (starEach [] X.env)).any (·.1) = false := by rfl)
    (hw : swapsWith (.Call (.Attribute (.Name x p1) "append" p2) [e] [] p3) none pos.line X.env = pure false := by rfl) :
    DS X E He H0e (.Expr (.Call (.Attribute (.Name x p1) "append" p2) [e] [] p3) pos) (sAppend i f) := by
  refine ps_weak (ps_expr (pe_bm PySem.F.plainAttrs_list PySem.F.slot_list_append PySem.F.type_list_append mt_append (pe_var hN hv hd hcd) (pa_cons he pa_nil hs) hbase hfew hline hs hplain) hw) fun D σ H ⟨H₀, ρ, h, q⟩ => ?_
  obtain ⟨ds, p, vs, e1, e2, e3, e4, e5, e6, q⟩ := ownAt_of h q
  refine ⟨.ref p, e2, .inl ⟨rfl, vs, SqL.of e5⟩, ?_⟩
  refine ⟨H₀, ρ, h.g.sub, h.rd, plain h q fun d v H' H₀' _ g rp q' => ?_⟩
  by_cases hl : ds.length < line
  · rw [if_pos hl] at q'
    have e5' : H' p = some (.lst vs) := g.s _ _ e5
    refine ⟨p, vs, v, rfl, rfl, e5', by rw [← e6.length]; exact Nat.lt_of_lt_of_le hl (by decide), ?_⟩
    exact q' σ _ H₀' (Same.refl _) ((h.grow g).write e1 e2 ((e6.mono g.z).app (Reps.cons rp Reps.nil)))
  · rw [if_neg hl] at q'; exact q'.elim
theorem ds_appendL {i : Nat} {x : Str} {p1 p2 p3 : Pos} (hN : X.N[i]? = some x) (hv : Vis X.env.scope x) (he : DE X E e f)
    (hd : (x == ("__debug__" : Str)) = false := by decide) (hcd : (x == ("__classdict__" : Str)) = false := by decide)
    (hbase : attributeBase (.Name x p1) "append" X.env (eval (.Name x p1) X.env) = eval (.Name x p1) X.env := by rfl)
    (hfew : ((backTo p3 (starEach [e] X.env)).all (fun x => !x.1) && (backToKw p3 (keywordEach [] X.env)).all (fun x => x.1.isSome)
      && decide ([e].length + ([] : List Keyword).length + (if ([] : List Keyword).isEmpty then 0 else 1) < 30)) = true := by rfl)
    (hline : (p2.endLine == p3.line) = true := by rfl) (hs : starEach [e] X.env = (false, eval e X.env) :: starEach [] X.env := by rfl) (hplain : (backTo p3 (starEach [] X.env)).any (·.1) = false := by rfl)
    (hw : swapsWith (.Call (.Attribute (.Name x p1) "append" p2) [e] [] p3) none pos.line X.env = pure false := by rfl) :
    DS X E He H0e (.Expr (.Call (.Attribute (.Name x p1) "append" p2) [e] [] p3) pos) (sAppendL i f) := by
  refine ps_weak (ps_expr (pe_bm PySem.F.plainAttrs_list PySem.F.slot_list_append PySem.F.type_list_append mt_append (pe_var hN hv hd hcd) (pa_cons he pa_nil hs) hbase hfew hline hs hplain) hw) fun D σ H ⟨H₀, ρ, h, q⟩ => ?_
  obtain ⟨ds, p, vs, e1, e2, e3, e4, e5, e6, q⟩ := ownAt_of h q
  refine ⟨.ref p, e2, .inl ⟨rfl, vs, SqL.of e5⟩, ?_⟩
  refine ⟨frz He H₀ H, shr ρ, h.frz_le, h.looks, look h q fun d v H' J _ g rp q' => ?_⟩
  by_cases hl : flat d = true ∧ ds.length < line
  · rw [if_pos hl] at q'
    have e5' : H' p = some (.lst vs) := g.s _ _ e5
    have hJ : Same H₀ J := h.frz_sub.trans g.z
    have z : Same H₀ (addT H₀ J) := fun b o e => by unfold addT; rw [e]
    refine ⟨p, vs, v, rfl, rfl, e5', by rw [← e6.length]; exact Nat.lt_of_lt_of_le hl.2 (by decide), ?_⟩
    exact q' σ _ _ z ((h.behind g).write e1 e2 ((e6.mono z).app (Reps.cons (rp.flat_to (addT_rd hJ) hl.1) Reps.nil)))
  · rw [if_neg hl] at q'; exact q'.elim
/-- x.clear() at an own name -/
def sClear (i : Nat) : Ev → Res Fl := fun ρ => ownAt ρ i fun _ => .ok (.nx (ρ.set i (.ow (.lst []))))
theorem ds_clear {i : Nat} {x : Str} {p1 p2 p3 : Pos} (hN : X.N[i]? = some x) (hv : Vis X.env.scope x)
    (hd : (x == ("__debug__" : Str)) = false := by decide) (hcd : (x == ("__classdict__" : Str)) = false := by decide)
    (hbase : attributeBase (.Name x p1) "clear" X.env (eval (.Name x p1) X.env) = eval (.Name x p1) X.env := by rfl) (hline : (p2.endLine == p3.line) = true := by rfl)
    (hw : swapsWith (.Call (.Attribute (.Name x p1) "clear" p2) [] [] p3) none pos.line X.env = pure false := by rfl) :
    DS X E He H0e (.Expr (.Call (.Attribute (.Name x p1) "clear" p2) [] [] p3) pos) (sClear i) := by
  refine ps_weak (ps_expr (pe_bm0 PySem.F.plainAttrs_list PySem.F.slot_list_clear PySem.F.type_list_clear mt_clear (pe_var hN hv hd hcd) hbase hline) hw) fun D σ H ⟨H₀, ρ, h, q⟩ => ?_
  obtain ⟨ds, p, vs, e1, e2, e3, e4, e5, e6, q⟩ := ownAt_of h q
  refine ⟨.ref p, e2, .inl ⟨rfl, vs, SqL.of e5⟩, p, vs, rfl, rfl, e5, ?_⟩
  exact q σ _ H₀ (Same.refl _) (h.write e1 e2 Reps.nil)
/-- x[k] = e at an own name -/
def putAt (ρ : Ev) (i : Nat) (ds : List D) (d : D) (j : D) : Res Fl := match j with
  | .int j => match ixN ds.length j with
    | some n => .ok (.nx (ρ.set i (.ow (.lst (ds.set n d)))))
    | none => .stuck
  | _ => .stuck
def sPut (i : Nat) (f k : Ev → Res D) : Ev → Res Fl := fun ρ => ownAt ρ i fun ds => (f ρ).bind fun d => (k ρ).bind fun j => putAt ρ i ds d j
def sPutL (i : Nat) (f k : Ev → Res D) : Ev → Res Fl := fun ρ => ownAt ρ i fun ds => (f (shr ρ)).bind fun d => (k (shr ρ)).bind fun j => if flat d = true then putAt ρ i ds d j else .stuck
theorem putAt_ok {K : PySem.W.Frag} {H₀ H : Hp} {σ : L2.St} {ρ : Ev} {i : Nat} {D' : Ends} {ds : List D} {d j : D} {p : Addr} {vs : List V} {v u : V} (h : SRx K He H0e H₀ σ H ρ) (e1 : ρ[i]? = some (.ow (.lst ds))) (e2 : σ[i]? = some (some (.ref p))) (e5 : H p = some (.lst vs)) (e6 : Reps K H₀ ds vs)
    (rp : Rep K H₀ d v) (rj : Rep K H₀ j u) (q : postS K E He H0e H₀ (putAt ρ i ds d j) D') : rSetL (.ref p) u v H fun H' => D'.nx σ H' := by
  unfold putAt at q
  cases j with
  | int n =>
    cases en : ixN ds.length n with
    | none => simp only [en] at q; exact q.elim
    | some m =>
      simp only [en] at q
      refine ⟨p, vs, n, m, rfl, Rep.int_iff.mp rj, e5, by rw [← e6.length]; exact en, ?_⟩
      exact q σ _ H₀ (Same.refl _) (h.write e1 e2 (e6.set rp m))
  | _ => exact q.elim
section
variable {i : Nat} {x : Str} {p1 p2 : Pos} {k : Ev → Res D}
theorem ds_put (hN : X.N[i]? = some x) (hv : Vis X.env.scope x) (he : DE X E e f) (hk : DE X E b k)
    (hd : (x == ("__debug__" : Str)) = false := by decide) (hcd : (x == ("__classdict__" : Str)) = false := by decide)
    (ha : ∀ v, assign (.Subscript (.Name x p1) b p2) X.env v = (do
      let ov ← holding [v] (eval (.Name x p1) X.env)
      let iv ← holding [v, ov] (eval b X.env)
      standAt p2
      holding [v, ov, iv] (setItem ov iv v)
      release [v, ov, iv] []) := by intro _; rfl)
    (hs : swapsWithSole [.Subscript (.Name x p1) b p2] e pos.line X.env = pure false := by rfl) (hw : swappedStores [.Subscript (.Name x p1) b p2] e X.env = pure none := by rfl)
    (h1 : (assignEach [.Subscript (.Name x p1) b p2] X.env).map (·.2) = [assign (.Subscript (.Name x p1) b p2) X.env] := by rfl) :
    DS X E He H0e (.Assign [.Subscript (.Name x p1) b p2] e pos) (sPut i f k) := by
  refine ps_weak (ps_asg he (pg_sub (pe_var hN hv hd hcd) hk set_list ha) hs hw h1) fun D σ H ⟨H₀, ρ, h, q⟩ => ⟨H₀, ρ, h.g.sub, h.rd, ?_⟩
  obtain ⟨ds, p, vs, e1, e2, e3, e4, e5, e6, q⟩ := ownAt_of h q
  refine plain (k := fun d => (k ρ).bind fun j => putAt ρ i ds d j) h q fun d v H1 H01 _ g1 r1 q1 => ⟨.ref p, e2, ?_⟩
  have h1' := h.grow g1
  refine ⟨H01, ρ, h1'.g.sub, h1'.rd, plain (k := fun j => putAt ρ i ds d j) h1' q1 fun j u H2 H02 _ g2 r2 q2 => ?_⟩
  exact putAt_ok (h1'.grow g2) e1 e2 (g2.s _ _ (g1.s _ _ e5)) ((e6.mono g1.z).mono g2.z) (r1.mono g2.z) r2 q2
theorem ds_putL (hN : X.N[i]? = some x) (hv : Vis X.env.scope x) (he : DE X E e f) (hk : DE X E b k)
    (hd : (x == ("__debug__" : Str)) = false := by decide) (hcd : (x == ("__classdict__" : Str)) = false := by decide)
    (ha : ∀ v, assign (.Subscript (.Name x p1) b p2) X.env v = (do
      let ov ← holding [v] (eval (.Name x p1) X.env)
      let iv ← holding [v, ov] (eval b X.env)
      standAt p2
      holding [v, ov, iv] (setItem ov iv v)
      release [v, ov, iv] []) := by intro _; rfl)
    (hs : swapsWithSole [.Subscript (.Name x p1) b p2] e pos.line X.env = pure false := by rfl) (hw : swappedStores [.Subscript (.Name x p1) b p2] e X.env = pure none := by rfl)
    (h1 : (assignEach [.Subscript (.Name x p1) b p2] X.env).map (·.2) = [assign (.Subscript (.Name x p1) b p2) X.env] := by rfl) :
    DS X E He H0e (.Assign [.Subscript (.Name x p1) b p2] e pos) (sPutL i f k) := by
  refine ps_weak (ps_asg he (pg_sub (pe_var hN hv hd hcd) hk set_list ha) hs hw h1) fun D σ H ⟨H₀, ρ, h, q⟩ => ⟨frz He H₀ H, shr ρ, h.frz_le, h.looks, ?_⟩
  obtain ⟨ds, p, vs, e1, e2, e3, e4, e5, e6, q⟩ := ownAt_of h q
  refine look (k := fun d => (k (shr ρ)).bind fun j => if flat d = true then putAt ρ i ds d j else .stuck) h q fun d v H1 J1 _ g1 r1 q1 => ⟨.ref p, e2, ?_⟩
  have hJ1 : Same H₀ J1 := h.frz_sub.trans g1.z
  refine ⟨J1, shr ρ, g1.sub, h.looks.mono g1.z, ?_⟩
  cases ek : k (shr ρ) with
  | stuck => rw [ek] at q1; exact q1
  | exn x => rw [ek] at q1; exact fun C ox H' H₀' g ex => q1 C ox H' H₀' (h.frz_grow.trans (g1.trans g)) ex
  | ok j =>
    rw [ek] at q1
    intro u H2 J2 g2 r2
    replace q1 : postS X.K E He H0e H₀ (if flat d = true then putAt ρ i ds d j else .stuck) D := q1
    by_cases fl : flat d = true
    · rw [if_pos fl] at q1
      have g := g1.trans g2
      have hJ : Same H₀ J2 := h.frz_sub.trans g.z
      have z : Same H₀ (addT H₀ J2) := fun b o e => by unfold addT; rw [e]
      have rd := (r1.mono g2.z).flat_to (addT_rd hJ) fl
      have rj : Rep X.K (addT H₀ J2) j u := by
        cases j with
        | int n => exact Rep.int_iff.mpr (Rep.int_iff.mp r2)
        | _ => exact q1.elim
      exact putAt_ok (h.behind g) e1 e2 (g.s _ _ e5) (e6.mono z) rd rj (q1.grow z)
    · rw [if_neg fl] at q1; exact q1.elim
end

/-! ### loops -/
/-- what a turn does with its item -/
def forD (tg : Ev → D → Res Ev) (body : Ev → Res Fl) : List D → Ev → Res Fl
  | [], ρ => .ok (.nx ρ)
  | d :: r, ρ => (tg ρ d).bind fun ρ1 => (body ρ1).bind fun x => match x with
    | .nx ρ2 => forD tg body r ρ2
    | .ct ρ2 => forD tg body r ρ2
    | .bk ρ2 => .ok (.nx ρ2)
    | .rt d => .ok (.rt d)
/-- a target's promise -/
def tG (K : PySem.W.Frag) (He H0e : Hp) (tg : Ev → D → Res Ev) : TG := fun v σ H Q => ∃ H₀ ρ d, SRx K He H0e H₀ σ H ρ ∧ Rep K H₀ d v ∧ match tg ρ d with
    | .ok ρ' => ∀ σ' H' H₀', Same H₀ H₀' → SRx K He H0e H₀' σ' H' ρ' → Q σ' H'
    | _ => False
def DG (X : Cx) (E : XK) (He H0e : Hp) (target : Expr) (tg : Ev → D → Res Ev) : Prop := PG X target (tG X.K He H0e tg)
def gSet (i : Nat) : Ev → D → Res Ev := fun ρ d => .ok (ρ.set i (.sh d))
theorem pg_weak {tgt : Expr} {t t' : TG} (h : PG X tgt t) (w : ∀ v σ H Q, t' v σ H Q → t v σ H Q) : PG X tgt t' := fun pins s σ H v u Q I r q => h pins s σ H v u Q I r (w v σ H Q q)
theorem dg_name {i : Nat} {x : Str} (hN : X.N.Nodup) (hi : X.N[i]? = some x) (hx : Loc X.env.scope x) (hf : X.fn x = true ∨ X.env.scope.names.lookup x = some .local := by first | exact .inl rfl | exact .inr rfl | assumption) : DG X E He H0e (.Name x pos) (gSet i) :=
  pg_weak (pg_name hN hi hx hf) fun v σ H Q ⟨H₀, ρ, d, h, rp, q⟩ => q _ H H₀ (Same.refl _) (h.put rp)
/-- the turns' invariant -/
def LoopI (K : PySem.W.Frag) (E : XK) (He H0e H₁ : Hp) (tg : Ev → D → Res Ev) (s : Ev → Res Fl) (ds : List D) (D' : Ends) (i : Nat) (σ : L2.St) (H : Hp) : Prop :=
  ∃ H₀ ρ, Same H₁ H₀ ∧ SRx K He H0e H₀ σ H ρ ∧ postS K E He H0e H₀ (forD tg s (ds.drop i) ρ) D'
theorem LoopI.step {K : PySem.W.Frag} {H₁ : Hp} {tg : Ev → D → Res Ev} {ds : List D} {D' : Ends} {i : Nat} {σ : L2.St} {H : Hp} {d : D} {v : V} (h : LoopI K E He H0e H₁ tg s ds D' i σ H) (hd : ds[i]? = some d) (rv : Rep K H₁ d v)
    (he : ∀ ρ, tg ρ d = .stuck ∨ ∃ ρ', tg ρ d = .ok ρ') :
    tG K He H0e tg v σ H fun σ2 H2 => tS K E He H0e s { D' with nx := LoopI K E He H0e H₁ tg s ds D' (i + 1), ct := LoopI K E He H0e H₁ tg s ds D' (i + 1), bk := D'.nx } σ2 H2 := by
  obtain ⟨H₀, ρ, z, h, q⟩ := h
  have hi : i < ds.length := (List.getElem?_eq_some_iff.mp hd).1
  have hdr : ds.drop i = d :: ds.drop (i + 1) := by
    rw [List.drop_eq_getElem_cons hi]
    rw [List.getElem?_eq_getElem hi] at hd
    cases hd; rfl
  rw [hdr] at q
  refine ⟨H₀, ρ, d, h, rv.mono z, ?_⟩
  unfold forD at q
  rcases he ρ with e1 | ⟨ρ1, e1⟩
  · rw [e1] at q; exact q.elim
  · rw [e1] at q ⊢
    intro σ' H' H₀' z' h'
    refine ⟨H₀', ρ1, h', ?_⟩
    replace q := postS.grow (r := (s ρ1).bind fun x => match x with
      | .nx ρ2 => forD tg s (ds.drop (i + 1)) ρ2
      | .ct ρ2 => forD tg s (ds.drop (i + 1)) ρ2
      | .bk ρ2 => .ok (.nx ρ2)
      | .rt d => .ok (.rt d)) q z'
    cases e2 : s ρ1 with
    | stuck => rw [e2] at q; exact q
    | exn x => rw [e2] at q; exact q
    | ok r =>
      rw [e2] at q
      cases r with
      | nx ρ2 => exact fun σ3 H3 H03 z3 h3 => ⟨H03, ρ2, (z.trans z').trans z3, h3, postS.grow (r := forD tg s (ds.drop (i + 1)) ρ2) q z3⟩
      | ct ρ2 => exact fun σ3 H3 H03 z3 h3 => ⟨H03, ρ2, (z.trans z').trans z3, h3, postS.grow (r := forD tg s (ds.drop (i + 1)) ρ2) q z3⟩
      | bk ρ2 => exact q
      | rt d => exact q
theorem LoopI.done {K : PySem.W.Frag} {H₁ : Hp} {tg : Ev → D → Res Ev} {ds : List D} {D' : Ends} {σ : L2.St} {H : Hp} (h : LoopI K E He H0e H₁ tg s ds D' ds.length σ H) : D'.nx σ H := by
  obtain ⟨H₀, ρ, z, h, q⟩ := h
  rw [List.drop_length] at q
  unfold forD at q
  exact q σ H H₀ (Same.refl _) h
def Total (tg : Ev → D → Res Ev) : Prop := ∀ ρ d, tg ρ d = .stuck ∨ ∃ ρ', tg ρ d = .ok ρ'
theorem total_set {i : Nat} : Total (gSet i) := fun ρ d => .inr ⟨_, rfl⟩
def sFor (f : Ev → Res D) (tg : Ev → D → Res Ev) (s : Ev → Res Fl) : Ev → Res Fl := fun ρ => (f ρ).bind fun d => match d with
  | .lst ds => forD tg s ds ρ
  | _ => .stuck
def sForT (f : Ev → Res D) (tg : Ev → D → Res Ev) (s : Ev → Res Fl) : Ev → Res Fl := fun ρ => (f ρ).bind fun d => match d with
  | .tup ds => forD tg s ds ρ
  | _ => .stuck
theorem ds_for {tgt iter : Expr} {body : List Stmt} {tg : Ev → D → Res Ev} (hp : PassesOwn (model X.prog X.w) X.A X.env X.xe) (hc : X.calm = true) (hi : DE X E iter f) (hg : DG X E He H0e tgt tg) (ht : Total tg) (hb : DSs X E He H0e body s)
    (hs : ∀ x, foldedSetIterable iter X.env x = pure x := by intro _; rfl) : DS X E He H0e (.For tgt iter body [] pos) (sFor f tg s) := by
  refine ps_weak (ps_for hp hc (pi_list hi) hg hb hs) fun D' σ H ⟨H₀, ρ, h, q⟩ => ⟨H₀, ρ, h.g.sub, h.rd, ?_⟩
  refine plain h q fun d v H1 H01 _ g rp q1 => ?_
  cases d with
  | lst ds =>
    obtain ⟨a, vs, rfl, hv, hr⟩ := Rep.lst_iff.mp rp
    refine ⟨a, rfl, ⟨vs, Same.sqL g.sub hv⟩, ?_⟩
    refine for_list (K := X.K) (a := a) (g := tG X.K He H0e tg) (tb := tS X.K E He H0e s) (D := D') (xs := vs) (LoopI X.K E He H0e H01 tg s ds D') ⟨H01, ρ, Same.refl _, h.grow g, q1⟩ ?_ ?_ ?_
    · rintro i σ' H' _ ⟨H₀', ρ', z, h', _⟩
      exact Same.sqL (z.trans h'.g.sub) hv
    · intro i x σ' H' hx hI
      have hil : i < ds.length := by rw [hr.length]; exact (List.getElem?_eq_some_iff.mp hx).1
      obtain ⟨u, e1, e2⟩ := hr.get (List.getElem?_eq_getElem hil)
      rw [hx] at e1; cases e1
      exact hI.step (List.getElem?_eq_getElem hil) e2 fun ρ => ht ρ _
    · intro σ' H' hI
      rw [← hr.length] at hI
      exact hI.done
  | _ => exact q1.elim
theorem ds_forT {tgt iter : Expr} {body : List Stmt} {tg : Ev → D → Res Ev} (hp : PassesOwn (model X.prog X.w) X.A X.env X.xe) (hc : X.calm = true) (hi : DE X E iter f) (hg : DG X E He H0e tgt tg) (ht : Total tg) (hb : DSs X E He H0e body s)
    (hs : ∀ x, foldedSetIterable iter X.env x = pure x := by intro _; rfl) : DS X E He H0e (.For tgt iter body [] pos) (sForT f tg s) := by
  refine ps_weak (ps_for hp hc (pi_tup hi) hg hb hs) fun D' σ H ⟨H₀, ρ, h, q⟩ => ⟨H₀, ρ, h.g.sub, h.rd, ?_⟩
  refine plain h q fun d v H1 H01 _ g rp q1 => ?_
  cases d with
  | tup ds =>
    obtain ⟨a, vs, rfl, hv, hr⟩ := Rep.tup_iff.mp rp
    refine ⟨a, rfl, ⟨vs, Same.sqT g.sub hv⟩, ?_⟩
    refine for_tup (K := X.K) (a := a) (g := tG X.K He H0e tg) (tb := tS X.K E He H0e s) (D := D') (xs := vs) (LoopI X.K E He H0e H01 tg s ds D') ⟨H01, ρ, Same.refl _, h.grow g, q1⟩ ?_ ?_ ?_
    · rintro i σ' H' _ ⟨H₀', ρ', z, h', _⟩
      exact Same.sqT (z.trans h'.g.sub) hv
    · intro i x σ' H' hx hI
      have hil : i < ds.length := by rw [hr.length]; exact (List.getElem?_eq_some_iff.mp hx).1
      obtain ⟨u, e1, e2⟩ := hr.get (List.getElem?_eq_getElem hil)
      rw [hx] at e1; cases e1
      exact hI.step (List.getElem?_eq_getElem hil) e2 fun ρ => ht ρ _
    · intro σ' H' hI
      rw [← hr.length] at hI
      exact hI.done
  | _ => exact q1.elim
def intsFrom (lo : Int) (n : Nat) : List D := (List.range n).map fun (k : Nat) => D.int (lo + (k : Int))
/-- for x in range(e): the argument is a look -/
def sForR (f : Ev → Res D) (tg : Ev → D → Res Ev) (s : Ev → Res Fl) : Ev → Res Fl := fun ρ => (f (shr ρ)).bind fun d => match d with
  | .int j => if -4611686018427387904 ≤ j ∧ j < 4611686018427387904 then forD tg s (intsFrom 0 j.toNat) ρ else .stuck
  | _ => .stuck
theorem ds_forR {tgt iter : Expr} {p pos2 : Pos} {body : List Stmt} {tg : Ev → D → Res Ev} (hp : PassesOwn (model X.prog X.w) X.A X.env X.xe) (hc : X.calm = true) (hgl : Gl X "range") (hm : X.mg "range" = none) (hi : DE X E iter f) (hg : DG X E He H0e tgt tg) (ht : Total tg) (hb : DSs X E He H0e body s)
    (hst : starEach [iter] X.env = [(false, eval iter X.env)] := by rfl) (hs : ∀ x, foldedSetIterable (.Call (.Name "range" p) [iter] [] pos2) X.env x = pure x := by intro _; rfl) : DS X E He H0e (.For tgt (.Call (.Name "range" p) [iter] [] pos2) body [] pos) (sForR f tg s) := by
  refine ps_weak (ps_for hp hc (pi_range1 hgl hm (pa_cons hi pa_nil hst) hst) hg hb hs) fun D' σ H ⟨H₀, ρ, h, q⟩ => ?_
  refine ⟨frz He H₀ H, shr ρ, h.frz_le, h.looks, look h q fun d v H1 J _ g rp q1 => ?_⟩
  cases d with
  | int j =>
    rw [Rep.int_iff.mp rp]
    replace q1 : postS X.K E He H0e H₀ (if -4611686018427387904 ≤ j ∧ j < 4611686018427387904 then forD tg s (intsFrom 0 j.toNat) ρ else .stuck) D' := q1
    by_cases hj : -4611686018427387904 ≤ j ∧ j < 4611686018427387904
    · rw [if_pos hj] at q1
      refine ⟨j, rfl, by omega, by omega, ?_⟩
      have hlen : (intsFrom 0 j.toNat).length = j.toNat := by unfold intsFrom; simp
      refine for_range (lo := 0) (n := j.toNat) (g := tG X.K He H0e tg) (tb := tS X.K E He H0e s) (D := D') (LoopI X.K E He H0e H₀ tg s (intsFrom 0 j.toNat) D') ⟨H₀, ρ, Same.refl _, h.same g.s, q1⟩ ?_ ?_
      · intro i σ' H' hlt hI
        refine hI.step (d := .int (0 + i)) ?_ (Rep.int_iff.mpr rfl) fun ρ => ht ρ _
        unfold intsFrom
        simp [hlt]
      · intro σ' H' hI
        exact LoopI.done (ds := intsFrom 0 j.toNat) (by rw [hlen]; exact hI)
    · rw [if_neg hj] at q1; exact q1.elim
  | _ => exact q1.elim
/-- while, with fuel -/
def whileD (c : Ev → Res D) (s : Ev → Res Fl) : Nat → Ev → Res Fl
  | 0, _ => .stuck
  | n + 1, ρ => (c (shr ρ)).bind fun x => match x with
    | .bl b => if b = true then (s ρ).bind fun x => match x with
        | .nx ρ2 => whileD c s n ρ2
        | .ct ρ2 => whileD c s n ρ2
        | .bk ρ2 => .ok (.nx ρ2)
        | .rt d => .ok (.rt d)
      else .ok (.nx ρ)
    | _ => .stuck
def sWhile (fuel : Ev → Nat) (c : Ev → Res D) (s : Ev → Res Fl) : Ev → Res Fl := fun ρ => whileD c s (fuel ρ) ρ
theorem ds_while (fuel : Ev → Nat) {c : Expr} {body : List Stmt} {fc : Ev → Res D} (hp : PassesOwn (model X.prog X.w) X.A X.env X.xe) (hc : DT X E c fc) (hb : DSs X E He H0e body s) : DS X E He H0e (.While c body [] pos) (sWhile fuel fc s) := by
  refine ps_weak (ps_while hp hc hb) fun D' σ H ⟨H₀, ρ, h, q⟩ => ?_
  refine ⟨fun m σ H => ∃ H₀ ρ, SRx X.K He H0e H₀ σ H ρ ∧ postS X.K E He H0e H₀ (whileD fc s m ρ) D', ⟨fuel ρ, H₀, ρ, h, q⟩, ?_⟩
  rintro m σ1 H1 ⟨H01, ρ1, h1, q1⟩
  cases m with
  | zero => exact q1.elim
  | succ m =>
    refine ⟨frz He H01 H1, shr ρ1, h1.frz_le, h1.looks, ?_⟩
    unfold whileD at q1
    refine lookT (k := fun b => if b = true then (s ρ1).bind fun x => match x with
        | .nx ρ2 => whileD fc s m ρ2
        | .ct ρ2 => whileD fc s m ρ2
        | .bk ρ2 => .ok (.nx ρ2)
        | .rt d => .ok (.rt d)
      else .ok (.nx ρ1)) h1 q1 fun b H2 hs q2 => ?_
    cases b with
    | false =>
      rw [if_neg Bool.false_ne_true] at q2 ⊢
      exact q2 σ1 H2 H01 (Same.refl _) (h1.same hs)
    | true =>
      rw [if_pos rfl] at q2 ⊢
      refine ⟨fun σ' H' => ∃ m', m' < m + 1 ∧ ∃ H₀ ρ, SRx X.K He H0e H₀ σ' H' ρ ∧ postS X.K E He H0e H₀ (whileD fc s m' ρ) D', fun σ' H' z => z, H01, ρ1, h1.same hs, ?_⟩
      cases e2 : s ρ1 with
      | stuck => rw [e2] at q2; exact q2
      | exn x => rw [e2] at q2; exact q2
      | ok r =>
        rw [e2] at q2
        cases r with
        | nx ρ2 => exact fun σ3 H3 H03 z3 h3 => ⟨m, Nat.lt_succ_self _, H03, ρ2, h3, postS.grow (r := whileD fc s m ρ2) q2 z3⟩
        | ct ρ2 => exact fun σ3 H3 H03 z3 h3 => ⟨m, Nat.lt_succ_self _, H03, ρ2, h3, postS.grow (r := whileD fc s m ρ2) q2 z3⟩
        | bk ρ2 => exact q2
        | rt d => exact q2
end

/-! ### a def by its body -/
def runD (n : Nat) (s : Ev → Res Fl) (ds : List D) : Res D := (s (ds.map Sl.sh ++ List.replicate (n - ds.length) .no)).bind fun r => match r with
  | .nx _ => .ok .non
  | .rt d => .ok d
  | _ => .stuck
theorem start_reads {K : PySem.W.Frag} {H₀ : Hp} {N : List Str} {ds : List D} {vs : List V} (h : Reps K H₀ ds vs) : Reads K H₀ (start N vs) (ds.map Sl.sh ++ List.replicate (N.length - ds.length) .no) := by
  intro i d e
  have hl := h.length
  by_cases hi : i < ds.length
  · rw [List.getElem?_append_left (by simpa using hi), List.getElem?_map] at e
    cases q : ds[i]? with
    | none => rw [q] at e; cases e
    | some d' =>
      rw [q] at e; cases e
      obtain ⟨v, h1, h2⟩ := h.get q
      refine ⟨v, ?_, h2⟩
      unfold L2.start
      rw [List.getElem?_append_left (by simp; omega), List.getElem?_map, h1]
      rfl
  · rw [List.getElem?_append_right (by simpa using hi), List.getElem?_replicate] at e
    split at e <;> cases e
theorem fn_mirror {P : Program} {w : World} {K : PySem.W.Frag} {mg : Str → Option Value} {base : Heap} {x qual : Str} {st : Stmt} {f : Addr} {fd : FuncData} {N ps : List Str} {k : Nat} {s : Ev → Res Fl} (F : Fun K x qual st f fd) (S : FnScope N ps (defScope st))
    (hbody : ∀ (cdv : Value) (A : Around) (outer : List PySem.Env) (s0 : Shared) (H H₀ : Hp) (E : XK), Room k (A.deeper (envOfC qual (defScope st) s0.heap.objs.size f cdv)) →
      DSs (cxOf CX0 P w K mg base N qual (defScope st) f cdv A outer s0 H E).nox E H H₀ (defBody st) s) : FnOk P w K mg base CX0 (k + 1) f fd ps (spD K ps.length (runD N.length s)) := by
  have hpl : ps.length ≤ N.length := by have := congrArg List.length S.pre; rw [List.length_take] at this; omega
  refine F.ok S (fun vs H Q E h => h.1) fun cdv A outer s0 H vs Q E hr h => ?_
  obtain ⟨hn, H₀, ds, hs, hv, q⟩ := h
  refine ⟨_, hbody cdv A outer s0 H H₀ E hr, H₀, ds.map Sl.sh ++ List.replicate (N.length - ds.length) .no, ?_, ?_⟩
  · refine ⟨Grow.refl hs, start_reads hv, fun i d e => ?_, fun i j d d' hij e => ?_, ?_⟩
    · by_cases hi : i < ds.length
      · rw [List.getElem?_append_left (by simpa using hi), List.getElem?_map] at e
        cases q : ds[i]? with
        | none => rw [q] at e; cases e
        | some d' => rw [q] at e; cases e
      · rw [List.getElem?_append_right (by simpa using hi), List.getElem?_replicate] at e
        split at e <;> cases e
    · by_cases hi : i < ds.length
      · rw [List.getElem?_append_left (by simpa using hi), List.getElem?_map] at e
        cases q : ds[i]? with
        | none => rw [q] at e; cases e
        | some d' => rw [q] at e; cases e
      · rw [List.getElem?_append_right (by simpa using hi), List.getElem?_replicate] at e
        split at e <;> cases e
    · unfold L2.start
      have := hv.length
      simp only [List.length_append, List.length_map, List.length_replicate]
      omega
  · unfold runD at q
    cases e1 : s (ds.map Sl.sh ++ List.replicate (N.length - ds.length) .no) with
    | stuck => rw [e1] at q; exact q
    | exn x => rw [e1] at q; exact q
    | ok r =>
      rw [e1] at q
      cases r with
      | nx ρ' => exact fun σ' H' H₀' _ h' => q .non H' H₀' h'.g (Rep.non_iff.mpr rfl)
      | rt d => exact fun v H' H₀' g rp => q v H' H₀' g rp
      | bk ρ' => exact q.elim
      | ct ρ' => exact q.elim
end DL

set_option Elab.async false
set_option linter.all false
set_option maxRecDepth 100000
namespace DL
open PySem PySem.Spec PyProof.Rows L2

/-! ### equality of trees -/
mutual
def eqD : D → D → Bool
  | .non, .non => true
  | .bl a, .bl b => a == b
  | .bl a, .int b => (if a then 1 else 0) == b
  | .int a, .bl b => a == (if b then 1 else 0)
  | .int a, .int b => a == b
  | .str a, .str b => a == b
  | .tup xs, .tup ys => eqDs xs ys
  | .lst xs, .lst ys => eqDs xs ys
  | _, _ => false
def eqDs : List D → List D → Bool
  | [], [] => true
  | x :: xs, y :: ys => eqD x y && eqDs xs ys
  | _, _ => false
end
/-- not too deep, no dict within -/
def shal : Nat → D → Bool
  | _, .non => true
  | _, .bl _ => true
  | _, .int _ => true
  | _, .str _ => true
  | n + 1, .tup ds => ds.all (shal n)
  | n + 1, .lst ds => ds.all (shal n)
  | _, _ => false
theorem eqDs_refl {ds : List D} (h : ∀ d ∈ ds, eqD d d = true) : eqDs ds ds = true := by
  induction ds with
  | nil => simp [eqDs]
  | cons d r ih =>
    unfold eqDs
    rw [h d List.mem_cons_self, ih fun x hx => h x (List.mem_cons_of_mem _ hx)]
    rfl
theorem eqD_refl : ∀ (n : Nat) (d : D), shal n d = true → eqD d d = true
  | _, .non, _ => by simp [eqD]
  | _, .bl b, _ => by simp [eqD]
  | _, .int b, _ => by simp [eqD]
  | _, .str b, _ => by simp [eqD]
  | n + 1, .tup ds, h => by
    unfold shal at h
    unfold eqD
    exact eqDs_refl fun d hd => eqD_refl n d (List.all_eq_true.mp h d hd)
  | n + 1, .lst ds, h => by
    unfold shal at h
    unfold eqD
    exact eqDs_refl fun d hd => eqD_refl n d (List.all_eq_true.mp h d hd)
  | 0, .tup ds, h => by unfold shal at h; cases h
  | 0, .lst ds, h => by unfold shal at h; cases h
  | 0, .dic ks ds, h => by unfold shal at h; cases h
  | n + 1, .dic ks ds, h => by unfold shal at h; cases h
theorem eqD_tup {xs ys : List D} : eqD (.tup xs) (.tup ys) = eqDs xs ys := by rw [eqD]
theorem eqD_lst {xs ys : List D} : eqD (.lst xs) (.lst ys) = eqDs xs ys := by rw [eqD]
theorem eqDs_range : ∀ (xs ys : List D), xs.length = ys.length → eqDs xs ys = (List.range xs.length).all fun j => eqD (xs.getD j .non) (ys.getD j .non)
  | [], [], _ => by simp [eqDs]
  | x :: xs, y :: ys, h => by
    have ih := eqDs_range xs ys (by simpa using h)
    unfold eqDs
    rw [ih, List.length_cons, List.range_succ_eq_map, List.all_cons, List.all_map]
    rfl
  | [], _ :: _, h => by simp at h
  | _ :: _, [], h => by simp at h
theorem eqDs_len : ∀ (xs ys : List D), xs.length ≠ ys.length → eqDs xs ys = false
  | [], [], h => absurd rfl h
  | x :: xs, y :: ys, h => by
    unfold eqDs
    rw [eqDs_len xs ys (by simpa using h), Bool.and_false]
  | [], _ :: _, h => by simp [eqDs]
  | _ :: _, [], h => by simp [eqDs]

section
variable {X : Cx} {pins : List (Addr × Obj)} {σ : L2.St} {H : Hp} {s : Shared}
theorem Rep.tup_get (I : Inv X pins σ H s) {ds : List D} {v : V} {u : Value} (r : Rep X.K H (.tup ds) v) (rv : RelV v u) : ∃ a vs its, v = .ref a ∧ u = .ref a ∧ SqT X.K H a vs ∧ Reps X.K H ds vs ∧ Vals vs its ∧ IsTup s.heap a its.toArray ∧ ds.length = its.length := by
  obtain ⟨a, vs, rfl, h1, h2⟩ := Rep.tup_iff.mp r
  obtain rfl : u = Value.ref a := rv
  obtain ⟨its, h3, h4, _⟩ := I.tuple h1
  exact ⟨a, vs, its, rfl, rfl, h1, h2, h3, h4, h2.length.trans h3.length⟩
theorem Rep.lst_get (I : Inv X pins σ H s) {ds : List D} {v : V} {u : Value} (r : Rep X.K H (.lst ds) v) (rv : RelV v u) : ∃ a vs its, v = .ref a ∧ u = .ref a ∧ SqL X.K H a vs ∧ Reps X.K H ds vs ∧ Vals vs its ∧ s.heap.IsList a its.toArray ∧ ds.length = its.length := by
  obtain ⟨a, vs, rfl, h1, h2⟩ := Rep.lst_iff.mp r
  obtain rfl : u = Value.ref a := rv
  obtain ⟨its, h3, h4, _⟩ := I.list h1
  exact ⟨a, vs, its, rfl, rfl, h1, h2, h3, h4.isList, h2.length.trans h3.length⟩
theorem reps_inj {n : Nat} (ih : ∀ (d d' : D) (v : V), shal n d = true → shal n d' = true → Rep X.K H d v → Rep X.K H d' v → d = d') : ∀ (ds ds' : List D) (vs : List V), ds.all (shal n) = true → ds'.all (shal n) = true → Reps X.K H ds vs → Reps X.K H ds' vs → ds = ds'
  | [], ds', vs, _, _, h, h' => by
    rw [Reps.nil_iff.mp h] at h'
    cases ds' with
    | nil => rfl
    | cons d r => obtain ⟨_, _, e, _⟩ := Reps.cons_iff.mp h'; cases e
  | d :: ds, ds', vs, a, a', h, h' => by
    obtain ⟨v, r, rfl, h1, h2⟩ := Reps.cons_iff.mp h
    cases ds' with
    | nil => cases Reps.nil_iff.mp h'
    | cons d' ds' =>
      obtain ⟨v', r', e, h1', h2'⟩ := Reps.cons_iff.mp h'
      cases e
      rw [List.all_cons, Bool.and_eq_true] at a a'
      rw [ih d d' v a.1 a'.1 h1 h1', reps_inj ih ds ds' r a.2 a'.2 h2 h2']
theorem Rep.inj (I : Inv X pins σ H s) : ∀ (n : Nat) (d d' : D) (v : V), shal n d = true → shal n d' = true → Rep X.K H d v → Rep X.K H d' v → d = d' := by
  have atom : ∀ (n : Nat) (d d' : D) (v : V), (∀ ds, d ≠ .tup ds) → (∀ ds, d ≠ .lst ds) → shal n d = true → shal n d' = true → Rep X.K H d v → Rep X.K H d' v → d = d' := by
    intro n d d' v n1 n2 s1 s2 h h'
    have nd : ∀ m ks ds, shal m (.dic ks ds) = true → False := fun m ks ds h => by cases m <;> (unfold shal at h; cases h)
    cases d with
    | tup ds => exact absurd rfl (n1 ds)
    | lst ds => exact absurd rfl (n2 ds)
    | dic ks ds => exact (nd _ _ _ s1).elim
    | non =>
      rw [Rep.non_iff.mp h] at h'
      cases d' with
      | non => rfl
      | bl b => cases Rep.bl_iff.mp h'
      | int b => cases Rep.int_iff.mp h'
      | str b => cases Rep.str_iff.mp h'
      | tup ds => obtain ⟨_, _, e, _⟩ := Rep.tup_iff.mp h'; cases e
      | lst ds => obtain ⟨_, _, e, _⟩ := Rep.lst_iff.mp h'; cases e
      | dic ks ds => exact (nd _ _ _ s2).elim
    | bl x =>
      rw [Rep.bl_iff.mp h] at h'
      cases d' with
      | non => cases Rep.non_iff.mp h'
      | bl b => cases Rep.bl_iff.mp h'; rfl
      | int b => cases Rep.int_iff.mp h'
      | str b => cases Rep.str_iff.mp h'
      | tup ds => obtain ⟨_, _, e, _⟩ := Rep.tup_iff.mp h'; cases e
      | lst ds => obtain ⟨_, _, e, _⟩ := Rep.lst_iff.mp h'; cases e
      | dic ks ds => exact (nd _ _ _ s2).elim
    | int x =>
      rw [Rep.int_iff.mp h] at h'
      cases d' with
      | non => cases Rep.non_iff.mp h'
      | bl b => cases Rep.bl_iff.mp h'
      | int b => cases Rep.int_iff.mp h'; rfl
      | str b => cases Rep.str_iff.mp h'
      | tup ds => obtain ⟨_, _, e, _⟩ := Rep.tup_iff.mp h'; cases e
      | lst ds => obtain ⟨_, _, e, _⟩ := Rep.lst_iff.mp h'; cases e
      | dic ks ds => exact (nd _ _ _ s2).elim
    | str x =>
      rw [Rep.str_iff.mp h] at h'
      cases d' with
      | non => cases Rep.non_iff.mp h'
      | bl b => cases Rep.bl_iff.mp h'
      | int b => cases Rep.int_iff.mp h'
      | str b => cases Rep.str_iff.mp h'; rfl
      | tup ds => obtain ⟨_, _, e, _⟩ := Rep.tup_iff.mp h'; cases e
      | lst ds => obtain ⟨_, _, e, _⟩ := Rep.lst_iff.mp h'; cases e
      | dic ks ds => exact (nd _ _ _ s2).elim
  intro n
  induction n with
  | zero =>
    intro d d' v s1 s2 h h'
    exact atom 0 d d' v (fun ds e => by subst e; unfold shal at s1; cases s1) (fun ds e => by subst e; unfold shal at s1; cases s1) s1 s2 h h'
  | succ n ih =>
    intro d d' v s1 s2 h h'
    by_cases t1 : ∃ ds, d = .tup ds
    · obtain ⟨ds, rfl⟩ := t1
      by_cases t2 : ∃ ds', d' = .tup ds'
      · obtain ⟨ds', rfl⟩ := t2
        obtain ⟨a, vs, rfl, h1, h2⟩ := Rep.tup_iff.mp h
        obtain ⟨a', vs', e, h1', h2'⟩ := Rep.tup_iff.mp h'
        cases e
        rw [I.tuple_inj h1' h1] at h2'
        unfold shal at s1 s2
        rw [reps_inj ih ds ds' vs s1 s2 h2 h2']
      · by_cases t3 : ∃ ds', d' = .lst ds'
        · obtain ⟨ds', rfl⟩ := t3
          obtain ⟨a0, _, ev, _, _⟩ := Rep.tup_iff.mp h; subst ev
          obtain ⟨a, vs, its, ea, _, h1, h2, h3, h4, _⟩ := Rep.tup_get I h rfl; cases ea
          obtain ⟨a', vs', its', e, _, h1', h2', h3', h4', _⟩ := Rep.lst_get I h' rfl
          cases e
          exact absurd rfl (SeqAt.ne_of_list_tuple h4' h4)
        · exact (atom (n + 1) d' _ v (fun ds e => t2 ⟨ds, e⟩) (fun ds e => t3 ⟨ds, e⟩) s2 s1 h' h).symm
    · by_cases t1' : ∃ ds, d = .lst ds
      · obtain ⟨ds, rfl⟩ := t1'
        by_cases t2 : ∃ ds', d' = .lst ds'
        · obtain ⟨ds', rfl⟩ := t2
          obtain ⟨a, vs, rfl, h1, h2⟩ := Rep.lst_iff.mp h
          obtain ⟨a', vs', e, h1', h2'⟩ := Rep.lst_iff.mp h'
          cases e
          rw [I.list_inj h1' h1] at h2'
          unfold shal at s1 s2
          rw [reps_inj ih ds ds' vs s1 s2 h2 h2']
        · by_cases t3 : ∃ ds', d' = .tup ds'
          · obtain ⟨ds', rfl⟩ := t3
            obtain ⟨a0, _, ev, _, _⟩ := Rep.lst_iff.mp h; subst ev
            obtain ⟨a, vs, its, ea, _, h1, h2, h3, h4, _⟩ := Rep.lst_get I h rfl; cases ea
            obtain ⟨a', vs', its', e, _, h1', h2', h3', h4', _⟩ := Rep.tup_get I h' rfl
            cases e
            exact absurd rfl (SeqAt.ne_of_list_tuple h4 h4')
          · exact (atom (n + 1) d' _ v (fun ds e => t3 ⟨ds, e⟩) (fun ds e => t2 ⟨ds, e⟩) s2 s1 h' h).symm
      · exact atom (n + 1) d d' v (fun ds e => t1 ⟨ds, e⟩) (fun ds e => t1' ⟨ds, e⟩) s1 s2 h h'
/-- the items, one by one -/
theorem items_eq {n : Nat} {A : Around} {xs ys : List D} {vs us : List V} {is js : List Value}
    (ih : ∀ (x y : D) (v u : V) (a b : Value), shal n x = true → shal n y = true → Rep X.K H x v → Rep X.K H y u → RelV v a → RelV u b → SeqAt.EqAt A.in1 s a b (eqD x y))
    (sx : xs.all (shal n) = true) (sy : ys.all (shal n) = true) (rx : Reps X.K H xs vs) (ry : Reps X.K H ys us) (qx : Vals vs is) (qy : Vals us js) :
    ∀ j (h1 : j < is.toArray.size) (h2 : j < js.toArray.size), SeqAt.EqAt A.in1 s is.toArray[j] js.toArray[j] (eqD (xs.getD j .non) (ys.getD j .non)) := by
  intro j h1 h2
  have lx := rx.length
  have ly := ry.length
  have kx := qx.length
  have ky := qy.length
  have h1' : j < is.length := by simpa using h1
  have h2' : j < js.length := by simpa using h2
  have hx : j < xs.length := by omega
  have hy : j < ys.length := by omega
  obtain ⟨v, e1, r1⟩ := rx.get (List.getElem?_eq_getElem hx)
  obtain ⟨u, e2, r2⟩ := ry.get (List.getElem?_eq_getElem hy)
  obtain ⟨a, e3, r3⟩ := qx.get e1
  obtain ⟨b, e4, r4⟩ := qy.get e2
  have ea : is.toArray[j] = a := by
    rw [List.getElem?_eq_getElem h1'] at e3
    simpa using Option.some.inj e3
  have eb : js.toArray[j] = b := by
    rw [List.getElem?_eq_getElem h2'] at e4
    simpa using Option.some.inj e4
  rw [ea, eb]
  have gx : xs.getD j .non = xs[j] := by simp [List.getD, List.getElem?_eq_getElem hx]
  have gy : ys.getD j .non = ys[j] := by simp [List.getD, List.getElem?_eq_getElem hy]
  rw [gx, gy]
  exact ih _ _ v u a b (List.all_eq_true.mp sx _ (List.getElem_mem hx)) (List.all_eq_true.mp sy _ (List.getElem_mem hy)) r1 r2 r3 r4
theorem rc_mixed (I : Inv X pins σ H s) {A : Around} (hu : A.units < cLine) {x y : D} {v u : V} {a b : Value} (rx : Rep X.K H x v) (ry : Rep X.K H y u) (qx : RelV v a) (qy : RelV u b)
    (n1 : ∀ ds ds', ¬ (x = .lst ds ∧ y = .lst ds')) (n2 : ∀ ds ds', ¬ (x = .tup ds ∧ y = .tup ds')) (d1 : ∀ ks ds, x ≠ .dic ks ds) (d2 : ∀ ks ds, y ≠ .dic ks ds) :
    SeqAt.RcAt A s a b (eqD x y) ∧ SeqAt.EqAt A s a b (eqD x y) ∧ SeqAt.RcNeAt A s a b (!(eqD x y)) := by
  cases x with
  | non =>
    cases y with
    | non =>
      obtain rfl := Rep.non_iff.mp rx; obtain rfl : a = Value.none := qx
      obtain rfl := Rep.non_iff.mp ry; obtain rfl : b = Value.none := qy
      unfold eqD
      exact ⟨SeqAt.RcAt.none_none , SeqAt.EqAt.same _, SeqAt.RcNeAt.none_none ⟩
    | bl y =>
      obtain rfl := Rep.non_iff.mp rx; obtain rfl : a = Value.none := qx
      obtain rfl := Rep.bl_iff.mp ry; obtain rfl : b = Value.bool _ := qy
      unfold eqD
      exact ⟨SeqAt.RcAt.none_bool _, SeqAt.EqAt.none_bool _, SeqAt.RcNeAt.none_bool _⟩
    | int y =>
      obtain rfl := Rep.non_iff.mp rx; obtain rfl : a = Value.none := qx
      obtain rfl := Rep.int_iff.mp ry; obtain ⟨ty, rfl⟩ : ∃ t, b = Value.int _ t := qy
      unfold eqD
      exact ⟨SeqAt.RcAt.none_int _ _, SeqAt.EqAt.none_int _ _, SeqAt.RcNeAt.none_int _ _⟩
    | str y =>
      obtain rfl := Rep.non_iff.mp rx; obtain rfl : a = Value.none := qx
      obtain rfl := Rep.str_iff.mp ry; obtain ⟨ty, rfl⟩ : ∃ t, b = Value.str _ t := qy
      unfold eqD
      exact ⟨SeqAt.RcAt.none_str _ _, SeqAt.EqAt.none_str _ _, SeqAt.RcNeAt.none_str _ _⟩
    | lst y =>
      obtain rfl := Rep.non_iff.mp rx; obtain rfl : a = Value.none := qx
      obtain ⟨ly, _, _, rfl, rfl, _, _, _, hy, _⟩ := Rep.lst_get I ry qy
      unfold eqD
      exact ⟨SeqAt.RcAt.none_list  hy hu, SeqAt.EqAt.none_list  hy hu, SeqAt.RcNeAt.none_list  hy hu⟩
    | tup y =>
      obtain rfl := Rep.non_iff.mp rx; obtain rfl : a = Value.none := qx
      obtain ⟨ly, _, _, rfl, rfl, _, _, _, hy, _⟩ := Rep.tup_get I ry qy
      unfold eqD
      exact ⟨SeqAt.RcAt.none_tuple  hy hu, SeqAt.EqAt.none_tuple  hy hu, SeqAt.RcNeAt.none_tuple  hy hu⟩
    | dic ks ds => exact absurd rfl (d2 ks ds)
  | bl x =>
    cases y with
    | non =>
      obtain rfl := Rep.bl_iff.mp rx; obtain rfl : a = Value.bool _ := qx
      obtain rfl := Rep.non_iff.mp ry; obtain rfl : b = Value.none := qy
      unfold eqD
      exact ⟨SeqAt.RcAt.bool_none _, SeqAt.EqAt.bool_none _, SeqAt.RcNeAt.bool_none _⟩
    | bl y =>
      obtain rfl := Rep.bl_iff.mp rx; obtain rfl : a = Value.bool _ := qx
      obtain rfl := Rep.bl_iff.mp ry; obtain rfl : b = Value.bool _ := qy
      unfold eqD
      exact ⟨SeqAt.RcAt.bool_bool _ _, SeqAt.EqAt.bool_bool _ _, SeqAt.RcNeAt.bool_bool _ _⟩
    | int y =>
      obtain rfl := Rep.bl_iff.mp rx; obtain rfl : a = Value.bool _ := qx
      obtain rfl := Rep.int_iff.mp ry; obtain ⟨ty, rfl⟩ : ∃ t, b = Value.int _ t := qy
      unfold eqD
      exact ⟨SeqAt.RcAt.bool_int _ _ _, SeqAt.EqAt.bool_int _ _ _, SeqAt.RcNeAt.bool_int _ _ _⟩
    | str y =>
      obtain rfl := Rep.bl_iff.mp rx; obtain rfl : a = Value.bool _ := qx
      obtain rfl := Rep.str_iff.mp ry; obtain ⟨ty, rfl⟩ : ∃ t, b = Value.str _ t := qy
      unfold eqD
      exact ⟨SeqAt.RcAt.bool_str _ _ _, SeqAt.EqAt.bool_str _ _ _, SeqAt.RcNeAt.bool_str _ _ _⟩
    | lst y =>
      obtain rfl := Rep.bl_iff.mp rx; obtain rfl : a = Value.bool _ := qx
      obtain ⟨ly, _, _, rfl, rfl, _, _, _, hy, _⟩ := Rep.lst_get I ry qy
      unfold eqD
      exact ⟨SeqAt.RcAt.bool_list _ hy hu, SeqAt.EqAt.bool_list _ hy hu, SeqAt.RcNeAt.bool_list _ hy hu⟩
    | tup y =>
      obtain rfl := Rep.bl_iff.mp rx; obtain rfl : a = Value.bool _ := qx
      obtain ⟨ly, _, _, rfl, rfl, _, _, _, hy, _⟩ := Rep.tup_get I ry qy
      unfold eqD
      exact ⟨SeqAt.RcAt.bool_tuple _ hy hu, SeqAt.EqAt.bool_tuple _ hy hu, SeqAt.RcNeAt.bool_tuple _ hy hu⟩
    | dic ks ds => exact absurd rfl (d2 ks ds)
  | int x =>
    cases y with
    | non =>
      obtain rfl := Rep.int_iff.mp rx; obtain ⟨tx, rfl⟩ : ∃ t, a = Value.int _ t := qx
      obtain rfl := Rep.non_iff.mp ry; obtain rfl : b = Value.none := qy
      unfold eqD
      exact ⟨SeqAt.RcAt.int_none _ _, SeqAt.EqAt.int_none _ _, SeqAt.RcNeAt.int_none _ _⟩
    | bl y =>
      obtain rfl := Rep.int_iff.mp rx; obtain ⟨tx, rfl⟩ : ∃ t, a = Value.int _ t := qx
      obtain rfl := Rep.bl_iff.mp ry; obtain rfl : b = Value.bool _ := qy
      unfold eqD
      exact ⟨SeqAt.RcAt.int_bool _ _ _, SeqAt.EqAt.int_bool _ _ _, SeqAt.RcNeAt.int_bool _ _ _⟩
    | int y =>
      obtain rfl := Rep.int_iff.mp rx; obtain ⟨tx, rfl⟩ : ∃ t, a = Value.int _ t := qx
      obtain rfl := Rep.int_iff.mp ry; obtain ⟨ty, rfl⟩ : ∃ t, b = Value.int _ t := qy
      unfold eqD
      exact ⟨SeqAt.RcAt.int_int _ _ _ _, SeqAt.EqAt.int_int _ _ _ _, SeqAt.RcNeAt.int_int _ _ _ _⟩
    | str y =>
      obtain rfl := Rep.int_iff.mp rx; obtain ⟨tx, rfl⟩ : ∃ t, a = Value.int _ t := qx
      obtain rfl := Rep.str_iff.mp ry; obtain ⟨ty, rfl⟩ : ∃ t, b = Value.str _ t := qy
      unfold eqD
      exact ⟨SeqAt.RcAt.int_str _ _ _ _, SeqAt.EqAt.int_str _ _ _ _, SeqAt.RcNeAt.int_str _ _ _ _⟩
    | lst y =>
      obtain rfl := Rep.int_iff.mp rx; obtain ⟨tx, rfl⟩ : ∃ t, a = Value.int _ t := qx
      obtain ⟨ly, _, _, rfl, rfl, _, _, _, hy, _⟩ := Rep.lst_get I ry qy
      unfold eqD
      exact ⟨SeqAt.RcAt.int_list _ _ hy hu, SeqAt.EqAt.int_list _ _ hy hu, SeqAt.RcNeAt.int_list _ _ hy hu⟩
    | tup y =>
      obtain rfl := Rep.int_iff.mp rx; obtain ⟨tx, rfl⟩ : ∃ t, a = Value.int _ t := qx
      obtain ⟨ly, _, _, rfl, rfl, _, _, _, hy, _⟩ := Rep.tup_get I ry qy
      unfold eqD
      exact ⟨SeqAt.RcAt.int_tuple _ _ hy hu, SeqAt.EqAt.int_tuple _ _ hy hu, SeqAt.RcNeAt.int_tuple _ _ hy hu⟩
    | dic ks ds => exact absurd rfl (d2 ks ds)
  | str x =>
    cases y with
    | non =>
      obtain rfl := Rep.str_iff.mp rx; obtain ⟨tx, rfl⟩ : ∃ t, a = Value.str _ t := qx
      obtain rfl := Rep.non_iff.mp ry; obtain rfl : b = Value.none := qy
      unfold eqD
      exact ⟨SeqAt.RcAt.str_none _ _, SeqAt.EqAt.str_none _ _, SeqAt.RcNeAt.str_none _ _⟩
    | bl y =>
      obtain rfl := Rep.str_iff.mp rx; obtain ⟨tx, rfl⟩ : ∃ t, a = Value.str _ t := qx
      obtain rfl := Rep.bl_iff.mp ry; obtain rfl : b = Value.bool _ := qy
      unfold eqD
      exact ⟨SeqAt.RcAt.str_bool _ _ _, SeqAt.EqAt.str_bool _ _ _, SeqAt.RcNeAt.str_bool _ _ _⟩
    | int y =>
      obtain rfl := Rep.str_iff.mp rx; obtain ⟨tx, rfl⟩ : ∃ t, a = Value.str _ t := qx
      obtain rfl := Rep.int_iff.mp ry; obtain ⟨ty, rfl⟩ : ∃ t, b = Value.int _ t := qy
      unfold eqD
      exact ⟨SeqAt.RcAt.str_int _ _ _ _, SeqAt.EqAt.str_int _ _ _ _, SeqAt.RcNeAt.str_int _ _ _ _⟩
    | str y =>
      obtain rfl := Rep.str_iff.mp rx; obtain ⟨tx, rfl⟩ : ∃ t, a = Value.str _ t := qx
      obtain rfl := Rep.str_iff.mp ry; obtain ⟨ty, rfl⟩ : ∃ t, b = Value.str _ t := qy
      unfold eqD
      exact ⟨SeqAt.RcAt.str_str _ _ _ _, SeqAt.EqAt.str_str _ _ _ _, SeqAt.RcNeAt.str_str _ _ _ _⟩
    | lst y =>
      obtain rfl := Rep.str_iff.mp rx; obtain ⟨tx, rfl⟩ : ∃ t, a = Value.str _ t := qx
      obtain ⟨ly, _, _, rfl, rfl, _, _, _, hy, _⟩ := Rep.lst_get I ry qy
      unfold eqD
      exact ⟨SeqAt.RcAt.str_list _ _ hy hu, SeqAt.EqAt.str_list _ _ hy hu, SeqAt.RcNeAt.str_list _ _ hy hu⟩
    | tup y =>
      obtain rfl := Rep.str_iff.mp rx; obtain ⟨tx, rfl⟩ : ∃ t, a = Value.str _ t := qx
      obtain ⟨ly, _, _, rfl, rfl, _, _, _, hy, _⟩ := Rep.tup_get I ry qy
      unfold eqD
      exact ⟨SeqAt.RcAt.str_tuple _ _ hy hu, SeqAt.EqAt.str_tuple _ _ hy hu, SeqAt.RcNeAt.str_tuple _ _ hy hu⟩
    | dic ks ds => exact absurd rfl (d2 ks ds)
  | lst x =>
    cases y with
    | non =>
      obtain ⟨lx, _, _, rfl, rfl, _, _, _, hx, _⟩ := Rep.lst_get I rx qx
      obtain rfl := Rep.non_iff.mp ry; obtain rfl : b = Value.none := qy
      unfold eqD
      exact ⟨SeqAt.RcAt.list_none  hx hu, SeqAt.EqAt.list_none  hx hu, SeqAt.RcNeAt.list_none  hx hu⟩
    | bl y =>
      obtain ⟨lx, _, _, rfl, rfl, _, _, _, hx, _⟩ := Rep.lst_get I rx qx
      obtain rfl := Rep.bl_iff.mp ry; obtain rfl : b = Value.bool _ := qy
      unfold eqD
      exact ⟨SeqAt.RcAt.list_bool _ hx hu, SeqAt.EqAt.list_bool _ hx hu, SeqAt.RcNeAt.list_bool _ hx hu⟩
    | int y =>
      obtain ⟨lx, _, _, rfl, rfl, _, _, _, hx, _⟩ := Rep.lst_get I rx qx
      obtain rfl := Rep.int_iff.mp ry; obtain ⟨ty, rfl⟩ : ∃ t, b = Value.int _ t := qy
      unfold eqD
      exact ⟨SeqAt.RcAt.list_int _ _ hx hu, SeqAt.EqAt.list_int _ _ hx hu, SeqAt.RcNeAt.list_int _ _ hx hu⟩
    | str y =>
      obtain ⟨lx, _, _, rfl, rfl, _, _, _, hx, _⟩ := Rep.lst_get I rx qx
      obtain rfl := Rep.str_iff.mp ry; obtain ⟨ty, rfl⟩ : ∃ t, b = Value.str _ t := qy
      unfold eqD
      exact ⟨SeqAt.RcAt.list_str _ _ hx hu, SeqAt.EqAt.list_str _ _ hx hu, SeqAt.RcNeAt.list_str _ _ hx hu⟩
    | lst y =>
      exact absurd ⟨rfl, rfl⟩ (n1 x y)
    | tup y =>
      obtain ⟨lx, _, _, rfl, rfl, _, _, _, hx, _⟩ := Rep.lst_get I rx qx
      obtain ⟨ly, _, _, rfl, rfl, _, _, _, hy, _⟩ := Rep.tup_get I ry qy
      unfold eqD
      exact ⟨SeqAt.RcAt.list_tuple  hx hy hu, SeqAt.EqAt.list_tuple  hx hy hu, SeqAt.RcNeAt.list_tuple  hx hy hu⟩
    | dic ks ds => exact absurd rfl (d2 ks ds)
  | tup x =>
    cases y with
    | non =>
      obtain ⟨lx, _, _, rfl, rfl, _, _, _, hx, _⟩ := Rep.tup_get I rx qx
      obtain rfl := Rep.non_iff.mp ry; obtain rfl : b = Value.none := qy
      unfold eqD
      exact ⟨SeqAt.RcAt.tuple_none  hx hu, SeqAt.EqAt.tuple_none  hx hu, SeqAt.RcNeAt.tuple_none  hx hu⟩
    | bl y =>
      obtain ⟨lx, _, _, rfl, rfl, _, _, _, hx, _⟩ := Rep.tup_get I rx qx
      obtain rfl := Rep.bl_iff.mp ry; obtain rfl : b = Value.bool _ := qy
      unfold eqD
      exact ⟨SeqAt.RcAt.tuple_bool _ hx hu, SeqAt.EqAt.tuple_bool _ hx hu, SeqAt.RcNeAt.tuple_bool _ hx hu⟩
    | int y =>
      obtain ⟨lx, _, _, rfl, rfl, _, _, _, hx, _⟩ := Rep.tup_get I rx qx
      obtain rfl := Rep.int_iff.mp ry; obtain ⟨ty, rfl⟩ : ∃ t, b = Value.int _ t := qy
      unfold eqD
      exact ⟨SeqAt.RcAt.tuple_int _ _ hx hu, SeqAt.EqAt.tuple_int _ _ hx hu, SeqAt.RcNeAt.tuple_int _ _ hx hu⟩
    | str y =>
      obtain ⟨lx, _, _, rfl, rfl, _, _, _, hx, _⟩ := Rep.tup_get I rx qx
      obtain rfl := Rep.str_iff.mp ry; obtain ⟨ty, rfl⟩ : ∃ t, b = Value.str _ t := qy
      unfold eqD
      exact ⟨SeqAt.RcAt.tuple_str _ _ hx hu, SeqAt.EqAt.tuple_str _ _ hx hu, SeqAt.RcNeAt.tuple_str _ _ hx hu⟩
    | lst y =>
      obtain ⟨lx, _, _, rfl, rfl, _, _, _, hx, _⟩ := Rep.tup_get I rx qx
      obtain ⟨ly, _, _, rfl, rfl, _, _, _, hy, _⟩ := Rep.lst_get I ry qy
      unfold eqD
      exact ⟨SeqAt.RcAt.tuple_list  hx hy hu, SeqAt.EqAt.tuple_list  hx hy hu, SeqAt.RcNeAt.tuple_list  hx hy hu⟩
    | tup y =>
      exact absurd ⟨rfl, rfl⟩ (n2 x y)
    | dic ks ds => exact absurd rfl (d2 ks ds)
  | dic ks ds => exact absurd rfl (d1 ks ds)
theorem rc_D (I : Inv X pins σ H s) : ∀ (n : Nat) (A : Around), A.units + n < cLine → ∀ (x y : D) (v u : V) (a b : Value), shal n x = true → shal n y = true → Rep X.K H x v → Rep X.K H y u → RelV v a → RelV u b →
    SeqAt.RcAt A s a b (eqD x y) ∧ SeqAt.EqAt A s a b (eqD x y) ∧ SeqAt.RcNeAt A s a b (!(eqD x y)) := by
  have nd : ∀ m ks ds, shal m (.dic ks ds) = true → False := fun m ks ds h => by cases m <;> (unfold shal at h; cases h)
  intro n
  induction n with
  | zero =>
    intro A hu x y v u a b sx sy rx ry qa qb
    refine rc_mixed I (by omega) rx ry qa qb (fun ds ds' z => ?_) (fun ds ds' z => ?_) (fun ks ds z => ?_) (fun ks ds z => ?_)
    · rw [z.1] at sx; unfold shal at sx; cases sx
    · rw [z.1] at sx; unfold shal at sx; cases sx
    · rw [z] at sx; exact nd _ _ _ sx
    · rw [z] at sy; exact nd _ _ _ sy
  | succ n ih =>
    intro A hu x y v u a b sx sy rx ry qa qb
    have ih' : ∀ (x y : D) (v u : V) (a b : Value), shal n x = true → shal n y = true → Rep X.K H x v → Rep X.K H y u → RelV v a → RelV u b → SeqAt.EqAt A.in1 s a b (eqD x y) :=
      fun x y v u a b s1 s2 r1 r2 q1 q2 => (ih A.in1 (by show A.units + 1 + n < cLine; omega) x y v u a b s1 s2 r1 r2 q1 q2).2.1
    by_cases t1 : ∃ ds ds', x = .tup ds ∧ y = .tup ds'
    · obtain ⟨xs, ys, rfl, rfl⟩ := t1
      obtain ⟨l, vs, is, rfl, rfl, h1, h2, h3, h4, h5⟩ := Rep.tup_get I rx qa
      obtain ⟨m, us, js, rfl, rfl, k1, k2, k3, k4, k5⟩ := Rep.tup_get I ry qb
      have hsx := sx
      have hsy := sy
      unfold shal at sx sy
      have each := items_eq (A := A) ih' sx sy h2 k2 h3 k3
      have eall : eqD (.tup xs) (.tup ys) = ((List.range (min is.toArray.size js.toArray.size)).all (fun j => eqD (xs.getD j .non) (ys.getD j .non)) && is.toArray.size == js.toArray.size) := by
        rw [eqD_tup]
        simp only [List.size_toArray, ← h5, ← k5]
        by_cases hl : xs.length = ys.length
        · rw [eqDs_range xs ys hl, ← hl, Nat.min_self, beq_self_eq_true, Bool.and_true]
        · rw [eqDs_len xs ys hl, beq_eq_false_iff_ne.mpr hl, Bool.and_false]
      refine ⟨?_, ?_, ?_⟩
      · rw [eall]; exact SeqAt.RcAt.tuples h4 k4 (by omega) each
      · by_cases hlm : l = m
        · subst hlm
          rw [Rep.inj I (n + 1) _ _ _ hsx hsy rx ry, eqD_refl (n + 1) _ hsy]
          exact SeqAt.EqAt.same _
        · refine SeqAt.EqAt.of_refs hlm ?_
          rw [eall]; exact SeqAt.RcAt.tuples h4 k4 (by omega) each
      · rw [eall]; exact SeqAt.RcNeAt.tuples h4 k4 (by omega) each
    · by_cases t2 : ∃ ds ds', x = .lst ds ∧ y = .lst ds'
      · obtain ⟨xs, ys, rfl, rfl⟩ := t2
        obtain ⟨l, vs, is, rfl, rfl, h1, h2, h3, h4, h5⟩ := Rep.lst_get I rx qa
        obtain ⟨m, us, js, rfl, rfl, k1, k2, k3, k4, k5⟩ := Rep.lst_get I ry qb
        have hsx := sx
        have hsy := sy
        unfold shal at sx sy
        have each := items_eq (A := A) ih' sx sy h2 k2 h3 k3
        by_cases hl : xs.length = ys.length
        · have hsz : is.toArray.size = js.toArray.size := by simp only [List.size_toArray]; omega
          have eall : eqD (.lst xs) (.lst ys) = (List.range is.toArray.size).all (fun j => eqD (xs.getD j .non) (ys.getD j .non)) := by
            rw [eqD_lst]
            simp only [List.size_toArray, ← h5]
            exact eqDs_range xs ys hl
          refine ⟨?_, ?_, ?_⟩
          · rw [eall]; exact SeqAt.RcAt.lists h4 k4 hsz (by omega) each
          · by_cases hlm : l = m
            · subst hlm
              rw [Rep.inj I (n + 1) _ _ _ hsx hsy rx ry, eqD_refl (n + 1) _ hsy]
              exact SeqAt.EqAt.same _
            · refine SeqAt.EqAt.of_refs hlm ?_
              rw [eall]; exact SeqAt.RcAt.lists h4 k4 hsz (by omega) each
          · rw [eall]; exact SeqAt.RcNeAt.lists h4 k4 hsz (by omega) each
        · have hsz : (is.toArray.size != js.toArray.size) = true := by simp only [List.size_toArray, bne_iff_ne, ne_eq]; omega
          have eall : eqD (.lst xs) (.lst ys) = false := by rw [eqD_lst]; exact eqDs_len xs ys hl
          rw [eall]
          refine ⟨SeqAt.RcAt.lists_lengths h4 k4 hsz (by omega), ?_, SeqAt.RcNeAt.lists_lengths h4 k4 hsz (by omega)⟩
          refine SeqAt.EqAt.of_refs (fun e => ?_) (SeqAt.RcAt.lists_lengths h4 k4 hsz (by omega))
          subst e
          have := Rep.inj I (n + 1) _ _ _ hsx hsy rx ry
          cases this
          exact hl rfl
      · exact rc_mixed I (by omega) rx ry qa qb (fun ds ds' z => t2 ⟨ds, ds', z⟩) (fun ds ds' z => t1 ⟨ds, ds', z⟩) (fun ks ds z => by rw [z] at sx; exact nd _ _ _ sx) (fun ks ds z => by rw [z] at sy; exact nd _ _ _ sy)
end

/-! ### == and != -/
section
variable {X : Cx} {E : XK}
def dEq (x y : D) : Res D := if shal 40 x = true ∧ shal 40 y = true then .ok (.bl (eqD x y)) else .stuck
def dNe (x y : D) : Res D := if shal 40 x = true ∧ shal 40 y = true then .ok (.bl (!(eqD x y))) else .stuck
def rEqD (K : PySem.W.Frag) : R2 := fun v u H Q => ∃ x y, Rep K H x v ∧ Rep K H y u ∧ shal 40 x = true ∧ shal 40 y = true ∧ Q (.bl (eqD x y)) H
def rNeD (K : PySem.W.Frag) : R2 := fun v u H Q => ∃ x y, Rep K H x v ∧ Rep K H y u ∧ shal 40 x = true ∧ shal 40 y = true ∧ Q (.bl (!(eqD x y))) H
theorem op_eqD (hu : X.A.units + 64 < cLine) : OpR X (compareOp .Eq) (rEqD X.K) := by
  intro pins s σ H x y v u Q I rx ry h
  obtain ⟨d, d', h1, h2, s1, s2, q⟩ := h
  exact (rc_D I 40 X.A (by omega) d d' x y v u s1 s2 h1 h2 rx ry).1 _ _ _ _ ⟨.bl _, H, I, rfl, q⟩
theorem op_neD (hu : X.A.units + 64 < cLine) : OpR X (compareOp .NotEq) (rNeD X.K) := by
  intro pins s σ H x y v u Q I rx ry h
  obtain ⟨d, d', h1, h2, s1, s2, q⟩ := h
  exact (rc_D I 40 X.A (by omega) d d' x y v u s1 s2 h1 h2 rx ry).2.2 _ _ _ _ ⟨.bl _, H, I, rfl, q⟩
theorem od_eq : OpD X.K E (rEqD X.K) dEq := by
  intro x y v u H H₀ Q hs r1 r2 q
  unfold dEq at q
  by_cases c : shal 40 x = true ∧ shal 40 y = true
  · rw [if_pos c] at q
    exact ⟨x, y, r1.mono hs, r2.mono hs, c.1, c.2, q _ H H₀ (Grow.refl hs) (Rep.bl_iff.mpr rfl)⟩
  · rw [if_neg c] at q; exact q.elim
theorem od_ne : OpD X.K E (rNeD X.K) dNe := by
  intro x y v u H H₀ Q hs r1 r2 q
  unfold dNe at q
  by_cases c : shal 40 x = true ∧ shal 40 y = true
  · rw [if_pos c] at q
    exact ⟨x, y, r1.mono hs, r2.mono hs, c.1, c.2, q _ H H₀ (Grow.refl hs) (Rep.bl_iff.mpr rfl)⟩
  · rw [if_neg c] at q; exact q.elim

/-! ### in, not in: a list, a tuple -/
open Classical in
noncomputable def eqOf (K : PySem.W.Frag) (H : Hp) (ds : List D) (x : D) (u : Value) : Bool :=
  if h : ∃ d, d ∈ ds ∧ ∃ v, Rep K H d v ∧ RelV v u then eqD h.choose x else false
theorem eqOf_of {pins : List (Addr × Obj)} {σ : L2.St} {H : Hp} {s : Shared} (I : Inv X pins σ H s) {ds : List D} {x d : D} {v : V} {u : Value} (sd : ds.all (shal 40) = true) (hd : d ∈ ds) (r : Rep X.K H d v) (q : RelV v u) : eqOf X.K H ds x u = eqD d x := by
  have h : ∃ d, d ∈ ds ∧ ∃ v, Rep X.K H d v ∧ RelV v u := ⟨d, hd, v, r, q⟩
  unfold eqOf
  rw [dif_pos h]
  obtain ⟨h1, v', h2, h3⟩ := h.choose_spec
  have e : v' = v := h3.inj q
  subst e
  rw [Rep.inj I 40 _ _ _ (List.all_eq_true.mp sd _ h1) (List.all_eq_true.mp sd _ hd) h2 r]
def rInD (K : PySem.W.Frag) (neg : Bool) : R2 := fun v u H Q => ∃ x ds, Rep K H x v ∧ (Rep K H (.lst ds) u ∨ Rep K H (.tup ds) u) ∧ shal 40 x = true ∧ ds.all (shal 40) = true ∧ Q (.bl (if neg then !(ds.any fun d => eqD d x) else ds.any fun d => eqD d x)) H
theorem any_eqOf {pins : List (Addr × Obj)} {σ : L2.St} {H : Hp} {s : Shared} (I : Inv X pins σ H s) {x : D} {es : List D} (se : es.all (shal 40) = true) : ∀ {ds : List D} {vs : List V} {us : List Value}, (∀ d ∈ ds, d ∈ es) → Reps X.K H ds vs → Vals vs us → us.any (eqOf X.K H es x) = ds.any fun d => eqD d x
  | [], _, _, _, h, q => by
    rw [Reps.nil_iff.mp h] at q
    cases q
    rfl
  | d :: ds, _, _, hm, h, q => by
    obtain ⟨v, r, rfl, h1, h2⟩ := Reps.cons_iff.mp h
    cases q with
    | cons q1 q2 =>
      rw [List.any_cons, List.any_cons, eqOf_of I se (hm d List.mem_cons_self) h1 q1, any_eqOf I se (fun x hx => hm x (List.mem_cons_of_mem _ hx)) h2 q2]
theorem each_eqOf {pins : List (Addr × Obj)} {σ : L2.St} {H : Hp} {s : Shared} (I : Inv X pins σ H s) (hu : X.A.units + 64 < cLine) {x : D} {v : V} {u : Value} (sx : shal 40 x = true) (rx : Rep X.K H x v) (qx : RelV v u) {es : List D} (se : es.all (shal 40) = true) : ∀ {ds : List D} {vs : List V} {us : List Value}, (∀ d ∈ ds, d ∈ es) → Reps X.K H ds vs → Vals vs us → ∀ y ∈ us, SeqAt.EqAt X.A.in1 s y u (eqOf X.K H es x y)
  | [], _, _, _, h, q => fun y hy => by
    rw [Reps.nil_iff.mp h] at q
    cases q
    cases hy
  | d :: ds, _, _, hm, h, q => fun y hy => by
    obtain ⟨w, r, rfl, h1, h2⟩ := Reps.cons_iff.mp h
    cases q with
    | cons q1 q2 =>
      rcases List.mem_cons.mp hy with rfl | hy
      · rw [eqOf_of I se (hm d List.mem_cons_self) h1 q1]
        exact (rc_D I 40 X.A.in1 (by show X.A.units + 1 + 40 < cLine; omega) d x w v _ u (List.all_eq_true.mp se _ (hm d List.mem_cons_self)) sx h1 rx q1 qx).2.1
      · exact each_eqOf I hu sx rx qx se (fun x hx => hm x (List.mem_cons_of_mem _ hx)) h2 q2 y hy
theorem op_inD (hu : X.A.units + 64 < cLine) : OpR X (compareOp .In) (rInD X.K false) := by
  intro pins s σ H x y v u Q I rx ry h
  obtain ⟨d, ds, h1, h2, s1, s2, q⟩ := h
  rcases h2 with h2 | h2
  · obtain ⟨a, vs, its, rfl, rfl, k1, k2, k3, k4, k5⟩ := Rep.lst_get I h2 ry
    refine SeqAt.in_listAt (eqOf X.K H ds d) k4 (fun w hw => each_eqOf I hu s1 h1 rx s2 (fun _ z => z) k2 k3 w (by simpa using hw)) ⟨.bl _, H, I, rfl, ?_⟩
    rw [show its.toArray.any (eqOf X.K H ds d) = its.any (eqOf X.K H ds d) by simp, any_eqOf I s2 (fun _ z => z) k2 k3]
    exact q
  · obtain ⟨a, vs, its, rfl, rfl, k1, k2, k3, k4, k5⟩ := Rep.tup_get I h2 ry
    refine SeqAt.in_tupleAt (eqOf X.K H ds d) k4 (fun w hw => each_eqOf I hu s1 h1 rx s2 (fun _ z => z) k2 k3 w (by simpa using hw)) ⟨.bl _, H, I, rfl, ?_⟩
    rw [show its.toArray.any (eqOf X.K H ds d) = its.any (eqOf X.K H ds d) by simp, any_eqOf I s2 (fun _ z => z) k2 k3]
    exact q
theorem op_notInD (hu : X.A.units + 64 < cLine) : OpR X (compareOp .NotIn) (rInD X.K true) := by
  intro pins s σ H x y v u Q I rx ry h
  obtain ⟨d, ds, h1, h2, s1, s2, q⟩ := h
  rcases h2 with h2 | h2
  · obtain ⟨a, vs, its, rfl, rfl, k1, k2, k3, k4, k5⟩ := Rep.lst_get I h2 ry
    refine SeqAt.notIn_listAt (eqOf X.K H ds d) k4 (fun w hw => each_eqOf I hu s1 h1 rx s2 (fun _ z => z) k2 k3 w (by simpa using hw)) ⟨.bl _, H, I, rfl, ?_⟩
    rw [show its.toArray.any (eqOf X.K H ds d) = its.any (eqOf X.K H ds d) by simp, any_eqOf I s2 (fun _ z => z) k2 k3]
    exact q
  · obtain ⟨a, vs, its, rfl, rfl, k1, k2, k3, k4, k5⟩ := Rep.tup_get I h2 ry
    refine SeqAt.notIn_tupleAt (eqOf X.K H ds d) k4 (fun w hw => each_eqOf I hu s1 h1 rx s2 (fun _ z => z) k2 k3 w (by simpa using hw)) ⟨.bl _, H, I, rfl, ?_⟩
    rw [show its.toArray.any (eqOf X.K H ds d) = its.any (eqOf X.K H ds d) by simp, any_eqOf I s2 (fun _ z => z) k2 k3]
    exact q
/-- in a text: a text -/
def occ (i j : Str) : Bool := !(Builtin.Str.occurrences j i 0 j.length 1).isEmpty
def inD (x y : D) : Option Bool := match y with
  | .lst ds => if shal 40 x = true ∧ ds.all (shal 40) = true then some (ds.any fun d => eqD d x) else none
  | .tup ds => if shal 40 x = true ∧ ds.all (shal 40) = true then some (ds.any fun d => eqD d x) else none
  | .str j => match x with
    | .str i => some (occ i j)
    | _ => none
  | _ => none
def dIn (x y : D) : Res D := match inD x y with
  | some b => .ok (.bl b)
  | none => .stuck
def dNotIn (x y : D) : Res D := match inD x y with
  | some b => .ok (.bl (!b))
  | none => .stuck
def rInS (neg : Bool) : R2 := fun x y H Q => ∃ i j, x = .str i ∧ y = .str j ∧ Q (.bl (if neg then !(occ i j) else occ i j)) H
theorem op_in (hu : X.A.units + 64 < cLine) : OpR X (compareOp .In) (fun v u H Q => rInD X.K false v u H Q ∨ rInS false v u H Q) := OpR.or (op_inD hu) (by
  intro pins s σ H x y v u Q I rx ry h
  obtain ⟨i, j, rfl, rfl, q⟩ := h
  exact op_in_str pins s σ H _ _ v u Q I rx ry ⟨i, j, rfl, rfl, q⟩)
theorem op_notIn (hu : X.A.units + 64 < cLine) : OpR X (compareOp .NotIn) (fun v u H Q => rInD X.K true v u H Q ∨ rInS true v u H Q) := OpR.or (op_notInD hu) (by
  intro pins s σ H x y v u Q I rx ry h
  obtain ⟨i, j, rfl, rfl, q⟩ := h
  exact op_notIn_str pins s σ H _ _ v u Q I rx ry ⟨i, j, rfl, rfl, q⟩)
theorem od_inAny {neg : Bool} {x y : D} {v u : V} {H H₀ : Hp} {Q : VK} (hs : Same H₀ H) (r1 : Rep X.K H₀ x v) (r2 : Rep X.K H₀ y u)
    (q : post X.K E H H₀ (match inD x y with | some b => .ok (.bl (if neg then !b else b)) | none => .stuck) Q) : rInD X.K neg v u H Q ∨ rInS neg v u H Q := by
  cases y with
  | lst ds =>
    simp only [inD] at q
    by_cases c : shal 40 x = true ∧ ds.all (shal 40) = true
    · rw [if_pos c] at q
      exact .inl ⟨x, ds, r1.mono hs, .inl (r2.mono hs), c.1, c.2, q _ H H₀ (Grow.refl hs) (Rep.bl_iff.mpr rfl)⟩
    · rw [if_neg c] at q; exact q.elim
  | tup ds =>
    simp only [inD] at q
    by_cases c : shal 40 x = true ∧ ds.all (shal 40) = true
    · rw [if_pos c] at q
      exact .inl ⟨x, ds, r1.mono hs, .inr (r2.mono hs), c.1, c.2, q _ H H₀ (Grow.refl hs) (Rep.bl_iff.mpr rfl)⟩
    · rw [if_neg c] at q; exact q.elim
  | str j =>
    cases x with
    | str i => exact .inr ⟨i, j, Rep.str_iff.mp r1, Rep.str_iff.mp r2, q _ H H₀ (Grow.refl hs) (Rep.bl_iff.mpr rfl)⟩
    | _ => exact q.elim
  | _ => exact q.elim
theorem od_in : OpD X.K E (fun v u H Q => rInD X.K false v u H Q ∨ rInS false v u H Q) dIn := fun x y v u H H₀ Q hs r1 r2 q => od_inAny (neg := false) (E := E) hs r1 r2 (by
  unfold dIn at q
  cases e : inD x y with
  | none => rw [e] at q; exact q
  | some b => rw [e] at q; exact q)
theorem od_notIn : OpD X.K E (fun v u H Q => rInD X.K true v u H Q ∨ rInS true v u H Q) dNotIn := fun x y v u H H₀ Q hs r1 r2 q => od_inAny (neg := true) (E := E) hs r1 r2 (by
  unfold dNotIn at q
  cases e : inD x y with
  | none => rw [e] at q; exact q
  | some b => rw [e] at q; exact q)
end
end DL

set_option Elab.async false
set_option linter.all false
set_option maxRecDepth 100000
namespace DL
open PySem PySem.Spec PyProof.Rows L2

/-! ### sizes of ints -/
@[irreducible] def B9 : Nat := 2 ^ 9000
@[irreducible] def B13 : Nat := 2 ^ 13500
@[irreducible] def B60 : Nat := 2 ^ 60000
theorem B9_eq : B9 = 2 ^ 9000 := by unfold B9; rfl
theorem B13_eq : B13 = 2 ^ 13500 := by unfold B13; rfl
theorem B60_eq : B60 = 2 ^ 60000 := by unfold B60; rfl
theorem log2_lt_of {n k : Nat} (h : n < 2 ^ k) (hk : 0 < k) : n.log2 < k := by
  by_cases h0 : n = 0
  · rw [h0]
    have : Nat.log2 0 = 0 := by decide
    omega
  · exact (Nat.log2_lt h0).mpr h
theorem noPy9 {x y : Int} (h : y.natAbs < B9) : Builtin.divisionGoesByPylong x y = false := by
  rw [B9_eq] at h
  exact PyProof.noPylong_of_log2 (log2_lt_of h (by omega))
theorem noPy13 {x y : Int} (h : x.natAbs < B13) : Builtin.divisionGoesByPylong x y = false := by
  rw [B13_eq] at h
  have hx : x.natAbs.log2 < 13500 := log2_lt_of h (by omega)
  show (decide ((if y == 0 then 0 else y.natAbs.log2 / 30 + 1) > 300) && decide ((if x == 0 then 0 else x.natAbs.log2 / 30 + 1) > (if y == 0 then 0 else y.natAbs.log2 / 30 + 1) + 150)) = false
  have k : (if x == 0 then 0 else x.natAbs.log2 / 30 + 1) ≤ 450 := by
    by_cases hx0 : (x == 0) = true
    · rw [if_pos hx0]; omega
    · rw [if_neg hx0]; omega
  by_cases c : (if y == 0 then 0 else y.natAbs.log2 / 30 + 1) > 300
  · rw [Bool.and_eq_false_iff]; right; exact decide_eq_false (by omega)
  · rw [Bool.and_eq_false_iff]; left; exact decide_eq_false c
def divOk (i j : Int) : Bool := decide (j ≠ 0) && (decide (j.natAbs < B9) || decide (i.natAbs < B13))
def mulOk (i j : Int) : Bool := decide (i.natAbs < B60) && decide (j.natAbs < B60)
theorem divOk.ok {i j : Int} (h : divOk i j = true) : j ≠ 0 ∧ Builtin.divisionGoesByPylong i j = false := by
  unfold divOk at h
  rw [Bool.and_eq_true, Bool.or_eq_true] at h
  refine ⟨of_decide_eq_true h.1, ?_⟩
  rcases h.2 with h | h
  · exact noPy9 (of_decide_eq_true h)
  · exact noPy13 (of_decide_eq_true h)
theorem mulOk.ok {i j : Int} (h : mulOk i j = true) : IntMulOk i j := by
  unfold mulOk at h
  rw [Bool.and_eq_true] at h
  have h1 := of_decide_eq_true h.1
  have h2 := of_decide_eq_true h.2
  rw [B60_eq] at h1 h2
  exact PyProof.Rows.mulOk_of_bits (m := 60000) (n := 60000) (PySem.intBits_le_iff.mpr h1) (PySem.intBits_le_iff.mpr h2) (by decide)

section
variable {X : Cx} {E : XK} {e a b c : Expr} {es : List Expr} {f g k : Ev → Res D} {fa : Ev → Res (List D)} {pos : Pos}
theorem done_at {K : PySem.W.Frag} {H H₀ : Hp} {d : D} {v : V} {Q : VK} (hs : Same H₀ H) (q : post K E H H₀ (.ok d) Q) (r : Rep K H₀ d v) : Q v H := q v H H₀ (Grow.refl hs) r
/-! ### ints -/
def iop (c : Int → Int → Bool) (g : Int → Int → D) (x y : D) : Res D := match x, y with
  | .int i, .int j => if c i j = true then .ok (g i j) else .stuck
  | _, _ => .stuck
theorem od_iop {C : Int → Int → Prop} {c : Int → Int → Bool} {gv : Int → Int → V} {g : Int → Int → D} (hc : ∀ i j, c i j = true → C i j) (hg : ∀ K H i j, Rep K H (g i j) (gv i j)) : OpD X.K E (rI C gv) (iop c g) := by
  intro x y v u H H₀ Q hs r1 r2 q
  unfold iop at q
  cases x with
  | int i =>
    cases y with
    | int j =>
      by_cases h : c i j = true
      · simp only [if_pos h] at q
        exact ⟨i, j, Rep.int_iff.mp r1, Rep.int_iff.mp r2, hc i j h, done_at hs q (hg _ _ i j)⟩
      · simp only [if_neg h] at q; exact q.elim
    | _ => exact q.elim
  | _ => exact q.elim
theorem od_iop0 {gv : Int → Int → V} {g : Int → Int → D} (hg : ∀ K H i j, Rep K H (g i j) (gv i j)) : OpD X.K E (rI0 gv) (iop (fun _ _ => true) g) := by
  intro x y v u H H₀ Q hs r1 r2 q
  unfold iop at q
  cases x with
  | int i =>
    cases y with
    | int j => simp only [if_pos] at q; exact ⟨i, j, Rep.int_iff.mp r1, Rep.int_iff.mp r2, done_at hs q (hg _ _ i j)⟩
    | _ => exact q.elim
  | _ => exact q.elim
theorem ri {K : PySem.W.Frag} {H : Hp} (n : Int) : Rep K H (.int n) (.int n) := Rep.int_iff.mpr rfl
theorem rb {K : PySem.W.Frag} {H : Hp} (n : Bool) : Rep K H (.bl n) (.bl n) := Rep.bl_iff.mpr rfl
abbrev dSub := iop (fun _ _ => true) fun i j => .int (i - j)
abbrev dMul := iop mulOk fun i j => .int (i * j)
abbrev dDiv := iop divOk fun i j => .int (i.fdiv j)
abbrev dMod := iop (fun _ j => decide (j ≠ 0)) fun i j => .int (i.fmod j)
abbrev dPow := iop (fun i j => decide (0 ≤ j) && decide (j ≤ 1000000) && decide (i.natAbs < 18446744073709551616)) fun i j => .int (i ^ j.toNat)
abbrev dLt := iop (fun _ _ => true) fun i j => .bl (decide (i < j))
abbrev dLe := iop (fun _ _ => true) fun i j => .bl (decide (i ≤ j))
abbrev dGt := iop (fun _ _ => true) fun i j => .bl (decide (j < i))
abbrev dGe := iop (fun _ _ => true) fun i j => .bl (decide (j ≤ i))
theorem op_mulB : OpR X (binaryOp .Mult) (rI IntMulOk fun i j => .int (i * j)) := opI fun _ _ _ _ _ _ _ hc q => mul_int q hc
theorem op_divB : OpR X (binaryOp .FloorDiv) (rI (fun i j => j ≠ 0 ∧ Builtin.divisionGoesByPylong i j = false) fun i j => .int (i.fdiv j)) := opI fun _ _ _ _ _ _ _ hc q => floordiv_int hc.1 q (.inl hc.2)
theorem de_sub (ha : DE X E a f) (hb : DE X E b g) : DE X E (.BinOp a .Sub b pos) (bind2 f g dSub) := de_op op_sub (od_iop0 fun _ _ _ _ => ri _) ha hb
theorem de_div (ha : DE X E a f) (hb : DE X E b g) : DE X E (.BinOp a .FloorDiv b pos) (bind2 f g dDiv) := de_op op_divB (od_iop (fun _ _ h => divOk.ok h) fun _ _ _ _ => ri _) ha hb
theorem de_mod (ha : DE X E a f) (hb : DE X E b g) : DE X E (.BinOp a .Mod b pos) (bind2 f g dMod) := de_op op_modN (od_iop (fun _ _ h => of_decide_eq_true h) fun _ _ _ _ => ri _) ha hb
theorem de_pow (ha : DE X E a f) (hb : DE X E b g) : DE X E (.BinOp a .Pow b pos) (bind2 f g dPow) := de_op op_pow (od_iop (fun i j h => by
  rw [Bool.and_eq_true, Bool.and_eq_true] at h
  exact ⟨of_decide_eq_true h.1.1, of_decide_eq_true h.1.2, of_decide_eq_true h.2⟩) fun _ _ _ _ => ri _) ha hb
theorem nm {op : CmpOp} {b : Expr} (h1 : op ≠ .In := by decide) (h2 : op ≠ .NotIn := by decide) : behindInMarks op b = false := nobehind _ h1 h2
def dNeg (x : D) : Res D := match x with
  | .int i => .ok (.int (-i))
  | _ => .stuck
theorem de_neg (ha : DE X E a f) : DE X E (.UnaryOp .USub a pos) (bind1 f dNeg) := de_un un_neg (by
  intro x v H H₀ Q hs r q
  cases x with
  | int i => exact ⟨i, Rep.int_iff.mp r, done_at hs q (ri _)⟩
  | _ => exact q.elim) ha

/-! ### + : ints, texts, lists -/
theorem op_catL : OpR X (binaryOp .Add) (fun x y H Q => ∃ l b xs zs, x = .ref l ∧ y = .ref b ∧ SqL X.K H l xs ∧ SqL X.K H b zs ∧ xs.length + zs.length ≤ sizeLine ∧ ∀ p, H p = none → Q (.ref p) (upd H p (.lst (xs ++ zs)))) := by
  intro pins s σ H x y v u Q I rx ry h
  obtain ⟨l, b, xs, zs, rfl, rfl, hH, hB, hz, q⟩ := h
  cases rx
  cases ry
  obtain ⟨its, r, pl, z⟩ := I.list hH
  obtain ⟨its2, r2, pl2, z2⟩ := I.list hB
  obtain ⟨⟨cls, dd, data, sl⟩, ho, hc, n, hd⟩ := pl.isList
  obtain ⟨⟨cls2, dd2, data2, sl2⟩, ho2, hc2, n2, hd2⟩ := pl2.isList
  simp only at hc hd hc2 hd2
  subst hc hd hc2 hd2
  have e : its.toArray ++ its2.toArray = (its ++ its2).toArray := by simp
  have l1 := r.length
  have l2 := r2.length
  refine concat_meets ⟨_, ho, rfl⟩ ⟨_, ho2, rfl⟩ noFill_list_add seq_list_add PySem.F.slot_list_add PySem.F.entry_list_add (PySem.F.args_list_add_2 _ _) (list_addW l b its.toArray its2.toArray n n2 dd dd2 sl sl2 (by simp only [List.size_toArray]; omega)) ⟨ho, ho2, ?_⟩
  rw [e]
  exact ⟨.ref _, _, I.lnew (t' := s.toks) (r.append r2) (by rw [List.length_append]; omega), rfl, q _ I.fresh⟩
def dAdd (x y : D) : Res D := match x, y with
  | .int i, .int j => .ok (.int (i + j))
  | .str i, .str j => if i.length + j.length ≤ line then .ok (.str (i ++ j)) else .stuck
  | .lst ds, .lst es => if ds.length + es.length ≤ line then .ok (.lst (ds ++ es)) else .stuck
  | _, _ => .stuck
theorem de_add (ha : DE X E a f) (hb : DE X E b g) : DE X E (.BinOp a .Add b pos) (bind2 f g dAdd) := de_op (OpR.or op_add (OpR.or op_add_str op_catL)) (by
  intro x y v u H H₀ Q hs r1 r2 q
  unfold dAdd at q
  cases x with
  | int i =>
    cases y with
    | int j => exact .inl ⟨i, j, Rep.int_iff.mp r1, Rep.int_iff.mp r2, done_at hs q (ri _)⟩
    | _ => exact q.elim
  | str i =>
    cases y with
    | str j =>
      by_cases h : i.length + j.length ≤ line
      · simp only [if_pos h] at q
        exact .inr (.inl ⟨i, j, Rep.str_iff.mp r1, Rep.str_iff.mp r2, line_le h, done_at hs q (Rep.str_iff.mpr rfl)⟩)
      · simp only [if_neg h] at q; exact q.elim
    | _ => exact q.elim
  | lst ds =>
    cases y with
    | lst es =>
      by_cases h : ds.length + es.length ≤ line
      · simp only [if_pos h] at q
        obtain ⟨l, vs, rfl, h1, h2⟩ := Rep.lst_iff.mp r1
        obtain ⟨m, us, rfl, k1, k2⟩ := Rep.lst_iff.mp r2
        refine .inr (.inr ⟨l, m, vs, us, rfl, rfl, Same.sqL hs h1, Same.sqL hs k1, by rw [← h2.length, ← k2.length]; exact line_le h, fun p hp => ?_⟩)
        exact q _ _ _ (Grow.alloc hs hp) (Rep.lst_iff.mpr ⟨p, _, rfl, SqL.of upd_same, (h2.app k2).mono (Grow.alloc hs hp).z⟩)
      · simp only [if_neg h] at q; exact q.elim
    | _ => exact q.elim
  | _ => exact q.elim) ha hb

/-! ### an item -/
def dIx (x y : D) : Res D := match y with
  | .int i => match x with
    | .lst ds => match atI ds i with
      | some d => .ok d
      | none => .stuck
    | .tup ds => match atI ds i with
      | some d => .ok d
      | none => .stuck
    | .str z => if z.length ≤ line then match atI z.cps.toList i with
      | some c => .ok (.str ⟨#[c]⟩)
      | none => .stuck else .stuck
    | _ => .stuck
  | _ => .stuck
theorem Reps.atI {K : PySem.W.Frag} {H : Hp} {ds : List D} {vs : List V} {i : Int} {d : D} (h : Reps K H ds vs) (e : atI ds i = some d) : ∃ v, L2.atI vs i = some v ∧ Rep K H d v := by
  unfold L2.atI at e ⊢
  rw [← h.length]
  cases q : ixN ds.length i with
  | none => rw [q] at e; cases e
  | some j =>
    rw [q] at e
    exact h.get e
theorem od_ix : OpD X.K E (rIx X.K) dIx := by
  intro x y v u H H₀ Q hs r1 r2 q
  unfold dIx at q
  cases y with
  | int i =>
    cases x with
    | lst ds =>
      obtain ⟨l, vs, rfl, h1, h2⟩ := Rep.lst_iff.mp r1
      cases e : atI ds i with
      | none => simp only [e] at q; exact q.elim
      | some d =>
        simp only [e] at q
        obtain ⟨w, e1, e2⟩ := h2.atI e
        exact .inl ⟨l, vs, i, w, rfl, Rep.int_iff.mp r2, Same.sqL hs h1, e1, done_at hs q e2⟩
    | tup ds =>
      obtain ⟨l, vs, rfl, h1, h2⟩ := Rep.tup_iff.mp r1
      cases e : atI ds i with
      | none => simp only [e] at q; exact q.elim
      | some d =>
        simp only [e] at q
        obtain ⟨w, e1, e2⟩ := h2.atI e
        exact .inr (.inl ⟨l, vs, i, w, rfl, Rep.int_iff.mp r2, Same.sqT hs h1, e1, done_at hs q e2⟩)
    | str z =>
      by_cases hz : z.length ≤ line
      · simp only [if_pos hz] at q
        cases e : atI z.cps.toList i with
        | none => simp only [e] at q; exact q.elim
        | some c =>
          simp only [e] at q
          exact .inr (.inr ⟨z, i, c, Rep.str_iff.mp r1, Rep.int_iff.mp r2, line_le hz, e, done_at hs q (Rep.str_iff.mpr rfl)⟩)
      · simp only [if_neg hz] at q; exact q.elim
    | _ => exact q.elim
  | _ => exact q.elim
theorem de_item (ha : DE X E a f) (hb : DE X E b g) (hs : PlainIx b := by intro _ _; rfl) : DE X E (.Subscript a b pos) (bind2 f g dIx) := de_ix ix_seq od_ix ha hb hs

/-! ### a slice of a list -/
def oNone : Ev → Res (Option Int) := fun _ => .ok none
def oSome (f : Ev → Res D) : Ev → Res (Option Int) := fun ρ => (f ρ).bind fun x => match x with
  | .int i => .ok (some i)
  | _ => .stuck
def tDO (K : PySem.W.Frag) (E : XK) (f : Ev → Res (Option Int)) : TO := fun σ H Q => ∃ H₀ ρ, Same H₀ H ∧ Reads K H₀ σ ρ ∧ match f ρ with
  | .ok o => ∀ H' H₀', Grow H H₀ H' H₀' → Q o H'
  | .exn x => ∀ C ox H' H₀', Grow H H₀ H' H₀' → ExR K H₀' x C ox → E C ox H'
  | .stuck => False
def DO (X : Cx) (E : XK) (e : Option Expr) (f : Ev → Res (Option Int)) : Prop := PO X e (tDO X.K E f)
theorem po_weak {eo : Option Expr} {t t' : TO} (h : PO X eo t) (w : ∀ σ H Q, t' σ H Q → t σ H Q) : PO X eo t' := fun pins s σ H Q I q => h pins s σ H Q I (w σ H Q q)
theorem do_none : DO X E none oNone := po_weak po_none fun σ H Q ⟨H₀, ρ, hs, hr, q⟩ => q H H₀ (Grow.refl hs)
theorem do_some (ha : DE X E a f) : DO X E (some a) (oSome f) := by
  refine po_weak (po_some ha) fun σ H Q ⟨H₀, ρ, hs, hr, q⟩ => ⟨H₀, ρ, hs, hr, ?_⟩
  unfold oSome at q
  cases e1 : f ρ with
  | stuck => rw [e1] at q; exact q
  | exn x => rw [e1] at q; exact q
  | ok d =>
    rw [e1] at q
    intro v H1 H01 g1 r1
    cases d with
    | int i => exact ⟨i, Rep.int_iff.mp r1, q H1 H01 g1⟩
    | _ => exact q.elim
def cutD (xs : List D) (lo hi : Option Int) : List D := (xs.drop (HT.sIx xs.length 0 lo)).take (HT.sIx xs.length xs.length hi - HT.sIx xs.length 0 lo)
def dSl (f : Ev → Res D) (lo hi : Ev → Res (Option Int)) : Ev → Res D := fun ρ => (f ρ).bind fun x => (lo ρ).bind fun l => (hi ρ).bind fun h => match x with
  | .lst ds => .ok (.lst (cutD ds l h))
  | _ => .stuck
theorem Reps.cut {K : PySem.W.Frag} {H : Hp} {ds : List D} {vs : List V} (h : Reps K H ds vs) (lo hi : Option Int) : Reps K H (cutD ds lo hi) (cutV vs lo hi) := by
  unfold cutD cutV
  rw [← h.length]
  exact (h.drop _).take _
theorem slice_steps {r : V → Option Int → Option Int → Hp → VK → Prop} {lo hi : Ev → Res (Option Int)} {m : D → Option Int → Option Int → Res D}
    (ho : ∀ x v l h H H₀ Q, Same H₀ H → Rep X.K H₀ x v → post X.K E H H₀ (m x l h) Q → r v l h H Q) (σ : L2.St) (H : Hp) (Q : VK)
    (h : tD X.K E (fun ρ => (f ρ).bind fun x => (lo ρ).bind fun l => (hi ρ).bind fun h => m x l h) σ H Q) : tSl r (tD X.K E f) (tDO X.K E lo) (tDO X.K E hi) σ H Q := by
  obtain ⟨H₀, ρ, hs, hr, q⟩ := h
  refine ⟨H₀, ρ, hs, hr, ?_⟩
  replace q : post X.K E H H₀ ((f ρ).bind fun x => (lo ρ).bind fun l => (hi ρ).bind fun h => m x l h) Q := q
  cases e1 : f ρ with
  | stuck => rw [e1] at q; exact q
  | exn x => rw [e1] at q; exact q
  | ok x =>
    rw [e1] at q
    intro v H1 H01 g1 r1
    refine ⟨H01, ρ, g1.sub, hr.mono g1.z, ?_⟩
    replace q : post X.K E H H₀ ((lo ρ).bind fun l => (hi ρ).bind fun h => m x l h) Q := q
    replace q := q.grow g1
    cases e2 : lo ρ with
    | stuck => rw [e2] at q; exact q
    | exn x => rw [e2] at q; exact q
    | ok l =>
      rw [e2] at q
      intro H2 H02 g2
      refine ⟨H02, ρ, g2.sub, (hr.mono g1.z).mono g2.z, ?_⟩
      replace q : post X.K E H1 H01 ((hi ρ).bind fun h => m x l h) Q := q
      replace q := q.grow g2
      cases e3 : hi ρ with
      | stuck => rw [e3] at q; exact q
      | exn x => rw [e3] at q; exact q
      | ok h =>
        rw [e3] at q
        intro H3 H03 g3
        exact ho x v l h H3 H03 Q g3.sub ((r1.mono g2.z).mono g3.z) (post.grow (r := m x l h) q g3)
theorem de_slice {lo hi : Option Expr} {p2 : Pos} {fl fh : Ev → Res (Option Int)} (ha : DE X E a f) (hl : DO X E lo fl) (hh : DO X E hi fh) : DE X E (.Subscript a (.Slice lo hi none p2) pos) (dSl f fl fh) :=
  pe_weak (pe_slice sl_list ha hl hh) (slice_steps (m := fun x l h => match x with
    | .lst ds => .ok (.lst (cutD ds l h))
    | _ => .stuck) fun x v l h H H₀ Q hs r q => by
    cases x with
    | lst ds =>
      obtain ⟨p, vs, rfl, h1, h2⟩ := Rep.lst_iff.mp r
      exact ⟨p, vs, rfl, Same.sqL hs h1, fun n hn => q _ _ _ (Grow.alloc hs hn) (Rep.lst_iff.mpr ⟨n, _, rfl, SqL.of upd_same, (h2.cut l h).mono (Grow.alloc hs hn).z⟩)⟩
    | _ => exact q.elim)

/-! ### built-in functions -/
def m1 (m : D → Res D) (ds : List D) : Res D := match ds with
  | [x] => m x
  | _ => .stuck
def m2 (m : D → D → Res D) (ds : List D) : Res D := match ds with
  | [x, y] => m x y
  | _ => .stuck
theorem call1 {r : List V → Hp → VK → Prop} {m : D → Res D} (h : ∀ x v H H₀ Q, Same H₀ H → Rep X.K H₀ x v → post X.K E H H₀ (m x) Q → r [v] H Q) : CallD X E r (m1 m) := by
  intro ds vs H H₀ Q hs hr q
  unfold m1 at q
  match ds, hr, q with
  | [x], hr, q =>
    obtain ⟨v, r', rfl, h1, h2⟩ := Reps.cons_iff.mp hr
    rw [Reps.nil_iff.mp h2]
    exact h x v H H₀ Q hs h1 q
  | [], _, q => exact q.elim
  | _ :: _ :: _, _, q => exact q.elim
theorem call2 {r : List V → Hp → VK → Prop} {m : D → D → Res D} (h : ∀ x y v u H H₀ Q, Same H₀ H → Rep X.K H₀ x v → Rep X.K H₀ y u → post X.K E H H₀ (m x y) Q → r [v, u] H Q) : CallD X E r (m2 m) := by
  intro ds vs H H₀ Q hs hr q
  unfold m2 at q
  match ds, hr, q with
  | [x, y], hr, q =>
    obtain ⟨v, r', rfl, h1, h2⟩ := Reps.cons_iff.mp hr
    obtain ⟨u, r'', rfl, h3, h4⟩ := Reps.cons_iff.mp h2
    rw [Reps.nil_iff.mp h4]
    exact h x y v u H H₀ Q hs h1 h3 q
  | [], _, q => exact q.elim
  | [_], _, q => exact q.elim
  | _ :: _ :: _ :: _, _, q => exact q.elim
def dAbs (x : D) : Res D := match x with
  | .int i => .ok (.int (if i < 0 then -i else i))
  | _ => .stuck
def dMax (x y : D) : Res D := match x, y with
  | .int i, .int j => .ok (.int (if j > i then j else i))
  | _, _ => .stuck
def dLen (x : D) : Res D := match x with
  | .lst ds => .ok (.int ds.length)
  | .tup ds => .ok (.int ds.length)
  | .str z => if z.length ≤ line then .ok (.int z.length) else .stuck
  | _ => .stuck
def dIntOf (x : D) : Res D := match x with
  | .int i => .ok (.int i)
  | .bl b => .ok (.int (if b then 1 else 0))
  | _ => .stuck
def dList (x : D) : Res D := match x with
  | .lst ds => .ok (.lst ds)
  | .tup ds => .ok (.lst ds)
  | _ => .stuck
theorem cd_abs : CallD X E (fun xs H Q => ∃ i, xs = [.int i] ∧ Q (.int (if i < 0 then -i else i)) H) (m1 dAbs) := call1 fun x v H H₀ Q hs r q => by
  cases x with
  | int i => exact ⟨i, by rw [Rep.int_iff.mp r], done_at hs q (ri _)⟩
  | _ => exact q.elim
theorem cd_max : CallD X E (fun xs H Q => ∃ i j, xs = [.int i, .int j] ∧ Q (.int (if j > i then j else i)) H) (m2 dMax) := call2 fun x y v u H H₀ Q hs r r' q => by
  cases x with
  | int i =>
    cases y with
    | int j => exact ⟨i, j, by rw [Rep.int_iff.mp r, Rep.int_iff.mp r'], done_at hs q (ri _)⟩
    | _ => exact q.elim
  | _ => exact q.elim
theorem cd_len : CallD X E (fun xs H Q => ∃ x n, xs = [x] ∧ LenV X.K x H n ∧ Q (.int n) H) (m1 dLen) := call1 fun x v H H₀ Q hs r q => by
  cases x with
  | lst ds =>
    obtain ⟨p, vs, rfl, h1, h2⟩ := Rep.lst_iff.mp r
    refine ⟨_, vs.length, rfl, .inl ⟨vs, Same.sqL hs h1, rfl⟩, ?_⟩
    rw [← h2.length]; exact done_at hs q (ri _)
  | tup ds =>
    obtain ⟨p, vs, rfl, h1, h2⟩ := Rep.tup_iff.mp r
    refine ⟨_, vs.length, rfl, .inr ⟨vs, Same.sqT hs h1, rfl⟩, ?_⟩
    rw [← h2.length]; exact done_at hs q (ri _)
  | str z =>
    unfold dLen at q
    by_cases hz : z.length ≤ line
    · simp only [if_pos hz] at q
      rw [Rep.str_iff.mp r]
      exact ⟨_, z.length, rfl, ⟨line_le hz, rfl⟩, done_at hs q (ri _)⟩
    · simp only [if_neg hz] at q; exact q.elim
  | _ => exact q.elim
theorem cd_int : CallD X E (fun xs H Q => (∃ i, xs = [.int i] ∧ Q (.int i) H) ∨ ∃ k, xs = [.bl k] ∧ Q (.int (if k then 1 else 0)) H) (m1 dIntOf) := call1 fun x v H H₀ Q hs r q => by
  cases x with
  | int i => exact .inl ⟨i, by rw [Rep.int_iff.mp r], done_at hs q (ri _)⟩
  | bl i => exact .inr ⟨i, by rw [Rep.bl_iff.mp r], done_at hs q (ri _)⟩
  | _ => exact q.elim
theorem cd_list : CallD X E (fun xs H Q => ∃ p ys, xs = [.ref p] ∧ (SqL X.K H p ys ∨ SqT X.K H p ys) ∧ ∀ l, H l = none → Q (.ref l) (upd H l (.lst ys))) (m1 dList) := call1 fun x v H H₀ Q hs r q => by
  cases x with
  | lst ds =>
    obtain ⟨p, vs, rfl, h1, h2⟩ := Rep.lst_iff.mp r
    exact ⟨p, vs, rfl, .inl (Same.sqL hs h1), fun n hn => q _ _ _ (Grow.alloc hs hn) (Rep.lst_iff.mpr ⟨n, _, rfl, SqL.of upd_same, h2.mono (Grow.alloc hs hn).z⟩)⟩
  | tup ds =>
    obtain ⟨p, vs, rfl, h1, h2⟩ := Rep.tup_iff.mp r
    exact ⟨p, vs, rfl, .inr (Same.sqT hs h1), fun n hn => q _ _ _ (Grow.alloc hs hn) (Rep.lst_iff.mpr ⟨n, _, rfl, SqL.of upd_same, h2.mono (Grow.alloc hs hn).z⟩)⟩
  | _ => exact q.elim
theorem de_callT {T : String} {r : List V → Hp → VK → Prop} {m : List D → Res D} {x : Str} {p : Pos} (hc : CallR X (.type T) r) (hd : CallD X E r m) (hg : Gl X x) (hm : X.mg x = none) (hv : bootBuiltins x = some (.type T)) (ha : DA X E (e :: es) fa) (hn : x ≠ "__name__" := by decide) (hdb : (x == ("__debug__" : Str)) = false := by decide)
    (he : starEach (e :: es) X.env = (false, eval e X.env) :: starEach es X.env := by rfl) (hpl : (backTo pos (starEach es X.env)).any (·.1) = false := by rfl) : DE X E (.Call (.Name x p) (e :: es) [] pos) (bindA fa m) :=
  pe_weak (pe_callTy hc hg hm hv ha hn hdb he hpl) (arg_steps hd)
theorem Rep.tuple_call_list {K : PySem.W.Frag} : True := trivial
/-- list(e), a new list of one's own -/
theorem df_list {x : Expr} {p : Pos} (hg : Gl X "list") (hm : X.mg "list" = none) (ha : DA X E [x] fa) (he : starEach [x] X.env = (false, eval x X.env) :: starEach [] X.env := by rfl) (hpl : (backTo pos (starEach [] X.env)).any (·.1) = false := by rfl) :
    DF X E (.Call (.Name "list" p) [x] [] pos) (bindA fa (m1 dList)) := by
  refine pe_weak (pe_callTy call_list_of hg hm PyProof.Rows.Boot.«list» ha (by decide) (by decide) he hpl) fun σ H Q h => ?_
  obtain ⟨H₀, ρ, hs, hr, q⟩ := h
  refine ⟨H₀, ρ, hs, hr, ?_⟩
  unfold bindA at q
  cases e1 : fa ρ with
  | stuck => rw [e1] at q; exact q
  | exn x => rw [e1] at q; exact q
  | ok ds =>
    rw [e1] at q
    intro vs H1 H01 g1 r1
    have fin : ∀ (es : List D) (us : List V) (p : Addr), m1 dList ds = .ok (.lst es) → H1 p = none → Reps X.K H01 es us → Q (.ref p) (upd H1 p (.lst us)) := fun es us p hm hp hu => by
      have h0 : H01 p = none := g1.sub.free hp
      have q' : ∀ p vs H' H₀', Grow H H₀ H' H₀' → H p = none → H₀' p = none → H' p = some (.lst vs) → Reps X.K H₀' es vs → Q (.ref p) H' := by
        have q2 : match m1 dList ds with
          | .ok (.lst ds) => ∀ p vs H' H₀', Grow H H₀ H' H₀' → H p = none → H₀' p = none → H' p = some (.lst vs) → Reps X.K H₀' ds vs → Q (.ref p) H'
          | .ok _ => False
          | .exn x => ∀ C ox H' H₀', Grow H H₀ H' H₀' → ExR X.K H₀' x C ox → E C ox H'
          | .stuck => False := q
        rw [hm] at q2
        exact q2
      refine q' p us _ H01 (g1.trans ⟨fun b o q => by rw [upd_ne (ne_of_none q hp)]; exact q, Same.refl _, fun b o q => ?_, fun a h1 h2 => absurd h2 h1⟩) (g1.s.free hp) h0 upd_same hu
      rw [upd_ne (by intro z; subst z; rw [h0] at q; cases q)]; exact g1.sub _ _ q
    have q2 : match m1 dList ds with
          | .ok (.lst ds) => ∀ p vs H' H₀', Grow H H₀ H' H₀' → H p = none → H₀' p = none → H' p = some (.lst vs) → Reps X.K H₀' ds vs → Q (.ref p) H'
          | .ok _ => False
          | .exn x => ∀ C ox H' H₀', Grow H H₀ H' H₀' → ExR X.K H₀' x C ox → E C ox H'
          | .stuck => False := q
    match ds, r1, q2, fin with
    | [], _, q2, _ => exact q2.elim
    | _ :: _ :: _, _, q2, _ => exact q2.elim
    | [x], r1, q2, fin =>
      obtain ⟨v, r', rfl, h1, h2⟩ := Reps.cons_iff.mp r1
      rw [Reps.nil_iff.mp h2]
      cases x with
      | lst ds =>
        obtain ⟨p, vs, rfl, k1, k2⟩ := Rep.lst_iff.mp h1
        exact ⟨p, vs, rfl, .inl (Same.sqL g1.sub k1), fun n hn => fin ds vs n rfl hn k2⟩
      | tup ds =>
        obtain ⟨p, vs, rfl, k1, k2⟩ := Rep.tup_iff.mp h1
        exact ⟨p, vs, rfl, .inr (Same.sqT g1.sub k1), fun n hn => fin ds vs n rfl hn k2⟩
      | _ => exact q2.elim

/-! ### is None -/
def isNon : D → Bool
  | .non => true
  | _ => false
def dIsN (x y : D) : Res D := match y with
  | .non => .ok (.bl (isNon x))
  | _ => .stuck
def dNotN (x y : D) : Res D := match y with
  | .non => .ok (.bl (!(isNon x)))
  | _ => .stuck
theorem Rep.is_non {K : PySem.W.Frag} {H : Hp} {x : D} {v : V} (r : Rep K H x v) : decide (v = .non) = isNon x := by
  cases x with
  | non => rw [Rep.non_iff.mp r]; rfl
  | bl b => rw [Rep.bl_iff.mp r]; rfl
  | int b => rw [Rep.int_iff.mp r]; rfl
  | str b => rw [Rep.str_iff.mp r]; rfl
  | tup ds => obtain ⟨_, _, e, _⟩ := Rep.tup_iff.mp r; rw [e]; rfl
  | lst ds => obtain ⟨_, _, e, _⟩ := Rep.lst_iff.mp r; rw [e]; rfl
  | dic ks ds => rw [Rep] at r; obtain ⟨_, _, _, e, _⟩ := r; rw [e]; rfl
theorem od_isN : OpD X.K E (fun x y H Q => y = .non ∧ Q (.bl (decide (x = .non))) H) dIsN := by
  intro x y v u H H₀ Q hs r1 r2 q
  unfold dIsN at q
  cases y with
  | non => exact ⟨Rep.non_iff.mp r2, by rw [r1.is_non]; exact done_at hs q (rb _)⟩
  | _ => exact q.elim
theorem od_notN : OpD X.K E (fun x y H Q => y = .non ∧ Q (.bl (!decide (x = .non))) H) dNotN := by
  intro x y v u H H₀ Q hs r1 r2 q
  unfold dNotN at q
  cases y with
  | non =>
    refine ⟨Rep.non_iff.mp r2, ?_⟩
    rw [r1.is_non]
    exact done_at hs q (rb _)
  | _ => exact q.elim

/-! ### isinstance of a built-in type -/
def tyD : D → String
  | .non => "NoneType"
  | .bl _ => "bool"
  | .int _ => "int"
  | .str _ => "str"
  | .tup _ => "tuple"
  | .lst _ => "list"
  | .dic _ _ => "dict"
def dIsI (T : String) (x : D) : Res D := .ok (.bl (tyD x == T || (tyD x == "bool" && T == "int")))
theorem isinst_D {pins : List (Addr × Obj)} {σ : L2.St} {H : Hp} {s : Shared} {A : Around} {Q : Value → Shared → Prop} {x : D} {v : V} {u cv : Value} {ans : Bool} (I : Inv X pins σ H s) (r : Rep X.K H x v) (q : RelV v u) (e : PySem.W.kitOne X.K (.type (tyD x)) cv = some ans) (h : ∀ tk, Q (.bool ans) { s with toks := tk }) :
    wpAny (model X.prog X.w) A (call (.builtin "isinstance") [u, cv]) Q X.xe s := by
  cases x with
  | non => rw [Rep.non_iff.mp r] at q; exact isinst_ok I q .non e h
  | bl b => rw [Rep.bl_iff.mp r] at q; exact isinst_ok I q (.bl b) e h
  | int b => rw [Rep.int_iff.mp r] at q; exact isinst_ok I q (.int b) e h
  | str b => rw [Rep.str_iff.mp r] at q; exact isinst_ok I q (.str b) e h
  | tup ds =>
    obtain ⟨a, vs, its, rfl, rfl, h1, h2, h3, h4, _⟩ := Rep.tup_get I r q
    obtain ⟨o, k1, k2, _⟩ := h4
    exact PySem.W.kia_one PySem.W.kitx_tuple I.kIn ⟨o, k1, k2⟩ e (fun z => nomatch z) h
  | lst ds =>
    obtain ⟨a, vs, its, rfl, rfl, h1, h2, h3, h4, _⟩ := Rep.lst_get I r q
    obtain ⟨o, k1, k2, _⟩ := h4
    exact PySem.W.kia_one PySem.W.kitx_list I.kIn ⟨o, k1, k2⟩ e (fun z => nomatch z) h
  | dic ks ds =>
    rw [Rep] at r
    obtain ⟨a, kvs, vs, rfl, h1, h2, _⟩ := r
    cases (show u = Value.ref a from q)
    obtain ⟨_, _, vs', _, p⟩ := h1.ok I.hok
    obtain ⟨o, es, ep, k1, k2, _⟩ := p
    exact PySem.W.kia_one PySem.W.kitx_dict I.kIn ⟨o, k1, k2.1⟩ e (fun z => nomatch z) h
/-- what kitOne says of the built-in types -/
def KitOk (K : PySem.W.Frag) (T : String) : Prop := ∀ S, S ∈ ["NoneType", "bool", "int", "str", "tuple", "list", "dict"] → PySem.W.kitOne K (.type S) (.type T) = some (S == T || (S == "bool" && T == "int"))
theorem tyD_mem (x : D) : tyD x ∈ ["NoneType", "bool", "int", "str", "tuple", "list", "dict"] := by cases x <;> simp [tyD]
theorem de_isinst {T : String} {x : Str} {p1 p2 : Pos} (hk : KitOk X.K T) (hgi : Gl X "isinstance") (hmi : X.mg "isinstance" = none) (hg : Gl X x) (hm : X.mg x = none) (hv : bootBuiltins x = some (.type T)) (ha : DE X E a f)
    (hn : x ≠ "__name__" := by decide) (hdb : (x == ("__debug__" : Str)) = false := by decide)
    (he : starEach [a, .Name x p2] X.env = (false, eval a X.env) :: starEach [.Name x p2] X.env := by rfl) (he2 : starEach [.Name x p2] X.env = (false, eval (.Name x p2) X.env) :: starEach [] X.env := by rfl) (hpl : (backTo pos (starEach [.Name x p2] X.env)).any (·.1) = false := by rfl) :
    DE X E (.Call (.Name "isinstance" p1) [a, .Name x p2] [] pos) (bind1 f (dIsI T)) := by
  refine pe_weak (pe_callB (r := fun vs H Q => ∃ d v, vs = [v, .ty T] ∧ Rep X.K H d v ∧ Q (.bl (tyD d == T || (tyD d == "bool" && T == "int"))) H) ?_ hgi hmi PyProof.Rows.Boot.«isinstance» (pa_cons ha (pa_cons (pe_bltn (v := .ty T) hg hm hv rfl hn hdb) pa_nil he2) he) (by decide) (by decide) he hpl) fun σ H Q ⟨H₀, ρ, hs, hr, q⟩ => ⟨H₀, ρ, hs, hr, ?_⟩
  · intro pins s σ H xs us Q I r h
    obtain ⟨d, v, rfl, h1, q⟩ := h
    cases r with
    | cons r1 r2 =>
      cases r2 with
      | cons r3 r4 =>
        cases r4
        rename_i u1 u2
        obtain rfl : u2 = Value.type T := r3
        exact isinst_D I h1 r1 (hk _ (tyD_mem d)) fun tk => ⟨.bl _, H, I.tok _, rfl, q⟩
  · unfold bind1 at q
    cases e1 : f ρ with
    | stuck => rw [e1] at q; exact q
    | exn x => rw [e1] at q; exact q
    | ok d =>
      rw [e1] at q
      intro v H1 H01 g1 r1
      exact ⟨d, v, rfl, r1.mono g1.sub, q _ H1 H01 g1 (rb _)⟩
end

/-! ### a list is taken apart -/
theorem draw_list {prog : Program} {w : World} {A : Around} {E : Value → Shared → Prop} {it t : Addr} {items : Array Value} (hne : t ≠ it) : ∀ (n i : Nat) (s : Shared) (Q : List Value → Shared → Prop), s.heap.IsListIter it t i → s.heap.IsList t items → i + n ≤ items.size →
    (∀ h', h'.IsListIter it t (i + n) → Heap.SameBut it s.heap h' → Q ((items.toList.drop i).take n) { s with heap := h' }) → wpAny (model prog w) A (draw (.ref it) n) Q E s
  | 0, i, s, Q, hit, _, _, hQ => by
    show wpAny _ _ (pure []) Q E s
    exact wpAny_pure (by simpa using hQ s.heap hit (Heap.SameBut.refl ..))
  | n + 1, i, s, Q, hit, ht, hle, hQ => by
    have hlt : i < items.size := by omega
    show wpAny _ _ (pyNext (.ref it) >>= _) Q E s
    refine wpAny_bind (wpAny_pyNext_list_item hit ht (x := items[i]) (by simp [hlt]) fun h₁ hit₁ hs₁ => ?_)
    have ht₁ : h₁.IsList t items := by
      obtain ⟨o, k1, k2⟩ := ht
      exact ⟨o, (hs₁.2 t hne).trans k1, k2⟩
    refine wpAny_bind (wpAny_holding (draw_list hne n (i + 1) _ _ hit₁ ht₁ (by omega) fun h₂ hit₂ hs₂ => wpAny_pure ?_))
    have hd : items.toList.drop i = items[i] :: items.toList.drop (i + 1) := by simp [List.drop_eq_getElem_cons, hlt]
    have := hQ h₂ (by rw [show i + (n + 1) = i + 1 + n by omega]; exact hit₂) (hs₁.trans hs₂)
    rw [hd, List.take_succ_cons] at this
    exact this
theorem unpackItems_list {prog : Program} {w : World} {A : Around} {E : Value → Shared → Prop} {s : Shared} {t : Addr} {items : Array Value} {Q : List Value → Shared → Prop} (hh : A.handled = none) (ht : s.heap.IsList t items)
    (hQ : ∀ h', Heap.ExtBut s.heap.objs.size s.heap h' → Q items.toList { s with heap := h' }) : wpAny (model prog w) A (unpackItems (.ref t) items.size none) Q E s := by
  have hlt : t ≠ s.heap.objs.size := by obtain ⟨o, ho, _⟩ := ht; exact Nat.ne_of_lt (Heap.lt_size ho)
  unfold unpackItems
  refine wpAny_bind ?_
  · unfold notIterableAtAll
    refine wpAny_bind (wpAny_specialOf ht.typeIs slot_list_iter.lookup ?_)
    refine wpAny_pure ?_
    simp only [Bool.false_eq_true, if_false]
    refine wpAny_bind (wpAny_holding (wpAny_pyIter_list ht ?_))
    have ht0 : (s.heap.push { cls := .type "list_iterator", data := .fields #[.ref t, .int 0 0] }).IsList t items := by
      obtain ⟨o, k1, k2⟩ := ht
      exact ⟨o, Heap.get?_push_of_some _ k1, k2⟩
    refine wpAny_bind (wpAny_holding (draw_list hlt items.size 0 _ _ ⟨_, Heap.get?_push_size _ rfl, rfl, rfl⟩ ht0 (by omega) fun h₁ hit₁ hs₁ => ?_))
    have hall : List.take items.size (List.drop 0 items.toList) = items.toList := by
      rw [List.drop_zero]; exact List.take_of_length_le (by simp)
    rw [hall]
    rw [if_neg (by simp)]
    have ht₁ : h₁.IsList t items := by
      obtain ⟨o, k1, k2⟩ := ht0
      exact ⟨o, (hs₁.2 t hlt).trans k1, k2⟩
    refine wpAny_bind (wpAny_holding (wpAny_pyNext_list_end hh hit₁ ht₁ (by simp) fun h₂ he₂ => ?_))
    simp only [Option.isSome_none, Bool.false_eq_true, if_false]
    refine wpAny_pure (hQ h₂ fun b o hb e => he₂ b o hb (hs₁.extBut b o hb (Heap.get?_push_of_some _ e)))
end DL

set_option Elab.async false
set_option linter.all false
set_option maxRecDepth 100000
namespace DL
open PySem PySem.Spec PyProof.Rows L2

def setV (σ : L2.St) : List Nat → List V → L2.St
  | i :: is, v :: vs => setV (σ.set i (some v)) is vs
  | _, _ => σ
def setAll (ρ : Ev) : List Nat → List D → Ev
  | i :: is, d :: ds => setAll (ρ.set i (.sh d)) is ds
  | _, _ => ρ
theorem SRx.putAll {K : PySem.W.Frag} {He H0e H₀ H : Hp} : ∀ {is : List Nat} {ds : List D} {vs : List V} {σ : L2.St} {ρ : Ev}, SRx K He H0e H₀ σ H ρ → Reps K H₀ ds vs → SRx K He H0e H₀ (setV σ is vs) H (setAll ρ is ds)
  | [], _, _, _, _, h, _ => by unfold setV setAll; exact h
  | _ :: _, [], _, _, _, h, r => by rw [Reps.nil_iff.mp r]; unfold setV setAll; exact h
  | i :: is, d :: ds, _, _, _, h, r => by
    obtain ⟨v, vs, rfl, h1, h2⟩ := Reps.cons_iff.mp r
    unfold setV setAll
    exact SRx.putAll (h.put h1) h2
section
variable {X : Cx} {E : XK} {He H0e : Hp} {e a b : Expr} {es : List Expr} {f g : Ev → Res D} {fa : Ev → Res (List D)} {pos : Pos} {is : List Nat}
def tVs (is : List Nat) : TGs := fun vs σ H Q => vs.length = is.length ∧ Q (setV σ is vs) H
theorem pgs_weak {t t' : TGs} (h : PGs X es t) (w : ∀ vs σ H Q, t' vs σ H Q → t vs σ H Q) : PGs X es t' := fun pins s σ H vs us Q I r q => h pins s σ H vs us Q I r (w vs σ H Q q)
theorem dgs_nil : PGs X [] (tVs []) := pgs_weak pgs_nil fun vs σ H Q ⟨h, q⟩ => by
  have e : vs = [] := List.length_eq_zero_iff.mp h
  subst e
  exact ⟨rfl, q⟩
theorem dgs_cons {i : Nat} {x : Str} {p : Pos} (hN : X.N.Nodup) (hi : X.N[i]? = some x) (hx : Loc X.env.scope x) (h : PGs X es (tVs is)) (hf : X.fn x = true ∨ X.env.scope.names.lookup x = some .local := by first | exact .inl rfl | exact .inr rfl | assumption)
    (hs : (assignEach (.Name x p :: es) X.env).map (·.2) = assign (.Name x p) X.env :: (assignEach es X.env).map (·.2) := by rfl) : PGs X (.Name x p :: es) (tVs (i :: is)) :=
  pgs_weak (pgs_cons (pg_name hN hi hx hf) h hs) fun vs σ H Q ⟨h, q⟩ => by
    cases vs with
    | nil => simp at h
    | cons v vs => exact ⟨v, vs, rfl, by simpa using h, q⟩
theorem pg_list {k : Nat} {t : TGs} {n : Nat} (hc : X.calm = true) (h : PGs X es t)
    (hn : (assignEach es X.env).length = n := by rfl) (hst : (assignEach es X.env).findIdx? (·.1) = none := by rfl) : PG X (.Tuple es k pos) (fun v σ H Q => ∃ a xs, v = .ref a ∧ SqL X.K H a xs ∧ xs.length = n ∧ t xs σ H Q) := by
  intro pins s σ H v u Q I r hw
  obtain ⟨a, xs, e1, hq, hl, hw⟩ := hw
  subst e1
  cases r
  obtain ⟨its, rv, ht, hz⟩ := I.list hq
  rw [assign_Tuple]
  refine wpAny_bind (wpAny_standAt ?_)
  unfold unpack
  rw [hn, hst]
  have hsz : n = its.toArray.size := by rw [List.size_toArray, ← rv.length, hl]
  rw [hsz]
  refine wpAny_bind (wpAny_holding (unpackItems_list (I.ok.hd hc) ht.isList fun h' hx => ?_))
  have I1 : Inv X pins σ H { s with heap := h' } := I.kept (t' := s.toks) fun b o e => hx b o (Nat.ne_of_lt (Heap.lt_size e)) e
  exact h pins _ σ H xs _ Q I1 (by simpa using rv) hw
theorem pg_or {tgt : Expr} {t t' : TG} (h : PG X tgt t) (h' : PG X tgt t') : PG X tgt (fun v σ H Q => t v σ H Q ∨ t' v σ H Q) := fun pins s σ H v u Q I r q => q.elim (h pins s σ H v u Q I r) (h' pins s σ H v u Q I r)
theorem pg_seq {k : Nat} (hc : X.calm = true) (h : PGs X es (tVs is)) (hn : (assignEach es X.env).length = is.length := by rfl) (hst : (assignEach es X.env).findIdx? (·.1) = none := by rfl) :
    PG X (.Tuple es k pos) (fun v σ H Q => ∃ a xs, v = .ref a ∧ (SqT X.K H a xs ∨ SqL X.K H a xs) ∧ xs.length = is.length ∧ Q (setV σ is xs) H) :=
  pg_weak (pg_or (pg_tup hc h hn hst) (pg_list hc h hn hst)) fun v σ H Q ⟨a, xs, e, hq, hl, q⟩ => hq.elim (fun z => .inl ⟨a, xs, e, z, hl, hl, q⟩) fun z => .inr ⟨a, xs, e, z, hl, hl, q⟩
def partsOf (n : Nat) (d : D) : Option (List D) := match d with
  | .tup ds => if ds.length = n then some ds else none
  | .lst ds => if ds.length = n then some ds else none
  | _ => none
theorem partsOf_rep {K : PySem.W.Frag} {H : Hp} {n : Nat} {d : D} {ds : List D} {v : V} (h : partsOf n d = some ds) (r : Rep K H d v) : ∃ a vs, v = .ref a ∧ (SqT K H a vs ∨ SqL K H a vs) ∧ vs.length = n ∧ Reps K H ds vs := by
  unfold partsOf at h
  cases d with
  | tup es =>
    by_cases c : es.length = n
    · simp only [if_pos c] at h; cases h
      obtain ⟨a, vs, rfl, h1, h2⟩ := Rep.tup_iff.mp r
      exact ⟨a, vs, rfl, .inl h1, by rw [← h2.length]; exact c, h2⟩
    · simp only [if_neg c] at h; cases h
  | lst es =>
    by_cases c : es.length = n
    · simp only [if_pos c] at h; cases h
      obtain ⟨a, vs, rfl, h1, h2⟩ := Rep.lst_iff.mp r
      exact ⟨a, vs, rfl, .inr h1, by rw [← h2.length]; exact c, h2⟩
    · simp only [if_neg c] at h; cases h
  | _ => cases h
theorem seq_mono {K : PySem.W.Frag} {H H' : Hp} {a : Addr} {vs : List V} (hs : Same H H') (h : SqT K H a vs ∨ SqL K H a vs) : SqT K H' a vs ∨ SqL K H' a vs := h.elim (fun z => .inl (Same.sqT hs z)) fun z => .inr (Same.sqL hs z)
/-- a, b, .. = e -/
def sUnp (is : List Nat) (f : Ev → Res D) : Ev → Res Fl := fun ρ => (f ρ).bind fun d => match partsOf is.length d with
  | some ds => .ok (.nx (setAll ρ is ds))
  | none => .stuck
theorem ds_unp {k : Nat} {tp : Pos} (hc : X.calm = true) (he : DE X E e f) (h : PGs X es (tVs is)) (hs : swapsWithSole [.Tuple es k tp] e pos.line X.env = pure false := by rfl) (hw : swappedStores [.Tuple es k tp] e X.env = pure none := by rfl)
    (h1 : (assignEach [.Tuple es k tp] X.env).map (·.2) = [assign (.Tuple es k tp) X.env] := by rfl) (hn : (assignEach es X.env).length = is.length := by rfl) (hst : (assignEach es X.env).findIdx? (·.1) = none := by rfl) :
    DS X E He H0e (.Assign [.Tuple es k tp] e pos) (sUnp is f) := by
  refine ps_weak (ps_asg he (pg_seq hc h hn hst) hs hw h1) fun D σ H ⟨H₀, ρ, h, q⟩ => ⟨H₀, ρ, h.g.sub, h.rd, ?_⟩
  refine plain (k := fun d => match partsOf is.length d with
    | some ds => .ok (.nx (setAll ρ is ds))
    | none => .stuck) h q fun d v H' H₀' _ g rp q' => ?_
  cases e1 : partsOf is.length d with
  | none => rw [e1] at q'; exact q'.elim
  | some ds =>
    rw [e1] at q'
    obtain ⟨a, vs, rfl, k1, k2, k3⟩ := partsOf_rep e1 rp
    exact ⟨a, vs, rfl, seq_mono g.sub k1, k2, q' _ H' H₀' (Same.refl _) ((h.grow g).putAll k3)⟩
/-- for a, b in .. -/
def gUnp (is : List Nat) : Ev → D → Res Ev := fun ρ d => match partsOf is.length d with
  | some ds => .ok (setAll ρ is ds)
  | none => .stuck
theorem total_unp : Total (gUnp is) := fun ρ d => by
  unfold gUnp
  cases partsOf is.length d with
  | none => exact .inl rfl
  | some ds => exact .inr ⟨_, rfl⟩
theorem dg_unp {k : Nat} (hc : X.calm = true) (h : PGs X es (tVs is)) (hn : (assignEach es X.env).length = is.length := by rfl) (hst : (assignEach es X.env).findIdx? (·.1) = none := by rfl) : DG X E He H0e (.Tuple es k pos) (gUnp is) :=
  pg_weak (pg_seq hc h hn hst) fun v σ H Q ⟨H₀, ρ, d, h, rp, q⟩ => by
    unfold gUnp at q
    cases e1 : partsOf is.length d with
    | none => rw [e1] at q; exact q.elim
    | some ds =>
      rw [e1] at q
      obtain ⟨a, vs, rfl, k1, k2, k3⟩ := partsOf_rep e1 rp
      exact ⟨a, vs, rfl, seq_mono h.g.sub k1, k2, q _ H H₀ (Same.refl _) (h.putAll k3)⟩
/-- a, b = c, d -/
def sPar (i j : Nat) (fa : Ev → Res (List D)) : Ev → Res Fl := fun ρ => (fa ρ).bind fun ds => match ds with
  | [x, y] => .ok (.nx ((ρ.set i (.sh x)).set j (.sh y)))
  | _ => .stuck
theorem ds_par {i j : Nat} {x y : Str} {px py pt pt2 : Pos} {kt k2} (hc : X.calm = true) (hN : X.N.Nodup) (hi : X.N[i]? = some x) (hj : X.N[j]? = some y) (hij : i ≠ j)
    (hx : X.env.scope.names.lookup x = some .local) (hy : X.env.scope.names.lookup y = some .local) (ha : DA X E [a, b] fa)
    (hw : swappedStores [.Tuple [.Name x px, .Name y py] kt pt] (.Tuple [a, b] k2 pt2) X.env = pure (some [x, y]))
    (hs : swapsWithSole [.Tuple [.Name x px, .Name y py] kt pt] (.Tuple [a, b] k2 pt2) pos.line X.env = pure false := by rfl) :
    DS X E He H0e (.Assign [.Tuple [.Name x px, .Name y py] kt pt] (.Tuple [a, b] k2 pt2) pos) (sPar i j fa) := by
  refine ps_weak (ps_par hc hN hi hj hij hx hy ha hw hs) fun D σ H ⟨H₀, ρ, h, q⟩ => ⟨H₀, ρ, h.g.sub, h.rd, ?_⟩
  unfold sPar at q
  cases e1 : fa ρ with
  | stuck => rw [e1] at q; exact q
  | exn x => rw [e1] at q; exact fun C ox H' H₀' g ex => q C ox H' H₀' (h.g.trans g) ex
  | ok ds =>
    rw [e1] at q
    intro vs H1 H01 g1 r1
    match ds, r1, q with
    | [x, y], r1, q =>
      obtain ⟨v, r', rfl, h1, h2⟩ := Reps.cons_iff.mp r1
      obtain ⟨u, r'', rfl, h3, h4⟩ := Reps.cons_iff.mp h2
      rw [Reps.nil_iff.mp h4]
      exact ⟨v, u, rfl, q _ H1 H01 g1.z (((h.grow g1).put h1).put h3)⟩
    | [], _, q => exact q.elim
    | [_], _, q => exact q.elim
    | _ :: _ :: _ :: _, _, q => exact q.elim
end
end DL

set_option Elab.async false
set_option linter.all false
set_option maxRecDepth 100000
namespace DL
open PySem PySem.Spec PyProof.Rows L2

theorem kit_ok_int {K : PySem.W.Frag} : KitOk K "int" := by
  intro S hS
  simp only [List.mem_cons, List.mem_nil_iff, or_false] at hS
  rcases hS with rfl | rfl | rfl | rfl | rfl | rfl | rfl <;> first | rfl | decide +kernel
theorem kit_ok_bool {K : PySem.W.Frag} : KitOk K "bool" := by
  intro S hS
  simp only [List.mem_cons, List.mem_nil_iff, or_false] at hS
  rcases hS with rfl | rfl | rfl | rfl | rfl | rfl | rfl <;> first | rfl | decide +kernel
theorem kit_ok_str {K : PySem.W.Frag} : KitOk K "str" := by
  intro S hS
  simp only [List.mem_cons, List.mem_nil_iff, or_false] at hS
  rcases hS with rfl | rfl | rfl | rfl | rfl | rfl | rfl <;> first | rfl | decide +kernel
theorem kit_ok_tuple {K : PySem.W.Frag} : KitOk K "tuple" := by
  intro S hS
  simp only [List.mem_cons, List.mem_nil_iff, or_false] at hS
  rcases hS with rfl | rfl | rfl | rfl | rfl | rfl | rfl <;> first | rfl | decide +kernel
theorem kit_ok_list {K : PySem.W.Frag} : KitOk K "list" := by
  intro S hS
  simp only [List.mem_cons, List.mem_nil_iff, or_false] at hS
  rcases hS with rfl | rfl | rfl | rfl | rfl | rfl | rfl <;> first | rfl | decide +kernel
theorem kit_ok_dict {K : PySem.W.Frag} : KitOk K "dict" := by
  intro S hS
  simp only [List.mem_cons, List.mem_nil_iff, or_false] at hS
  rcases hS with rfl | rfl | rfl | rfl | rfl | rfl | rfl <;> first | rfl | decide +kernel
section
variable {X : Cx} {E : XK} {He H0e : Hp} {e a b c : Expr} {f g h : Ev → Res D} {pos : Pos}
theorem dv (i : Nat) {x : Str} (hN : X.N[i]? = some x := by rfl) (hv : Vis X.env.scope x := by first | exact Or.inl rfl | exact Or.inr (Or.inl rfl) | exact Or.inr (Or.inr rfl)) (hd : (x == ("__debug__" : Str)) = false := by decide)
    (hcd : (x == ("__classdict__" : Str)) = false := by decide) : DE X E (.Name x pos) (dVar i) := de_var hN hv hd hcd
/-- a module's constant -/
def Kon (K : PySem.W.Frag) (mg : Str → Option Value) (x : Str) (d : D) : Prop := ∃ v u, mg x = some u ∧ RelV v u ∧ ∀ H, Rep K H d v
theorem de_kon {x : Str} {d : D} (k : Kon X.K X.mg x d) (hg : Gl X x) (hd : (x == ("__debug__" : Str)) = false := by decide) : DE X E (.Name x pos) (dC d) := by
  obtain ⟨v, u, h1, h2, h3⟩ := k
  exact de_glob hg h1 h2 h3 hd
theorem kon_int {K : PySem.W.Frag} {mg : Str → Option Value} {x : Str} {i : Int} {t : Tok} (h : mg x = some (.int i t)) : Kon K mg x (.int i) := ⟨.int i, _, h, ⟨t, rfl⟩, fun _ => ri _⟩
theorem kon_str {K : PySem.W.Frag} {mg : Str → Option Value} {x : Str} {i : Str} {t : Tok} (h : mg x = some (.str i t)) : Kon K mg x (.str i) := ⟨.str i, _, h, ⟨t, rfl⟩, fun _ => Rep.str_iff.mpr rfl⟩
theorem kon_tup {K : PySem.W.Frag} {mg : Str → Option Value} {x : Str} {a : Addr} {od : Option Addr} {its : Array Value} {n : Nat} {sl : Array (Option Value)} {ds : List D} {vs : List V} (h : mg x = some (.ref a)) (l : K.lookup a = some ⟨.type "tuple", od, .seq its n, sl⟩)
    (hv : Vals vs its.toList) (hz : its.size ≤ sizeLine) (hd : ∀ H, Reps K H ds vs) : Kon K mg x (.tup ds) := ⟨.ref a, _, h, rfl, fun H => Rep.tup_iff.mpr ⟨a, vs, rfl, .inr ⟨_, its, n, l, rfl, rfl, hz, hv⟩, hd H⟩⟩
/-- from here on nothing of one's own is changed -/
theorem SRx.frozen {K : PySem.W.Frag} {H₀ H : Hp} {σ : L2.St} {ρ : Ev} (h : SRx K He H0e H₀ σ H ρ) : SRx K He H0e (frz He H₀ H) σ H (shr ρ) := by
  have no : ∀ (i : Nat) (d : D), (shr ρ)[i]? ≠ some (.ow d) := fun i d e => by
    unfold shr at e
    rw [List.getElem?_map] at e
    cases q : ρ[i]? with
    | none => rw [q] at e; cases e
    | some s => rw [q] at e; cases s <;> cases e
  exact ⟨h.frz_grow, h.looks, fun i d e => absurd e (no i d), fun i j d d' _ e => absurd e (no i d), by unfold shr; simp [h.ln]⟩
def sSetZ (i : Nat) (f : Ev → Res D) : Ev → Res Fl := fun ρ => (f (shr ρ)).bind fun d => .ok (.nx ((shr ρ).set i (.sh d)))
theorem ds_setZ {i : Nat} {x : Str} {pos' : Pos} (hN : X.N.Nodup) (hi : X.N[i]? = some x) (hx : Loc X.env.scope x) (he : DE X E e f) (hs : swapsWith e (some (.Name x pos')) pos.line X.env = pure false := by rfl)
    (hf : X.fn x = true ∨ X.env.scope.names.lookup x = some .local := by first | exact .inl rfl | exact .inr rfl | assumption) : DS X E He H0e (.Assign [.Name x pos'] e pos) (sSetZ i f) := by
  refine ps_weak (ds_set (He := He) (H0e := H0e) hN hi hx he hs hf) fun D σ H ⟨H₀, ρ, h, q⟩ => ⟨frz He H₀ H, shr ρ, h.frozen, ?_⟩
  exact postS.grow (r := sSet i f (shr ρ)) q h.frz_sub
/-! ### a op b op c -/
def dChain (op op' : D → D → Res D) (f g h : Ev → Res D) : Ev → Res D := fun ρ => (f ρ).bind fun x => (g ρ).bind fun y => (op x y).bind fun z => match z with
  | .bl true => (h ρ).bind fun w => op' y w
  | .bl false => .ok (.bl false)
  | _ => .stuck
/-- an operation that leaves the heap and never raises -/
def Pure2 (r : R2) (o : D → D → Res D) : Prop := ∀ (K : PySem.W.Frag) (x y : D) (v u : V) (H H₀ : Hp) (Q : VK) (d : D), Same H₀ H → Rep K H₀ x v → Rep K H₀ y u → o x y = .ok d → (∀ w, Rep K H₀ d w → Q w H) → r v u H Q
theorem pure_iop0 {gv : Int → Int → V} {g : Int → Int → D} (hg : ∀ K H i j, Rep K H (g i j) (gv i j)) : Pure2 (rI0 gv) (iop (fun _ _ => true) g) := by
  intro K x y v u H H₀ Q d hs r1 r2 e q
  unfold iop at e
  cases x with
  | int i =>
    cases y with
    | int j => simp only [if_pos] at e; cases e; exact ⟨i, j, Rep.int_iff.mp r1, Rep.int_iff.mp r2, q _ (hg _ _ i j)⟩
    | _ => cases e
  | _ => cases e
def NoExn (o : D → D → Res D) : Prop := ∀ x y, ∀ z, o x y ≠ .exn z
theorem chain_steps {r r' : R2} {o o' : D → D → Res D} (p : Pure2 r o) (p' : Pure2 r' o') (n : NoExn o) (n' : NoExn o') (σ : L2.St) (H : Hp) (Q : VK) (q : tD X.K E (dChain o o' f g h) σ H Q) :
    tChain r r' (tD X.K E f) (tD X.K E g) (tD X.K E h) σ H Q := by
  obtain ⟨H₀, ρ, hs, hr, q⟩ := q
  refine ⟨H₀, ρ, hs, hr, ?_⟩
  unfold dChain at q
  cases e1 : f ρ with
  | stuck => rw [e1] at q; exact q
  | exn x => rw [e1] at q; exact q
  | ok x =>
    rw [e1] at q
    intro v H1 H01 g1 r1
    refine ⟨H01, ρ, g1.sub, hr.mono g1.z, ?_⟩
    replace q := post.grow (r := (g ρ).bind fun y => (o x y).bind fun z => match z with
      | .bl true => (h ρ).bind fun w => o' y w
      | .bl false => .ok (.bl false)
      | _ => .stuck) q g1
    cases e2 : g ρ with
    | stuck => rw [e2] at q; exact q
    | exn x => rw [e2] at q; exact q
    | ok y =>
      rw [e2] at q
      intro u H2 H02 g2 r2
      replace q := post.grow (r := (o x y).bind fun z => match z with
        | .bl true => (h ρ).bind fun w => o' y w
        | .bl false => .ok (.bl false)
        | _ => .stuck) q g2
      cases e3 : o x y with
      | stuck => rw [e3] at q; exact q.elim
      | exn z => exact absurd e3 (n x y z)
      | ok z =>
        rw [e3] at q
        refine p X.K x y v u H2 H02 _ z g2.sub (r1.mono g2.z) r2 e3 fun w rw' => ?_
        cases z with
        | bl b =>
          rw [Rep.bl_iff.mp rw']
          refine ⟨b, rfl, ?_⟩
          cases b with
          | false => rw [if_neg Bool.false_ne_true]; exact q _ H2 H02 (Grow.refl g2.sub) (rb _)
          | true =>
            rw [if_pos rfl]
            refine ⟨H02, ρ, g2.sub, (hr.mono g1.z).mono g2.z, ?_⟩
            replace q : post X.K E H2 H02 ((h ρ).bind fun w => o' y w) Q := q
            cases e4 : h ρ with
            | stuck => rw [e4] at q; exact q
            | exn x => rw [e4] at q; exact q
            | ok w2 =>
              rw [e4] at q
              intro v3 H3 H03 g3 r3
              replace q := post.grow (r := o' y w2) q g3
              cases e5 : o' y w2 with
              | stuck => rw [e5] at q; exact q.elim
              | exn z => exact absurd e5 (n' y w2 z)
              | ok d =>
                rw [e5] at q
                exact p' X.K y w2 u v3 H3 H03 Q d g3.sub (r2.mono g3.z) r3 e5 fun w3 r5 => q w3 H3 H03 (Grow.refl g3.sub) r5
        | _ => exact q.elim
theorem de_chain {op op' : CmpOp} {r r' : R2} {o o' : D → D → Res D} (ho : OpR X (compareOp op) r) (ho' : OpR X (compareOp op') r') (p : Pure2 r o) (p' : Pure2 r' o') (n : NoExn o) (n' : NoExn o') (ha : DE X E a f) (hb : DE X E b g) (hc : DE X E c h)
    (hm : lastMarks [op, op'] [b, c] = false := by with_unfolding_all rfl) : DE X E (.Compare a [op, op'] [b, c] pos) (dChain o o' f g h) := pe_weak (pe_chain ho ho' ha hb hc hm) (chain_steps p p' n n')
theorem dt_chain {op op' : CmpOp} {r r' : R2} {o o' : D → D → Res D} (ho : OpR X (compareOp op) r) (ho' : OpR X (compareOp op') r') (p : Pure2 r o) (p' : Pure2 r' o') (n : NoExn o) (n' : NoExn o') (ha : DE X E a f) (hb : DE X E b g) (hc : DE X E c h)
    (hm : lastMarks [op, op'] [b, c] = false := by with_unfolding_all rfl) : DT X E (.Compare a [op, op'] [b, c] pos) (dChain o o' f g h) := by
  refine pt_weak (pt_chain ho ho' ha hb hc hm) fun σ H Q q => ?_
  have w : tD X.K E (dChain o o' f g h) σ H fun x H' => ∃ k, x = .bl k ∧ Q k H' := by
    obtain ⟨H₀, ρ, hs, hr, q⟩ := q
    refine ⟨H₀, ρ, hs, hr, ?_⟩
    cases e1 : dChain o o' f g h ρ with
    | stuck => rw [e1] at q; exact q
    | exn x => rw [e1] at q; exact q
    | ok d =>
      rw [e1] at q
      intro v H1 H01 g1 r1
      cases d with
      | bl b => rw [Rep.bl_iff.mp r1]; exact ⟨b, rfl, q H1 H01 g1⟩
      | _ => exact q.elim
  exact chain_steps p p' n n' σ H _ w
theorem noexn_iop {c : Int → Int → Bool} {g : Int → Int → D} : NoExn (iop c g) := by
  intro x y z
  unfold iop
  cases x <;> cases y <;> simp <;> split <;> simp
end
end DL
namespace DL
open PySem PySem.Spec PyProof.Rows L2
def fuelInt (i : Nat) : Ev → Nat := fun ρ => match ρ[i]? with
  | some (.sh (.int j)) => j.natAbs + 1
  | _ => 0
/-! ### * : ints, a list times an int -/
section
variable {X : Cx} {E : XK} {a b : Expr} {f g : Ev → Res D} {pos : Pos}
def dMulL (x y : D) : Res D := match x, y with
  | .int i, .int j => if mulOk i j = true then .ok (.int (i * j)) else .stuck
  | _, _ => .stuck
theorem de_mul (ha : DE X E a f) (hb : DE X E b g) : DE X E (.BinOp a .Mult b pos) (bind2 f g dMulL) := de_op op_mulB (by
  intro x y v u H H₀ Q hs r1 r2 q
  unfold dMulL at q
  cases x with
  | int i =>
    cases y with
    | int j =>
      by_cases h : mulOk i j = true
      · simp only [if_pos h] at q
        exact ⟨i, j, Rep.int_iff.mp r1, Rep.int_iff.mp r2, mulOk.ok h, done_at hs q (ri _)⟩
      · simp only [if_neg h] at q; exact q.elim
    | _ => exact q.elim
  | _ => exact q.elim) ha hb
end
end DL

set_option Elab.async false
set_option linter.all false
set_option maxRecDepth 100000
namespace Com
open PySem L2 DL
def b__law_draws : Ev → Res Fl :=
  (sSeq (sSet 2 (bindA (aCons (dVar 0) (aCons (bind2 (bind1 (dC (.int 1)) dNeg) (dVar 0) dSub) aNil)) (m2 dMax)))
  (sSeq (sSet 3 (dVar 2))
  (sSeq (sOwn 4 (bindA aNil mLst))
  (sSeq (sForR (bindA (aCons (dVar 1) aNil) (m1 dLen)) (gSet 5)
  (sSeq (sIf (dAnd (bind2 (dVar 2) (bind2 (dC (.int 10)) (dC (.int 18)) dPow) dGe) (bind2 (dVar 3) (dC (.int 0)) dGt))
  (sSeq (sAppend 4 (bind2 (dVar 3) (bind2 (dVar 1) (dVar 5) dIx) dMod))
  (sSeq (sSet 3 (bind2 (dVar 3) (bind2 (dVar 1) (dVar 5) dIx) dDiv))
  sNext))
  (sSeq (sSet 6 (bind2 (bind2 (bind2 (bind2 (bind2 (bind2 (dVar 2) (dC (.int 2147483647)) dMod) (bind2 (bind2 (dC (.int 1009)) (dVar 5) dMulL) (dVar 5) dMulL) dAdd) (bind2 (dC (.int 31)) (dVar 5) dMulL) dAdd) (dC (.int 7)) dAdd) (dC (.int 48271)) dMulL) (dC (.int 2147483629)) dMod))
  (sSeq (sSet 6 (bind2 (bind2 (bind2 (bind2 (bind2 (dVar 6) (dVar 6) dMulL) (dC (.int 2147483647)) dMod) (dVar 5) dAdd) (dC (.int 39373)) dMulL) (dC (.int 2147483587)) dMod))
  (sSeq (sAppend 4 (bind2 (bind2 (dVar 6) (dC (.int 8)) dDiv) (bind2 (dVar 1) (dVar 5) dIx) dMod))
  sNext))))
  sNext))
  (sSeq (sRet (dVar 4))
  sNext)))))
def m__law_draws : List D → Res D := runD 7 b__law_draws
def b__law_divisor : Ev → Res Fl :=
  (sSeq (sWhile (fuelInt 1) (bind2 (dVar 1) (dC (.int 0)) dNe)
  (sSeq (sPar 0 1 (aCons (dVar 1) (aCons (bind2 (dVar 0) (dVar 1) dMod) aNil)))
  sNext))
  (sSeq (sRet (bindA (aCons (dVar 0) aNil) (m1 dAbs)))
  sNext))
def m__law_divisor : List D → Res D := runD 2 b__law_divisor
def b__law_lowest : Ev → Res Fl :=
  (sSeq (sSet 2 (bindA (aCons (dVar 0) (aCons (dVar 1) aNil)) m__law_divisor))
  (sSeq (sRet (bindA (aCons (bind2 (dVar 0) (dVar 2) dDiv) (aCons (bind2 (dVar 1) (dVar 2) dDiv) aNil)) mTup))
  sNext))
def m__law_lowest : List D → Res D := runD 3 b__law_lowest
def b__law_whole : Ev → Res Fl :=
  (sSeq (sRet (dAnd (bind1 (dVar 0) (dIsI "int")) (dNot (bind1 (dVar 0) (dIsI "bool")))))
  sNext)
def m__law_whole : List D → Res D := runD 1 b__law_whole
def b__law_is_ratio : Ev → Res Fl :=
  (sSeq (sIf (dOr (dNot (bind1 (dVar 0) (dIsI "tuple"))) (bind2 (bindA (aCons (dVar 0) aNil) (m1 dLen)) (dC (.int 2)) dNe))
  (sSeq (sRet (dC (.bl false)))
  sNext)
  sNext)
  (sSeq (sIf (dOr (dNot (bindA (aCons (bind2 (dVar 0) (dC (.int 0)) dIx) aNil) m__law_whole)) (dOr (dNot (bindA (aCons (bind2 (dVar 0) (dC (.int 1)) dIx) aNil) m__law_whole)) (bind2 (bind2 (dVar 0) (dC (.int 1)) dIx) (dC (.int 1)) dLt)))
  (sSeq (sRet (dC (.bl false)))
  sNext)
  sNext)
  (sSeq (sRet (bind2 (bindA (aCons (bind2 (dVar 0) (dC (.int 0)) dIx) (aCons (bind2 (dVar 0) (dC (.int 1)) dIx) aNil)) m__law_divisor) (dC (.int 1)) dEq))
  sNext)))
def m__law_is_ratio : List D → Res D := runD 1 b__law_is_ratio
def b_is_whole : Ev → Res Fl :=
  (sSeq (sRet (dAnd (bind1 (dVar 0) (dIsI "int")) (dNot (bind1 (dVar 0) (dIsI "bool")))))
  sNext)
def m_is_whole : List D → Res D := runD 1 b_is_whole
def b_common_divisor : Ev → Res Fl :=
  (sSeq (sSet 2 (bindA (aCons (dVar 0) aNil) (m1 dAbs)))
  (sSeq (sSet 3 (bindA (aCons (dVar 1) aNil) (m1 dAbs)))
  (sSeq (sWhile (fuelInt 3) (bind2 (dVar 3) (dC (.int 0)) dNe)
  (sSeq (sSet 4 (bind2 (dVar 2) (dVar 3) dMod))
  (sSeq (sSet 2 (dVar 3))
  (sSeq (sSet 3 (dVar 4))
  sNext))))
  (sSeq (sRet (dVar 2))
  sNext))))
def m_common_divisor : List D → Res D := runD 5 b_common_divisor
def b_ratio : Ev → Res Fl :=
  (sSeq (sIf (dOr (dNot (bindA (aCons (dVar 0) aNil) m_is_whole)) (dNot (bindA (aCons (dVar 1) aNil) m_is_whole)))
  (sSeq sStuck
  sNext)
  sNext)
  (sSeq (sIf (bind2 (dVar 1) (dC (.int 0)) dEq)
  (sSeq sStuck
  sNext)
  sNext)
  (sSeq (sSet 2 (bindA (aCons (dVar 0) (aCons (dVar 1) aNil)) m_common_divisor))
  (sSeq (sIf (bind2 (dVar 1) (dC (.int 0)) dLt)
  (sSeq (sSet 2 (bind1 (dVar 2) dNeg))
  sNext)
  sNext)
  (sSeq (sRet (bindA (aCons (bind2 (dVar 0) (dVar 2) dDiv) (aCons (bind2 (dVar 1) (dVar 2) dDiv) aNil)) mTup))
  sNext)))))
def m_ratio : List D → Res D := runD 3 b_ratio
def b_plus : Ev → Res Fl :=
  (sSeq (sRet (bindA (aCons (bind2 (bind2 (bind2 (dVar 0) (dC (.int 0)) dIx) (bind2 (dVar 1) (dC (.int 1)) dIx) dMulL) (bind2 (bind2 (dVar 1) (dC (.int 0)) dIx) (bind2 (dVar 0) (dC (.int 1)) dIx) dMulL) dAdd) (aCons (bind2 (bind2 (dVar 0) (dC (.int 1)) dIx) (bind2 (dVar 1) (dC (.int 1)) dIx) dMulL) aNil)) m_ratio))
  sNext)
def m_plus : List D → Res D := runD 2 b_plus
def b_is_less : Ev → Res Fl :=
  (sSeq (sRet (bind2 (bind2 (bind2 (dVar 0) (dC (.int 0)) dIx) (bind2 (dVar 1) (dC (.int 1)) dIx) dMulL) (bind2 (bind2 (dVar 1) (dC (.int 0)) dIx) (bind2 (dVar 0) (dC (.int 1)) dIx) dMulL) dLt))
  sNext)
def m_is_less : List D → Res D := runD 2 b_is_less
def b_sum_of : Ev → Res Fl :=
  (sSeq (sSet 1 (dC (.tup [(.int 0), (.int 1)])))
  (sSeq (sFor (dVar 0) (gSet 2)
  (sSeq (sSet 1 (bindA (aCons (dVar 1) (aCons (dVar 2) aNil)) m_plus))
  sNext))
  (sSeq (sRet (dVar 1))
  sNext)))
def m_sum_of : List D → Res D := runD 3 b_sum_of

/-! ### evaluation -/
theorem set0 {a x : Sl} {r : Ev} : (a :: r).set 0 x = x :: r := rfl
theorem setS {a x : Sl} {r : Ev} {n : Nat} : (a :: r).set (n + 1) x = a :: r.set n x := rfl
theorem bok {α β : Type} {a : α} {f : α → Res β} : (Res.ok a).bind f = f a := rfl
theorem bst {α β : Type} {f : α → Res β} : (Res.stuck : Res α).bind f = .stuck := rfl
theorem seq_nx {s t : Ev → Res Fl} {ρ ρ' : Ev} (h : s ρ = .ok (.nx ρ')) : sSeq s t ρ = t ρ' := by unfold sSeq; rw [h]; rfl
theorem seq_rt {s t : Ev → Res Fl} {ρ : Ev} {d : D} (h : s ρ = .ok (.rt d)) : sSeq s t ρ = .ok (.rt d) := by unfold sSeq; rw [h]; rfl
theorem seq_next {s : Ev → Res Fl} {ρ ρ' : Ev} (h : s ρ = .ok (.nx ρ')) : sSeq s sNext ρ = .ok (.nx ρ') := by unfold sSeq; rw [h]; rfl
theorem set_ok {i : Nat} {f : Ev → Res D} {ρ : Ev} {d : D} (h : f ρ = .ok d) : sSet i f ρ = .ok (.nx (ρ.set i (.sh d))) := by unfold sSet; rw [h]; rfl
theorem ret_ok {f : Ev → Res D} {ρ : Ev} {d : D} (h : f (shr ρ) = .ok d) : sRet f ρ = .ok (.rt d) := by unfold sRet; rw [h]; rfl
theorem if_t {c : Ev → Res D} {s t : Ev → Res Fl} {ρ : Ev} (h : c (shr ρ) = .ok (.bl true)) : sIf c s t ρ = s ρ := by unfold sIf; rw [h]; rfl
theorem if_f {c : Ev → Res D} {s t : Ev → Res Fl} {ρ : Ev} (h : c (shr ρ) = .ok (.bl false)) : sIf c s t ρ = t ρ := by unfold sIf; rw [h]; rfl
theorem if_b {c : Ev → Res D} {s t : Ev → Res Fl} {ρ : Ev} {b : Bool} (h : c (shr ρ) = .ok (.bl b)) : sIf c s t ρ = if b = true then s ρ else t ρ := by unfold sIf; rw [h]; rfl
theorem ne_int {i j : Int} : dNe (.int i) (.int j) = .ok (.bl (!(i == j))) := by unfold dNe; rw [if_pos ⟨rfl, rfl⟩, eqD]
theorem eq_int {i j : Int} : dEq (.int i) (.int j) = .ok (.bl (i == j)) := by unfold dEq; rw [if_pos ⟨rfl, rfl⟩, eqD]

theorem run_rt {n : Nat} {s : Ev → Res Fl} {ds : List D} {d : D} (h : s (ds.map Sl.sh ++ List.replicate (n - ds.length) .no) = .ok (.rt d)) : runD n s ds = .ok d := by unfold runD; rw [h]; rfl
theorem acons_ok {f : Ev → Res D} {fa : Ev → Res (List D)} {ρ : Ev} {x : D} {xs : List D} (h : f ρ = .ok x) (h' : fa ρ = .ok xs) : aCons f fa ρ = .ok (x :: xs) := by unfold aCons; rw [h, bok, h']; rfl
theorem bind2_ok {f g : Ev → Res D} {op : D → D → Res D} {ρ : Ev} {x y : D} (h : f ρ = .ok x) (h' : g ρ = .ok y) : bind2 f g op ρ = op x y := by unfold bind2; rw [h, bok, h']; rfl
theorem bind1_ok {f : Ev → Res D} {op : D → Res D} {ρ : Ev} {x : D} (h : f ρ = .ok x) : bind1 f op ρ = op x := by unfold bind1; rw [h]; rfl
theorem bindA_ok {fa : Ev → Res (List D)} {m : List D → Res D} {ρ : Ev} {xs : List D} (h : fa ρ = .ok xs) : bindA fa m ρ = m xs := by unfold bindA; rw [h]; rfl
theorem mod_ok {a b : Int} (h : b ≠ 0) : dMod (.int a) (.int b) = .ok (.int (a.fmod b)) := by
  show (if decide (b ≠ 0) = true then Res.ok (D.int (a.fmod b)) else .stuck) = _
  rw [if_pos (decide_eq_true h)]
theorem div_ok {a b : Int} (h : divOk a b = true) : dDiv (.int a) (.int b) = .ok (.int (a.fdiv b)) := by
  show (if divOk a b = true then Res.ok (D.int (a.fdiv b)) else .stuck) = _
  rw [if_pos h]
theorem mul_ok {a b : Int} (h : mulOk a b = true) : dMulL (.int a) (.int b) = .ok (.int (a * b)) := by
  show (if mulOk a b = true then Res.ok (D.int (a * b)) else .stuck) = _
  rw [if_pos h]

/-! ### the greatest divisor -/
theorem gcd_step (a b : Int) : Int.gcd b (a.fmod b) = Int.gcd a b := by
  rw [Int.fmod_def, Int.gcd_sub_mul_left_right, Int.gcd_comm]
theorem fmod_lt {a b : Int} (h : b ≠ 0) : (a.fmod b).natAbs < b.natAbs := by
  rcases Int.lt_or_gt_of_ne h with hb | hb
  · have h1 := Int.fmod_lt_of_pos (-a) (show 0 < -b by omega)
    have h2 := Int.fmod_nonneg_of_pos (-a) (show 0 < -b by omega)
    rw [Int.neg_fmod_neg] at h1 h2
    omega
  · have h1 := Int.fmod_lt_of_pos a hb
    have h2 := Int.fmod_nonneg_of_pos a hb
    omega
theorem divisor_loop : ∀ (n : Nat) (a b : Int), b.natAbs < n → ∃ g : Int, g.natAbs = Int.gcd a b ∧
    whileD (bind2 (dVar 1) (dC (.int 0)) dNe) (sSeq (sPar 0 1 (aCons (dVar 1) (aCons (bind2 (dVar 0) (dVar 1) dMod) aNil))) sNext) n [.sh (.int a), .sh (.int b)] = .ok (.nx [.sh (.int g), .sh (.int 0)])
  | 0, a, b, h => absurd h (Nat.not_lt_zero _)
  | n + 1, a, b, h => by
    unfold whileD
    have c : (bind2 (dVar 1) (dC (.int 0)) dNe) (shr [.sh (.int a), .sh (.int b)]) = .ok (.bl (!(b == 0))) := ne_int
    rw [c]
    by_cases hb : b = 0
    · subst hb
      exact ⟨a, by simp, rfl⟩
    · have e : (!(b == 0)) = true := by simp [hb]
      obtain ⟨g, h1, h2⟩ := divisor_loop n b (a.fmod b) (by have := fmod_lt (a := a) hb; omega)
      refine ⟨g, by rw [h1, gcd_step], ?_⟩
      rw [← h2]
      rw [e]
      have st : (sSeq (sPar 0 1 (aCons (dVar 1) (aCons (bind2 (dVar 0) (dVar 1) dMod) aNil))) sNext) [.sh (.int a), .sh (.int b)] = .ok (.nx [.sh (.int b), .sh (.int (a.fmod b))]) := by
        refine seq_next ?_
        unfold sPar
        have : (aCons (dVar 1) (aCons (bind2 (dVar 0) (dVar 1) dMod) aNil)) [.sh (.int a), .sh (.int b)] = .ok [.int b, .int (a.fmod b)] := by
          exact acons_ok rfl (acons_ok (mod_ok hb) rfl)
        rw [this]
        rfl
      show (Res.bind _ _) = _
      rw [st]
      rfl
theorem divisor_eq (a b : Int) : m__law_divisor [.int a, .int b] = .ok (.int (Int.gcd a b)) := by
  obtain ⟨g, h1, h2⟩ := divisor_loop (b.natAbs + 1) a b (Nat.lt_succ_self _)
  have w : sWhile (fuelInt 1) (bind2 (dVar 1) (dC (.int 0)) dNe) (sSeq (sPar 0 1 (aCons (dVar 1) (aCons (bind2 (dVar 0) (dVar 1) dMod) aNil))) sNext) [.sh (.int a), .sh (.int b)] = .ok (.nx [.sh (.int g), .sh (.int 0)]) := h2
  have r : b__law_divisor [.sh (.int a), .sh (.int b)] = .ok (.rt (.int (if g < 0 then -g else g))) := by
    unfold b__law_divisor
    rw [seq_nx w]
    exact seq_rt (ret_ok rfl)
  show (b__law_divisor [.sh (.int a), .sh (.int b)]).bind _ = _
  rw [r]
  show Res.ok (D.int (if g < 0 then -g else g)) = _
  congr 2
  rw [← h1]
  split <;> omega
theorem common_loop : ∀ (n : Nat) (x y : D) (a b : Int) (r : Sl), 0 ≤ a → 0 ≤ b → b.natAbs < n → ∃ r',
    whileD (bind2 (dVar 3) (dC (.int 0)) dNe) (sSeq (sSet 4 (bind2 (dVar 2) (dVar 3) dMod)) (sSeq (sSet 2 (dVar 3)) (sSeq (sSet 3 (dVar 4)) sNext))) n [.sh x, .sh y, .sh (.int a), .sh (.int b), r] = .ok (.nx [.sh x, .sh y, .sh (.int (Int.gcd a b)), .sh (.int 0), r'])
  | 0, _, _, a, b, _, _, _, h => absurd h (Nat.not_lt_zero _)
  | n + 1, x, y, a, b, r, ha, hb0, h => by
    unfold whileD
    have c : ∀ r, (bind2 (dVar 3) (dC (.int 0)) dNe) (shr [.sh x, .sh y, .sh (.int a), .sh (.int b), r]) = .ok (.bl (!(b == 0))) := fun r => ne_int
    rw [c]
    by_cases hb : b = 0
    · subst hb
      refine ⟨r, ?_⟩
      have e : ((Int.gcd a 0 : Nat) : Int) = a := by simp; omega
      rw [e]
      rfl
    · have e : (!(b == 0)) = true := by simp [hb]
      have hp : 0 < b := by omega
      obtain ⟨r', h2⟩ := common_loop n x y b (a.fmod b) (.sh (.int (a.fmod b))) hb0 (Int.fmod_nonneg_of_pos a hp) (by have := fmod_lt (a := a) hb; omega)
      refine ⟨r', ?_⟩
      rw [gcd_step] at h2
      rw [← h2, e]
      have st : (sSeq (sSet 4 (bind2 (dVar 2) (dVar 3) dMod)) (sSeq (sSet 2 (dVar 3)) (sSeq (sSet 3 (dVar 4)) sNext))) [.sh x, .sh y, .sh (.int a), .sh (.int b), r] = .ok (.nx [.sh x, .sh y, .sh (.int b), .sh (.int (a.fmod b)), .sh (.int (a.fmod b))]) := by
        have m : (bind2 (dVar 2) (dVar 3) dMod) [.sh x, .sh y, .sh (.int a), .sh (.int b), r] = .ok (.int (a.fmod b)) := by
          exact mod_ok hb
        rw [seq_nx (set_ok m)]
        rfl
      show (Res.bind _ _) = _
      rw [st]
      rfl
theorem common_eq (a b : Int) : m_common_divisor [.int a, .int b] = .ok (.int (Int.gcd a b)) := by
  have e : ∀ i : Int, (if i < 0 then -i else i) = (i.natAbs : Int) := fun i => by split <;> omega
  obtain ⟨r', h⟩ := common_loop ((b.natAbs : Int).natAbs + 1) (.int a) (.int b) a.natAbs b.natAbs .no (Int.natCast_nonneg _) (Int.natCast_nonneg _) (Nat.lt_succ_self _)
  have hg : Int.gcd (a.natAbs : Int) (b.natAbs : Int) = Int.gcd a b := by simp [Int.gcd]
  rw [hg] at h
  have r : b_common_divisor [.sh (.int a), .sh (.int b), .no, .no, .no] = .ok (.rt (.int (Int.gcd a b))) := by
    unfold b_common_divisor
    rw [seq_nx (ρ' := [.sh (.int a), .sh (.int b), .sh (.int (a.natAbs : Int)), .no, .no]) (by rw [← e a]; rfl)]
    rw [seq_nx (ρ' := [.sh (.int a), .sh (.int b), .sh (.int (a.natAbs : Int)), .sh (.int (b.natAbs : Int)), .no]) (by rw [← e b]; rfl)]
    have w : sWhile (fuelInt 3) (bind2 (dVar 3) (dC (.int 0)) dNe) (sSeq (sSet 4 (bind2 (dVar 2) (dVar 3) dMod)) (sSeq (sSet 2 (dVar 3)) (sSeq (sSet 3 (dVar 4)) sNext))) [.sh (.int a), .sh (.int b), .sh (.int (a.natAbs : Int)), .sh (.int (b.natAbs : Int)), .no] = .ok (.nx [.sh (.int a), .sh (.int b), .sh (.int (Int.gcd a b)), .sh (.int 0), r']) := h
    rw [seq_nx w]
    exact seq_rt (ret_ok rfl)
  show (b_common_divisor [.sh (.int a), .sh (.int b), .no, .no, .no]).bind _ = _
  rw [r]
  rfl

/-! ### small things -/
theorem and_ok {f g : Ev → Res D} {ρ : Ev} {b c : Bool} (h : f ρ = .ok (.bl b)) (h' : g ρ = .ok (.bl c)) : dAnd f g ρ = .ok (.bl (b && c)) := by
  unfold dAnd; rw [h, bok]; cases b
  · rfl
  · exact h'
theorem or_ok {f g : Ev → Res D} {ρ : Ev} {b c : Bool} (h : f ρ = .ok (.bl b)) (h' : g ρ = .ok (.bl c)) : dOr f g ρ = .ok (.bl (b || c)) := by
  unfold dOr; rw [h, bok]; cases b
  · exact h'
  · rfl
theorem and_f {f g : Ev → Res D} {ρ : Ev} (h : f ρ = .ok (.bl false)) : dAnd f g ρ = .ok (.bl false) := by unfold dAnd; rw [h, bok]
theorem or_t {f g : Ev → Res D} {ρ : Ev} (h : f ρ = .ok (.bl true)) : dOr f g ρ = .ok (.bl true) := by unfold dOr; rw [h, bok]
theorem and_t {f g : Ev → Res D} {ρ : Ev} (h : f ρ = .ok (.bl true)) : dAnd f g ρ = g ρ := by unfold dAnd; rw [h, bok]
theorem or_f {f g : Ev → Res D} {ρ : Ev} (h : f ρ = .ok (.bl false)) : dOr f g ρ = g ρ := by unfold dOr; rw [h, bok]
theorem not_ok {f : Ev → Res D} {ρ : Ev} {b : Bool} (h : f ρ = .ok (.bl b)) : dNot f ρ = .ok (.bl (!b)) := by unfold dNot bind1; rw [h]; rfl
theorem pow_lt_B60 : (2 : Nat) ^ 64 ≤ B60 := by rw [B60_eq]; exact Nat.pow_le_pow_right (by decide) (by decide)
theorem lt60 {i : Int} (h : i.natAbs < 18446744073709551616) : i.natAbs < B60 := Nat.lt_of_lt_of_le h pow_lt_B60
theorem mulSmall {i j : Int} (h : i.natAbs < 18446744073709551616) (h' : j.natAbs < 18446744073709551616) : mulOk i j = true := by
  unfold mulOk
  rw [Bool.and_eq_true]
  exact ⟨decide_eq_true (lt60 h), decide_eq_true (lt60 h')⟩
theorem mulBig {i j : Int} (h : i.natAbs < B60) (h' : j.natAbs < B60) : mulOk i j = true := by
  unfold mulOk
  rw [Bool.and_eq_true]
  exact ⟨decide_eq_true h, decide_eq_true h'⟩
theorem divB9 {i j : Int} (h0 : j ≠ 0) (h : j.natAbs < B9) : divOk i j = true := by
  unfold divOk
  rw [Bool.and_eq_true, Bool.or_eq_true]
  exact ⟨decide_eq_true h0, .inl (decide_eq_true h)⟩
theorem divB13 {i j : Int} (h0 : j ≠ 0) (h : i.natAbs < B13) : divOk i j = true := by
  unfold divOk
  rw [Bool.and_eq_true, Bool.or_eq_true]
  exact ⟨decide_eq_true h0, .inr (decide_eq_true h)⟩
theorem pow_lt_B9 : (2 : Nat) ^ 64 ≤ B9 := by rw [B9_eq]; exact Nat.pow_le_pow_right (by decide) (by decide)
theorem lt9 {i : Int} (h : i.natAbs < 18446744073709551616) : i.natAbs < B9 := Nat.lt_of_lt_of_le h pow_lt_B9
theorem ix_lst {ds : List D} {k : Nat} {d : D} (h : ds[k]? = some d) : dIx (.lst ds) (.int (k : Int)) = .ok d := by
  unfold dIx
  simp only [atI_nat h]
theorem ix_tup {ds : List D} {k : Nat} {d : D} (h : ds[k]? = some d) : dIx (.tup ds) (.int (k : Int)) = .ok d := by
  unfold dIx
  simp only [atI_nat h]

/-! ### digits -/
def digits_body : Ev → Res Fl :=
  (sSeq (sIf (dAnd (bind2 (dVar 2) (bind2 (dC (.int 10)) (dC (.int 18)) dPow) dGe) (bind2 (dVar 3) (dC (.int 0)) dGt))
  (sSeq (sAppend 4 (bind2 (dVar 3) (bind2 (dVar 1) (dVar 5) dIx) dMod))
  (sSeq (sSet 3 (bind2 (dVar 3) (bind2 (dVar 1) (dVar 5) dIx) dDiv))
  sNext))
  (sSeq (sSet 6 (bind2 (bind2 (bind2 (bind2 (bind2 (bind2 (dVar 2) (dC (.int 2147483647)) dMod) (bind2 (bind2 (dC (.int 1009)) (dVar 5) dMulL) (dVar 5) dMulL) dAdd) (bind2 (dC (.int 31)) (dVar 5) dMulL) dAdd) (dC (.int 7)) dAdd) (dC (.int 48271)) dMulL) (dC (.int 2147483629)) dMod))
  (sSeq (sSet 6 (bind2 (bind2 (bind2 (bind2 (bind2 (dVar 6) (dVar 6) dMulL) (dC (.int 2147483647)) dMod) (dVar 5) dAdd) (dC (.int 39373)) dMulL) (dC (.int 2147483587)) dMod))
  (sSeq (sAppend 4 (bind2 (bind2 (dVar 6) (dC (.int 8)) dDiv) (bind2 (dVar 1) (dVar 5) dIx) dMod))
  sNext))))
  sNext)
theorem app_ok {i : Nat} {f : Ev → Res D} {ρ : Ev} {d : D} {ds : List D} (hi : ρ[i]? = some (.ow (.lst ds))) (h : f ρ = .ok d) (hl : ds.length < line) : sAppend i f ρ = .ok (.nx (ρ.set i (.ow (.lst (ds ++ [d]))))) := by
  unfold sAppend ownAt
  rw [hi]
  show (f ρ).bind _ = _
  rw [h, bok, if_pos hl]
theorem fmodr {a b : Int} (hb : 0 < b) : 0 ≤ a.fmod b ∧ a.fmod b < b := ⟨Int.fmod_nonneg_of_pos a hb, Int.fmod_lt_of_pos a hb⟩
theorem digit_step {c : D} {sz : List Int} {num left : Int} {F : List D} {k : Nat} {one : Sl} {s : Int} (hk : sz[k]? = some s) (hs : 0 < s) (h9 : s.natAbs < B9) (hk2 : k < 1000) (hl : F.length < line) (h0 : 0 ≤ left) :
    ∃ v left' one', 0 ≤ v ∧ v < s ∧ 0 ≤ left' ∧ digits_body [.sh c, .sh (.lst (sz.map D.int)), .sh (.int num), .sh (.int left), .ow (.lst F), .sh (.int (k : Int)), one] =
      .ok (.nx [.sh c, .sh (.lst (sz.map D.int)), .sh (.int num), .sh (.int left'), .ow (.lst (F ++ [.int v])), .sh (.int (k : Int)), one']) := by
  have hix : dIx (.lst (sz.map D.int)) (.int (k : Int)) = .ok (.int s) := ix_lst (by rw [List.getElem?_map, hk]; rfl)
  have hc : (dAnd (bind2 (dVar 2) (bind2 (dC (.int 10)) (dC (.int 18)) dPow) dGe) (bind2 (dVar 3) (dC (.int 0)) dGt)) (shr [.sh c, .sh (.lst (sz.map D.int)), .sh (.int num), .sh (.int left), .ow (.lst F), .sh (.int (k : Int)), one]) = .ok (.bl (decide ((10 : Int) ^ (18 : Int).toNat ≤ num) && decide (0 < left))) := by
    refine and_ok ?_ ?_
    · exact (bind2_ok (x := .int num) (y := .int ((10 : Int) ^ (18 : Int).toNat)) rfl rfl).trans rfl
    · exact (bind2_ok (x := .int left) (y := .int 0) rfl rfl).trans rfl
  have hm := fmodr (a := left) hs
  unfold digits_body
  cases hb : (decide ((10 : Int) ^ (18 : Int).toNat ≤ num) && decide (0 < left)) with
  | true =>
    rw [hb] at hc
    refine ⟨left.fmod s, left.fdiv s, one, hm.1, hm.2, Int.fdiv_nonneg h0 (by omega), ?_⟩
    refine seq_next ?_
    rw [if_t hc]
    rw [seq_nx (app_ok (ds := F) (d := .int (left.fmod s)) rfl ((bind2_ok (x := .int left) (y := .int s) rfl ((bind2_ok (x := .lst (sz.map D.int)) (y := .int (k : Int)) rfl rfl).trans hix)).trans (mod_ok (by omega))) hl)]
    exact seq_next (set_ok (d := .int (left.fdiv s)) ((bind2_ok (x := .int left) (y := .int s) rfl ((bind2_ok (x := .lst (sz.map D.int)) (y := .int (k : Int)) rfl rfl).trans hix)).trans (div_ok (divB9 (by omega) h9))))
  | false =>
    rw [hb] at hc
    have hkk : (k : Int) * (k : Int) < 1000000 := by
      have : k * k < 1000 * 1000 := Nat.mul_lt_mul'' hk2 hk2
      omega
    have hkn : (0 : Int) ≤ (k : Int) * (k : Int) := Int.mul_nonneg (by omega) (by omega)
    have a1 := fmodr (a := num) (b := 2147483647) (by decide)
    have hone1 : ((num.fmod 2147483647 + 1009 * (k : Int) * (k : Int) + 31 * (k : Int) + 7) * 48271).fmod 2147483629 = ((num.fmod 2147483647 + 1009 * (k : Int) * (k : Int) + 31 * (k : Int) + 7) * 48271).fmod 2147483629 := rfl
    generalize ho : ((num.fmod 2147483647 + 1009 * (k : Int) * (k : Int) + 31 * (k : Int) + 7) * 48271).fmod 2147483629 = o1
    have a2 : 0 ≤ o1 ∧ o1 < 2147483629 := by rw [← ho]; exact fmodr (by decide)
    have hoo : o1 * o1 < 4611686018427387904 := by
      have h1 : o1 * o1 ≤ 2147483628 * 2147483628 := Int.mul_le_mul (by omega) (by omega) a2.1 (by decide)
      omega
    have hoo0 : 0 ≤ o1 * o1 := Int.mul_nonneg a2.1 a2.1
    generalize ho2 : (((o1 * o1).fmod 2147483647 + (k : Int)) * 39373).fmod 2147483587 = o2
    have a3 : 0 ≤ o2 ∧ o2 < 2147483587 := by rw [← ho2]; exact fmodr (by decide)
    have hm2 := fmodr (a := o2.fdiv 8) hs
    refine ⟨(o2.fdiv 8).fmod s, left, .sh (.int o2), hm2.1, hm2.2, h0, ?_⟩
    refine seq_next ?_
    rw [if_f hc]
    have ea : (1009 : Int) * (k : Int) * (k : Int) = 1009 * ((k : Int) * (k : Int)) := Int.mul_assoc _ _ _
    have e1 : (bind2 (bind2 (bind2 (bind2 (bind2 (bind2 (dVar 2) (dC (.int 2147483647)) dMod) (bind2 (bind2 (dC (.int 1009)) (dVar 5) dMulL) (dVar 5) dMulL) dAdd) (bind2 (dC (.int 31)) (dVar 5) dMulL) dAdd) (dC (.int 7)) dAdd) (dC (.int 48271)) dMulL) (dC (.int 2147483629)) dMod)
        [.sh c, .sh (.lst (sz.map D.int)), .sh (.int num), .sh (.int left), .ow (.lst F), .sh (.int (k : Int)), one] = .ok (.int o1) := by
      rw [← ho]
      refine (bind2_ok (x := .int ((num.fmod 2147483647 + 1009 * (k : Int) * (k : Int) + 31 * (k : Int) + 7) * 48271)) (y := .int 2147483629) ?_ rfl).trans (mod_ok (by decide))
      refine (bind2_ok (x := .int (num.fmod 2147483647 + 1009 * (k : Int) * (k : Int) + 31 * (k : Int) + 7)) (y := .int 48271) ?_ rfl).trans (mul_ok (mulSmall (by omega) (by decide)))
      refine (bind2_ok (x := .int (num.fmod 2147483647 + 1009 * (k : Int) * (k : Int) + 31 * (k : Int))) (y := .int 7) ?_ rfl).trans rfl
      refine (bind2_ok (x := .int (num.fmod 2147483647 + 1009 * (k : Int) * (k : Int))) (y := .int (31 * (k : Int))) ?_ ?_).trans rfl
      · refine (bind2_ok (x := .int (num.fmod 2147483647)) (y := .int (1009 * (k : Int) * (k : Int))) ?_ ?_).trans rfl
        · exact (bind2_ok (x := .int num) (y := .int 2147483647) rfl rfl).trans (mod_ok (by decide))
        · refine (bind2_ok (x := .int (1009 * (k : Int))) (y := .int (k : Int)) ?_ rfl).trans (mul_ok (mulSmall (by omega) (by omega)))
          exact (bind2_ok (x := .int 1009) (y := .int (k : Int)) rfl rfl).trans (mul_ok (mulSmall (by decide) (by omega)))
      · exact (bind2_ok (x := .int 31) (y := .int (k : Int)) rfl rfl).trans (mul_ok (mulSmall (by decide) (by omega)))
    rw [seq_nx (set_ok e1)]
    have a4 := fmodr (a := o1 * o1) (b := 2147483647) (by decide)
    have e2 : (bind2 (bind2 (bind2 (bind2 (bind2 (dVar 6) (dVar 6) dMulL) (dC (.int 2147483647)) dMod) (dVar 5) dAdd) (dC (.int 39373)) dMulL) (dC (.int 2147483587)) dMod)
        [.sh c, .sh (.lst (sz.map D.int)), .sh (.int num), .sh (.int left), .ow (.lst F), .sh (.int (k : Int)), .sh (.int o1)] = .ok (.int o2) := by
      rw [← ho2]
      refine (bind2_ok (x := .int (((o1 * o1).fmod 2147483647 + (k : Int)) * 39373)) (y := .int 2147483587) ?_ rfl).trans (mod_ok (by decide))
      refine (bind2_ok (x := .int ((o1 * o1).fmod 2147483647 + (k : Int))) (y := .int 39373) ?_ rfl).trans (mul_ok (mulSmall (by omega) (by decide)))
      refine (bind2_ok (x := .int ((o1 * o1).fmod 2147483647)) (y := .int (k : Int)) ?_ rfl).trans rfl
      refine (bind2_ok (x := .int (o1 * o1)) (y := .int 2147483647) ?_ rfl).trans (mod_ok (by decide))
      exact (bind2_ok (x := .int o1) (y := .int o1) rfl rfl).trans (mul_ok (mulSmall (by omega) (by omega)))
    refine (seq_nx (set_ok e2)).trans ?_
    refine seq_next (app_ok (ds := F) (d := .int ((o2.fdiv 8).fmod s)) rfl ?_ hl)
    refine (bind2_ok (x := .int (o2.fdiv 8)) (y := .int s) ?_ ((bind2_ok (x := .lst (sz.map D.int)) (y := .int (k : Int)) rfl rfl).trans hix)).trans (mod_ok (by omega))
    exact (bind2_ok (x := .int o2) (y := .int 8) rfl rfl).trans (div_ok (divB9 (by decide) (lt9 (by decide))))

theorem ints_drop {n k : Nat} (h : k < n) : (DL.intsFrom 0 n).drop k = .int (k : Int) :: (DL.intsFrom 0 n).drop (k + 1) := by
  have hl : (DL.intsFrom 0 n).length = n := by unfold DL.intsFrom; simp
  rw [List.drop_eq_getElem_cons (by rw [hl]; exact h)]
  congr 1
  unfold DL.intsFrom
  simp
theorem ints_end {n : Nat} : (DL.intsFrom 0 n).drop n = [] := by
  have hl : (DL.intsFrom 0 n).length = n := by unfold DL.intsFrom; simp
  exact List.drop_eq_nil_of_le (by omega)
theorem forD_nx {tg : Ev → D → Res Ev} {s : Ev → Res Fl} {d : D} {r : List D} {ρ ρ1 ρ2 : Ev} (h1 : tg ρ d = .ok ρ1) (h2 : s ρ1 = .ok (.nx ρ2)) : forD tg s (d :: r) ρ = forD tg s r ρ2 := by
  rw [forD, h1, bok, h2, bok]
theorem forD_rt {tg : Ev → D → Res Ev} {s : Ev → Res Fl} {d v : D} {r : List D} {ρ ρ1 : Ev} (h1 : tg ρ d = .ok ρ1) (h2 : s ρ1 = .ok (.rt v)) : forD tg s (d :: r) ρ = .ok (.rt v) := by
  rw [forD, h1, bok, h2, bok]
theorem digits_loop {c : D} {sz : List Int} {num : Int} (hz : ∀ s ∈ sz, 0 < s ∧ s.natAbs < B9) (hn : sz.length ≤ 1000) : ∀ (j k : Nat), k + j = sz.length → ∀ (left : Int) (F : List Int) (x one : Sl), 0 ≤ left → F.length = k → (∀ (i : Nat) (v s : Int), F[i]? = some v → sz[i]? = some s → 0 ≤ v ∧ v < s) →
    ∃ (left' : Int) (F' : List Int) (x' one' : Sl), F'.length = sz.length ∧ (∀ (i : Nat) (v s : Int), F'[i]? = some v → sz[i]? = some s → 0 ≤ v ∧ v < s) ∧
      forD (gSet 5) digits_body ((DL.intsFrom 0 sz.length).drop k) [.sh c, .sh (.lst (sz.map D.int)), .sh (.int num), .sh (.int left), .ow (.lst (F.map D.int)), x, one] =
        .ok (.nx [.sh c, .sh (.lst (sz.map D.int)), .sh (.int num), .sh (.int left'), .ow (.lst (F'.map D.int)), x', one'])
  | 0, k, hk, left, F, x, one, h0, hF, hb => by
    refine ⟨left, F, x, one, by omega, hb, ?_⟩
    have : k = sz.length := by omega
    rw [this, ints_end]
    rfl
  | j + 1, k, hk, left, F, x, one, h0, hF, hb => by
    have hlt : k < sz.length := by omega
    have hs := hz _ (List.getElem_mem hlt)
    obtain ⟨v, left', one', v0, v1, l0, e⟩ := digit_step (c := c) (num := num) (F := F.map D.int) (one := one) (List.getElem?_eq_getElem hlt) hs.1 hs.2 (by omega) (by rw [List.length_map, hF]; exact Nat.lt_of_lt_of_le hlt (Nat.le_trans hn (by decide))) h0
    have hb' : ∀ (i : Nat) (v' s : Int), (F ++ [v])[i]? = some v' → sz[i]? = some s → 0 ≤ v' ∧ v' < s := by
      intro i v' s h1 h2
      by_cases hi : i < F.length
      · rw [List.getElem?_append_left hi] at h1
        exact hb i v' s h1 h2
      · rw [List.getElem?_append_right (by omega)] at h1
        have hi2 : i - F.length = 0 := by
          cases hq : i - F.length with
          | zero => rfl
          | succ m => rw [hq] at h1; simp at h1
        rw [hi2] at h1
        have hik : i = k := by omega
        subst hik
        rw [List.getElem?_eq_getElem hlt] at h2
        cases h1; cases h2
        exact ⟨v0, v1⟩
    obtain ⟨left2, F2, x2, one2, p1, p2, p3⟩ := digits_loop hz hn j (k + 1) (by omega) left' (F ++ [v]) (.sh (.int (k : Int))) one' l0 (by simp [hF]) hb'
    refine ⟨left2, F2, x2, one2, p1, p2, ?_⟩
    rw [ints_drop hlt, forD_nx (ρ1 := [.sh c, .sh (.lst (sz.map D.int)), .sh (.int num), .sh (.int left), .ow (.lst (F.map D.int)), .sh (.int (k : Int)), one]) rfl e]
    rw [← p3, List.map_append]
    rfl
theorem draws_eq (c : Int) (sz : List Int) (hz : ∀ s ∈ sz, 0 < s ∧ s.natAbs < B9) (hn : sz.length ≤ 1000) :
    ∃ vs : List Int, vs.length = sz.length ∧ (∀ (i : Nat) (v s : Int), vs[i]? = some v → sz[i]? = some s → 0 ≤ v ∧ v < s) ∧ m__law_draws [.int c, .lst (sz.map D.int)] = .ok (.lst (vs.map D.int)) := by
  generalize hnum : (if -1 - c > c then -1 - c else c) = num
  have hn0 : 0 ≤ num := by rw [← hnum]; split <;> omega
  obtain ⟨left', F', x', one', p1, p2, p3⟩ := digits_loop (c := .int c) (num := num) hz hn sz.length 0 (by omega) num [] .no .no hn0 rfl (fun i v s h => by simp at h)
  refine ⟨F', p1, p2, ?_⟩
  have r : b__law_draws [.sh (.int c), .sh (.lst (sz.map D.int)), .no, .no, .no, .no, .no] = .ok (.rt (.lst (F'.map D.int))) := by
    unfold b__law_draws
    rw [seq_nx (ρ' := [.sh (.int c), .sh (.lst (sz.map D.int)), .sh (.int num), .no, .no, .no, .no]) (by rw [← hnum]; rfl)]
    rw [seq_nx (ρ' := [.sh (.int c), .sh (.lst (sz.map D.int)), .sh (.int num), .sh (.int num), .no, .no, .no]) rfl]
    rw [seq_nx (ρ' := [.sh (.int c), .sh (.lst (sz.map D.int)), .sh (.int num), .sh (.int num), .ow (.lst []), .no, .no]) rfl]
    have w : (sForR (bindA (aCons (dVar 1) aNil) (m1 dLen)) (gSet 5) digits_body) [.sh (.int c), .sh (.lst (sz.map D.int)), .sh (.int num), .sh (.int num), .ow (.lst []), .no, .no] =
        .ok (.nx [.sh (.int c), .sh (.lst (sz.map D.int)), .sh (.int num), .sh (.int left'), .ow (.lst (F'.map D.int)), x', one']) := by
      unfold sForR
      have hlen : (bindA (aCons (dVar 1) aNil) (m1 dLen)) (shr [.sh (.int c), .sh (.lst (sz.map D.int)), .sh (.int num), .sh (.int num), .ow (.lst []), .no, .no]) = .ok (.int (sz.length : Int)) := by
        show Res.ok (D.int ((sz.map D.int).length : Int)) = _
        rw [List.length_map]
      rw [hlen, bok]
      show (if _ then _ else _) = _
      rw [if_pos (by omega)]
      rw [← p3]
      rfl
    exact (seq_nx w).trans (seq_rt (ret_ok rfl))
  exact run_rt (n := 7) (ds := [.int c, .lst (sz.map D.int)]) r

/-! ### kinds, lowest terms -/
def isI : D → Bool
  | .int _ => true
  | _ => false
theorem whole_eq (d : D) : m__law_whole [d] = .ok (.bl (isI d)) := by cases d <;> rfl
theorem is_whole_eq (d : D) : m_is_whole [d] = .ok (.bl (isI d)) := by cases d <;> rfl
theorem fdiv_dvd {a g : Int} (hg : 0 < g) : a.fdiv g = a / g := Int.fdiv_eq_ediv_of_nonneg a (by omega)
theorem gcd_pos {a b : Int} (h : b ≠ 0) : 0 < (Int.gcd a b : Int) := by
  have := Int.gcd_pos_of_ne_zero_right a h
  omega
theorem lowest_eq {a b : Int} (hb : 0 < b) (h1 : a.natAbs < B13) (h2 : b.natAbs < B13) : m__law_lowest [.int a, .int b] = .ok (.tup [.int (a / Int.gcd a b), .int (b / Int.gcd a b)]) := by
  have hg := gcd_pos (a := a) (b := b) (by omega)
  have r : b__law_lowest [.sh (.int a), .sh (.int b), .no] = .ok (.rt (.tup [.int (a / Int.gcd a b), .int (b / Int.gcd a b)])) := by
    unfold b__law_lowest
    rw [seq_nx (ρ' := [.sh (.int a), .sh (.int b), .sh (.int (Int.gcd a b))]) (set_ok ((bindA_ok (xs := [.int a, .int b]) rfl).trans (divisor_eq a b)))]
    refine seq_rt (ret_ok ?_)
    refine (bindA_ok (xs := [.int (a / Int.gcd a b), .int (b / Int.gcd a b)]) (acons_ok ?_ (acons_ok ?_ rfl))).trans rfl
    · rw [← fdiv_dvd hg]
      exact (bind2_ok (x := .int a) (y := .int (Int.gcd a b)) rfl rfl).trans (div_ok (divB13 (by omega) h1))
    · rw [← fdiv_dvd hg]
      exact (bind2_ok (x := .int b) (y := .int (Int.gcd a b)) rfl rfl).trans (div_ok (divB13 (by omega) h2))
  show (b__law_lowest [.sh (.int a), .sh (.int b), .no]).bind _ = _
  rw [r]
  rfl
theorem ratio_eq {a b : Int} (hb : 0 < b) (h1 : a.natAbs < B13) (h2 : b.natAbs < B13) : m_ratio [.int a, .int b] = .ok (.tup [.int (a / Int.gcd a b), .int (b / Int.gcd a b)]) := by
  have hg := gcd_pos (a := a) (b := b) (by omega)
  have r : b_ratio [.sh (.int a), .sh (.int b), .no] = .ok (.rt (.tup [.int (a / Int.gcd a b), .int (b / Int.gcd a b)])) := by
    unfold b_ratio
    rw [seq_nx (ρ' := [.sh (.int a), .sh (.int b), .no]) (if_f (t := sNext) rfl)]
    rw [seq_nx (ρ' := [.sh (.int a), .sh (.int b), .no]) (if_f (t := sNext) ((bind2_ok (x := .int b) (y := .int 0) rfl rfl).trans (eq_int.trans (by rw [beq_eq_false_iff_ne.mpr (by omega)]))))]
    rw [seq_nx (ρ' := [.sh (.int a), .sh (.int b), .sh (.int (Int.gcd a b))]) (set_ok ((bindA_ok (xs := [.int a, .int b]) rfl).trans (common_eq a b)))]
    rw [seq_nx (ρ' := [.sh (.int a), .sh (.int b), .sh (.int (Int.gcd a b))]) (if_f (t := sNext) (by
      show Res.ok (D.bl (decide (b < 0))) = _
      rw [decide_eq_false (by omega)]))]
    refine seq_rt (ret_ok ?_)
    refine (bindA_ok (xs := [.int (a / Int.gcd a b), .int (b / Int.gcd a b)]) (acons_ok ?_ (acons_ok ?_ rfl))).trans rfl
    · rw [← fdiv_dvd hg]
      exact (bind2_ok (x := .int a) (y := .int (Int.gcd a b)) rfl rfl).trans (div_ok (divB13 (by omega) h1))
    · rw [← fdiv_dvd hg]
      exact (bind2_ok (x := .int b) (y := .int (Int.gcd a b)) rfl rfl).trans (div_ok (divB13 (by omega) h2))
  show (b_ratio [.sh (.int a), .sh (.int b), .no]).bind _ = _
  rw [r]
  rfl
def frac (p q : Int) : D := .tup [.int p, .int q]
theorem is_ratio_eq {p q : Int} (hq : 1 ≤ q) (hg : Int.gcd p q = 1) : m__law_is_ratio [frac p q] = .ok (.bl true) := by
  have r : b__law_is_ratio [.sh (frac p q)] = .ok (.rt (.bl true)) := by
    unfold b__law_is_ratio
    rw [seq_nx (ρ' := [.sh (frac p q)]) (if_f (t := sNext) rfl)]
    rw [seq_nx (ρ' := [.sh (frac p q)]) (if_f (t := sNext) (by
      refine (or_f ?_).trans ((or_f ?_).trans ?_)
      · rfl
      · rfl
      · show Res.ok (D.bl (decide (q < 1))) = _
        rw [decide_eq_false (by omega)]))]
    refine seq_rt (ret_ok ?_)
    refine (bind2_ok (x := .int (Int.gcd p q)) (y := .int 1) ((bindA_ok (xs := [.int p, .int q]) rfl).trans (divisor_eq p q)) rfl).trans ?_
    rw [eq_int, hg]
    rfl
  show (b__law_is_ratio [.sh (frac p q)]).bind _ = _
  rw [r]
  rfl
end Com

set_option Elab.async false
set_option linter.all false
set_option maxRecDepth 100000
namespace Com
open PySem L2 DL
/-! ### fractions -/
abbrev Fra := Int × Int
def fr (x : Fra) : D := frac x.1 x.2
def N60 : Nat := 1000000000000000000000000000000000000000000000000000000000000
theorem N60_B9 : N60 ≤ B9 := by rw [B9_eq]; exact Nat.le_trans (show N60 ≤ 2 ^ 200 by decide) (Nat.pow_le_pow_right (by decide) (by decide))
theorem N60_B13 : N60 ≤ B13 := by rw [B13_eq]; exact Nat.le_trans (show N60 ≤ 2 ^ 200 by decide) (Nat.pow_le_pow_right (by decide) (by decide))
theorem N60_B60 : N60 ≤ B60 := by rw [B60_eq]; exact Nat.le_trans (show N60 ≤ 2 ^ 200 by decide) (Nat.pow_le_pow_right (by decide) (by decide))
theorem B13_B60 : B13 ≤ B60 := by rw [B13_eq, B60_eq]; exact Nat.pow_le_pow_right (by decide) (by decide)
structure Low (x : Fra) : Prop where
  q1 : 1 ≤ x.2
  g1 : Int.gcd x.1 x.2 = 1
structure Fin60 (x : Fra) : Prop extends Low x where
  pN : x.1.natAbs < N60
  qN : x.2.natAbs < N60
def low (a b : Int) : Fra := (a / Int.gcd a b, b / Int.gcd a b)
theorem low_low {a b : Int} (hb : 0 < b) : Low (low a b) := by
  have hg := gcd_pos (a := a) (b := b) (by omega)
  refine ⟨?_, Int.gcd_ediv_gcd_ediv_gcd (by omega)⟩
  have := Int.ediv_gcd_ne_zero_if_ne_zero_right a (show b ≠ 0 by omega)
  have h2 : 0 ≤ b / (Int.gcd a b : Int) := Int.ediv_nonneg (by omega) (by omega)
  show 1 ≤ b / (Int.gcd a b : Int)
  omega
theorem low_rel {a b : Int} : (low a b).1 * b = a * (low a b).2 := by
  unfold low
  obtain ⟨x, hx⟩ := Int.gcd_dvd_left a b
  obtain ⟨y, hy⟩ := Int.gcd_dvd_right a b
  by_cases hg : (Int.gcd a b : Int) = 0
  · simp only [hg, Int.ediv_zero, Int.zero_mul, Int.mul_zero]
  · generalize hG : (Int.gcd a b : Int) = G at *
    have e1 : a / G = x := by rw [hx]; exact Int.mul_ediv_cancel_left x hg
    have e2 : b / G = y := by rw [hy]; exact Int.mul_ediv_cancel_left y hg
    show a / G * b = a * (b / G)
    rw [e1, e2]
    calc x * b = x * (G * y) := by rw [← hy]
      _ = G * x * y := by grind
      _ = a * y := by rw [← hx]
theorem low_le1 {a b : Int} : (low a b).1.natAbs ≤ a.natAbs := Int.natAbs_ediv_le_natAbs _ _
theorem low_le2 {a b : Int} : (low a b).2.natAbs ≤ b.natAbs := Int.natAbs_ediv_le_natAbs _ _
theorem low_uniq {x y : Fra} (hx : Low x) (hy : Low y) (h : x.1 * y.2 = y.1 * x.2) : x = y := by
  have d1 : x.2 ∣ y.2 := by
    have : x.2 ∣ x.1 * y.2 := ⟨y.1, by rw [h]; exact Int.mul_comm _ _⟩
    rw [← Int.dvd_gcd_mul_iff_dvd_mul, Int.gcd_comm, hx.g1] at this
    simpa using this
  have d2 : y.2 ∣ x.2 := by
    have : y.2 ∣ y.1 * x.2 := ⟨x.1, by rw [← h]; exact Int.mul_comm _ _⟩
    rw [← Int.dvd_gcd_mul_iff_dvd_mul, Int.gcd_comm, hy.g1] at this
    simpa using this
  have e : x.2 = y.2 := Int.dvd_antisymm (by have := hx.q1; omega) (by have := hy.q1; omega) d1 d2
  have e1 : x.1 = y.1 := by
    rw [e] at h
    exact Int.eq_of_mul_eq_mul_right (by have := hy.q1; omega) h
  exact Prod.ext e1 e
theorem lowest_fr {a b : Int} (hb : 0 < b) (h1 : a.natAbs < B13) (h2 : b.natAbs < B13) : m__law_lowest [.int a, .int b] = .ok (fr (low a b)) := lowest_eq hb h1 h2
theorem ratio_fr {a b : Int} (hb : 0 < b) (h1 : a.natAbs < B13) (h2 : b.natAbs < B13) : m_ratio [.int a, .int b] = .ok (fr (low a b)) := ratio_eq hb h1 h2
theorem low60 {a b : Int} (hb : 0 < b) (h1 : a.natAbs < N60) (h2 : b.natAbs < N60) : Fin60 (low a b) := ⟨low_low hb, Nat.lt_of_le_of_lt low_le1 h1, Nat.lt_of_le_of_lt low_le2 h2⟩
theorem is_ratio_fr {x : Fra} (h : Low x) : m__law_is_ratio [fr x] = .ok (.bl true) := is_ratio_eq h.q1 h.g1
theorem shal_fr {n : Nat} (x : Fra) : shal (n + 1) (fr x) = true := by
  cases n <;> rfl
theorem shal_frs {n : Nat} (fs : List Fra) : (fs.map fr).all (shal (n + 1)) = true := by
  rw [List.all_map]
  exact List.all_eq_true.mpr fun x _ => shal_fr x
theorem shal_lfr {n : Nat} (fs : List Fra) : shal (n + 2) (.lst (fs.map fr)) = true := by
  unfold shal
  exact shal_frs fs
theorem eq_fr {x y : Fra} : eqD (fr x) (fr y) = (x.1 == y.1 && x.2 == y.2) := by
  unfold fr frac
  simp [eqD, eqDs]
theorem eq_fr_refl {x : Fra} : eqD (fr x) (fr x) = true := by rw [eq_fr]; simp
/-! ### less -/
def flt (x y : Fra) : Bool := decide (x.1 * y.2 < y.1 * x.2)
theorem flt_trans {x y m : Fra} (hx : 1 ≤ x.2) (hy : 1 ≤ y.2) (hm : 1 ≤ m.2) (h1 : flt y x = true) (h2 : flt x m = true) : flt y m = true := by
  have h1 := of_decide_eq_true h1
  have h2 := of_decide_eq_true h2
  refine decide_eq_true ?_
  have k1 : y.1 * x.2 * m.2 < x.1 * y.2 * m.2 := Int.mul_lt_mul_of_pos_right h1 (by omega)
  have k2 : x.1 * m.2 * y.2 < m.1 * x.2 * y.2 := Int.mul_lt_mul_of_pos_right h2 (by omega)
  have k3 : y.1 * m.2 * x.2 < m.1 * y.2 * x.2 := by
    have e1 : y.1 * m.2 * x.2 = y.1 * x.2 * m.2 := by grind
    have e2 : x.1 * y.2 * m.2 = x.1 * m.2 * y.2 := by grind
    have e3 : m.1 * x.2 * y.2 = m.1 * y.2 * x.2 := by grind
    omega
  exact Int.lt_of_mul_lt_mul_right k3 (by omega)
theorem mul60 {x y : Int} (hx : x.natAbs < N60) (hy : y.natAbs < N60) : mulOk x y = true := mulBig (Nat.lt_of_lt_of_le hx N60_B60) (Nat.lt_of_lt_of_le hy N60_B60)
theorem is_less_fr {x y : Fra} (hx : Fin60 x) (hy : Fin60 y) : m_is_less [fr x, fr y] = .ok (.bl (flt x y)) := by
  refine run_rt (n := 2) (ds := [fr x, fr y]) ?_
  show b_is_less [.sh (fr x), .sh (fr y)] = _
  unfold b_is_less
  refine seq_rt (ret_ok ?_)
  refine (bind2_ok (x := .int (x.1 * y.2)) (y := .int (y.1 * x.2)) ?_ ?_).trans rfl
  · exact (bind2_ok (x := .int x.1) (y := .int y.2) rfl rfl).trans (mul_ok (mul60 hx.pN hy.qN))
  · exact (bind2_ok (x := .int y.1) (y := .int x.2) rfl rfl).trans (mul_ok (mul60 hy.pN hx.qN))
end Com

set_option Elab.async false
set_option linter.all false
set_option maxRecDepth 100000
namespace Com
open PySem L2 DL
def bnd (k : Nat) : Nat := 2 ^ (201 * k)
theorem bnd_B13 {k : Nat} (h : k ≤ 62) : bnd k < B13 := by
  rw [B13_eq]; unfold bnd
  exact Nat.pow_lt_pow_right (by decide) (by omega)
theorem bnd_mono {j k : Nat} (h : j ≤ k) : bnd j ≤ bnd k := Nat.pow_le_pow_right (by decide) (by omega)
theorem N60_bnd : N60 ≤ bnd 1 := by unfold bnd; decide
theorem N60_200 : N60 ≤ 2 ^ 200 := by decide
theorem bnd_succ (k : Nat) : bnd (k + 1) = bnd k * 2 ^ 200 + 2 ^ 200 * bnd k := by
  unfold bnd
  rw [show 201 * (k + 1) = 201 * k + 201 by omega, Nat.pow_add]
  generalize 2 ^ (201 * k) = z
  omega
/-- top and bottom, not in lowest terms -/
def un (s x : Fra) : Fra := (s.1 * x.2 + x.1 * s.2, s.2 * x.2)
structure Acc (k : Nat) (s : Fra) : Prop where
  pos : 0 < s.2
  b1 : s.1.natAbs ≤ bnd k
  b2 : s.2.natAbs ≤ bnd k
theorem Acc.step {k : Nat} {s x : Fra} (h : Acc k s) (hx : Fin60 x) : Acc (k + 1) (un s x) := by
  have h1 : x.1.natAbs ≤ 2 ^ 200 := Nat.le_trans (Nat.le_of_lt hx.pN) N60_200
  have h2 : x.2.natAbs ≤ 2 ^ 200 := Nat.le_trans (Nat.le_of_lt hx.qN) N60_200
  have m1 := Nat.mul_le_mul h.b1 h2
  have m2 := Nat.mul_le_mul h1 h.b2
  have m3 := Nat.mul_le_mul h.b2 h2
  refine ⟨Int.mul_pos h.pos (by have := hx.q1; omega), ?_, ?_⟩
  · show (s.1 * x.2 + x.1 * s.2).natAbs ≤ _
    rw [bnd_succ]
    refine Nat.le_trans (Int.natAbs_add_le _ _) ?_
    rw [Int.natAbs_mul, Int.natAbs_mul]
    exact Nat.add_le_add m1 m2
  · show (s.2 * x.2).natAbs ≤ _
    rw [bnd_succ, Int.natAbs_mul]
    exact Nat.le_trans m3 (Nat.le_add_right _ _)
theorem Acc.start : Acc 0 (0, 1) := ⟨by decide, by decide, by decide⟩
/-- a fraction of the sum's own size -/
theorem low_step {s x : Fra} (hs : 0 < s.2) (hx : 1 ≤ x.2) : low ((low s.1 s.2).1 * x.2 + x.1 * (low s.1 s.2).2) ((low s.1 s.2).2 * x.2) = low (un s x).1 (un s x).2 := by
  have ht := low_low (a := s.1) hs
  have hr := low_rel (a := s.1) (b := s.2)
  generalize low s.1 s.2 = t at *
  have hq : 0 < t.2 * x.2 := Int.mul_pos (by have := ht.q1; omega) (by omega)
  have hq2 : 0 < (un s x).2 := Int.mul_pos hs (by omega)
  have l1 := low_low (a := t.1 * x.2 + x.1 * t.2) hq
  have r1 := low_rel (a := t.1 * x.2 + x.1 * t.2) (b := t.2 * x.2)
  have l2 := low_low (a := (un s x).1) hq2
  have r2 := low_rel (a := (un s x).1) (b := (un s x).2)
  generalize low (t.1 * x.2 + x.1 * t.2) (t.2 * x.2) = u at *
  generalize low (un s x).1 (un s x).2 = v at *
  refine low_uniq l1 l2 ?_
  have r2' : v.1 * (s.2 * x.2) = (s.1 * x.2 + x.1 * s.2) * v.2 := r2
  have hk : 0 < t.2 * x.2 * (s.2 * x.2) := Int.mul_pos hq hq2
  have : u.1 * v.2 * (t.2 * x.2 * (s.2 * x.2)) = v.1 * u.2 * (t.2 * x.2 * (s.2 * x.2)) := by
    have e1 : u.1 * v.2 * (t.2 * x.2 * (s.2 * x.2)) = (u.1 * (t.2 * x.2)) * v.2 * (s.2 * x.2) := by grind
    have e2 : v.1 * u.2 * (t.2 * x.2 * (s.2 * x.2)) = (v.1 * (s.2 * x.2)) * u.2 * (t.2 * x.2) := by grind
    rw [e1, e2, r1, r2']
    grind
  exact Int.eq_of_mul_eq_mul_right (by omega) this
theorem plus_fr {k : Nat} {s x : Fra} (h : Acc k s) (hk : k ≤ 61) (hx : Fin60 x) : m_plus [fr (low s.1 s.2), fr x] = .ok (fr (low (un s x).1 (un s x).2)) := by
  have ht := low_low (a := s.1) h.pos
  have a1 : (low s.1 s.2).1.natAbs ≤ bnd k := Nat.le_trans low_le1 h.b1
  have a2 : (low s.1 s.2).2.natAbs ≤ bnd k := Nat.le_trans low_le2 h.b2
  have hst := low_step h.pos hx.q1
  have hA : Acc k (low s.1 s.2) := ⟨by have := ht.q1; omega, a1, a2⟩
  have hB := hA.step hx
  rw [← hst]
  generalize low s.1 s.2 = t at *
  have b60 : bnd k < B60 := Nat.lt_of_lt_of_le (bnd_B13 (by omega)) B13_B60
  have bb : bnd (k + 1) < B13 := bnd_B13 (by omega)
  have x1 : x.1.natAbs < B60 := Nat.lt_of_lt_of_le hx.pN N60_B60
  have x2 : x.2.natAbs < B60 := Nat.lt_of_lt_of_le hx.qN N60_B60
  refine run_rt (n := 2) (ds := [fr t, fr x]) ?_
  show b_plus [.sh (fr t), .sh (fr x)] = _
  unfold b_plus
  refine seq_rt (ret_ok ?_)
  refine (bindA_ok (xs := [.int (t.1 * x.2 + x.1 * t.2), .int (t.2 * x.2)]) (acons_ok ?_ (acons_ok ?_ rfl))).trans ?_
  · refine (bind2_ok (x := .int (t.1 * x.2)) (y := .int (x.1 * t.2)) ?_ ?_).trans rfl
    · exact (bind2_ok (x := .int t.1) (y := .int x.2) rfl rfl).trans (mul_ok (mulBig (Nat.lt_of_le_of_lt a1 b60) x2))
    · exact (bind2_ok (x := .int x.1) (y := .int t.2) rfl rfl).trans (mul_ok (mulBig x1 (Nat.lt_of_le_of_lt a2 b60)))
  · exact (bind2_ok (x := .int t.2) (y := .int x.2) rfl rfl).trans (mul_ok (mulBig (Nat.lt_of_le_of_lt a2 b60) x2))
  · exact ratio_fr hB.pos (Nat.lt_of_le_of_lt hB.b1 bb) (Nat.lt_of_le_of_lt hB.b2 bb)
theorem sum_loop {L : Sl} : ∀ (xs : List Fra) (k : Nat) (s : Fra) (z : Sl), Acc k s → k + xs.length ≤ 61 → (∀ x ∈ xs, Fin60 x) → ∃ z', forD (gSet 2) (sSeq (sSet 1 (bindA (aCons (dVar 1) (aCons (dVar 2) aNil)) m_plus)) sNext) (xs.map fr) [L, .sh (fr (low s.1 s.2)), z] =
    .ok (.nx [L, .sh (fr (low (xs.foldl un s).1 (xs.foldl un s).2)), z']) ∧ Acc (k + xs.length) (xs.foldl un s)
  | [], k, s, z, h, _, _ => ⟨z, rfl, h⟩
  | x :: xs, k, s, z, h, hk, hx => by
    have hx0 := hx x List.mem_cons_self
    simp only [List.length_cons] at hk
    obtain ⟨z', e, a⟩ := sum_loop xs (k + 1) (un s x) (.sh (fr x)) (h.step hx0) (by omega) fun y hy => hx y (List.mem_cons_of_mem _ hy)
    refine ⟨z', ?_, by rw [List.length_cons, show k + (xs.length + 1) = k + 1 + xs.length by omega]; exact a⟩
    rw [List.map_cons, forD_nx (ρ1 := [L, .sh (fr (low s.1 s.2)), .sh (fr x)]) (ρ2 := [L, .sh (fr (low (un s x).1 (un s x).2)), .sh (fr x)]) rfl]
    · exact e
    · exact seq_next (set_ok ((bindA_ok (xs := [fr (low s.1 s.2), fr x]) rfl).trans (plus_fr h (by omega) hx0)))
theorem for_ok {f : Ev → Res D} {tg : Ev → D → Res Ev} {s : Ev → Res Fl} {ρ : Ev} {ds : List D} (h : f ρ = .ok (.lst ds)) : sFor f tg s ρ = forD tg s ds ρ := by unfold sFor; rw [h]; rfl
def tot (xs : List Fra) : Fra := xs.foldl un (0, 1)
theorem sum_of_fr {xs : List Fra} (hl : xs.length ≤ 61) (hx : ∀ x ∈ xs, Fin60 x) : m_sum_of [.lst (xs.map fr)] = .ok (fr (low (tot xs).1 (tot xs).2)) := by
  obtain ⟨z', e, a⟩ := sum_loop (L := .sh (.lst (xs.map fr))) xs 0 (0, 1) .no Acc.start (by omega) hx
  refine run_rt (n := 3) (ds := [.lst (xs.map fr)]) ?_
  show b_sum_of [.sh (.lst (xs.map fr)), .no, .no] = _
  unfold b_sum_of
  rw [seq_nx (ρ' := [.sh (.lst (xs.map fr)), .sh (fr (low 0 1)), .no]) rfl]
  refine (seq_nx ((for_ok (ds := xs.map fr) rfl).trans e)).trans ?_
  exact seq_rt (ret_ok rfl)
theorem tot_acc {xs : List Fra} (hl : xs.length ≤ 61) (hx : ∀ x ∈ xs, Fin60 x) : Acc xs.length (tot xs) := by
  obtain ⟨z', e, a⟩ := sum_loop (L := .no) xs 0 (0, 1) .no Acc.start (by omega) hx
  rw [Nat.zero_add] at a
  exact a
end Com

set_option Elab.async false
set_option linter.all false
set_option maxRecDepth 100000
namespace K03
open PySem L2 DL
def b__law_draws : Ev → Res Fl :=
  (sSeq (sSet 2 (bindA (aCons (dVar 0) (aCons (bind2 (bind1 (dC (.int 1)) dNeg) (dVar 0) dSub) aNil)) (m2 dMax)))
  (sSeq (sSet 3 (dVar 2))
  (sSeq (sOwn 4 (bindA aNil mLst))
  (sSeq (sForR (bindA (aCons (dVar 1) aNil) (m1 dLen)) (gSet 5)
  (sSeq (sIf (dAnd (bind2 (dVar 2) (bind2 (dC (.int 10)) (dC (.int 18)) dPow) dGe) (bind2 (dVar 3) (dC (.int 0)) dGt))
  (sSeq (sAppend 4 (bind2 (dVar 3) (bind2 (dVar 1) (dVar 5) dIx) dMod))
  (sSeq (sSet 3 (bind2 (dVar 3) (bind2 (dVar 1) (dVar 5) dIx) dDiv))
  sNext))
  (sSeq (sSet 6 (bind2 (bind2 (bind2 (bind2 (bind2 (bind2 (dVar 2) (dC (.int 2147483647)) dMod) (bind2 (bind2 (dC (.int 1009)) (dVar 5) dMulL) (dVar 5) dMulL) dAdd) (bind2 (dC (.int 31)) (dVar 5) dMulL) dAdd) (dC (.int 7)) dAdd) (dC (.int 48271)) dMulL) (dC (.int 2147483629)) dMod))
  (sSeq (sSet 6 (bind2 (bind2 (bind2 (bind2 (bind2 (dVar 6) (dVar 6) dMulL) (dC (.int 2147483647)) dMod) (dVar 5) dAdd) (dC (.int 39373)) dMulL) (dC (.int 2147483587)) dMod))
  (sSeq (sAppend 4 (bind2 (bind2 (dVar 6) (dC (.int 8)) dDiv) (bind2 (dVar 1) (dVar 5) dIx) dMod))
  sNext))))
  sNext))
  (sSeq (sRet (dVar 4))
  sNext)))))
def m__law_draws : List D → Res D := runD 7 b__law_draws
def b__law_divisor : Ev → Res Fl :=
  (sSeq (sWhile (fuelInt 1) (bind2 (dVar 1) (dC (.int 0)) dNe)
  (sSeq (sPar 0 1 (aCons (dVar 1) (aCons (bind2 (dVar 0) (dVar 1) dMod) aNil)))
  sNext))
  (sSeq (sRet (bindA (aCons (dVar 0) aNil) (m1 dAbs)))
  sNext))
def m__law_divisor : List D → Res D := runD 2 b__law_divisor
def b__law_lowest : Ev → Res Fl :=
  (sSeq (sSet 2 (bindA (aCons (dVar 0) (aCons (dVar 1) aNil)) m__law_divisor))
  (sSeq (sRet (bindA (aCons (bind2 (dVar 0) (dVar 2) dDiv) (aCons (bind2 (dVar 1) (dVar 2) dDiv) aNil)) mTup))
  sNext))
def m__law_lowest : List D → Res D := runD 3 b__law_lowest
def b__law_fraction : Ev → Res Fl :=
  (sSeq (sUnp [3, 4, 5, 6] (bindA (aCons (dVar 0) (aCons (bindA (aCons (dC (.int 8)) (aCons (dC (.int 2)) (aCons (bind2 (dC (.int 10)) (dC (.int 60)) dPow) (aCons (dVar 2) aNil)))) mLst) aNil)) m__law_draws))
  (sSeq (sIf (dAnd (bind2 (dVar 3) (dC (.int 1)) dEq) (bind2 (dVar 1) (bindA aNil mLst) dNe))
  (sSeq (sRet (bind2 (dVar 1) (bind1 (dC (.int 1)) dNeg) dIx))
  sNext)
  sNext)
  (sSeq (sIf (dAnd (bind2 (dVar 3) (dC (.int 2)) dEq) (dAnd (bind2 (dVar 1) (bindA aNil mLst) dNe) (bind2 (bindA (aCons (bind2 (bind2 (dVar 1) (bind1 (dC (.int 1)) dNeg) dIx) (dC (.int 0)) dIx) aNil) (m1 dAbs)) (bind2 (bind2 (dC (.int 10)) (dC (.int 60)) dPow) (dC (.int 1)) dSub) dLt)))
  (sSeq (sRet (bindA (aCons (bind2 (bind2 (bind2 (bind2 (dVar 1) (bind1 (dC (.int 1)) dNeg) dIx) (dC (.int 0)) dIx) (dC (.int 1)) dAdd) (bind2 (dC (.int 2)) (dVar 4) dMulL) dSub) (aCons (bind2 (bind2 (dVar 1) (bind1 (dC (.int 1)) dNeg) dIx) (dC (.int 1)) dIx) aNil)) m__law_lowest))
  sNext)
  sNext)
  (sSeq (sIf (bind2 (dVar 3) (dC (.int 3)) dEq)
  (sSeq (sSet 5 (bind2 (dVar 5) (dC (.int 3)) dMod))
  sNext)
  sNext)
  (sSeq (sSet 7 (bindA (aCons (dVar 5) (aCons (bind2 (dC (.int 1)) (dVar 6) dAdd) aNil)) m__law_lowest))
  (sSeq (sIf (bind2 (dVar 4) (dC (.int 1)) dEq)
  (sSeq (sRet (bindA (aCons (bind2 (dC (.int 0)) (bind2 (dVar 7) (dC (.int 0)) dIx) dSub) (aCons (bind2 (dVar 7) (dC (.int 1)) dIx) aNil)) mTup))
  sNext)
  sNext)
  (sSeq (sRet (dVar 7))
  sNext)))))))
def m__law_fraction : List D → Res D := runD 8 b__law_fraction
def b__law_list : Ev → Res Fl :=
  (sSeq (sSet 1 (dAnd (bind2 (bindA (aCons (dVar 0) aNil) (m1 dLen)) (dC (.int 0)) dGt) (bind2 (bind2 (bind2 (dVar 0) (dC (.int 0)) dIx) (dC (.int 2)) dMod) (dC (.int 1)) dEq)))
  (sSeq (sOwn 2 (bindA aNil mLst))
  (sSeq (sFor (dSl (dVar 0) (oSome (dC (.int 1))) (oSome (bind2 (bindA (aCons (dC (.int 13)) (aCons (dC (.int 61)) aNil)) mLst) (bindA (aCons (dVar 1) aNil) (m1 dIntOf)) dIx))) (gSet 3)
  (sSeq (sAppendL 2 (bindA (aCons (dVar 3) (aCons (dVar 2) (aCons (bind2 (bindA (aCons (bind2 (bind2 (dC (.int 10)) (dC (.int 60)) dPow) (dC (.int 1)) dSub) (aCons (dC (.int 12)) aNil)) mLst) (bindA (aCons (dVar 1) aNil) (m1 dIntOf)) dIx) aNil))) m__law_fraction))
  sNext))
  (sSeq (sIf (bind2 (dVar 2) (bindA aNil mLst) dEq)
  (sSeq (sRet (bindA (aCons (bindA (aCons (dC (.int 1)) (aCons (dC (.int 2)) aNil)) mTup) aNil) mLst))
  sNext)
  sNext)
  (sSeq (sRet (dVar 2))
  sNext)))))
def m__law_list : List D → Res D := runD 4 b__law_list
def b_is_less : Ev → Res Fl :=
  (sSeq (sRet (bind2 (bind2 (bind2 (dVar 0) (dC (.int 0)) dIx) (bind2 (dVar 1) (dC (.int 1)) dIx) dMulL) (bind2 (bind2 (dVar 1) (dC (.int 0)) dIx) (bind2 (dVar 0) (dC (.int 1)) dIx) dMulL) dLt))
  sNext)
def m_is_less : List D → Res D := runD 2 b_is_less
def b__law_under : Ev → Res Fl :=
  (sSeq (sRet (bind2 (bind2 (bind2 (dVar 0) (dC (.int 0)) dIx) (bind2 (dVar 1) (dC (.int 1)) dIx) dMulL) (bind2 (bind2 (dVar 1) (dC (.int 0)) dIx) (bind2 (dVar 0) (dC (.int 1)) dIx) dMulL) dLt))
  sNext)
def m__law_under : List D → Res D := runD 2 b__law_under
def b__law_told : Ev → Res Fl :=
  (sSeq (sSet 2 (bindA (aCons (dVar 0) (aCons (dVar 1) aNil)) m_is_less))
  (sSeq (sRet (dAnd (bind1 (dVar 2) (dIsI "bool")) (bind2 (dVar 2) (bindA (aCons (dVar 0) (aCons (dVar 1) aNil)) m__law_under) dEq)))
  sNext))
def m__law_told : List D → Res D := runD 3 b__law_told
def b_least_of : Ev → Res Fl :=
  (sSeq (sSet 1 (bind2 (dVar 0) (dC (.int 0)) dIx))
  (sSeq (sFor (dVar 0) (gSet 2)
  (sSeq (sIf (bindA (aCons (dVar 2) (aCons (dVar 1) aNil)) m_is_less)
  (sSeq (sSet 1 (dVar 2))
  sNext)
  sNext)
  sNext))
  (sSeq (sRet (dVar 1))
  sNext)))
def m_least_of : List D → Res D := runD 3 b_least_of
def b_most_of : Ev → Res Fl :=
  (sSeq (sSet 1 (bind2 (dVar 0) (dC (.int 0)) dIx))
  (sSeq (sFor (dVar 0) (gSet 2)
  (sSeq (sIf (bindA (aCons (dVar 1) (aCons (dVar 2) aNil)) m_is_less)
  (sSeq (sSet 1 (dVar 2))
  sNext)
  sNext)
  sNext))
  (sSeq (sRet (dVar 1))
  sNext)))
def m_most_of : List D → Res D := runD 3 b_most_of
def b__law_whole : Ev → Res Fl :=
  (sSeq (sRet (dAnd (bind1 (dVar 0) (dIsI "int")) (dNot (bind1 (dVar 0) (dIsI "bool")))))
  sNext)
def m__law_whole : List D → Res D := runD 1 b__law_whole
def b__law_is_ratio : Ev → Res Fl :=
  (sSeq (sIf (dOr (dNot (bind1 (dVar 0) (dIsI "tuple"))) (bind2 (bindA (aCons (dVar 0) aNil) (m1 dLen)) (dC (.int 2)) dNe))
  (sSeq (sRet (dC (.bl false)))
  sNext)
  sNext)
  (sSeq (sIf (dOr (dNot (bindA (aCons (bind2 (dVar 0) (dC (.int 0)) dIx) aNil) m__law_whole)) (dOr (dNot (bindA (aCons (bind2 (dVar 0) (dC (.int 1)) dIx) aNil) m__law_whole)) (bind2 (bind2 (dVar 0) (dC (.int 1)) dIx) (dC (.int 1)) dLt)))
  (sSeq (sRet (dC (.bl false)))
  sNext)
  sNext)
  (sSeq (sRet (bind2 (bindA (aCons (bind2 (dVar 0) (dC (.int 0)) dIx) (aCons (bind2 (dVar 0) (dC (.int 1)) dIx) aNil)) m__law_divisor) (dC (.int 1)) dEq))
  sNext)))
def m__law_is_ratio : List D → Res D := runD 1 b__law_is_ratio
def b__law_ends : Ev → Res Fl :=
  (sSeq (sSet 1 (bindA (aCons (dVar 0) aNil) m_least_of))
  (sSeq (sSet 2 (bindA (aCons (dVar 0) aNil) m_most_of))
  (sSeq (sIf (dOr (dNot (bindA (aCons (dVar 1) aNil) m__law_is_ratio)) (dNot (bindA (aCons (dVar 2) aNil) m__law_is_ratio)))
  (sSeq (sRet (dC (.non)))
  sNext)
  sNext)
  (sSeq (sIf (dOr (bind2 (dVar 1) (dVar 0) dNotIn) (bind2 (dVar 2) (dVar 0) dNotIn))
  (sSeq (sRet (dC (.non)))
  sNext)
  sNext)
  (sSeq (sFor (dVar 0) (gSet 3)
  (sSeq (sIf (dOr (bindA (aCons (dVar 3) (aCons (dVar 1) aNil)) m__law_under) (bindA (aCons (dVar 2) (aCons (dVar 3) aNil)) m__law_under))
  (sSeq (sRet (dC (.non)))
  sNext)
  sNext)
  sNext))
  (sSeq (sRet (bindA (aCons (dVar 1) (aCons (dVar 2) aNil)) mTup))
  sNext))))))
def m__law_ends : List D → Res D := runD 4 b__law_ends
def b_is_whole : Ev → Res Fl :=
  (sSeq (sRet (dAnd (bind1 (dVar 0) (dIsI "int")) (dNot (bind1 (dVar 0) (dIsI "bool")))))
  sNext)
def m_is_whole : List D → Res D := runD 1 b_is_whole
def b_common_divisor : Ev → Res Fl :=
  (sSeq (sSet 2 (bindA (aCons (dVar 0) aNil) (m1 dAbs)))
  (sSeq (sSet 3 (bindA (aCons (dVar 1) aNil) (m1 dAbs)))
  (sSeq (sWhile (fuelInt 3) (bind2 (dVar 3) (dC (.int 0)) dNe)
  (sSeq (sSet 4 (bind2 (dVar 2) (dVar 3) dMod))
  (sSeq (sSet 2 (dVar 3))
  (sSeq (sSet 3 (dVar 4))
  sNext))))
  (sSeq (sRet (dVar 2))
  sNext))))
def m_common_divisor : List D → Res D := runD 5 b_common_divisor
def b_ratio : Ev → Res Fl :=
  (sSeq (sIf (dOr (dNot (bindA (aCons (dVar 0) aNil) m_is_whole)) (dNot (bindA (aCons (dVar 1) aNil) m_is_whole)))
  (sSeq sStuck
  sNext)
  sNext)
  (sSeq (sIf (bind2 (dVar 1) (dC (.int 0)) dEq)
  (sSeq sStuck
  sNext)
  sNext)
  (sSeq (sSet 2 (bindA (aCons (dVar 0) (aCons (dVar 1) aNil)) m_common_divisor))
  (sSeq (sIf (bind2 (dVar 1) (dC (.int 0)) dLt)
  (sSeq (sSet 2 (bind1 (dVar 2) dNeg))
  sNext)
  sNext)
  (sSeq (sRet (bindA (aCons (bind2 (dVar 0) (dVar 2) dDiv) (aCons (bind2 (dVar 1) (dVar 2) dDiv) aNil)) mTup))
  sNext)))))
def m_ratio : List D → Res D := runD 3 b_ratio
def b_plus : Ev → Res Fl :=
  (sSeq (sRet (bindA (aCons (bind2 (bind2 (bind2 (dVar 0) (dC (.int 0)) dIx) (bind2 (dVar 1) (dC (.int 1)) dIx) dMulL) (bind2 (bind2 (dVar 1) (dC (.int 0)) dIx) (bind2 (dVar 0) (dC (.int 1)) dIx) dMulL) dAdd) (aCons (bind2 (bind2 (dVar 0) (dC (.int 1)) dIx) (bind2 (dVar 1) (dC (.int 1)) dIx) dMulL) aNil)) m_ratio))
  sNext)
def m_plus : List D → Res D := runD 2 b_plus
def b_sum_of : Ev → Res Fl :=
  (sSeq (sSet 1 (dC (.tup [(.int 0), (.int 1)])))
  (sSeq (sFor (dVar 0) (gSet 2)
  (sSeq (sSet 1 (bindA (aCons (dVar 1) (aCons (dVar 2) aNil)) m_plus))
  sNext))
  (sSeq (sRet (dVar 1))
  sNext)))
def m_sum_of : List D → Res D := runD 3 b_sum_of
def b__law_sum : Ev → Res Fl :=
  (sSeq (sSet 1 (dC (.int 0)))
  (sSeq (sSet 2 (dC (.int 1)))
  (sSeq (sFor (dVar 0) (gSet 3)
  (sSeq (sSet 1 (bind2 (bind2 (dVar 1) (bind2 (dVar 3) (dC (.int 1)) dIx) dMulL) (bind2 (bind2 (dVar 3) (dC (.int 0)) dIx) (dVar 2) dMulL) dAdd))
  (sSeq (sSet 2 (bind2 (dVar 2) (bind2 (dVar 3) (dC (.int 1)) dIx) dMulL))
  sNext)))
  (sSeq (sRet (bindA (aCons (dVar 1) (aCons (dVar 2) aNil)) m__law_lowest))
  sNext))))
def m__law_sum : List D → Res D := runD 4 b__law_sum
def b_law : Ev → Res Fl :=
  (sSeq (sSet 1 (bindA (aCons (dVar 0) aNil) m__law_list))
  (sSeq (sForR (bindA (aCons (dVar 1) aNil) (m1 dLen)) (gSet 2)
  (sSeq (sFor (bindA (aCons (bind2 (dVar 1) (bind2 (dVar 2) (dC (.int 1)) dSub) dIx) (aCons (bind2 (dVar 1) (dC (.int 0)) dIx) (aCons (bind2 (dVar 1) (dVar 2) dIx) aNil))) mLst) (gSet 3)
  (sSeq (sIf (dOr (dNot (bindA (aCons (bind2 (dVar 1) (dVar 2) dIx) (aCons (dVar 3) aNil)) m__law_told)) (dNot (bindA (aCons (dVar 3) (aCons (bind2 (dVar 1) (dVar 2) dIx) aNil)) m__law_told)))
  (sSeq (sRet (dC (.bl false)))
  sNext)
  sNext)
  sNext))
  sNext))
  (sSeq (sOwn 4 (bindA (aCons (dVar 1) aNil) (m1 dList)))
  (sSeq (sSetL 5 (bindA (aCons (dVar 4) aNil) m__law_ends))
  (sSeq (sSetL 6 (bindA (aCons (dVar 4) aNil) m_sum_of))
  (sSeq (sIf (dOr (bind2 (dVar 5) (dC (.non)) dIsN) (dOr (dNot (bindA (aCons (dVar 6) aNil) m__law_is_ratio)) (dOr (bind2 (dVar 6) (bindA (aCons (dVar 1) aNil) m__law_sum) dNe) (bind2 (dVar 4) (dVar 1) dNe))))
  (sSeq (sRet (dC (.bl false)))
  sNext)
  sNext)
  (sSeq (sClear 4)
  (sSeq (sIf (dOr (dNot (bindA (aCons (bindA (aCons (dVar 4) aNil) m_sum_of) aNil) m__law_is_ratio)) (bind2 (bindA (aCons (dVar 4) aNil) m_sum_of) (bindA (aCons (dC (.int 0)) (aCons (dC (.int 1)) aNil)) mTup) dNe))
  (sSeq (sRet (dC (.bl false)))
  sNext)
  sNext)
  (sSeq (sRet (dAnd (bind2 (bindA (aCons (bindA (aCons (dVar 1) aNil) (m1 dList)) aNil) m__law_ends) (dVar 5) dEq) (bind2 (bindA (aCons (bindA (aCons (dVar 1) aNil) (m1 dList)) aNil) m_sum_of) (dVar 6) dEq)))
  sNext)))))))))
def m_law : List D → Res D := runD 7 b_law
end K03

set_option Elab.async false
set_option linter.all false
set_option maxRecDepth 100000
namespace K03
open PySem L2 DL Com
theorem e_draws : K03.m__law_draws = Com.m__law_draws := rfl
theorem e_divisor : K03.m__law_divisor = Com.m__law_divisor := rfl
theorem e_lowest : K03.m__law_lowest = Com.m__law_lowest := rfl
theorem e_is_ratio : K03.m__law_is_ratio = Com.m__law_is_ratio := rfl
theorem e_sum_of : K03.m_sum_of = Com.m_sum_of := rfl
theorem e_is_less : K03.m_is_less = Com.m_is_less := rfl
theorem e_under : K03.m__law_under = Com.m_is_less := rfl
theorem N60_eq : ((10 : Int) ^ (60 : Int).toNat) = (N60 : Int) := by decide
theorem four {vs : List Int} (h : vs.length = 4) : ∃ a b c d, vs = [a, b, c, d] := by
  match vs, h with
  | [a, b, c, d], _ => exact ⟨a, b, c, d, rfl⟩
theorem last_ok {fs : List Fra} (h : fs ≠ []) : ∃ x ∈ fs, dIx (.lst (fs.map fr)) (.int (-1)) = .ok (fr x) := by
  refine ⟨fs.getLast h, List.getLast_mem h, ?_⟩
  have e : fs.map fr = (fs.dropLast.map fr) ++ [fr (fs.getLast h)] := by
    rw [← List.map_singleton, ← List.map_append, List.dropLast_concat_getLast]
  unfold dIx
  rw [e]
  simp only [atI_last]
theorem ne_nil {fs : List Fra} : dNe (.lst (fs.map fr)) (.lst []) = .ok (.bl (!fs.isEmpty)) := by
  unfold dNe
  rw [if_pos ⟨shal_lfr fs, rfl⟩, eqD_lst]
  cases fs with
  | nil => simp [eqDs]
  | cons x r => simp [eqDs]
theorem eq_nil {fs : List Fra} : dEq (.lst (fs.map fr)) (.lst []) = .ok (.bl fs.isEmpty) := by
  unfold dEq
  rw [if_pos ⟨shal_lfr fs, rfl⟩, eqD_lst]
  cases fs with
  | nil => simp [eqDs]
  | cons x r => simp [eqDs]
theorem abs_ok {i : Int} : dAbs (.int i) = .ok (.int (i.natAbs : Int)) := by
  show Res.ok (D.int (if i < 0 then -i else i)) = _
  have : (if i < 0 then -i else i) = (i.natAbs : Int) := by split <;> omega
  rw [this]
theorem skip {c : Ev → Res D} {s t : Ev → Res Fl} {ρ : Ev} (h : c (shr ρ) = .ok (.bl false)) : sSeq (sIf c s sNext) t ρ = t ρ := seq_nx (if_f (t := sNext) h)
theorem fraction_fr {c bound : Int} {fs : List Fra} (hb : 0 < bound) (hb2 : bound < (N60 : Int)) (hf : ∀ x ∈ fs, Fin60 x) : ∃ x, Fin60 x ∧ m__law_fraction [.int c, .lst (fs.map fr), .int bound] = .ok (fr x) := by
  obtain ⟨vs, hl, hv, hd⟩ := draws_eq c [8, 2, (N60 : Int), bound] (fun s hs => by
    simp only [List.mem_cons, List.mem_nil_iff, or_false] at hs
    rcases hs with rfl | rfl | rfl | rfl
    · exact ⟨by decide, lt9 (by decide)⟩
    · exact ⟨by decide, lt9 (by decide)⟩
    · refine ⟨by decide, ?_⟩
      rw [Int.natAbs_natCast]
      exact Nat.lt_of_lt_of_le (show N60 < 2 ^ 200 by decide) (by rw [B9_eq]; exact Nat.pow_le_pow_right (by decide) (by decide))
    · exact ⟨hb, Nat.lt_of_lt_of_le (show s.natAbs < N60 by omega) N60_B9⟩) (by show 4 ≤ 1000; decide)
  obtain ⟨w, sg, ab, be, rfl⟩ := four (vs := vs) hl
  have hw := hv 0 w 8 rfl rfl
  have hsg := hv 1 sg 2 rfl rfl
  have hab := hv 2 ab (N60 : Int) rfl rfl
  have hbe := hv 3 be bound rfl rfl
  have key : ∃ x, Fin60 x ∧ b__law_fraction [.sh (.int c), .sh (.lst (fs.map fr)), .sh (.int bound), .no, .no, .no, .no, .no] = .ok (.rt (fr x)) := by
    unfold b__law_fraction
    have u1 : sUnp [3, 4, 5, 6] (bindA (aCons (dVar 0) (aCons (bindA (aCons (dC (.int 8)) (aCons (dC (.int 2)) (aCons (bind2 (dC (.int 10)) (dC (.int 60)) dPow) (aCons (dVar 2) aNil)))) mLst) aNil)) m__law_draws)
        [.sh (.int c), .sh (.lst (fs.map fr)), .sh (.int bound), .no, .no, .no, .no, .no] = .ok (.nx [.sh (.int c), .sh (.lst (fs.map fr)), .sh (.int bound), .sh (.int w), .sh (.int sg), .sh (.int ab), .sh (.int be), .no]) := by
      unfold sUnp
      have : (bindA (aCons (dVar 0) (aCons (bindA (aCons (dC (.int 8)) (aCons (dC (.int 2)) (aCons (bind2 (dC (.int 10)) (dC (.int 60)) dPow) (aCons (dVar 2) aNil)))) mLst) aNil)) m__law_draws) [.sh (.int c), .sh (.lst (fs.map fr)), .sh (.int bound), .no, .no, .no, .no, .no] = .ok (.lst [.int w, .int sg, .int ab, .int be]) := by
        refine (bindA_ok (xs := [.int c, .lst [.int 8, .int 2, .int (N60 : Int), .int bound]]) ?_).trans hd
        rw [← N60_eq]
        rfl
      rw [this]
      rfl
    rw [seq_nx u1]
    by_cases w1 : w = 1 ∧ fs ≠ []
    · obtain ⟨x, hx, ex⟩ := last_ok w1.2
      refine ⟨x, hf x hx, ?_⟩
      rw [w1.1]
      refine seq_rt ((if_t ?_).trans (seq_rt (ret_ok ?_)))
      · refine (and_t ?_).trans ?_
        · exact (bind2_ok (x := .int 1) (y := .int 1) rfl rfl).trans eq_int
        · refine (bind2_ok (x := .lst (fs.map fr)) (y := .lst []) rfl rfl).trans (ne_nil.trans ?_)
          cases fs with
          | nil => exact absurd rfl w1.2
          | cons _ _ => rfl
      · exact (bind2_ok (x := .lst (fs.map fr)) (y := .int (-1)) rfl rfl).trans ex
    have c1 : (dAnd (bind2 (dVar 3) (dC (.int 1)) dEq) (bind2 (dVar 1) (bindA aNil mLst) dNe)) (shr [.sh (.int c), .sh (.lst (fs.map fr)), .sh (.int bound), .sh (.int w), .sh (.int sg), .sh (.int ab), .sh (.int be), .no]) = .ok (.bl false) := by
      refine (and_ok (b := w == 1) (c := !fs.isEmpty) ?_ ?_).trans ?_
      · exact (bind2_ok (x := .int w) (y := .int 1) rfl rfl).trans eq_int
      · exact (bind2_ok (x := .lst (fs.map fr)) (y := .lst []) rfl rfl).trans ne_nil
      · have : (w == 1 && !fs.isEmpty) = false := by
          cases fs with
          | nil => simp
          | cons y r =>
            have : w ≠ 1 := fun z => w1 ⟨z, by simp⟩
            simp [this]
        rw [this]
    rw [skip c1]
    have tail : ∃ x, Fin60 x ∧ (sSeq (sIf (bind2 (dVar 3) (dC (.int 3)) dEq) (sSeq (sSet 5 (bind2 (dVar 5) (dC (.int 3)) dMod)) sNext) sNext)
        (sSeq (sSet 7 (bindA (aCons (dVar 5) (aCons (bind2 (dC (.int 1)) (dVar 6) dAdd) aNil)) m__law_lowest))
        (sSeq (sIf (bind2 (dVar 4) (dC (.int 1)) dEq) (sSeq (sRet (bindA (aCons (bind2 (dC (.int 0)) (bind2 (dVar 7) (dC (.int 0)) dIx) dSub) (aCons (bind2 (dVar 7) (dC (.int 1)) dIx) aNil)) mTup)) sNext) sNext)
        (sSeq (sRet (dVar 7)) sNext)))) [.sh (.int c), .sh (.lst (fs.map fr)), .sh (.int bound), .sh (.int w), .sh (.int sg), .sh (.int ab), .sh (.int be), .no] = .ok (.rt (fr x)) := by
      have rest : ∀ ab' : Int, 0 ≤ ab' → ab' < (N60 : Int) → ∃ x, Fin60 x ∧ (sSeq (sSet 7 (bindA (aCons (dVar 5) (aCons (bind2 (dC (.int 1)) (dVar 6) dAdd) aNil)) m__law_lowest))
        (sSeq (sIf (bind2 (dVar 4) (dC (.int 1)) dEq) (sSeq (sRet (bindA (aCons (bind2 (dC (.int 0)) (bind2 (dVar 7) (dC (.int 0)) dIx) dSub) (aCons (bind2 (dVar 7) (dC (.int 1)) dIx) aNil)) mTup)) sNext) sNext)
        (sSeq (sRet (dVar 7)) sNext))) [.sh (.int c), .sh (.lst (fs.map fr)), .sh (.int bound), .sh (.int w), .sh (.int sg), .sh (.int ab'), .sh (.int be), .no] = .ok (.rt (fr x)) := by
        intro ab' h0 h1
        have hx := low60 (a := ab') (b := 1 + be) (by omega) (by omega) (by omega)
        have e7 : (bindA (aCons (dVar 5) (aCons (bind2 (dC (.int 1)) (dVar 6) dAdd) aNil)) m__law_lowest) [.sh (.int c), .sh (.lst (fs.map fr)), .sh (.int bound), .sh (.int w), .sh (.int sg), .sh (.int ab'), .sh (.int be), .no] = .ok (fr (low ab' (1 + be))) :=
          (bindA_ok (xs := [.int ab', .int (1 + be)]) rfl).trans (lowest_fr (by omega) (Nat.lt_of_lt_of_le (show ab'.natAbs < N60 by omega) N60_B13) (Nat.lt_of_lt_of_le (show (1 + be).natAbs < N60 by omega) N60_B13))
        rw [seq_nx (set_ok e7)]
        generalize low ab' (1 + be) = y at *
        by_cases hs : sg = 1
        · refine ⟨(0 - y.1, y.2), ⟨⟨hx.q1, ?_⟩, ?_, hx.qN⟩, ?_⟩
          · show Int.gcd (0 - y.1) y.2 = 1
            rw [Int.zero_sub, Int.neg_gcd]; exact hx.g1
          · show (0 - y.1).natAbs < N60
            have := hx.pN
            omega
          · rw [hs]
            refine seq_rt ((if_t ?_).trans (seq_rt (ret_ok rfl)))
            exact (bind2_ok (x := .int 1) (y := .int 1) rfl rfl).trans eq_int
        · refine ⟨y, hx, ?_⟩
          refine (skip ?_).trans (seq_rt (ret_ok rfl))
          refine (bind2_ok (x := .int sg) (y := .int 1) rfl rfl).trans (eq_int.trans ?_)
          rw [beq_eq_false_iff_ne.mpr hs]
      by_cases h3 : w = 3
      · have q3 := fmodr (a := ab) (b := 3) (by decide)
        have q4 : (3 : Int) ≤ (N60 : Int) := by decide
        obtain ⟨x, hx, e⟩ := rest (ab.fmod 3) q3.1 (by omega)
        refine ⟨x, hx, ?_⟩
        rw [h3] at e ⊢
        refine (seq_nx (ρ' := [.sh (.int c), .sh (.lst (fs.map fr)), .sh (.int bound), .sh (.int 3), .sh (.int sg), .sh (.int (ab.fmod 3)), .sh (.int be), .no]) ((if_t ?_).trans (seq_next (set_ok ?_)))).trans e
        · exact (bind2_ok (x := .int 3) (y := .int 3) rfl rfl).trans eq_int
        · exact (bind2_ok (x := .int ab) (y := .int 3) rfl rfl).trans (mod_ok (by decide))
      · obtain ⟨x, hx, e⟩ := rest ab hab.1 hab.2
        refine ⟨x, hx, (skip ?_).trans e⟩
        refine (bind2_ok (x := .int w) (y := .int 3) rfl rfl).trans (eq_int.trans ?_)
        rw [beq_eq_false_iff_ne.mpr h3]
    by_cases w2 : w = 2 ∧ fs ≠ []
    · obtain ⟨x, hx, ex⟩ := last_ok w2.2
      have hx6 := hf x hx
      have item0 : ∀ o, (bind2 (bind2 (dVar 1) (bind1 (dC (.int 1)) dNeg) dIx) (dC (.int 0)) dIx) [.sh (.int c), .sh (.lst (fs.map fr)), .sh (.int bound), .sh (.int w), .sh (.int sg), .sh (.int ab), .sh (.int be), o] = .ok (.int x.1) := fun o =>
        (bind2_ok (x := fr x) (y := .int 0) ((bind2_ok (x := .lst (fs.map fr)) (y := .int (-1)) rfl rfl).trans ex) rfl).trans rfl
      have item1 : ∀ o, (bind2 (bind2 (dVar 1) (bind1 (dC (.int 1)) dNeg) dIx) (dC (.int 1)) dIx) [.sh (.int c), .sh (.lst (fs.map fr)), .sh (.int bound), .sh (.int w), .sh (.int sg), .sh (.int ab), .sh (.int be), o] = .ok (.int x.2) := fun o =>
        (bind2_ok (x := fr x) (y := .int 1) ((bind2_ok (x := .lst (fs.map fr)) (y := .int (-1)) rfl rfl).trans ex) rfl).trans rfl
      have cnd : (dAnd (bind2 (dVar 3) (dC (.int 2)) dEq) (dAnd (bind2 (dVar 1) (bindA aNil mLst) dNe) (bind2 (bindA (aCons (bind2 (bind2 (dVar 1) (bind1 (dC (.int 1)) dNeg) dIx) (dC (.int 0)) dIx) aNil) (m1 dAbs)) (bind2 (bind2 (dC (.int 10)) (dC (.int 60)) dPow) (dC (.int 1)) dSub) dLt)))
          (shr [.sh (.int c), .sh (.lst (fs.map fr)), .sh (.int bound), .sh (.int w), .sh (.int sg), .sh (.int ab), .sh (.int be), .no]) = .ok (.bl (decide ((x.1.natAbs : Int) < (N60 : Int) - 1))) := by
        refine (and_t ?_).trans ((and_t ?_).trans ?_)
        · refine (bind2_ok (x := .int w) (y := .int 2) rfl rfl).trans (eq_int.trans ?_)
          rw [w2.1]; rfl
        · refine (bind2_ok (x := .lst (fs.map fr)) (y := .lst []) rfl rfl).trans (ne_nil.trans ?_)
          cases fs with
          | nil => exact absurd rfl w2.2
          | cons _ _ => rfl
        · refine (bind2_ok (x := .int (x.1.natAbs : Int)) (y := .int ((N60 : Int) - 1)) ?_ ?_).trans rfl
          · exact (bindA_ok (xs := [.int x.1]) (acons_ok (item0 .no) rfl)).trans abs_ok
          · refine (bind2_ok (x := .int (N60 : Int)) (y := .int 1) ?_ rfl).trans rfl
            rw [← N60_eq]
            rfl
      by_cases hsm : (x.1.natAbs : Int) < (N60 : Int) - 1
      · rw [decide_eq_true hsm] at cnd
        have hq := hx6.q1
        have hqN := hx6.qN
        refine ⟨low (x.1 + 1 - 2 * sg) x.2, low60 (by omega) (by omega) hqN, ?_⟩
        refine seq_rt ((if_t cnd).trans (seq_rt (ret_ok ?_)))
        refine (bindA_ok (xs := [.int (x.1 + 1 - 2 * sg), .int x.2]) (acons_ok ?_ (acons_ok (item1 .no) rfl))).trans (lowest_fr (by omega) (Nat.lt_of_lt_of_le (show (x.1 + 1 - 2 * sg).natAbs < N60 by omega) N60_B13) (Nat.lt_of_lt_of_le hqN N60_B13))
        refine (bind2_ok (x := .int (x.1 + 1)) (y := .int (2 * sg)) ?_ ?_).trans rfl
        · exact (bind2_ok (x := .int x.1) (y := .int 1) (item0 .no) rfl).trans rfl
        · exact (bind2_ok (x := .int 2) (y := .int sg) rfl rfl).trans (mul_ok (mulSmall (by decide) (by omega)))
      · rw [decide_eq_false hsm] at cnd
        rw [skip cnd]
        exact tail
    · have cnd : (dAnd (bind2 (dVar 3) (dC (.int 2)) dEq) (dAnd (bind2 (dVar 1) (bindA aNil mLst) dNe) (bind2 (bindA (aCons (bind2 (bind2 (dVar 1) (bind1 (dC (.int 1)) dNeg) dIx) (dC (.int 0)) dIx) aNil) (m1 dAbs)) (bind2 (bind2 (dC (.int 10)) (dC (.int 60)) dPow) (dC (.int 1)) dSub) dLt)))
          (shr [.sh (.int c), .sh (.lst (fs.map fr)), .sh (.int bound), .sh (.int w), .sh (.int sg), .sh (.int ab), .sh (.int be), .no]) = .ok (.bl false) := by
        by_cases hw2 : w = 2
        · have hn : fs = [] := Classical.byContradiction fun z => w2 ⟨hw2, z⟩
          subst hn
          refine (and_t ?_).trans (and_f ?_)
          · refine (bind2_ok (x := .int w) (y := .int 2) rfl rfl).trans (eq_int.trans ?_)
            rw [hw2]; rfl
          · exact (bind2_ok (x := .lst []) (y := .lst []) rfl rfl).trans (ne_nil (fs := []))
        · refine and_f ?_
          refine (bind2_ok (x := .int w) (y := .int 2) rfl rfl).trans (eq_int.trans ?_)
          rw [beq_eq_false_iff_ne.mpr hw2]
      rw [skip cnd]
      exact tail
  obtain ⟨x, h1, h2⟩ := key
  exact ⟨x, h1, run_rt (n := 8) (ds := [.int c, .lst (fs.map fr), .int bound]) h2⟩

theorem list_loop {L : D} {b : Bool} {bo : Int} (hb : 0 < bo) (hb2 : bo < (N60 : Int)) {e : Ev → Res D} (he : ∀ (F : Sl) (c : Sl), e [.sh L, .sh (.bl b), F, c] = .ok (.int bo)) : ∀ (cs : List Int) (fs : List Fra) (z : Sl), (∀ x ∈ fs, Fin60 x) → fs.length + cs.length ≤ 60 →
    ∃ (gs : List Fra) (z' : Sl), (∀ x ∈ gs, Fin60 x) ∧ gs.length = fs.length + cs.length ∧ forD (gSet 3) (sSeq (sAppendL 2 (bindA (aCons (dVar 3) (aCons (dVar 2) (aCons e aNil))) m__law_fraction)) sNext) (cs.map D.int) [.sh L, .sh (.bl b), .ow (.lst (fs.map fr)), z] = .ok (.nx [.sh L, .sh (.bl b), .ow (.lst (gs.map fr)), z'])
  | [], fs, z, hf, _ => ⟨fs, z, hf, by simp, rfl⟩
  | c :: cs, fs, z, hf, hl => by
    simp only [List.length_cons] at hl
    obtain ⟨x, hx, ex⟩ := fraction_fr (c := c) hb hb2 hf
    obtain ⟨gs, z', h1, h2, h3⟩ := list_loop hb hb2 he cs (fs ++ [x]) (.sh (.int c)) (fun y hy => by
      rcases List.mem_append.mp hy with hy | hy
      · exact hf y hy
      · rw [List.mem_singleton.mp hy]; exact hx) (by simp; omega)
    refine ⟨gs, z', h1, by rw [h2]; simp; omega, ?_⟩
    rw [List.map_cons, forD_nx (ρ1 := [.sh L, .sh (.bl b), .ow (.lst (fs.map fr)), .sh (.int c)]) (ρ2 := [.sh L, .sh (.bl b), .ow (.lst ((fs ++ [x]).map fr)), .sh (.int c)]) rfl]
    · exact h3
    · refine seq_next ?_
      unfold sAppendL ownAt
      show Res.bind _ _ = _
      have : (bindA (aCons (dVar 3) (aCons (dVar 2) (aCons e aNil))) m__law_fraction) (shr [.sh L, .sh (.bl b), .ow (.lst (fs.map fr)), .sh (.int c)]) = .ok (fr x) :=
        (bindA_ok (xs := [.int c, .lst (fs.map fr), .int bo]) (acons_ok rfl (acons_ok rfl (acons_ok (he _ _) rfl)))).trans ex
      rw [this, bok]
      rw [if_pos ⟨rfl, by rw [List.length_map]; exact Nat.lt_of_le_of_lt (show fs.length ≤ 60 by omega) (by decide)⟩]
      rw [List.map_append]
      rfl
theorem cut_map (ns : List Int) (h : Int) (h1 : 1 ≤ h) (h2 : h ≤ 61) : ∃ cs : List Int, cs.length ≤ 60 ∧ cutD (ns.map D.int) (some 1) (some h) = cs.map D.int := by
  unfold cutD
  rw [List.length_map, ← List.map_drop, ← List.map_take]
  refine ⟨_, ?_, rfl⟩
  rw [List.length_take]
  have sx : ∀ (d : Nat) (v : Int), 0 ≤ v → HT.sIx ns.length d (some v) = min v.toNat ns.length := fun d v hv => by
    show (if v < 0 then _ else _) = _
    rw [if_neg (by omega)]
  rw [sx _ h (by omega), sx _ 1 (by omega)]
  omega
theorem list_fr (ns : List Int) : ∃ fs : List Fra, (∀ x ∈ fs, Fin60 x) ∧ 1 ≤ fs.length ∧ fs.length ≤ 60 ∧ m__law_list [.lst (ns.map D.int)] = .ok (.lst (fs.map fr)) := by
  have wide : ∃ b : Bool, (dAnd (bind2 (bindA (aCons (dVar 0) aNil) (m1 dLen)) (dC (.int 0)) dGt) (bind2 (bind2 (bind2 (dVar 0) (dC (.int 0)) dIx) (dC (.int 2)) dMod) (dC (.int 1)) dEq)) [.sh (.lst (ns.map D.int)), .no, .no, .no] = .ok (.bl b) := by
    cases ns with
    | nil => exact ⟨false, rfl⟩
    | cons n r =>
      refine ⟨n.fmod 2 == 1, ?_⟩
      refine (and_t ?_).trans ?_
      · show Res.ok (D.bl (decide (0 < (((D.int n :: r.map D.int).length : Nat) : Int)))) = _
        rw [decide_eq_true (by simp only [List.length_cons]; omega)]
      · refine (bind2_ok (x := .int (n.fmod 2)) (y := .int 1) ?_ rfl).trans eq_int
        exact (bind2_ok (x := .int n) (y := .int 2) ((bind2_ok (x := .lst (D.int n :: r.map D.int)) (y := .int 0) rfl rfl).trans (ix_lst (k := 0) rfl)) rfl).trans (mod_ok (by decide))
  obtain ⟨b, hb⟩ := wide
  have hbo : ∃ bo : Int, 0 < bo ∧ bo < (N60 : Int) ∧ ∀ (F : Sl) (c : Sl), (bind2 (bindA (aCons (bind2 (bind2 (dC (.int 10)) (dC (.int 60)) dPow) (dC (.int 1)) dSub) (aCons (dC (.int 12)) aNil)) mLst) (bindA (aCons (dVar 1) aNil) (m1 dIntOf)) dIx) [.sh (.lst (ns.map D.int)), .sh (.bl b), F, c] = .ok (.int bo) := by
    cases b with
    | false => exact ⟨(N60 : Int) - 1, by decide, by decide, fun F c => by rw [← N60_eq]; rfl⟩
    | true => exact ⟨12, by decide, by decide, fun F c => rfl⟩
  obtain ⟨bo, b1, b2, b3⟩ := hbo
  have hcut : ∃ h : Int, 1 ≤ h ∧ h ≤ 61 ∧ (dSl (dVar 0) (oSome (dC (.int 1))) (oSome (bind2 (bindA (aCons (dC (.int 13)) (aCons (dC (.int 61)) aNil)) mLst) (bindA (aCons (dVar 1) aNil) (m1 dIntOf)) dIx))) [.sh (.lst (ns.map D.int)), .sh (.bl b), .ow (.lst []), .no] = .ok (.lst (cutD (ns.map D.int) (some 1) (some h))) := by
    cases b with
    | false => exact ⟨13, by decide, by decide, rfl⟩
    | true => exact ⟨61, by decide, by decide, rfl⟩
  obtain ⟨h, h1, h2, h3⟩ := hcut
  obtain ⟨cs, c1, c2⟩ := cut_map ns h h1 h2
  rw [c2] at h3
  obtain ⟨gs, z', g1, g2, g3⟩ := list_loop (L := .lst (ns.map D.int)) (b := b) b1 b2 b3 cs [] .no (fun x hx => by simp at hx) (by simpa using c1)
  have key : ∃ fs : List Fra, (∀ x ∈ fs, Fin60 x) ∧ 1 ≤ fs.length ∧ fs.length ≤ 60 ∧ b__law_list [.sh (.lst (ns.map D.int)), .no, .no, .no] = .ok (.rt (.lst (fs.map fr))) := by
    unfold b__law_list
    rw [seq_nx (set_ok hb)]
    rw [seq_nx (ρ' := [.sh (.lst (ns.map D.int)), .sh (.bl b), .ow (.lst []), .no]) rfl]
    rw [seq_nx ((for_ok h3).trans g3)]
    have ce : (bind2 (dVar 2) (bindA aNil mLst) dEq) (shr [.sh (.lst (ns.map D.int)), .sh (.bl b), .ow (.lst (gs.map fr)), z']) = .ok (.bl gs.isEmpty) := (bind2_ok (x := .lst (gs.map fr)) (y := .lst []) rfl rfl).trans eq_nil
    cases gs with
    | nil =>
      refine ⟨[(1, 2)], fun x hx => ?_, by decide, by decide, ?_⟩
      · rw [List.mem_singleton.mp hx]
        exact ⟨⟨by decide, by decide⟩, by decide, by decide⟩
      · exact seq_rt ((if_t ce).trans (seq_rt (ret_ok rfl)))
    | cons y r =>
      refine ⟨y :: r, g1, by simp, by rw [g2]; simpa using c1, ?_⟩
      exact (skip ce).trans (seq_rt (ret_ok rfl))
  obtain ⟨fs, k1, k2, k3, k4⟩ := key
  exact ⟨fs, k1, k2, k3, run_rt (n := 4) (ds := [.lst (ns.map D.int)]) k4⟩

/-! ### order -/
theorem told_fr {x y : Fra} (hx : Fin60 x) (hy : Fin60 y) : m__law_told [fr x, fr y] = .ok (.bl true) := by
  refine run_rt (n := 3) (ds := [fr x, fr y]) ?_
  show b__law_told [.sh (fr x), .sh (fr y), .no] = _
  unfold b__law_told
  rw [seq_nx (ρ' := [.sh (fr x), .sh (fr y), .sh (.bl (flt x y))]) (set_ok ((bindA_ok (xs := [fr x, fr y]) rfl).trans (is_less_fr hx hy)))]
  refine seq_rt (ret_ok ?_)
  refine (and_t rfl).trans ?_
  refine (bind2_ok (x := .bl (flt x y)) (y := .bl (flt x y)) rfl ((bindA_ok (xs := [fr x, fr y]) rfl).trans (is_less_fr hx hy))).trans ?_
  unfold dEq
  rw [if_pos ⟨rfl, rfl⟩, eqD, beq_self_eq_true]
theorem least_loop {L : Sl} : ∀ (rest pre : List Fra) (m : Fra) (z : Sl), Fin60 m → (∀ x ∈ pre, Fin60 x) → (∀ x ∈ rest, Fin60 x) → (∀ y ∈ pre, flt y m = false) →
    ∃ (m' : Fra) (z' : Sl), (m' = m ∨ m' ∈ rest) ∧ (∀ y ∈ pre ++ rest, flt y m' = false) ∧ forD (gSet 2) (sSeq (sIf (bindA (aCons (dVar 2) (aCons (dVar 1) aNil)) m_is_less) (sSeq (sSet 1 (dVar 2)) sNext) sNext) sNext) (rest.map fr) [L, .sh (fr m), z] = .ok (.nx [L, .sh (fr m'), z'])
  | [], pre, m, z, _, _, _, hp => ⟨m, z, .inl rfl, by simpa using hp, rfl⟩
  | x :: rest, pre, m, z, hm, hf, hr, hp => by
    have hx := hr x List.mem_cons_self
    have cnd : (bindA (aCons (dVar 2) (aCons (dVar 1) aNil)) m_is_less) (shr [L, .sh (fr m), .sh (fr x)]) = .ok (.bl (flt x m)) := by
      cases L <;> exact (bindA_ok (xs := [fr x, fr m]) rfl).trans (is_less_fr hx hm)
    cases hlt : flt x m with
    | true =>
      rw [hlt] at cnd
      obtain ⟨m', z', h1, h2, h3⟩ := least_loop (L := L) rest (pre ++ [x]) x (.sh (fr x)) hx (fun y hy => by
        rcases List.mem_append.mp hy with hy | hy
        · exact hf y hy
        · rw [List.mem_singleton.mp hy]; exact hx) (fun y hy => hr y (List.mem_cons_of_mem _ hy)) (fun y hy => by
        rcases List.mem_append.mp hy with hy | hy
        · cases hyx : flt y x with
          | false => rfl
          | true =>
            have := flt_trans hx.q1 (hf y hy).q1 hm.q1 hyx hlt
            rw [hp y hy] at this; cases this
        · rw [List.mem_singleton.mp hy]; unfold flt; simp)
      refine ⟨m', z', .inr (by rcases h1 with rfl | h1; exact List.mem_cons_self; exact List.mem_cons_of_mem _ h1), by simpa using h2, ?_⟩
      rw [List.map_cons, forD_nx (ρ1 := [L, .sh (fr m), .sh (fr x)]) (ρ2 := [L, .sh (fr x), .sh (fr x)]) rfl]
      · exact h3
      · exact seq_next ((if_t cnd).trans rfl)
    | false =>
      rw [hlt] at cnd
      obtain ⟨m', z', h1, h2, h3⟩ := least_loop (L := L) rest (pre ++ [x]) m (.sh (fr x)) hm (fun y hy => by
        rcases List.mem_append.mp hy with hy | hy
        · exact hf y hy
        · rw [List.mem_singleton.mp hy]; exact hx) (fun y hy => hr y (List.mem_cons_of_mem _ hy)) (fun y hy => by
        rcases List.mem_append.mp hy with hy | hy
        · exact hp y hy
        · rw [List.mem_singleton.mp hy]; exact hlt)
      refine ⟨m', z', h1.imp id (List.mem_cons_of_mem _), by simpa using h2, ?_⟩
      rw [List.map_cons, forD_nx (ρ1 := [L, .sh (fr m), .sh (fr x)]) (ρ2 := [L, .sh (fr m), .sh (fr x)]) rfl]
      · exact h3
      · exact seq_next (if_f (t := sNext) cnd)
theorem least_fr {fs : List Fra} (hf : ∀ x ∈ fs, Fin60 x) (hn : fs ≠ []) : ∃ m ∈ fs, (∀ y ∈ fs, flt y m = false) ∧ m_least_of [.lst (fs.map fr)] = .ok (fr m) := by
  cases fs with
  | nil => exact absurd rfl hn
  | cons a r =>
    obtain ⟨m', z', h1, h2, h3⟩ := least_loop (L := .sh (.lst ((a :: r).map fr))) (a :: r) [] a .no (hf a List.mem_cons_self) (fun y hy => by simp at hy) hf (fun y hy => by simp at hy)
    refine ⟨m', by rcases h1 with rfl | h1; exact List.mem_cons_self; exact h1, by simpa using h2, ?_⟩
    refine run_rt (n := 3) (ds := [.lst ((a :: r).map fr)]) ?_
    show b_least_of [.sh (.lst ((a :: r).map fr)), .no, .no] = _
    unfold b_least_of
    rw [seq_nx (ρ' := [.sh (.lst ((a :: r).map fr)), .sh (fr a), .no]) (set_ok ((bind2_ok (x := .lst ((a :: r).map fr)) (y := .int 0) rfl rfl).trans (ix_lst (k := 0) rfl)))]
    refine (seq_nx ((for_ok (ds := (a :: r).map fr) rfl).trans h3)).trans ?_
    exact seq_rt (ret_ok rfl)
theorem most_loop {L : Sl} : ∀ (rest pre : List Fra) (m : Fra) (z : Sl), Fin60 m → (∀ x ∈ pre, Fin60 x) → (∀ x ∈ rest, Fin60 x) → (∀ y ∈ pre, flt m y = false) →
    ∃ (m' : Fra) (z' : Sl), (m' = m ∨ m' ∈ rest) ∧ (∀ y ∈ pre ++ rest, flt m' y = false) ∧ forD (gSet 2) (sSeq (sIf (bindA (aCons (dVar 1) (aCons (dVar 2) aNil)) m_is_less) (sSeq (sSet 1 (dVar 2)) sNext) sNext) sNext) (rest.map fr) [L, .sh (fr m), z] = .ok (.nx [L, .sh (fr m'), z'])
  | [], pre, m, z, _, _, _, hp => ⟨m, z, .inl rfl, by simpa using hp, rfl⟩
  | x :: rest, pre, m, z, hm, hf, hr, hp => by
    have hx := hr x List.mem_cons_self
    have cnd : (bindA (aCons (dVar 1) (aCons (dVar 2) aNil)) m_is_less) (shr [L, .sh (fr m), .sh (fr x)]) = .ok (.bl (flt m x)) := by
      cases L <;> exact (bindA_ok (xs := [fr m, fr x]) rfl).trans (is_less_fr hm hx)
    cases hlt : flt m x with
    | true =>
      rw [hlt] at cnd
      obtain ⟨m', z', h1, h2, h3⟩ := most_loop (L := L) rest (pre ++ [x]) x (.sh (fr x)) hx (fun y hy => by
        rcases List.mem_append.mp hy with hy | hy
        · exact hf y hy
        · rw [List.mem_singleton.mp hy]; exact hx) (fun y hy => hr y (List.mem_cons_of_mem _ hy)) (fun y hy => by
        rcases List.mem_append.mp hy with hy | hy
        · cases hyx : flt x y with
          | false => rfl
          | true =>
            have := flt_trans hx.q1 hm.q1 (hf y hy).q1 hlt hyx
            rw [hp y hy] at this; cases this
        · rw [List.mem_singleton.mp hy]; unfold flt; simp)
      refine ⟨m', z', .inr (by rcases h1 with rfl | h1; exact List.mem_cons_self; exact List.mem_cons_of_mem _ h1), by simpa using h2, ?_⟩
      rw [List.map_cons, forD_nx (ρ1 := [L, .sh (fr m), .sh (fr x)]) (ρ2 := [L, .sh (fr x), .sh (fr x)]) rfl]
      · exact h3
      · exact seq_next ((if_t cnd).trans rfl)
    | false =>
      rw [hlt] at cnd
      obtain ⟨m', z', h1, h2, h3⟩ := most_loop (L := L) rest (pre ++ [x]) m (.sh (fr x)) hm (fun y hy => by
        rcases List.mem_append.mp hy with hy | hy
        · exact hf y hy
        · rw [List.mem_singleton.mp hy]; exact hx) (fun y hy => hr y (List.mem_cons_of_mem _ hy)) (fun y hy => by
        rcases List.mem_append.mp hy with hy | hy
        · exact hp y hy
        · rw [List.mem_singleton.mp hy]; exact hlt)
      refine ⟨m', z', h1.imp id (List.mem_cons_of_mem _), by simpa using h2, ?_⟩
      rw [List.map_cons, forD_nx (ρ1 := [L, .sh (fr m), .sh (fr x)]) (ρ2 := [L, .sh (fr m), .sh (fr x)]) rfl]
      · exact h3
      · exact seq_next (if_f (t := sNext) cnd)
theorem most_fr {fs : List Fra} (hf : ∀ x ∈ fs, Fin60 x) (hn : fs ≠ []) : ∃ m ∈ fs, (∀ y ∈ fs, flt m y = false) ∧ m_most_of [.lst (fs.map fr)] = .ok (fr m) := by
  cases fs with
  | nil => exact absurd rfl hn
  | cons a r =>
    obtain ⟨m', z', h1, h2, h3⟩ := most_loop (L := .sh (.lst ((a :: r).map fr))) (a :: r) [] a .no (hf a List.mem_cons_self) (fun y hy => by simp at hy) hf (fun y hy => by simp at hy)
    refine ⟨m', by rcases h1 with rfl | h1; exact List.mem_cons_self; exact h1, by simpa using h2, ?_⟩
    refine run_rt (n := 3) (ds := [.lst ((a :: r).map fr)]) ?_
    show b_most_of [.sh (.lst ((a :: r).map fr)), .no, .no] = _
    unfold b_most_of
    rw [seq_nx (ρ' := [.sh (.lst ((a :: r).map fr)), .sh (fr a), .no]) (set_ok ((bind2_ok (x := .lst ((a :: r).map fr)) (y := .int 0) rfl rfl).trans (ix_lst (k := 0) rfl)))]
    refine (seq_nx ((for_ok (ds := (a :: r).map fr) rfl).trans h3)).trans ?_
    exact seq_rt (ret_ok rfl)
theorem notin_fr {fs : List Fra} {m : Fra} (h : m ∈ fs) : dNotIn (fr m) (.lst (fs.map fr)) = .ok (.bl false) := by
  unfold dNotIn inD
  have c : shal 40 (fr m) = true ∧ (fs.map fr).all (shal 40) = true := ⟨shal_fr m, shal_frs fs⟩
  simp only [if_pos c]
  have : ((fs.map fr).any fun d => eqD d (fr m)) = true := by
    rw [List.any_map]
    exact List.any_eq_true.mpr ⟨m, h, eq_fr_refl⟩
  rw [this]
  rfl
theorem ends_fr {fs : List Fra} (hf : ∀ x ∈ fs, Fin60 x) (hn : fs ≠ []) : ∃ l m : Fra, m__law_ends [.lst (fs.map fr)] = .ok (.tup [fr l, fr m]) := by
  obtain ⟨l, hl, hl2, el⟩ := least_fr hf hn
  obtain ⟨m, hm, hm2, em⟩ := most_fr hf hn
  refine ⟨l, m, ?_⟩
  have fl := hf l hl
  have fm := hf m hm
  refine run_rt (n := 4) (ds := [.lst (fs.map fr)]) ?_
  show b__law_ends [.sh (.lst (fs.map fr)), .no, .no, .no] = _
  unfold b__law_ends
  rw [seq_nx (ρ' := [.sh (.lst (fs.map fr)), .sh (fr l), .no, .no]) (set_ok ((bindA_ok (xs := [.lst (fs.map fr)]) rfl).trans el))]
  rw [seq_nx (ρ' := [.sh (.lst (fs.map fr)), .sh (fr l), .sh (fr m), .no]) (set_ok ((bindA_ok (xs := [.lst (fs.map fr)]) rfl).trans em))]
  refine (skip ?_).trans ?_
  · exact (or_f (not_ok (b := true) ((bindA_ok (xs := [fr l]) rfl).trans (is_ratio_fr fl.toLow)))).trans (not_ok (b := true) ((bindA_ok (xs := [fr m]) rfl).trans (is_ratio_fr fm.toLow)))
  refine (skip ?_).trans ?_
  · exact (or_f ((bind2_ok (x := fr l) (y := .lst (fs.map fr)) rfl rfl).trans (notin_fr hl))).trans ((bind2_ok (x := fr m) (y := .lst (fs.map fr)) rfl rfl).trans (notin_fr hm))
  have loop : ∀ (rest : List Fra) (z : Sl), (∀ y ∈ rest, y ∈ fs) → ∃ z', forD (gSet 3) (sSeq (sIf (dOr (bindA (aCons (dVar 3) (aCons (dVar 1) aNil)) m__law_under) (bindA (aCons (dVar 2) (aCons (dVar 3) aNil)) m__law_under)) (sSeq (sRet (dC (.non))) sNext) sNext) sNext) (rest.map fr) [.sh (.lst (fs.map fr)), .sh (fr l), .sh (fr m), z] = .ok (.nx [.sh (.lst (fs.map fr)), .sh (fr l), .sh (fr m), z']) := by
    intro rest
    induction rest with
    | nil => exact fun z _ => ⟨z, rfl⟩
    | cons y r ih =>
      intro z hy
      have hyf := hy y List.mem_cons_self
      obtain ⟨z', e⟩ := ih (.sh (fr y)) fun u hu => hy u (List.mem_cons_of_mem _ hu)
      refine ⟨z', ?_⟩
      rw [List.map_cons, forD_nx (ρ1 := [.sh (.lst (fs.map fr)), .sh (fr l), .sh (fr m), .sh (fr y)]) (ρ2 := [.sh (.lst (fs.map fr)), .sh (fr l), .sh (fr m), .sh (fr y)]) rfl]
      · exact e
      · refine seq_next (if_f (t := sNext) ?_)
        refine (or_f ?_).trans ?_
        · refine (bindA_ok (xs := [fr y, fr l]) rfl).trans ((is_less_fr (hf y hyf) fl).trans ?_)
          rw [hl2 y hyf]
        · refine (bindA_ok (xs := [fr m, fr y]) rfl).trans ((is_less_fr fm (hf y hyf)).trans ?_)
          rw [hm2 y hyf]
  obtain ⟨z', e⟩ := loop fs .no fun _ h => h
  refine (seq_nx ((for_ok (ds := fs.map fr) rfl).trans e)).trans ?_
  exact seq_rt (ret_ok rfl)
theorem law_sum_fr {fs : List Fra} (hl : fs.length ≤ 61) (hf : ∀ x ∈ fs, Fin60 x) : m__law_sum [.lst (fs.map fr)] = .ok (fr (low (tot fs).1 (tot fs).2)) := by
  have loop : ∀ (rest : List Fra) (k : Nat) (s : Fra) (z : Sl), Acc k s → k + rest.length ≤ 61 → (∀ y ∈ rest, Fin60 y) → ∃ z', forD (gSet 3) (sSeq (sSet 1 (bind2 (bind2 (dVar 1) (bind2 (dVar 3) (dC (.int 1)) dIx) dMulL) (bind2 (bind2 (dVar 3) (dC (.int 0)) dIx) (dVar 2) dMulL) dAdd)) (sSeq (sSet 2 (bind2 (dVar 2) (bind2 (dVar 3) (dC (.int 1)) dIx) dMulL)) sNext)) (rest.map fr) [.sh (.lst (fs.map fr)), .sh (.int s.1), .sh (.int s.2), z] =
      .ok (.nx [.sh (.lst (fs.map fr)), .sh (.int (rest.foldl un s).1), .sh (.int (rest.foldl un s).2), z']) := by
    intro rest
    induction rest with
    | nil => exact fun k s z _ _ _ => ⟨z, rfl⟩
    | cons y r ih =>
      intro k s z hA hk hy
      have hy0 := hy y List.mem_cons_self
      simp only [List.length_cons] at hk
      obtain ⟨z', e⟩ := ih (k + 1) (un s y) (.sh (fr y)) (hA.step hy0) (by omega) fun u hu => hy u (List.mem_cons_of_mem _ hu)
      refine ⟨z', ?_⟩
      have b60 : bnd k < B60 := Nat.lt_of_lt_of_le (bnd_B13 (by omega)) B13_B60
      have y1 : y.1.natAbs < B60 := Nat.lt_of_lt_of_le hy0.pN N60_B60
      have y2 : y.2.natAbs < B60 := Nat.lt_of_lt_of_le hy0.qN N60_B60
      rw [List.map_cons, forD_nx (ρ1 := [.sh (.lst (fs.map fr)), .sh (.int s.1), .sh (.int s.2), .sh (fr y)]) (ρ2 := [.sh (.lst (fs.map fr)), .sh (.int (un s y).1), .sh (.int (un s y).2), .sh (fr y)]) rfl]
      · exact e
      · refine (seq_nx (ρ' := [.sh (.lst (fs.map fr)), .sh (.int (un s y).1), .sh (.int s.2), .sh (fr y)]) (set_ok ?_)).trans (seq_next (set_ok ?_))
        · refine (bind2_ok (x := .int (s.1 * y.2)) (y := .int (y.1 * s.2)) ?_ ?_).trans rfl
          · exact (bind2_ok (x := .int s.1) (y := .int y.2) rfl rfl).trans (mul_ok (mulBig (Nat.lt_of_le_of_lt hA.b1 b60) y2))
          · exact (bind2_ok (x := .int y.1) (y := .int s.2) rfl rfl).trans (mul_ok (mulBig y1 (Nat.lt_of_le_of_lt hA.b2 b60)))
        · exact (bind2_ok (x := .int s.2) (y := .int y.2) rfl rfl).trans (mul_ok (mulBig (Nat.lt_of_le_of_lt hA.b2 b60) y2))
  obtain ⟨z', e⟩ := loop fs 0 (0, 1) .no Acc.start (by omega) hf
  have hA := tot_acc hl hf
  have bb : bnd fs.length < B13 := bnd_B13 (by omega)
  refine run_rt (n := 4) (ds := [.lst (fs.map fr)]) ?_
  show b__law_sum [.sh (.lst (fs.map fr)), .no, .no, .no] = _
  unfold b__law_sum
  rw [seq_nx (ρ' := [.sh (.lst (fs.map fr)), .sh (.int 0), .no, .no]) rfl]
  rw [seq_nx (ρ' := [.sh (.lst (fs.map fr)), .sh (.int 0), .sh (.int 1), .no]) rfl]
  refine (seq_nx ((for_ok (ds := fs.map fr) rfl).trans e)).trans ?_
  refine seq_rt (ret_ok ?_)
  exact (bindA_ok (xs := [.int (tot fs).1, .int (tot fs).2]) rfl).trans (lowest_fr hA.pos (Nat.lt_of_le_of_lt hA.b1 bb) (Nat.lt_of_le_of_lt hA.b2 bb))

/-! ### the law -/
theorem ne_refl {d : D} (h : shal 40 d = true) : dNe d d = .ok (.bl false) := by
  unfold dNe
  rw [if_pos ⟨h, h⟩, eqD_refl 40 d h]
  rfl
theorem eq_refl' {d : D} (h : shal 40 d = true) : dEq d d = .ok (.bl true) := by
  unfold dEq
  rw [if_pos ⟨h, h⟩, eqD_refl 40 d h]
theorem item_fr {fs : List Fra} {i : Int} (h1 : -(fs.length : Int) ≤ i) (h2 : i < fs.length) : ∃ x ∈ fs, dIx (.lst (fs.map fr)) (.int i) = .ok (fr x) := by
  have h : ∃ j, j < fs.length ∧ ixN (fs.map fr).length i = some j := by
    unfold ixN
    rw [List.length_map]
    by_cases h0 : 0 ≤ i
    · rw [if_pos h0, if_pos h2]; exact ⟨_, by omega, rfl⟩
    · rw [if_neg h0, if_pos h1]; exact ⟨_, by omega, rfl⟩
  obtain ⟨j, hj, e⟩ := h
  refine ⟨fs[j], List.getElem_mem hj, ?_⟩
  have : L2.atI (fs.map fr) i = some (fr fs[j]) := by
    unfold L2.atI
    rw [e]
    show (fs.map fr)[j]? = _
    rw [List.getElem?_map, List.getElem?_eq_getElem hj]
    rfl
  unfold dIx
  simp only [this]
def inner : Ev → Res Fl := (sSeq (sIf (dOr (dNot (bindA (aCons (bind2 (dVar 1) (dVar 2) dIx) (aCons (dVar 3) aNil)) m__law_told)) (dNot (bindA (aCons (dVar 3) (aCons (bind2 (dVar 1) (dVar 2) dIx) aNil)) m__law_told)))
  (sSeq (sRet (dC (.bl false))) sNext) sNext) sNext)
theorem inner_ok {S : D} {fs : List Fra} {k : Int} {x y : Fra} (hx : Fin60 x) (hy : Fin60 y) (hix : dIx (.lst (fs.map fr)) (.int k) = .ok (fr x)) :
    inner [.sh S, .sh (.lst (fs.map fr)), .sh (.int k), .sh (fr y), .no, .no, .no] = .ok (.nx [.sh S, .sh (.lst (fs.map fr)), .sh (.int k), .sh (fr y), .no, .no, .no]) := by
  unfold inner
  refine seq_next (if_f (t := sNext) ?_)
  have it : (bind2 (dVar 1) (dVar 2) dIx) (shr [.sh S, .sh (.lst (fs.map fr)), .sh (.int k), .sh (fr y), .no, .no, .no]) = .ok (fr x) := (bind2_ok (x := .lst (fs.map fr)) (y := .int k) rfl rfl).trans hix
  refine (or_f (not_ok (b := true) ?_)).trans (not_ok (b := true) ?_)
  · exact (bindA_ok (xs := [fr x, fr y]) (acons_ok it (acons_ok rfl rfl))).trans (told_fr hx hy)
  · exact (bindA_ok (xs := [fr y, fr x]) (acons_ok rfl (acons_ok it rfl))).trans (told_fr hy hx)
theorem inner_loop {S : D} {fs : List Fra} {k : Int} {x : Fra} (hx : Fin60 x) (hix : dIx (.lst (fs.map fr)) (.int k) = .ok (fr x)) : ∀ (ys : List Fra) (z : Sl), (∀ y ∈ ys, Fin60 y) →
    ∃ z', forD (gSet 3) inner (ys.map fr) [.sh S, .sh (.lst (fs.map fr)), .sh (.int k), z, .no, .no, .no] = .ok (.nx [.sh S, .sh (.lst (fs.map fr)), .sh (.int k), z', .no, .no, .no])
  | [], z, _ => ⟨z, rfl⟩
  | y :: ys, z, h => by
    obtain ⟨z', e⟩ := inner_loop hx hix ys (.sh (fr y)) fun u hu => h u (List.mem_cons_of_mem _ hu)
    refine ⟨z', ?_⟩
    rw [List.map_cons, forD_nx (ρ1 := [.sh S, .sh (.lst (fs.map fr)), .sh (.int k), .sh (fr y), .no, .no, .no]) rfl (inner_ok hx (h y List.mem_cons_self) hix)]
    exact e
def outer : Ev → Res Fl := (sSeq (sFor (bindA (aCons (bind2 (dVar 1) (bind2 (dVar 2) (dC (.int 1)) dSub) dIx) (aCons (bind2 (dVar 1) (dC (.int 0)) dIx) (aCons (bind2 (dVar 1) (dVar 2) dIx) aNil))) mLst) (gSet 3) inner) sNext)
theorem outer_loop {S : D} {fs : List Fra} (hf : ∀ x ∈ fs, Fin60 x) : ∀ (j k : Nat), k + j = fs.length → ∀ (x z : Sl), ∃ x' z', forD (gSet 2) outer ((DL.intsFrom 0 fs.length).drop k) [.sh S, .sh (.lst (fs.map fr)), x, z, .no, .no, .no] = .ok (.nx [.sh S, .sh (.lst (fs.map fr)), x', z', .no, .no, .no])
  | 0, k, hk, x, z => by
    have : k = fs.length := by omega
    rw [this, ints_end]
    exact ⟨x, z, rfl⟩
  | j + 1, k, hk, x, z => by
    have hlt : k < fs.length := by omega
    obtain ⟨a, ha, ea⟩ := item_fr (fs := fs) (i := (k : Int) - 1) (by omega) (by omega)
    obtain ⟨b, hb, eb⟩ := item_fr (fs := fs) (i := 0) (by omega) (by omega)
    obtain ⟨c, hc, ec⟩ := item_fr (fs := fs) (i := (k : Int)) (by omega) (by omega)
    obtain ⟨z1, e1⟩ := inner_loop (S := S) (hf c hc) ec [a, b, c] z (fun y hy => by
      simp only [List.mem_cons, List.mem_nil_iff, or_false] at hy
      rcases hy with rfl | rfl | rfl
      · exact hf _ ha
      · exact hf _ hb
      · exact hf _ hc)
    obtain ⟨x', z', e⟩ := outer_loop (S := S) hf j (k + 1) (by omega) (.sh (.int (k : Int))) z1
    refine ⟨x', z', ?_⟩
    rw [ints_drop hlt, forD_nx (ρ1 := [.sh S, .sh (.lst (fs.map fr)), .sh (.int (k : Int)), z, .no, .no, .no]) (ρ2 := [.sh S, .sh (.lst (fs.map fr)), .sh (.int (k : Int)), z1, .no, .no, .no]) rfl]
    · exact e
    · unfold outer
      refine seq_next ((for_ok (ds := [fr a, fr b, fr c]) ?_).trans e1)
      refine (bindA_ok (xs := [fr a, fr b, fr c]) (acons_ok ?_ (acons_ok ?_ (acons_ok ?_ rfl)))).trans rfl
      · exact (bind2_ok (x := .lst (fs.map fr)) (y := .int ((k : Int) - 1)) rfl rfl).trans ea
      · exact (bind2_ok (x := .lst (fs.map fr)) (y := .int 0) rfl rfl).trans eb
      · exact (bind2_ok (x := .lst (fs.map fr)) (y := .int (k : Int)) rfl rfl).trans ec
theorem law_true (ns : List Int) (h : ns.length ≤ 63) : m_law [.lst (ns.map D.int)] = .ok (.bl true) := by
  obtain ⟨fs, hf, hl1, hl2, el⟩ := list_fr ns
  have hn : fs ≠ [] := by intro z; subst z; simp at hl1
  obtain ⟨x', z', eo⟩ := outer_loop (S := .lst (ns.map D.int)) hf fs.length 0 (by omega) .no .no
  obtain ⟨l, m, ee⟩ := ends_fr hf hn
  have es := sum_of_fr (show fs.length ≤ 61 by omega) hf
  have els := law_sum_fr (show fs.length ≤ 61 by omega) hf
  have hA := tot_acc (show fs.length ≤ 61 by omega) hf
  have hlow := low_low (a := (tot fs).1) hA.pos
  generalize low (tot fs).1 (tot fs).2 = t at *
  have e0 : m_sum_of [.lst []] = .ok (fr (0, 1)) := sum_of_fr (xs := []) (by decide) (fun x hx => by simp at hx)
  refine run_rt (n := 7) (ds := [.lst (ns.map D.int)]) ?_
  show b_law [.sh (.lst (ns.map D.int)), .no, .no, .no, .no, .no, .no] = _
  unfold b_law
  rw [seq_nx (ρ' := [.sh (.lst (ns.map D.int)), .sh (.lst (fs.map fr)), .no, .no, .no, .no, .no]) (set_ok ((bindA_ok (xs := [.lst (ns.map D.int)]) rfl).trans el))]
  have w : (sForR (bindA (aCons (dVar 1) aNil) (m1 dLen)) (gSet 2) outer) [.sh (.lst (ns.map D.int)), .sh (.lst (fs.map fr)), .no, .no, .no, .no, .no] = .ok (.nx [.sh (.lst (ns.map D.int)), .sh (.lst (fs.map fr)), x', z', .no, .no, .no]) := by
    unfold sForR
    have hlen : (bindA (aCons (dVar 1) aNil) (m1 dLen)) (shr [.sh (.lst (ns.map D.int)), .sh (.lst (fs.map fr)), .no, .no, .no, .no, .no]) = .ok (.int (fs.length : Int)) := by
      show Res.ok (D.int ((fs.map fr).length : Int)) = _
      rw [List.length_map]
    rw [hlen, bok]
    show (if _ then _ else _) = _
    rw [if_pos (by omega)]
    exact eo
  refine (seq_nx w).trans ?_
  refine (seq_nx (ρ' := [.sh (.lst (ns.map D.int)), .sh (.lst (fs.map fr)), x', z', .ow (.lst (fs.map fr)), .no, .no]) rfl).trans ?_
  have lk : ∀ a b, ∃ x'' z'', shr [.sh (.lst (ns.map D.int)), .sh (.lst (fs.map fr)), x', z', .ow (.lst (fs.map fr)), a, b] = [.sh (.lst (ns.map D.int)), .sh (.lst (fs.map fr)), x'', z'', .sh (.lst (fs.map fr)), (shr [a]).headD .no, (shr [b]).headD .no] := fun a b => ⟨_, _, rfl⟩
  have flE : flat (.tup [fr l, fr m]) = true := rfl
  have flT : flat (fr t) = true := rfl
  refine (seq_nx (ρ' := [.sh (.lst (ns.map D.int)), .sh (.lst (fs.map fr)), x', z', .ow (.lst (fs.map fr)), .sh (.tup [fr l, fr m]), .no]) ?_).trans ?_
  · unfold sSetL
    have : (bindA (aCons (dVar 4) aNil) m__law_ends) (shr [.sh (.lst (ns.map D.int)), .sh (.lst (fs.map fr)), x', z', .ow (.lst (fs.map fr)), .no, .no]) = .ok (.tup [fr l, fr m]) := (bindA_ok (xs := [.lst (fs.map fr)]) rfl).trans ee
    rw [this, bok, if_pos flE]
    rfl
  refine (seq_nx (ρ' := [.sh (.lst (ns.map D.int)), .sh (.lst (fs.map fr)), x', z', .ow (.lst (fs.map fr)), .sh (.tup [fr l, fr m]), .sh (fr t)]) ?_).trans ?_
  · unfold sSetL
    have : (bindA (aCons (dVar 4) aNil) m_sum_of) (shr [.sh (.lst (ns.map D.int)), .sh (.lst (fs.map fr)), x', z', .ow (.lst (fs.map fr)), .sh (.tup [fr l, fr m]), .no]) = .ok (fr t) := (bindA_ok (xs := [.lst (fs.map fr)]) rfl).trans es
    rw [this, bok, if_pos flT]
    rfl
  refine (skip ?_).trans ?_
  · refine (or_f ?_).trans ((or_f ?_).trans ((or_f ?_).trans ?_))
    · exact (bind2_ok (x := .tup [fr l, fr m]) (y := .non) rfl rfl).trans rfl
    · exact not_ok (b := true) ((bindA_ok (xs := [fr t]) rfl).trans (is_ratio_fr hlow))
    · exact (bind2_ok (x := fr t) (y := fr t) rfl ((bindA_ok (xs := [.lst (fs.map fr)]) rfl).trans els)).trans (ne_refl (shal_fr t))
    · exact (bind2_ok (x := .lst (fs.map fr)) (y := .lst (fs.map fr)) rfl rfl).trans (ne_refl (shal_lfr fs))
  refine (seq_nx (ρ' := [.sh (.lst (ns.map D.int)), .sh (.lst (fs.map fr)), x', z', .ow (.lst []), .sh (.tup [fr l, fr m]), .sh (fr t)]) rfl).trans ?_
  have e0' : (bindA (aCons (dVar 4) aNil) m_sum_of) (shr [.sh (.lst (ns.map D.int)), .sh (.lst (fs.map fr)), x', z', .ow (.lst []), .sh (.tup [fr l, fr m]), .sh (fr t)]) = .ok (fr (0, 1)) := (bindA_ok (xs := [.lst []]) rfl).trans e0
  refine (skip ?_).trans ?_
  · refine (or_f ?_).trans ?_
    · exact not_ok (b := true) ((bindA_ok (xs := [fr (0, 1)]) (acons_ok e0' rfl)).trans (is_ratio_fr ⟨by decide, by decide⟩))
    · exact (bind2_ok (x := fr (0, 1)) (y := fr (0, 1)) e0' rfl).trans (ne_refl (shal_fr _))
  refine seq_rt (ret_ok ?_)
  refine (and_t ?_).trans ?_
  · refine (bind2_ok (x := .tup [fr l, fr m]) (y := .tup [fr l, fr m]) ((bindA_ok (xs := [.lst (fs.map fr)]) rfl).trans ee) rfl).trans (eq_refl' rfl)
  · refine (bind2_ok (x := fr t) (y := fr t) ((bindA_ok (xs := [.lst (fs.map fr)]) rfl).trans es) rfl).trans (eq_refl' (shal_fr t))
end K03

set_option Elab.async false
set_option linter.all false
set_option maxRecDepth 100000
namespace K03
open PySem L2 DL
def top (i : Nat) : Stmt := PySem.Challenge.pw_farthestcut_k03_order_and_lists.main.body.getD i (.Pass ⟨0, 0, 0, 0⟩)
abbrev s__law_draws : Stmt := top 16
abbrev s__law_divisor : Stmt := top 18
abbrev s__law_lowest : Stmt := top 19
abbrev s__law_fraction : Stmt := top 21
abbrev s__law_list : Stmt := top 22
abbrev s_is_less : Stmt := top 11
abbrev s__law_under : Stmt := top 23
abbrev s__law_told : Stmt := top 24
abbrev s_least_of : Stmt := top 12
abbrev s_most_of : Stmt := top 13
abbrev s__law_whole : Stmt := top 17
abbrev s__law_is_ratio : Stmt := top 20
abbrev s__law_ends : Stmt := top 26
abbrev s_is_whole : Stmt := top 6
abbrev s_common_divisor : Stmt := top 1
abbrev s_ratio : Stmt := top 9
abbrev s_plus : Stmt := top 10
abbrev s_sum_of : Stmt := top 14
abbrev s__law_sum : Stmt := top 25
abbrev s_law : Stmt := top 27
theorem sc__law_draws : FnScope ["_law_cell", "_law_sizes", "_law_number", "_law_left", "_law_found", "_law_k", "_law_one"] ["_law_cell", "_law_sizes"] (defScope s__law_draws) := ⟨rfl, rfl, rfl, by decide +kernel, rfl, by decide +kernel, by decide +kernel⟩
theorem sc__law_divisor : FnScope ["_law_one", "_law_other"] ["_law_one", "_law_other"] (defScope s__law_divisor) := ⟨rfl, rfl, rfl, by decide +kernel, rfl, by decide +kernel, by decide +kernel⟩
theorem sc__law_lowest : FnScope ["_law_top", "_law_bottom", "_law_share"] ["_law_top", "_law_bottom"] (defScope s__law_lowest) := ⟨rfl, rfl, rfl, by decide +kernel, rfl, by decide +kernel, by decide +kernel⟩
theorem sc__law_fraction : FnScope ["_law_cell", "_law_ahead", "_law_bound", "_law_way", "_law_sign", "_law_above", "_law_below", "_law_found"] ["_law_cell", "_law_ahead", "_law_bound"] (defScope s__law_fraction) := ⟨rfl, rfl, rfl, by decide +kernel, rfl, by decide +kernel, by decide +kernel⟩
theorem sc__law_list : FnScope ["_law_script", "_law_wide", "_law_found", "_law_cell"] ["_law_script"] (defScope s__law_list) := ⟨rfl, rfl, rfl, by decide +kernel, rfl, by decide +kernel, by decide +kernel⟩
theorem sc_is_less : FnScope ["one", "other"] ["one", "other"] (defScope s_is_less) := ⟨rfl, rfl, rfl, by decide +kernel, rfl, by decide +kernel, by decide +kernel⟩
theorem sc__law_under : FnScope ["_law_one", "_law_other"] ["_law_one", "_law_other"] (defScope s__law_under) := ⟨rfl, rfl, rfl, by decide +kernel, rfl, by decide +kernel, by decide +kernel⟩
theorem sc__law_told : FnScope ["_law_one", "_law_other", "_law_found"] ["_law_one", "_law_other"] (defScope s__law_told) := ⟨rfl, rfl, rfl, by decide +kernel, rfl, by decide +kernel, by decide +kernel⟩
theorem sc_least_of : FnScope ["some", "least", "one"] ["some"] (defScope s_least_of) := ⟨rfl, rfl, rfl, by decide +kernel, rfl, by decide +kernel, by decide +kernel⟩
theorem sc_most_of : FnScope ["some", "most", "one"] ["some"] (defScope s_most_of) := ⟨rfl, rfl, rfl, by decide +kernel, rfl, by decide +kernel, by decide +kernel⟩
theorem sc__law_whole : FnScope ["_law_thing"] ["_law_thing"] (defScope s__law_whole) := ⟨rfl, rfl, rfl, by decide +kernel, rfl, by decide +kernel, by decide +kernel⟩
theorem sc__law_is_ratio : FnScope ["_law_thing"] ["_law_thing"] (defScope s__law_is_ratio) := ⟨rfl, rfl, rfl, by decide +kernel, rfl, by decide +kernel, by decide +kernel⟩
theorem sc__law_ends : FnScope ["_law_some", "_law_least", "_law_most", "_law_one"] ["_law_some"] (defScope s__law_ends) := ⟨rfl, rfl, rfl, by decide +kernel, rfl, by decide +kernel, by decide +kernel⟩
theorem sc_is_whole : FnScope ["thing"] ["thing"] (defScope s_is_whole) := ⟨rfl, rfl, rfl, by decide +kernel, rfl, by decide +kernel, by decide +kernel⟩
theorem sc_common_divisor : FnScope ["one", "other", "larger", "smaller", "rest"] ["one", "other"] (defScope s_common_divisor) := ⟨rfl, rfl, rfl, by decide +kernel, rfl, by decide +kernel, by decide +kernel⟩
theorem sc_ratio : FnScope ["top", "bottom", "divisor"] ["top", "bottom"] (defScope s_ratio) := ⟨rfl, rfl, rfl, by decide +kernel, rfl, by decide +kernel, by decide +kernel⟩
theorem sc_plus : FnScope ["one", "other"] ["one", "other"] (defScope s_plus) := ⟨rfl, rfl, rfl, by decide +kernel, rfl, by decide +kernel, by decide +kernel⟩
theorem sc_sum_of : FnScope ["some", "total", "one"] ["some"] (defScope s_sum_of) := ⟨rfl, rfl, rfl, by decide +kernel, rfl, by decide +kernel, by decide +kernel⟩
theorem sc__law_sum : FnScope ["_law_some", "_law_top", "_law_bottom", "_law_one"] ["_law_some"] (defScope s__law_sum) := ⟨rfl, rfl, rfl, by decide +kernel, rfl, by decide +kernel, by decide +kernel⟩
theorem sc_law : FnScope ["_law_script", "_law_some", "_law_k", "_law_other", "_law_handed", "_law_ends_here", "_law_total"] ["_law_script"] (defScope s_law) := ⟨rfl, rfl, rfl, by decide +kernel, rfl, by decide +kernel, by decide +kernel⟩
structure Adr where
  a__law_draws : Addr
  d__law_draws : FuncData
  a__law_divisor : Addr
  d__law_divisor : FuncData
  a__law_lowest : Addr
  d__law_lowest : FuncData
  a__law_fraction : Addr
  d__law_fraction : FuncData
  a__law_list : Addr
  d__law_list : FuncData
  a_is_less : Addr
  d_is_less : FuncData
  a__law_under : Addr
  d__law_under : FuncData
  a__law_told : Addr
  d__law_told : FuncData
  a_least_of : Addr
  d_least_of : FuncData
  a_most_of : Addr
  d_most_of : FuncData
  a__law_whole : Addr
  d__law_whole : FuncData
  a__law_is_ratio : Addr
  d__law_is_ratio : FuncData
  a__law_ends : Addr
  d__law_ends : FuncData
  a_is_whole : Addr
  d_is_whole : FuncData
  a_common_divisor : Addr
  d_common_divisor : FuncData
  a_ratio : Addr
  d_ratio : FuncData
  a_plus : Addr
  d_plus : FuncData
  a_sum_of : Addr
  d_sum_of : FuncData
  a__law_sum : Addr
  d__law_sum : FuncData
  a_law : Addr
  d_law : FuncData
structure Txt (K : PySem.W.Frag) (mg : Str → Option Value) (t : Adr) : Prop where
  F__law_draws : Fun K "_law_draws" "_law_draws" s__law_draws t.a__law_draws t.d__law_draws
  b__law_draws : Binds K t.d__law_draws ["_law_cell", "_law_sizes"] []
  g__law_draws : mg "_law_draws" = some (.ref t.a__law_draws)
  F__law_divisor : Fun K "_law_divisor" "_law_divisor" s__law_divisor t.a__law_divisor t.d__law_divisor
  b__law_divisor : Binds K t.d__law_divisor ["_law_one", "_law_other"] []
  g__law_divisor : mg "_law_divisor" = some (.ref t.a__law_divisor)
  F__law_lowest : Fun K "_law_lowest" "_law_lowest" s__law_lowest t.a__law_lowest t.d__law_lowest
  b__law_lowest : Binds K t.d__law_lowest ["_law_top", "_law_bottom"] []
  g__law_lowest : mg "_law_lowest" = some (.ref t.a__law_lowest)
  F__law_fraction : Fun K "_law_fraction" "_law_fraction" s__law_fraction t.a__law_fraction t.d__law_fraction
  b__law_fraction : Binds K t.d__law_fraction ["_law_cell", "_law_ahead", "_law_bound"] []
  g__law_fraction : mg "_law_fraction" = some (.ref t.a__law_fraction)
  F__law_list : Fun K "_law_list" "_law_list" s__law_list t.a__law_list t.d__law_list
  b__law_list : Binds K t.d__law_list ["_law_script"] []
  g__law_list : mg "_law_list" = some (.ref t.a__law_list)
  F_is_less : Fun K "is_less" "is_less" s_is_less t.a_is_less t.d_is_less
  b_is_less : Binds K t.d_is_less ["one", "other"] []
  g_is_less : mg "is_less" = some (.ref t.a_is_less)
  F__law_under : Fun K "_law_under" "_law_under" s__law_under t.a__law_under t.d__law_under
  b__law_under : Binds K t.d__law_under ["_law_one", "_law_other"] []
  g__law_under : mg "_law_under" = some (.ref t.a__law_under)
  F__law_told : Fun K "_law_told" "_law_told" s__law_told t.a__law_told t.d__law_told
  b__law_told : Binds K t.d__law_told ["_law_one", "_law_other"] []
  g__law_told : mg "_law_told" = some (.ref t.a__law_told)
  F_least_of : Fun K "least_of" "least_of" s_least_of t.a_least_of t.d_least_of
  b_least_of : Binds K t.d_least_of ["some"] []
  g_least_of : mg "least_of" = some (.ref t.a_least_of)
  F_most_of : Fun K "most_of" "most_of" s_most_of t.a_most_of t.d_most_of
  b_most_of : Binds K t.d_most_of ["some"] []
  g_most_of : mg "most_of" = some (.ref t.a_most_of)
  F__law_whole : Fun K "_law_whole" "_law_whole" s__law_whole t.a__law_whole t.d__law_whole
  b__law_whole : Binds K t.d__law_whole ["_law_thing"] []
  g__law_whole : mg "_law_whole" = some (.ref t.a__law_whole)
  F__law_is_ratio : Fun K "_law_is_ratio" "_law_is_ratio" s__law_is_ratio t.a__law_is_ratio t.d__law_is_ratio
  b__law_is_ratio : Binds K t.d__law_is_ratio ["_law_thing"] []
  g__law_is_ratio : mg "_law_is_ratio" = some (.ref t.a__law_is_ratio)
  F__law_ends : Fun K "_law_ends" "_law_ends" s__law_ends t.a__law_ends t.d__law_ends
  b__law_ends : Binds K t.d__law_ends ["_law_some"] []
  g__law_ends : mg "_law_ends" = some (.ref t.a__law_ends)
  F_is_whole : Fun K "is_whole" "is_whole" s_is_whole t.a_is_whole t.d_is_whole
  b_is_whole : Binds K t.d_is_whole ["thing"] []
  g_is_whole : mg "is_whole" = some (.ref t.a_is_whole)
  F_common_divisor : Fun K "common_divisor" "common_divisor" s_common_divisor t.a_common_divisor t.d_common_divisor
  b_common_divisor : Binds K t.d_common_divisor ["one", "other"] []
  g_common_divisor : mg "common_divisor" = some (.ref t.a_common_divisor)
  F_ratio : Fun K "ratio" "ratio" s_ratio t.a_ratio t.d_ratio
  b_ratio : Binds K t.d_ratio ["top", "bottom"] []
  g_ratio : mg "ratio" = some (.ref t.a_ratio)
  F_plus : Fun K "plus" "plus" s_plus t.a_plus t.d_plus
  b_plus : Binds K t.d_plus ["one", "other"] []
  g_plus : mg "plus" = some (.ref t.a_plus)
  F_sum_of : Fun K "sum_of" "sum_of" s_sum_of t.a_sum_of t.d_sum_of
  b_sum_of : Binds K t.d_sum_of ["some"] []
  g_sum_of : mg "sum_of" = some (.ref t.a_sum_of)
  F__law_sum : Fun K "_law_sum" "_law_sum" s__law_sum t.a__law_sum t.d__law_sum
  b__law_sum : Binds K t.d__law_sum ["_law_some"] []
  g__law_sum : mg "_law_sum" = some (.ref t.a__law_sum)
  F_law : Fun K "law" "law" s_law t.a_law t.d_law
  b_law : Binds K t.d_law ["_law_script"] []
  g_law : mg "law" = some (.ref t.a_law)
  n_abs : mg "abs" = none
  n_bool : mg "bool" = none
  n_int : mg "int" = none
  n_isinstance : mg "isinstance" = none
  n_len : mg "len" = none
  n_list : mg "list" = none
  n_max : mg "max" = none
  n_range : mg "range" = none
  n_tuple : mg "tuple" = none
  c_NOUGHT : Kon K mg "NOUGHT" (.tup [(.int 0), (.int 1)])
section
variable {P : Program} {w : World} {K : PySem.W.Frag} {mg : Str → Option Value} {base : Heap} {t : Adr}
set_option maxHeartbeats 4000000 in
theorem ok__law_draws (T : Txt K mg t) : FnOk P w K mg base CX0 1 t.a__law_draws t.d__law_draws ["_law_cell", "_law_sizes"] (spD K 2 m__law_draws) :=
  fn_mirror T.F__law_draws sc__law_draws fun cdv A outer s0 H H₀ E hr => (
  (dss_cons (ds_set (i := 2) sc__law_draws.nd rfl (Or.inl rfl) (de_callB (call_max2 rfl) cd_max rfl T.n_max PyProof.Rows.Boot.«max» (da_cons (dv 0) (da_cons (de_sub (de_neg de_int) (dv 0)) da_nil))))
  (dss_cons (ds_set (i := 3) sc__law_draws.nd rfl (Or.inl rfl) (dv 2))
  (dss_cons (ds_own (i := 4) sc__law_draws.nd rfl (Or.inl rfl) (df_lst da_nil))
  (dss_cons (ds_forR PassesOwn.never rfl rfl T.n_range (de_callB call_len cd_len rfl T.n_len PyProof.Rows.Boot.«len» (da_cons (dv 1) da_nil)) (dg_name (i := 5) sc__law_draws.nd rfl (Or.inl rfl)) total_set
  (dss_cons (ds_if (DW.dt (dw_and (dt_cmp op_ge (od_iop0 fun _ _ _ _ => rb _) (dv 2) (de_pow de_int de_int) nm) (dw_one_and (dt_cmp op_gt (od_iop0 fun _ _ _ _ => rb _) (dv 3) de_int nm))))
  (dss_cons (ds_append (i := 4) rfl (Or.inl rfl) (de_mod (dv 3) (de_item (dv 1) (dv 5))))
  (dss_cons (ds_set (i := 3) sc__law_draws.nd rfl (Or.inl rfl) (de_div (dv 3) (de_item (dv 1) (dv 5))))
  dss_nil))
  (dss_cons (ds_set (i := 6) sc__law_draws.nd rfl (Or.inl rfl) (de_mod (de_mul (de_add (de_add (de_add (de_mod (dv 2) de_int) (de_mul (de_mul de_int (dv 5)) (dv 5))) (de_mul de_int (dv 5))) de_int) de_int) de_int))
  (dss_cons (ds_set (i := 6) sc__law_draws.nd rfl (Or.inl rfl) (de_mod (de_mul (de_add (de_mod (de_mul (dv 6) (dv 6)) de_int) (dv 5)) de_int) de_int))
  (dss_cons (ds_append (i := 4) rfl (Or.inl rfl) (de_mod (de_div (dv 6) de_int) (de_item (dv 1) (dv 5))))
  dss_nil))))
  dss_nil))
  (dss_cons (ds_ret (dv 4))
  dss_nil))))))
set_option maxHeartbeats 4000000 in
theorem ok__law_divisor (T : Txt K mg t) : FnOk P w K mg base CX0 1 t.a__law_divisor t.d__law_divisor ["_law_one", "_law_other"] (spD K 2 m__law_divisor) :=
  fn_mirror T.F__law_divisor sc__law_divisor fun cdv A outer s0 H H₀ E hr => (
  (dss_cons (ds_while _ PassesOwn.never (dt_cmp (op_neD hr.units) od_ne (dv 1) de_int nm)
  (dss_cons (ds_par (i := 0) (j := 1) rfl sc__law_divisor.nd rfl rfl (by decide) rfl rfl (da_cons (dv 1) (da_cons (de_mod (dv 0) (dv 1)) da_nil)) rfl)
  dss_nil))
  (dss_cons (ds_ret (de_callB call_abs cd_abs rfl T.n_abs PyProof.Rows.Boot.«abs» (da_cons (dv 0) da_nil)))
  dss_nil)))
set_option maxHeartbeats 4000000 in
theorem ok__law_lowest (T : Txt K mg t) : FnOk P w K mg base CX0 2 t.a__law_lowest t.d__law_lowest ["_law_top", "_law_bottom"] (spD K 2 m__law_lowest) :=
  fn_mirror T.F__law_lowest sc__law_lowest fun cdv A outer s0 H H₀ E hr => (
  (dss_cons (ds_set (i := 2) sc__law_lowest.nd rfl (Or.inl rfl) (de_call ((ok__law_divisor T).mono (by decide : 1 ≤ 1)) hr rfl T.g__law_divisor T.F__law_divisor.kp T.b__law_divisor pass0 (da_cons (dv 0) (da_cons (dv 1) da_nil)) rfl (fun ρ ds h => (fun _ h => aCons_len (fun _ h => aCons_len (fun _ h => aNil_len h) h) h) ds h)))
  (dss_cons (ds_ret (de_tup (da_cons (de_div (dv 0) (dv 2)) (da_cons (de_div (dv 1) (dv 2)) da_nil))))
  dss_nil)))
set_option maxHeartbeats 4000000 in
theorem ok__law_fraction (T : Txt K mg t) : FnOk P w K mg base CX0 3 t.a__law_fraction t.d__law_fraction ["_law_cell", "_law_ahead", "_law_bound"] (spD K 3 m__law_fraction) :=
  fn_mirror T.F__law_fraction sc__law_fraction fun cdv A outer s0 H H₀ E hr => (
  (dss_cons (ds_unp rfl (de_call ((ok__law_draws T).mono (by decide : 1 ≤ 2)) hr rfl T.g__law_draws T.F__law_draws.kp T.b__law_draws pass0 (da_cons (dv 0) (da_cons (de_lst (da_cons de_int (da_cons de_int (da_cons (de_pow de_int de_int) (da_cons (dv 2) da_nil))))) da_nil)) rfl (fun ρ ds h => (fun _ h => aCons_len (fun _ h => aCons_len (fun _ h => aNil_len h) h) h) ds h)) (dgs_cons (i := 3) sc__law_fraction.nd rfl (Or.inl rfl) (dgs_cons (i := 4) sc__law_fraction.nd rfl (Or.inl rfl) (dgs_cons (i := 5) sc__law_fraction.nd rfl (Or.inl rfl) (dgs_cons (i := 6) sc__law_fraction.nd rfl (Or.inl rfl) dgs_nil)))))
  (dss_cons (ds_if (DW.dt (dw_and (dt_cmp (op_eqD hr.units) od_eq (dv 3) de_int nm) (dw_one_and (dt_cmp (op_neD hr.units) od_ne (dv 1) (de_lst da_nil) nm))))
  (dss_cons (ds_ret (de_item (dv 1) (de_neg de_int)))
  dss_nil)
  dss_nil)
  (dss_cons (ds_if (DW.dt (dw_and (dt_cmp (op_eqD hr.units) od_eq (dv 3) de_int nm) (dw_and (dt_cmp (op_neD hr.units) od_ne (dv 1) (de_lst da_nil) nm) (dw_one_and (dt_cmp op_lt (od_iop0 fun _ _ _ _ => rb _) (de_callB call_abs cd_abs rfl T.n_abs PyProof.Rows.Boot.«abs» (da_cons (de_item (de_item (dv 1) (de_neg de_int)) de_int) da_nil)) (de_sub (de_pow de_int de_int) de_int) nm)))))
  (dss_cons (ds_ret (de_call ((ok__law_lowest T).mono (by decide : 2 ≤ 2)) hr rfl T.g__law_lowest T.F__law_lowest.kp T.b__law_lowest pass0 (da_cons (de_sub (de_add (de_item (de_item (dv 1) (de_neg de_int)) de_int) de_int) (de_mul de_int (dv 4))) (da_cons (de_item (de_item (dv 1) (de_neg de_int)) de_int) da_nil)) rfl (fun ρ ds h => (fun _ h => aCons_len (fun _ h => aCons_len (fun _ h => aNil_len h) h) h) ds h)))
  dss_nil)
  dss_nil)
  (dss_cons (ds_if (dt_cmp (op_eqD hr.units) od_eq (dv 3) de_int nm)
  (dss_cons (ds_set (i := 5) sc__law_fraction.nd rfl (Or.inl rfl) (de_mod (dv 5) de_int))
  dss_nil)
  dss_nil)
  (dss_cons (ds_set (i := 7) sc__law_fraction.nd rfl (Or.inl rfl) (de_call ((ok__law_lowest T).mono (by decide : 2 ≤ 2)) hr rfl T.g__law_lowest T.F__law_lowest.kp T.b__law_lowest pass0 (da_cons (dv 5) (da_cons (de_add de_int (dv 6)) da_nil)) rfl (fun ρ ds h => (fun _ h => aCons_len (fun _ h => aCons_len (fun _ h => aNil_len h) h) h) ds h)))
  (dss_cons (ds_if (dt_cmp (op_eqD hr.units) od_eq (dv 4) de_int nm)
  (dss_cons (ds_ret (de_tup (da_cons (de_sub de_int (de_item (dv 7) de_int)) (da_cons (de_item (dv 7) de_int) da_nil))))
  dss_nil)
  dss_nil)
  (dss_cons (ds_ret (dv 7))
  dss_nil))))))))
set_option maxHeartbeats 4000000 in
theorem ok__law_list (T : Txt K mg t) : FnOk P w K mg base CX0 4 t.a__law_list t.d__law_list ["_law_script"] (spD K 1 m__law_list) :=
  fn_mirror T.F__law_list sc__law_list fun cdv A outer s0 H H₀ E hr => (
  (dss_cons (ds_set (i := 1) sc__law_list.nd rfl (Or.inl rfl) (de_and (de_cmp op_gt (od_iop0 fun _ _ _ _ => rb _) (de_callB call_len cd_len rfl T.n_len PyProof.Rows.Boot.«len» (da_cons (dv 0) da_nil)) de_int nm) (de_one (de_cmp (op_eqD hr.units) od_eq (de_mod (de_item (dv 0) de_int) de_int) de_int nm))))
  (dss_cons (ds_own (i := 2) sc__law_list.nd rfl (Or.inl rfl) (df_lst da_nil))
  (dss_cons (ds_for PassesOwn.never rfl (de_slice (dv 0) (do_some de_int) (do_some (de_item (de_lst (da_cons de_int (da_cons de_int da_nil))) (de_callT call_int1 cd_int rfl T.n_int PyProof.Rows.Boot.«int» (da_cons (dv 1) da_nil))))) (dg_name (i := 3) sc__law_list.nd rfl (Or.inl rfl)) total_set
  (dss_cons (ds_appendL (i := 2) rfl (Or.inl rfl) (de_call ((ok__law_fraction T).mono (by decide : 3 ≤ 3)) hr rfl T.g__law_fraction T.F__law_fraction.kp T.b__law_fraction pass0 (da_cons (dv 3) (da_cons (dv 2) (da_cons (de_item (de_lst (da_cons (de_sub (de_pow de_int de_int) de_int) (da_cons de_int da_nil))) (de_callT call_int1 cd_int rfl T.n_int PyProof.Rows.Boot.«int» (da_cons (dv 1) da_nil))) da_nil))) rfl (fun ρ ds h => (fun _ h => aCons_len (fun _ h => aCons_len (fun _ h => aCons_len (fun _ h => aNil_len h) h) h) h) ds h)))
  dss_nil))
  (dss_cons (ds_if (dt_cmp (op_eqD hr.units) od_eq (dv 2) (de_lst da_nil) nm)
  (dss_cons (ds_ret (de_lst (da_cons (de_tup (da_cons de_int (da_cons de_int da_nil))) da_nil)))
  dss_nil)
  dss_nil)
  (dss_cons (ds_ret (dv 2))
  dss_nil))))))
set_option maxHeartbeats 4000000 in
theorem ok_is_less (T : Txt K mg t) : FnOk P w K mg base CX0 1 t.a_is_less t.d_is_less ["one", "other"] (spD K 2 m_is_less) :=
  fn_mirror T.F_is_less sc_is_less fun cdv A outer s0 H H₀ E hr => (
  (dss_cons (ds_ret (de_cmp op_lt (od_iop0 fun _ _ _ _ => rb _) (de_mul (de_item (dv 0) de_int) (de_item (dv 1) de_int)) (de_mul (de_item (dv 1) de_int) (de_item (dv 0) de_int)) nm))
  dss_nil))
set_option maxHeartbeats 4000000 in
theorem ok__law_under (T : Txt K mg t) : FnOk P w K mg base CX0 1 t.a__law_under t.d__law_under ["_law_one", "_law_other"] (spD K 2 m__law_under) :=
  fn_mirror T.F__law_under sc__law_under fun cdv A outer s0 H H₀ E hr => (
  (dss_cons (ds_ret (de_cmp op_lt (od_iop0 fun _ _ _ _ => rb _) (de_mul (de_item (dv 0) de_int) (de_item (dv 1) de_int)) (de_mul (de_item (dv 1) de_int) (de_item (dv 0) de_int)) nm))
  dss_nil))
set_option maxHeartbeats 4000000 in
theorem ok__law_told (T : Txt K mg t) : FnOk P w K mg base CX0 2 t.a__law_told t.d__law_told ["_law_one", "_law_other"] (spD K 2 m__law_told) :=
  fn_mirror T.F__law_told sc__law_told fun cdv A outer s0 H H₀ E hr => (
  (dss_cons (ds_set (i := 2) sc__law_told.nd rfl (Or.inl rfl) (de_call ((ok_is_less T).mono (by decide : 1 ≤ 1)) hr rfl T.g_is_less T.F_is_less.kp T.b_is_less pass0 (da_cons (dv 0) (da_cons (dv 1) da_nil)) rfl (fun ρ ds h => (fun _ h => aCons_len (fun _ h => aCons_len (fun _ h => aNil_len h) h) h) ds h)))
  (dss_cons (ds_ret (de_and (de_isinst kit_ok_bool rfl T.n_isinstance rfl T.n_bool PyProof.Rows.Boot.«bool» (dv 2)) (de_one (de_cmp (op_eqD hr.units) od_eq (dv 2) (de_call ((ok__law_under T).mono (by decide : 1 ≤ 1)) hr rfl T.g__law_under T.F__law_under.kp T.b__law_under pass0 (da_cons (dv 0) (da_cons (dv 1) da_nil)) rfl (fun ρ ds h => (fun _ h => aCons_len (fun _ h => aCons_len (fun _ h => aNil_len h) h) h) ds h)) nm))))
  dss_nil)))
set_option maxHeartbeats 4000000 in
theorem ok_least_of (T : Txt K mg t) : FnOk P w K mg base CX0 2 t.a_least_of t.d_least_of ["some"] (spD K 1 m_least_of) :=
  fn_mirror T.F_least_of sc_least_of fun cdv A outer s0 H H₀ E hr => (
  (dss_cons (ds_set (i := 1) sc_least_of.nd rfl (Or.inl rfl) (de_item (dv 0) de_int))
  (dss_cons (ds_for PassesOwn.never rfl (dv 0) (dg_name (i := 2) sc_least_of.nd rfl (Or.inl rfl)) total_set
  (dss_cons (ds_if (dt_val (de_call ((ok_is_less T).mono (by decide : 1 ≤ 1)) hr rfl T.g_is_less T.F_is_less.kp T.b_is_less pass0 (da_cons (dv 2) (da_cons (dv 1) da_nil)) rfl (fun ρ ds h => (fun _ h => aCons_len (fun _ h => aCons_len (fun _ h => aNil_len h) h) h) ds h)))
  (dss_cons (ds_set (i := 1) sc_least_of.nd rfl (Or.inl rfl) (dv 2))
  dss_nil)
  dss_nil)
  dss_nil))
  (dss_cons (ds_ret (dv 1))
  dss_nil))))
set_option maxHeartbeats 4000000 in
theorem ok_most_of (T : Txt K mg t) : FnOk P w K mg base CX0 2 t.a_most_of t.d_most_of ["some"] (spD K 1 m_most_of) :=
  fn_mirror T.F_most_of sc_most_of fun cdv A outer s0 H H₀ E hr => (
  (dss_cons (ds_set (i := 1) sc_most_of.nd rfl (Or.inl rfl) (de_item (dv 0) de_int))
  (dss_cons (ds_for PassesOwn.never rfl (dv 0) (dg_name (i := 2) sc_most_of.nd rfl (Or.inl rfl)) total_set
  (dss_cons (ds_if (dt_val (de_call ((ok_is_less T).mono (by decide : 1 ≤ 1)) hr rfl T.g_is_less T.F_is_less.kp T.b_is_less pass0 (da_cons (dv 1) (da_cons (dv 2) da_nil)) rfl (fun ρ ds h => (fun _ h => aCons_len (fun _ h => aCons_len (fun _ h => aNil_len h) h) h) ds h)))
  (dss_cons (ds_set (i := 1) sc_most_of.nd rfl (Or.inl rfl) (dv 2))
  dss_nil)
  dss_nil)
  dss_nil))
  (dss_cons (ds_ret (dv 1))
  dss_nil))))
set_option maxHeartbeats 4000000 in
theorem ok__law_whole (T : Txt K mg t) : FnOk P w K mg base CX0 1 t.a__law_whole t.d__law_whole ["_law_thing"] (spD K 1 m__law_whole) :=
  fn_mirror T.F__law_whole sc__law_whole fun cdv A outer s0 H H₀ E hr => (
  (dss_cons (ds_ret (de_and (de_isinst kit_ok_int rfl T.n_isinstance rfl T.n_int PyProof.Rows.Boot.«int» (dv 0)) (de_one (de_not (de_isinst kit_ok_bool rfl T.n_isinstance rfl T.n_bool PyProof.Rows.Boot.«bool» (dv 0))))))
  dss_nil))
set_option maxHeartbeats 4000000 in
theorem ok__law_is_ratio (T : Txt K mg t) : FnOk P w K mg base CX0 2 t.a__law_is_ratio t.d__law_is_ratio ["_law_thing"] (spD K 1 m__law_is_ratio) :=
  fn_mirror T.F__law_is_ratio sc__law_is_ratio fun cdv A outer s0 H H₀ E hr => (
  (dss_cons (ds_if (DW.dt (dw_or (dt_not (dt_val (de_isinst kit_ok_tuple rfl T.n_isinstance rfl T.n_tuple PyProof.Rows.Boot.«tuple» (dv 0)))) (dw_one_or (dt_cmp (op_neD hr.units) od_ne (de_callB call_len cd_len rfl T.n_len PyProof.Rows.Boot.«len» (da_cons (dv 0) da_nil)) de_int nm))))
  (dss_cons (ds_ret de_bl)
  dss_nil)
  dss_nil)
  (dss_cons (ds_if (DW.dt (dw_or (dt_not (dt_val (de_call ((ok__law_whole T).mono (by decide : 1 ≤ 1)) hr rfl T.g__law_whole T.F__law_whole.kp T.b__law_whole pass0 (da_cons (de_item (dv 0) de_int) da_nil) rfl (fun ρ ds h => (fun _ h => aCons_len (fun _ h => aNil_len h) h) ds h)))) (dw_or (dt_not (dt_val (de_call ((ok__law_whole T).mono (by decide : 1 ≤ 1)) hr rfl T.g__law_whole T.F__law_whole.kp T.b__law_whole pass0 (da_cons (de_item (dv 0) de_int) da_nil) rfl (fun ρ ds h => (fun _ h => aCons_len (fun _ h => aNil_len h) h) ds h)))) (dw_one_or (dt_cmp op_lt (od_iop0 fun _ _ _ _ => rb _) (de_item (dv 0) de_int) de_int nm)))))
  (dss_cons (ds_ret de_bl)
  dss_nil)
  dss_nil)
  (dss_cons (ds_ret (de_cmp (op_eqD hr.units) od_eq (de_call ((ok__law_divisor T).mono (by decide : 1 ≤ 1)) hr rfl T.g__law_divisor T.F__law_divisor.kp T.b__law_divisor pass0 (da_cons (de_item (dv 0) de_int) (da_cons (de_item (dv 0) de_int) da_nil)) rfl (fun ρ ds h => (fun _ h => aCons_len (fun _ h => aCons_len (fun _ h => aNil_len h) h) h) ds h)) de_int nm))
  dss_nil))))
set_option maxHeartbeats 4000000 in
theorem ok__law_ends (T : Txt K mg t) : FnOk P w K mg base CX0 3 t.a__law_ends t.d__law_ends ["_law_some"] (spD K 1 m__law_ends) :=
  fn_mirror T.F__law_ends sc__law_ends fun cdv A outer s0 H H₀ E hr => (
  (dss_cons (ds_set (i := 1) sc__law_ends.nd rfl (Or.inl rfl) (de_call ((ok_least_of T).mono (by decide : 2 ≤ 2)) hr rfl T.g_least_of T.F_least_of.kp T.b_least_of pass0 (da_cons (dv 0) da_nil) rfl (fun ρ ds h => (fun _ h => aCons_len (fun _ h => aNil_len h) h) ds h)))
  (dss_cons (ds_set (i := 2) sc__law_ends.nd rfl (Or.inl rfl) (de_call ((ok_most_of T).mono (by decide : 2 ≤ 2)) hr rfl T.g_most_of T.F_most_of.kp T.b_most_of pass0 (da_cons (dv 0) da_nil) rfl (fun ρ ds h => (fun _ h => aCons_len (fun _ h => aNil_len h) h) ds h)))
  (dss_cons (ds_if (DW.dt (dw_or (dt_not (dt_val (de_call ((ok__law_is_ratio T).mono (by decide : 2 ≤ 2)) hr rfl T.g__law_is_ratio T.F__law_is_ratio.kp T.b__law_is_ratio pass0 (da_cons (dv 1) da_nil) rfl (fun ρ ds h => (fun _ h => aCons_len (fun _ h => aNil_len h) h) ds h)))) (dw_one_or (dt_not (dt_val (de_call ((ok__law_is_ratio T).mono (by decide : 2 ≤ 2)) hr rfl T.g__law_is_ratio T.F__law_is_ratio.kp T.b__law_is_ratio pass0 (da_cons (dv 2) da_nil) rfl (fun ρ ds h => (fun _ h => aCons_len (fun _ h => aNil_len h) h) ds h)))))))
  (dss_cons (ds_ret de_non)
  dss_nil)
  dss_nil)
  (dss_cons (ds_if (DW.dt (dw_or (dt_cmp (op_notIn hr.units) od_notIn (dv 1) (dv 0) rfl) (dw_one_or (dt_cmp (op_notIn hr.units) od_notIn (dv 2) (dv 0) rfl))))
  (dss_cons (ds_ret de_non)
  dss_nil)
  dss_nil)
  (dss_cons (ds_for PassesOwn.never rfl (dv 0) (dg_name (i := 3) sc__law_ends.nd rfl (Or.inl rfl)) total_set
  (dss_cons (ds_if (DW.dt (dw_or (dt_val (de_call ((ok__law_under T).mono (by decide : 1 ≤ 2)) hr rfl T.g__law_under T.F__law_under.kp T.b__law_under pass0 (da_cons (dv 3) (da_cons (dv 1) da_nil)) rfl (fun ρ ds h => (fun _ h => aCons_len (fun _ h => aCons_len (fun _ h => aNil_len h) h) h) ds h))) (dw_one_or (dt_val (de_call ((ok__law_under T).mono (by decide : 1 ≤ 2)) hr rfl T.g__law_under T.F__law_under.kp T.b__law_under pass0 (da_cons (dv 2) (da_cons (dv 3) da_nil)) rfl (fun ρ ds h => (fun _ h => aCons_len (fun _ h => aCons_len (fun _ h => aNil_len h) h) h) ds h))))))
  (dss_cons (ds_ret de_non)
  dss_nil)
  dss_nil)
  dss_nil))
  (dss_cons (ds_ret (de_tup (da_cons (dv 1) (da_cons (dv 2) da_nil))))
  dss_nil)))))))
set_option maxHeartbeats 4000000 in
theorem ok_is_whole (T : Txt K mg t) : FnOk P w K mg base CX0 1 t.a_is_whole t.d_is_whole ["thing"] (spD K 1 m_is_whole) :=
  fn_mirror T.F_is_whole sc_is_whole fun cdv A outer s0 H H₀ E hr => (
  (dss_cons (ds_ret (de_and (de_isinst kit_ok_int rfl T.n_isinstance rfl T.n_int PyProof.Rows.Boot.«int» (dv 0)) (de_one (de_not (de_isinst kit_ok_bool rfl T.n_isinstance rfl T.n_bool PyProof.Rows.Boot.«bool» (dv 0))))))
  dss_nil))
set_option maxHeartbeats 4000000 in
theorem ok_common_divisor (T : Txt K mg t) : FnOk P w K mg base CX0 1 t.a_common_divisor t.d_common_divisor ["one", "other"] (spD K 2 m_common_divisor) :=
  fn_mirror T.F_common_divisor sc_common_divisor fun cdv A outer s0 H H₀ E hr => (
  (dss_cons (ds_set (i := 2) sc_common_divisor.nd rfl (Or.inl rfl) (de_callB call_abs cd_abs rfl T.n_abs PyProof.Rows.Boot.«abs» (da_cons (dv 0) da_nil)))
  (dss_cons (ds_set (i := 3) sc_common_divisor.nd rfl (Or.inl rfl) (de_callB call_abs cd_abs rfl T.n_abs PyProof.Rows.Boot.«abs» (da_cons (dv 1) da_nil)))
  (dss_cons (ds_while _ PassesOwn.never (dt_cmp (op_neD hr.units) od_ne (dv 3) de_int nm)
  (dss_cons (ds_set (i := 4) sc_common_divisor.nd rfl (Or.inl rfl) (de_mod (dv 2) (dv 3)))
  (dss_cons (ds_set (i := 2) sc_common_divisor.nd rfl (Or.inl rfl) (dv 3))
  (dss_cons (ds_set (i := 3) sc_common_divisor.nd rfl (Or.inl rfl) (dv 4))
  dss_nil))))
  (dss_cons (ds_ret (dv 2))
  dss_nil)))))
set_option maxHeartbeats 4000000 in
theorem ok_ratio (T : Txt K mg t) : FnOk P w K mg base CX0 2 t.a_ratio t.d_ratio ["top", "bottom"] (spD K 2 m_ratio) :=
  fn_mirror T.F_ratio sc_ratio fun cdv A outer s0 H H₀ E hr => (
  (dss_cons (ds_if (DW.dt (dw_or (dt_not (dt_val (de_call ((ok_is_whole T).mono (by decide : 1 ≤ 1)) hr rfl T.g_is_whole T.F_is_whole.kp T.b_is_whole pass0 (da_cons (dv 0) da_nil) rfl (fun ρ ds h => (fun _ h => aCons_len (fun _ h => aNil_len h) h) ds h)))) (dw_one_or (dt_not (dt_val (de_call ((ok_is_whole T).mono (by decide : 1 ≤ 1)) hr rfl T.g_is_whole T.F_is_whole.kp T.b_is_whole pass0 (da_cons (dv 1) da_nil) rfl (fun ρ ds h => (fun _ h => aCons_len (fun _ h => aNil_len h) h) ds h)))))))
  (dss_cons ds_never
  dss_nil)
  dss_nil)
  (dss_cons (ds_if (dt_cmp (op_eqD hr.units) od_eq (dv 1) de_int nm)
  (dss_cons ds_never
  dss_nil)
  dss_nil)
  (dss_cons (ds_set (i := 2) sc_ratio.nd rfl (Or.inl rfl) (de_call ((ok_common_divisor T).mono (by decide : 1 ≤ 1)) hr rfl T.g_common_divisor T.F_common_divisor.kp T.b_common_divisor pass0 (da_cons (dv 0) (da_cons (dv 1) da_nil)) rfl (fun ρ ds h => (fun _ h => aCons_len (fun _ h => aCons_len (fun _ h => aNil_len h) h) h) ds h)))
  (dss_cons (ds_if (dt_cmp op_lt (od_iop0 fun _ _ _ _ => rb _) (dv 1) de_int nm)
  (dss_cons (ds_set (i := 2) sc_ratio.nd rfl (Or.inl rfl) (de_neg (dv 2)))
  dss_nil)
  dss_nil)
  (dss_cons (ds_ret (de_tup (da_cons (de_div (dv 0) (dv 2)) (da_cons (de_div (dv 1) (dv 2)) da_nil))))
  dss_nil))))))
set_option maxHeartbeats 4000000 in
theorem ok_plus (T : Txt K mg t) : FnOk P w K mg base CX0 3 t.a_plus t.d_plus ["one", "other"] (spD K 2 m_plus) :=
  fn_mirror T.F_plus sc_plus fun cdv A outer s0 H H₀ E hr => (
  (dss_cons (ds_ret (de_call ((ok_ratio T).mono (by decide : 2 ≤ 2)) hr rfl T.g_ratio T.F_ratio.kp T.b_ratio pass0 (da_cons (de_add (de_mul (de_item (dv 0) de_int) (de_item (dv 1) de_int)) (de_mul (de_item (dv 1) de_int) (de_item (dv 0) de_int))) (da_cons (de_mul (de_item (dv 0) de_int) (de_item (dv 1) de_int)) da_nil)) rfl (fun ρ ds h => (fun _ h => aCons_len (fun _ h => aCons_len (fun _ h => aNil_len h) h) h) ds h)))
  dss_nil))
set_option maxHeartbeats 4000000 in
theorem ok_sum_of (T : Txt K mg t) : FnOk P w K mg base CX0 4 t.a_sum_of t.d_sum_of ["some"] (spD K 1 m_sum_of) :=
  fn_mirror T.F_sum_of sc_sum_of fun cdv A outer s0 H H₀ E hr => (
  (dss_cons (ds_set (i := 1) sc_sum_of.nd rfl (Or.inl rfl) (de_kon T.c_NOUGHT rfl))
  (dss_cons (ds_for PassesOwn.never rfl (dv 0) (dg_name (i := 2) sc_sum_of.nd rfl (Or.inl rfl)) total_set
  (dss_cons (ds_set (i := 1) sc_sum_of.nd rfl (Or.inl rfl) (de_call ((ok_plus T).mono (by decide : 3 ≤ 3)) hr rfl T.g_plus T.F_plus.kp T.b_plus pass0 (da_cons (dv 1) (da_cons (dv 2) da_nil)) rfl (fun ρ ds h => (fun _ h => aCons_len (fun _ h => aCons_len (fun _ h => aNil_len h) h) h) ds h)))
  dss_nil))
  (dss_cons (ds_ret (dv 1))
  dss_nil))))
set_option maxHeartbeats 4000000 in
theorem ok__law_sum (T : Txt K mg t) : FnOk P w K mg base CX0 3 t.a__law_sum t.d__law_sum ["_law_some"] (spD K 1 m__law_sum) :=
  fn_mirror T.F__law_sum sc__law_sum fun cdv A outer s0 H H₀ E hr => (
  (dss_cons (ds_set (i := 1) sc__law_sum.nd rfl (Or.inl rfl) de_int)
  (dss_cons (ds_set (i := 2) sc__law_sum.nd rfl (Or.inl rfl) de_int)
  (dss_cons (ds_for PassesOwn.never rfl (dv 0) (dg_name (i := 3) sc__law_sum.nd rfl (Or.inl rfl)) total_set
  (dss_cons (ds_set (i := 1) sc__law_sum.nd rfl (Or.inl rfl) (de_add (de_mul (dv 1) (de_item (dv 3) de_int)) (de_mul (de_item (dv 3) de_int) (dv 2))))
  (dss_cons (ds_set (i := 2) sc__law_sum.nd rfl (Or.inl rfl) (de_mul (dv 2) (de_item (dv 3) de_int)))
  dss_nil)))
  (dss_cons (ds_ret (de_call ((ok__law_lowest T).mono (by decide : 2 ≤ 2)) hr rfl T.g__law_lowest T.F__law_lowest.kp T.b__law_lowest pass0 (da_cons (dv 1) (da_cons (dv 2) da_nil)) rfl (fun ρ ds h => (fun _ h => aCons_len (fun _ h => aCons_len (fun _ h => aNil_len h) h) h) ds h)))
  dss_nil)))))
set_option maxHeartbeats 4000000 in
theorem ok_law (T : Txt K mg t) : FnOk P w K mg base CX0 5 t.a_law t.d_law ["_law_script"] (spD K 1 m_law) :=
  fn_mirror T.F_law sc_law fun cdv A outer s0 H H₀ E hr => (
  (dss_cons (ds_set (i := 1) sc_law.nd rfl (Or.inl rfl) (de_call ((ok__law_list T).mono (by decide : 4 ≤ 4)) hr rfl T.g__law_list T.F__law_list.kp T.b__law_list pass0 (da_cons (dv 0) da_nil) rfl (fun ρ ds h => (fun _ h => aCons_len (fun _ h => aNil_len h) h) ds h)))
  (dss_cons (ds_forR PassesOwn.never rfl rfl T.n_range (de_callB call_len cd_len rfl T.n_len PyProof.Rows.Boot.«len» (da_cons (dv 1) da_nil)) (dg_name (i := 2) sc_law.nd rfl (Or.inl rfl)) total_set
  (dss_cons (ds_for PassesOwn.never rfl (de_lst (da_cons (de_item (dv 1) (de_sub (dv 2) de_int)) (da_cons (de_item (dv 1) de_int) (da_cons (de_item (dv 1) (dv 2)) da_nil)))) (dg_name (i := 3) sc_law.nd rfl (Or.inl rfl)) total_set
  (dss_cons (ds_if (DW.dt (dw_or (dt_not (dt_val (de_call ((ok__law_told T).mono (by decide : 2 ≤ 4)) hr rfl T.g__law_told T.F__law_told.kp T.b__law_told pass0 (da_cons (de_item (dv 1) (dv 2)) (da_cons (dv 3) da_nil)) rfl (fun ρ ds h => (fun _ h => aCons_len (fun _ h => aCons_len (fun _ h => aNil_len h) h) h) ds h)))) (dw_one_or (dt_not (dt_val (de_call ((ok__law_told T).mono (by decide : 2 ≤ 4)) hr rfl T.g__law_told T.F__law_told.kp T.b__law_told pass0 (da_cons (dv 3) (da_cons (de_item (dv 1) (dv 2)) da_nil)) rfl (fun ρ ds h => (fun _ h => aCons_len (fun _ h => aCons_len (fun _ h => aNil_len h) h) h) ds h)))))))
  (dss_cons (ds_ret de_bl)
  dss_nil)
  dss_nil)
  dss_nil))
  dss_nil))
  (dss_cons (ds_own (i := 4) sc_law.nd rfl (Or.inl rfl) (df_list rfl T.n_list (da_cons (dv 1) da_nil)))
  (dss_cons (ds_setL (i := 5) sc_law.nd rfl (Or.inl rfl) (de_call ((ok__law_ends T).mono (by decide : 3 ≤ 4)) hr rfl T.g__law_ends T.F__law_ends.kp T.b__law_ends pass0 (da_cons (dv 4) da_nil) rfl (fun ρ ds h => (fun _ h => aCons_len (fun _ h => aNil_len h) h) ds h)))
  (dss_cons (ds_setL (i := 6) sc_law.nd rfl (Or.inl rfl) (de_call ((ok_sum_of T).mono (by decide : 4 ≤ 4)) hr rfl T.g_sum_of T.F_sum_of.kp T.b_sum_of pass0 (da_cons (dv 4) da_nil) rfl (fun ρ ds h => (fun _ h => aCons_len (fun _ h => aNil_len h) h) ds h)))
  (dss_cons (ds_if (DW.dt (dw_or (dt_cmp op_isN od_isN (dv 5) de_non nm) (dw_or (dt_not (dt_val (de_call ((ok__law_is_ratio T).mono (by decide : 2 ≤ 4)) hr rfl T.g__law_is_ratio T.F__law_is_ratio.kp T.b__law_is_ratio pass0 (da_cons (dv 6) da_nil) rfl (fun ρ ds h => (fun _ h => aCons_len (fun _ h => aNil_len h) h) ds h)))) (dw_or (dt_cmp (op_neD hr.units) od_ne (dv 6) (de_call ((ok__law_sum T).mono (by decide : 3 ≤ 4)) hr rfl T.g__law_sum T.F__law_sum.kp T.b__law_sum pass0 (da_cons (dv 1) da_nil) rfl (fun ρ ds h => (fun _ h => aCons_len (fun _ h => aNil_len h) h) ds h)) nm) (dw_one_or (dt_cmp (op_neD hr.units) od_ne (dv 4) (dv 1) nm))))))
  (dss_cons (ds_ret de_bl)
  dss_nil)
  dss_nil)
  (dss_cons (ds_clear (i := 4) rfl (Or.inl rfl))
  (dss_cons (ds_if (DW.dt (dw_or (dt_not (dt_val (de_call ((ok__law_is_ratio T).mono (by decide : 2 ≤ 4)) hr rfl T.g__law_is_ratio T.F__law_is_ratio.kp T.b__law_is_ratio pass0 (da_cons (de_call ((ok_sum_of T).mono (by decide : 4 ≤ 4)) hr rfl T.g_sum_of T.F_sum_of.kp T.b_sum_of pass0 (da_cons (dv 4) da_nil) rfl (fun ρ ds h => (fun _ h => aCons_len (fun _ h => aNil_len h) h) ds h)) da_nil) rfl (fun ρ ds h => (fun _ h => aCons_len (fun _ h => aNil_len h) h) ds h)))) (dw_one_or (dt_cmp (op_neD hr.units) od_ne (de_call ((ok_sum_of T).mono (by decide : 4 ≤ 4)) hr rfl T.g_sum_of T.F_sum_of.kp T.b_sum_of pass0 (da_cons (dv 4) da_nil) rfl (fun ρ ds h => (fun _ h => aCons_len (fun _ h => aNil_len h) h) ds h)) (de_tup (da_cons de_int (da_cons de_int da_nil))) nm))))
  (dss_cons (ds_ret de_bl)
  dss_nil)
  dss_nil)
  (dss_cons (ds_ret (de_and (de_cmp (op_eqD hr.units) od_eq (de_call ((ok__law_ends T).mono (by decide : 3 ≤ 4)) hr rfl T.g__law_ends T.F__law_ends.kp T.b__law_ends pass0 (da_cons (de_callT call_list_of cd_list rfl T.n_list PyProof.Rows.Boot.«list» (da_cons (dv 1) da_nil)) da_nil) rfl (fun ρ ds h => (fun _ h => aCons_len (fun _ h => aNil_len h) h) ds h)) (dv 5) nm) (de_one (de_cmp (op_eqD hr.units) od_eq (de_call ((ok_sum_of T).mono (by decide : 4 ≤ 4)) hr rfl T.g_sum_of T.F_sum_of.kp T.b_sum_of pass0 (da_cons (de_callT call_list_of cd_list rfl T.n_list PyProof.Rows.Boot.«list» (da_cons (dv 1) da_nil)) da_nil) rfl (fun ρ ds h => (fun _ h => aCons_len (fun _ h => aNil_len h) h) ds h)) (dv 6) nm))))
  dss_nil))))))))))
end
theorem txt_mk {K : PySem.W.Frag} {h : Heap} {mg : Str → Option Value} (X : K.In h) (G : h.Ns mainGlobals mg) {a__law_draws : Addr} {a__law_divisor : Addr} {a__law_lowest : Addr} {a__law_fraction : Addr} {a__law_list : Addr} {a_is_less : Addr} {a__law_under : Addr} {a__law_told : Addr} {a_least_of : Addr} {a_most_of : Addr} {a__law_whole : Addr} {a__law_is_ratio : Addr} {a__law_ends : Addr} {a_is_whole : Addr} {a_common_divisor : Addr} {a_ratio : Addr} {a_plus : Addr} {a_sum_of : Addr} {a__law_sum : Addr} {a_law : Addr}
    {oc__law_draws kV__law_draws dc__law_draws pm__law_draws cd__law_draws ct__law_draws : Value} {od__law_draws an__law_draws : Option Addr} {sl__law_draws : Array (Option Value)}
    (e1__law_draws : PySem.W.nsIn K mainGlobals "_law_draws" = some (some (.ref a__law_draws))) (e2__law_draws : K.lookup a__law_draws = some ⟨oc__law_draws, od__law_draws, .func (PySem.W.fnOf "_law_draws" "_law_draws" (defArgs s__law_draws) (defBody s__law_draws) (defScope s__law_draws) .none kV__law_draws dc__law_draws pm__law_draws an__law_draws cd__law_draws ct__law_draws), sl__law_draws⟩) (e3__law_draws : PySem.W.codeIn K cd__law_draws "_law_draws" = true) (e4__law_draws : PySem.W.keepIn K (.ref a__law_draws) = true)
    {oc__law_divisor kV__law_divisor dc__law_divisor pm__law_divisor cd__law_divisor ct__law_divisor : Value} {od__law_divisor an__law_divisor : Option Addr} {sl__law_divisor : Array (Option Value)}
    (e1__law_divisor : PySem.W.nsIn K mainGlobals "_law_divisor" = some (some (.ref a__law_divisor))) (e2__law_divisor : K.lookup a__law_divisor = some ⟨oc__law_divisor, od__law_divisor, .func (PySem.W.fnOf "_law_divisor" "_law_divisor" (defArgs s__law_divisor) (defBody s__law_divisor) (defScope s__law_divisor) .none kV__law_divisor dc__law_divisor pm__law_divisor an__law_divisor cd__law_divisor ct__law_divisor), sl__law_divisor⟩) (e3__law_divisor : PySem.W.codeIn K cd__law_divisor "_law_divisor" = true) (e4__law_divisor : PySem.W.keepIn K (.ref a__law_divisor) = true)
    {oc__law_lowest kV__law_lowest dc__law_lowest pm__law_lowest cd__law_lowest ct__law_lowest : Value} {od__law_lowest an__law_lowest : Option Addr} {sl__law_lowest : Array (Option Value)}
    (e1__law_lowest : PySem.W.nsIn K mainGlobals "_law_lowest" = some (some (.ref a__law_lowest))) (e2__law_lowest : K.lookup a__law_lowest = some ⟨oc__law_lowest, od__law_lowest, .func (PySem.W.fnOf "_law_lowest" "_law_lowest" (defArgs s__law_lowest) (defBody s__law_lowest) (defScope s__law_lowest) .none kV__law_lowest dc__law_lowest pm__law_lowest an__law_lowest cd__law_lowest ct__law_lowest), sl__law_lowest⟩) (e3__law_lowest : PySem.W.codeIn K cd__law_lowest "_law_lowest" = true) (e4__law_lowest : PySem.W.keepIn K (.ref a__law_lowest) = true)
    {oc__law_fraction kV__law_fraction dc__law_fraction pm__law_fraction cd__law_fraction ct__law_fraction : Value} {od__law_fraction an__law_fraction : Option Addr} {sl__law_fraction : Array (Option Value)}
    (e1__law_fraction : PySem.W.nsIn K mainGlobals "_law_fraction" = some (some (.ref a__law_fraction))) (e2__law_fraction : K.lookup a__law_fraction = some ⟨oc__law_fraction, od__law_fraction, .func (PySem.W.fnOf "_law_fraction" "_law_fraction" (defArgs s__law_fraction) (defBody s__law_fraction) (defScope s__law_fraction) .none kV__law_fraction dc__law_fraction pm__law_fraction an__law_fraction cd__law_fraction ct__law_fraction), sl__law_fraction⟩) (e3__law_fraction : PySem.W.codeIn K cd__law_fraction "_law_fraction" = true) (e4__law_fraction : PySem.W.keepIn K (.ref a__law_fraction) = true)
    {oc__law_list kV__law_list dc__law_list pm__law_list cd__law_list ct__law_list : Value} {od__law_list an__law_list : Option Addr} {sl__law_list : Array (Option Value)}
    (e1__law_list : PySem.W.nsIn K mainGlobals "_law_list" = some (some (.ref a__law_list))) (e2__law_list : K.lookup a__law_list = some ⟨oc__law_list, od__law_list, .func (PySem.W.fnOf "_law_list" "_law_list" (defArgs s__law_list) (defBody s__law_list) (defScope s__law_list) .none kV__law_list dc__law_list pm__law_list an__law_list cd__law_list ct__law_list), sl__law_list⟩) (e3__law_list : PySem.W.codeIn K cd__law_list "_law_list" = true) (e4__law_list : PySem.W.keepIn K (.ref a__law_list) = true)
    {oc_is_less kV_is_less dc_is_less pm_is_less cd_is_less ct_is_less : Value} {od_is_less an_is_less : Option Addr} {sl_is_less : Array (Option Value)}
    (e1_is_less : PySem.W.nsIn K mainGlobals "is_less" = some (some (.ref a_is_less))) (e2_is_less : K.lookup a_is_less = some ⟨oc_is_less, od_is_less, .func (PySem.W.fnOf "is_less" "is_less" (defArgs s_is_less) (defBody s_is_less) (defScope s_is_less) .none kV_is_less dc_is_less pm_is_less an_is_less cd_is_less ct_is_less), sl_is_less⟩) (e3_is_less : PySem.W.codeIn K cd_is_less "is_less" = true) (e4_is_less : PySem.W.keepIn K (.ref a_is_less) = true)
    {oc__law_under kV__law_under dc__law_under pm__law_under cd__law_under ct__law_under : Value} {od__law_under an__law_under : Option Addr} {sl__law_under : Array (Option Value)}
    (e1__law_under : PySem.W.nsIn K mainGlobals "_law_under" = some (some (.ref a__law_under))) (e2__law_under : K.lookup a__law_under = some ⟨oc__law_under, od__law_under, .func (PySem.W.fnOf "_law_under" "_law_under" (defArgs s__law_under) (defBody s__law_under) (defScope s__law_under) .none kV__law_under dc__law_under pm__law_under an__law_under cd__law_under ct__law_under), sl__law_under⟩) (e3__law_under : PySem.W.codeIn K cd__law_under "_law_under" = true) (e4__law_under : PySem.W.keepIn K (.ref a__law_under) = true)
    {oc__law_told kV__law_told dc__law_told pm__law_told cd__law_told ct__law_told : Value} {od__law_told an__law_told : Option Addr} {sl__law_told : Array (Option Value)}
    (e1__law_told : PySem.W.nsIn K mainGlobals "_law_told" = some (some (.ref a__law_told))) (e2__law_told : K.lookup a__law_told = some ⟨oc__law_told, od__law_told, .func (PySem.W.fnOf "_law_told" "_law_told" (defArgs s__law_told) (defBody s__law_told) (defScope s__law_told) .none kV__law_told dc__law_told pm__law_told an__law_told cd__law_told ct__law_told), sl__law_told⟩) (e3__law_told : PySem.W.codeIn K cd__law_told "_law_told" = true) (e4__law_told : PySem.W.keepIn K (.ref a__law_told) = true)
    {oc_least_of kV_least_of dc_least_of pm_least_of cd_least_of ct_least_of : Value} {od_least_of an_least_of : Option Addr} {sl_least_of : Array (Option Value)}
    (e1_least_of : PySem.W.nsIn K mainGlobals "least_of" = some (some (.ref a_least_of))) (e2_least_of : K.lookup a_least_of = some ⟨oc_least_of, od_least_of, .func (PySem.W.fnOf "least_of" "least_of" (defArgs s_least_of) (defBody s_least_of) (defScope s_least_of) .none kV_least_of dc_least_of pm_least_of an_least_of cd_least_of ct_least_of), sl_least_of⟩) (e3_least_of : PySem.W.codeIn K cd_least_of "least_of" = true) (e4_least_of : PySem.W.keepIn K (.ref a_least_of) = true)
    {oc_most_of kV_most_of dc_most_of pm_most_of cd_most_of ct_most_of : Value} {od_most_of an_most_of : Option Addr} {sl_most_of : Array (Option Value)}
    (e1_most_of : PySem.W.nsIn K mainGlobals "most_of" = some (some (.ref a_most_of))) (e2_most_of : K.lookup a_most_of = some ⟨oc_most_of, od_most_of, .func (PySem.W.fnOf "most_of" "most_of" (defArgs s_most_of) (defBody s_most_of) (defScope s_most_of) .none kV_most_of dc_most_of pm_most_of an_most_of cd_most_of ct_most_of), sl_most_of⟩) (e3_most_of : PySem.W.codeIn K cd_most_of "most_of" = true) (e4_most_of : PySem.W.keepIn K (.ref a_most_of) = true)
    {oc__law_whole kV__law_whole dc__law_whole pm__law_whole cd__law_whole ct__law_whole : Value} {od__law_whole an__law_whole : Option Addr} {sl__law_whole : Array (Option Value)}
    (e1__law_whole : PySem.W.nsIn K mainGlobals "_law_whole" = some (some (.ref a__law_whole))) (e2__law_whole : K.lookup a__law_whole = some ⟨oc__law_whole, od__law_whole, .func (PySem.W.fnOf "_law_whole" "_law_whole" (defArgs s__law_whole) (defBody s__law_whole) (defScope s__law_whole) .none kV__law_whole dc__law_whole pm__law_whole an__law_whole cd__law_whole ct__law_whole), sl__law_whole⟩) (e3__law_whole : PySem.W.codeIn K cd__law_whole "_law_whole" = true) (e4__law_whole : PySem.W.keepIn K (.ref a__law_whole) = true)
    {oc__law_is_ratio kV__law_is_ratio dc__law_is_ratio pm__law_is_ratio cd__law_is_ratio ct__law_is_ratio : Value} {od__law_is_ratio an__law_is_ratio : Option Addr} {sl__law_is_ratio : Array (Option Value)}
    (e1__law_is_ratio : PySem.W.nsIn K mainGlobals "_law_is_ratio" = some (some (.ref a__law_is_ratio))) (e2__law_is_ratio : K.lookup a__law_is_ratio = some ⟨oc__law_is_ratio, od__law_is_ratio, .func (PySem.W.fnOf "_law_is_ratio" "_law_is_ratio" (defArgs s__law_is_ratio) (defBody s__law_is_ratio) (defScope s__law_is_ratio) .none kV__law_is_ratio dc__law_is_ratio pm__law_is_ratio an__law_is_ratio cd__law_is_ratio ct__law_is_ratio), sl__law_is_ratio⟩) (e3__law_is_ratio : PySem.W.codeIn K cd__law_is_ratio "_law_is_ratio" = true) (e4__law_is_ratio : PySem.W.keepIn K (.ref a__law_is_ratio) = true)
    {oc__law_ends kV__law_ends dc__law_ends pm__law_ends cd__law_ends ct__law_ends : Value} {od__law_ends an__law_ends : Option Addr} {sl__law_ends : Array (Option Value)}
    (e1__law_ends : PySem.W.nsIn K mainGlobals "_law_ends" = some (some (.ref a__law_ends))) (e2__law_ends : K.lookup a__law_ends = some ⟨oc__law_ends, od__law_ends, .func (PySem.W.fnOf "_law_ends" "_law_ends" (defArgs s__law_ends) (defBody s__law_ends) (defScope s__law_ends) .none kV__law_ends dc__law_ends pm__law_ends an__law_ends cd__law_ends ct__law_ends), sl__law_ends⟩) (e3__law_ends : PySem.W.codeIn K cd__law_ends "_law_ends" = true) (e4__law_ends : PySem.W.keepIn K (.ref a__law_ends) = true)
    {oc_is_whole kV_is_whole dc_is_whole pm_is_whole cd_is_whole ct_is_whole : Value} {od_is_whole an_is_whole : Option Addr} {sl_is_whole : Array (Option Value)}
    (e1_is_whole : PySem.W.nsIn K mainGlobals "is_whole" = some (some (.ref a_is_whole))) (e2_is_whole : K.lookup a_is_whole = some ⟨oc_is_whole, od_is_whole, .func (PySem.W.fnOf "is_whole" "is_whole" (defArgs s_is_whole) (defBody s_is_whole) (defScope s_is_whole) .none kV_is_whole dc_is_whole pm_is_whole an_is_whole cd_is_whole ct_is_whole), sl_is_whole⟩) (e3_is_whole : PySem.W.codeIn K cd_is_whole "is_whole" = true) (e4_is_whole : PySem.W.keepIn K (.ref a_is_whole) = true)
    {oc_common_divisor kV_common_divisor dc_common_divisor pm_common_divisor cd_common_divisor ct_common_divisor : Value} {od_common_divisor an_common_divisor : Option Addr} {sl_common_divisor : Array (Option Value)}
    (e1_common_divisor : PySem.W.nsIn K mainGlobals "common_divisor" = some (some (.ref a_common_divisor))) (e2_common_divisor : K.lookup a_common_divisor = some ⟨oc_common_divisor, od_common_divisor, .func (PySem.W.fnOf "common_divisor" "common_divisor" (defArgs s_common_divisor) (defBody s_common_divisor) (defScope s_common_divisor) .none kV_common_divisor dc_common_divisor pm_common_divisor an_common_divisor cd_common_divisor ct_common_divisor), sl_common_divisor⟩) (e3_common_divisor : PySem.W.codeIn K cd_common_divisor "common_divisor" = true) (e4_common_divisor : PySem.W.keepIn K (.ref a_common_divisor) = true)
    {oc_ratio kV_ratio dc_ratio pm_ratio cd_ratio ct_ratio : Value} {od_ratio an_ratio : Option Addr} {sl_ratio : Array (Option Value)}
    (e1_ratio : PySem.W.nsIn K mainGlobals "ratio" = some (some (.ref a_ratio))) (e2_ratio : K.lookup a_ratio = some ⟨oc_ratio, od_ratio, .func (PySem.W.fnOf "ratio" "ratio" (defArgs s_ratio) (defBody s_ratio) (defScope s_ratio) .none kV_ratio dc_ratio pm_ratio an_ratio cd_ratio ct_ratio), sl_ratio⟩) (e3_ratio : PySem.W.codeIn K cd_ratio "ratio" = true) (e4_ratio : PySem.W.keepIn K (.ref a_ratio) = true)
    {oc_plus kV_plus dc_plus pm_plus cd_plus ct_plus : Value} {od_plus an_plus : Option Addr} {sl_plus : Array (Option Value)}
    (e1_plus : PySem.W.nsIn K mainGlobals "plus" = some (some (.ref a_plus))) (e2_plus : K.lookup a_plus = some ⟨oc_plus, od_plus, .func (PySem.W.fnOf "plus" "plus" (defArgs s_plus) (defBody s_plus) (defScope s_plus) .none kV_plus dc_plus pm_plus an_plus cd_plus ct_plus), sl_plus⟩) (e3_plus : PySem.W.codeIn K cd_plus "plus" = true) (e4_plus : PySem.W.keepIn K (.ref a_plus) = true)
    {oc_sum_of kV_sum_of dc_sum_of pm_sum_of cd_sum_of ct_sum_of : Value} {od_sum_of an_sum_of : Option Addr} {sl_sum_of : Array (Option Value)}
    (e1_sum_of : PySem.W.nsIn K mainGlobals "sum_of" = some (some (.ref a_sum_of))) (e2_sum_of : K.lookup a_sum_of = some ⟨oc_sum_of, od_sum_of, .func (PySem.W.fnOf "sum_of" "sum_of" (defArgs s_sum_of) (defBody s_sum_of) (defScope s_sum_of) .none kV_sum_of dc_sum_of pm_sum_of an_sum_of cd_sum_of ct_sum_of), sl_sum_of⟩) (e3_sum_of : PySem.W.codeIn K cd_sum_of "sum_of" = true) (e4_sum_of : PySem.W.keepIn K (.ref a_sum_of) = true)
    {oc__law_sum kV__law_sum dc__law_sum pm__law_sum cd__law_sum ct__law_sum : Value} {od__law_sum an__law_sum : Option Addr} {sl__law_sum : Array (Option Value)}
    (e1__law_sum : PySem.W.nsIn K mainGlobals "_law_sum" = some (some (.ref a__law_sum))) (e2__law_sum : K.lookup a__law_sum = some ⟨oc__law_sum, od__law_sum, .func (PySem.W.fnOf "_law_sum" "_law_sum" (defArgs s__law_sum) (defBody s__law_sum) (defScope s__law_sum) .none kV__law_sum dc__law_sum pm__law_sum an__law_sum cd__law_sum ct__law_sum), sl__law_sum⟩) (e3__law_sum : PySem.W.codeIn K cd__law_sum "_law_sum" = true) (e4__law_sum : PySem.W.keepIn K (.ref a__law_sum) = true)
    {oc_law kV_law dc_law pm_law cd_law ct_law : Value} {od_law an_law : Option Addr} {sl_law : Array (Option Value)}
    (e1_law : PySem.W.nsIn K mainGlobals "law" = some (some (.ref a_law))) (e2_law : K.lookup a_law = some ⟨oc_law, od_law, .func (PySem.W.fnOf "law" "law" (defArgs s_law) (defBody s_law) (defScope s_law) .none kV_law dc_law pm_law an_law cd_law ct_law), sl_law⟩) (e3_law : PySem.W.codeIn K cd_law "law" = true) (e4_law : PySem.W.keepIn K (.ref a_law) = true)
    (z_abs : PySem.W.nsIn K mainGlobals "abs" = some none)
    (z_bool : PySem.W.nsIn K mainGlobals "bool" = some none)
    (z_int : PySem.W.nsIn K mainGlobals "int" = some none)
    (z_isinstance : PySem.W.nsIn K mainGlobals "isinstance" = some none)
    (z_len : PySem.W.nsIn K mainGlobals "len" = some none)
    (z_list : PySem.W.nsIn K mainGlobals "list" = some none)
    (z_max : PySem.W.nsIn K mainGlobals "max" = some none)
    (z_range : PySem.W.nsIn K mainGlobals "range" = some none)
    (z_tuple : PySem.W.nsIn K mainGlobals "tuple" = some none)
    {q_NOUGHT : Addr} {o_NOUGHT : Obj} (y_NOUGHT : PySem.W.nsIn K mainGlobals "NOUGHT" = some (some (.ref q_NOUGHT))) (x_NOUGHT : K.lookup q_NOUGHT = some o_NOUGHT) (w_NOUGHT : ∃ od its n sl vs, o_NOUGHT = ⟨.type "tuple", od, .seq its n, sl⟩ ∧ Vals vs its.toList ∧ its.size ≤ sizeLine ∧ ∀ H, Reps K H [.int 0, .int 1] vs) :
    ∃ t : Adr, Txt K mg t ∧ t.a_law = a_law ∧ ∃ kV doc pm an cdv ct, t.d_law = PySem.W.fnOf "law" "law" (defArgs s_law) (defBody s_law) (defScope s_law) .none kV doc pm an cdv ct := by
  refine ⟨⟨a__law_draws, _, a__law_divisor, _, a__law_lowest, _, a__law_fraction, _, a__law_list, _, a_is_less, _, a__law_under, _, a__law_told, _, a_least_of, _, a_most_of, _, a__law_whole, _, a__law_is_ratio, _, a__law_ends, _, a_is_whole, _, a_common_divisor, _, a_ratio, _, a_plus, _, a_sum_of, _, a__law_sum, _, a_law, _⟩, ⟨fun_mk e2__law_draws e3__law_draws e4__law_draws, ?b__law_draws, PySem.W.mg_of X G e1__law_draws, fun_mk e2__law_divisor e3__law_divisor e4__law_divisor, ?b__law_divisor, PySem.W.mg_of X G e1__law_divisor, fun_mk e2__law_lowest e3__law_lowest e4__law_lowest, ?b__law_lowest, PySem.W.mg_of X G e1__law_lowest, fun_mk e2__law_fraction e3__law_fraction e4__law_fraction, ?b__law_fraction, PySem.W.mg_of X G e1__law_fraction, fun_mk e2__law_list e3__law_list e4__law_list, ?b__law_list, PySem.W.mg_of X G e1__law_list, fun_mk e2_is_less e3_is_less e4_is_less, ?b_is_less, PySem.W.mg_of X G e1_is_less, fun_mk e2__law_under e3__law_under e4__law_under, ?b__law_under, PySem.W.mg_of X G e1__law_under, fun_mk e2__law_told e3__law_told e4__law_told, ?b__law_told, PySem.W.mg_of X G e1__law_told, fun_mk e2_least_of e3_least_of e4_least_of, ?b_least_of, PySem.W.mg_of X G e1_least_of, fun_mk e2_most_of e3_most_of e4_most_of, ?b_most_of, PySem.W.mg_of X G e1_most_of, fun_mk e2__law_whole e3__law_whole e4__law_whole, ?b__law_whole, PySem.W.mg_of X G e1__law_whole, fun_mk e2__law_is_ratio e3__law_is_ratio e4__law_is_ratio, ?b__law_is_ratio, PySem.W.mg_of X G e1__law_is_ratio, fun_mk e2__law_ends e3__law_ends e4__law_ends, ?b__law_ends, PySem.W.mg_of X G e1__law_ends, fun_mk e2_is_whole e3_is_whole e4_is_whole, ?b_is_whole, PySem.W.mg_of X G e1_is_whole, fun_mk e2_common_divisor e3_common_divisor e4_common_divisor, ?b_common_divisor, PySem.W.mg_of X G e1_common_divisor, fun_mk e2_ratio e3_ratio e4_ratio, ?b_ratio, PySem.W.mg_of X G e1_ratio, fun_mk e2_plus e3_plus e4_plus, ?b_plus, PySem.W.mg_of X G e1_plus, fun_mk e2_sum_of e3_sum_of e4_sum_of, ?b_sum_of, PySem.W.mg_of X G e1_sum_of, fun_mk e2__law_sum e3__law_sum e4__law_sum, ?b__law_sum, PySem.W.mg_of X G e1__law_sum, fun_mk e2_law e3_law e4_law, ?b_law, PySem.W.mg_of X G e1_law, PySem.W.mg_none_of X G z_abs, PySem.W.mg_none_of X G z_bool, PySem.W.mg_none_of X G z_int, PySem.W.mg_none_of X G z_isinstance, PySem.W.mg_none_of X G z_len, PySem.W.mg_none_of X G z_list, PySem.W.mg_none_of X G z_max, PySem.W.mg_none_of X G z_range, PySem.W.mg_none_of X G z_tuple, ?c_NOUGHT⟩, rfl, _, _, _, _, _, _, rfl⟩
  case b__law_draws => exact (fun_mk (st := s__law_draws) e2__law_draws e3__law_draws e4__law_draws).binds fun _ _ _ _ _ _ us hl => match us, hl with | [_, _], _ => rfl
  case b__law_divisor => exact (fun_mk (st := s__law_divisor) e2__law_divisor e3__law_divisor e4__law_divisor).binds fun _ _ _ _ _ _ us hl => match us, hl with | [_, _], _ => rfl
  case b__law_lowest => exact (fun_mk (st := s__law_lowest) e2__law_lowest e3__law_lowest e4__law_lowest).binds fun _ _ _ _ _ _ us hl => match us, hl with | [_, _], _ => rfl
  case b__law_fraction => exact (fun_mk (st := s__law_fraction) e2__law_fraction e3__law_fraction e4__law_fraction).binds fun _ _ _ _ _ _ us hl => match us, hl with | [_, _, _], _ => rfl
  case b__law_list => exact (fun_mk (st := s__law_list) e2__law_list e3__law_list e4__law_list).binds fun _ _ _ _ _ _ us hl => match us, hl with | [_], _ => rfl
  case b_is_less => exact (fun_mk (st := s_is_less) e2_is_less e3_is_less e4_is_less).binds fun _ _ _ _ _ _ us hl => match us, hl with | [_, _], _ => rfl
  case b__law_under => exact (fun_mk (st := s__law_under) e2__law_under e3__law_under e4__law_under).binds fun _ _ _ _ _ _ us hl => match us, hl with | [_, _], _ => rfl
  case b__law_told => exact (fun_mk (st := s__law_told) e2__law_told e3__law_told e4__law_told).binds fun _ _ _ _ _ _ us hl => match us, hl with | [_, _], _ => rfl
  case b_least_of => exact (fun_mk (st := s_least_of) e2_least_of e3_least_of e4_least_of).binds fun _ _ _ _ _ _ us hl => match us, hl with | [_], _ => rfl
  case b_most_of => exact (fun_mk (st := s_most_of) e2_most_of e3_most_of e4_most_of).binds fun _ _ _ _ _ _ us hl => match us, hl with | [_], _ => rfl
  case b__law_whole => exact (fun_mk (st := s__law_whole) e2__law_whole e3__law_whole e4__law_whole).binds fun _ _ _ _ _ _ us hl => match us, hl with | [_], _ => rfl
  case b__law_is_ratio => exact (fun_mk (st := s__law_is_ratio) e2__law_is_ratio e3__law_is_ratio e4__law_is_ratio).binds fun _ _ _ _ _ _ us hl => match us, hl with | [_], _ => rfl
  case b__law_ends => exact (fun_mk (st := s__law_ends) e2__law_ends e3__law_ends e4__law_ends).binds fun _ _ _ _ _ _ us hl => match us, hl with | [_], _ => rfl
  case b_is_whole => exact (fun_mk (st := s_is_whole) e2_is_whole e3_is_whole e4_is_whole).binds fun _ _ _ _ _ _ us hl => match us, hl with | [_], _ => rfl
  case b_common_divisor => exact (fun_mk (st := s_common_divisor) e2_common_divisor e3_common_divisor e4_common_divisor).binds fun _ _ _ _ _ _ us hl => match us, hl with | [_, _], _ => rfl
  case b_ratio => exact (fun_mk (st := s_ratio) e2_ratio e3_ratio e4_ratio).binds fun _ _ _ _ _ _ us hl => match us, hl with | [_, _], _ => rfl
  case b_plus => exact (fun_mk (st := s_plus) e2_plus e3_plus e4_plus).binds fun _ _ _ _ _ _ us hl => match us, hl with | [_, _], _ => rfl
  case b_sum_of => exact (fun_mk (st := s_sum_of) e2_sum_of e3_sum_of e4_sum_of).binds fun _ _ _ _ _ _ us hl => match us, hl with | [_], _ => rfl
  case b__law_sum => exact (fun_mk (st := s__law_sum) e2__law_sum e3__law_sum e4__law_sum).binds fun _ _ _ _ _ _ us hl => match us, hl with | [_], _ => rfl
  case b_law => exact (fun_mk (st := s_law) e2_law e3_law e4_law).binds fun _ _ _ _ _ _ us hl => match us, hl with | [_], _ => rfl
  case c_NOUGHT =>
    obtain ⟨od, its, n, sl, vs, rfl, h1, h2, h3⟩ := w_NOUGHT
    exact kon_tup (PySem.W.mg_of X G y_NOUGHT) x_NOUGHT h1 h2 h3
theorem txt_mk' {K : PySem.W.Frag} {h : Heap} {mg : Str → Option Value} (X : K.In h) (G : h.Ns mainGlobals mg) {a__law_draws : Addr} {a__law_divisor : Addr} {a__law_lowest : Addr} {a__law_fraction : Addr} {a__law_list : Addr} {a_is_less : Addr} {a__law_under : Addr} {a__law_told : Addr} {a_least_of : Addr} {a_most_of : Addr} {a__law_whole : Addr} {a__law_is_ratio : Addr} {a__law_ends : Addr} {a_is_whole : Addr} {a_common_divisor : Addr} {a_ratio : Addr} {a_plus : Addr} {a_sum_of : Addr} {a__law_sum : Addr} {a_law : Addr}
    {oc__law_draws kV__law_draws dc__law_draws pm__law_draws cd__law_draws ct__law_draws : Value} {od__law_draws an__law_draws : Option Addr} {sl__law_draws : Array (Option Value)}
    (e1__law_draws : PySem.W.nsIn K mainGlobals "_law_draws" = some (some (.ref a__law_draws))) (e2__law_draws : K.lookup a__law_draws = some ⟨oc__law_draws, od__law_draws, .func (PySem.W.fnOf "_law_draws" "_law_draws" (defArgs s__law_draws) (defBody s__law_draws) (defScope s__law_draws) .none kV__law_draws dc__law_draws pm__law_draws an__law_draws cd__law_draws ct__law_draws), sl__law_draws⟩) (e3__law_draws : PySem.W.codeIn K cd__law_draws "_law_draws" = true) (e4__law_draws : PySem.W.keepIn K (.ref a__law_draws) = true)
    {oc__law_divisor kV__law_divisor dc__law_divisor pm__law_divisor cd__law_divisor ct__law_divisor : Value} {od__law_divisor an__law_divisor : Option Addr} {sl__law_divisor : Array (Option Value)}
    (e1__law_divisor : PySem.W.nsIn K mainGlobals "_law_divisor" = some (some (.ref a__law_divisor))) (e2__law_divisor : K.lookup a__law_divisor = some ⟨oc__law_divisor, od__law_divisor, .func (PySem.W.fnOf "_law_divisor" "_law_divisor" (defArgs s__law_divisor) (defBody s__law_divisor) (defScope s__law_divisor) .none kV__law_divisor dc__law_divisor pm__law_divisor an__law_divisor cd__law_divisor ct__law_divisor), sl__law_divisor⟩) (e3__law_divisor : PySem.W.codeIn K cd__law_divisor "_law_divisor" = true) (e4__law_divisor : PySem.W.keepIn K (.ref a__law_divisor) = true)
    {oc__law_lowest kV__law_lowest dc__law_lowest pm__law_lowest cd__law_lowest ct__law_lowest : Value} {od__law_lowest an__law_lowest : Option Addr} {sl__law_lowest : Array (Option Value)}
    (e1__law_lowest : PySem.W.nsIn K mainGlobals "_law_lowest" = some (some (.ref a__law_lowest))) (e2__law_lowest : K.lookup a__law_lowest = some ⟨oc__law_lowest, od__law_lowest, .func (PySem.W.fnOf "_law_lowest" "_law_lowest" (defArgs s__law_lowest) (defBody s__law_lowest) (defScope s__law_lowest) .none kV__law_lowest dc__law_lowest pm__law_lowest an__law_lowest cd__law_lowest ct__law_lowest), sl__law_lowest⟩) (e3__law_lowest : PySem.W.codeIn K cd__law_lowest "_law_lowest" = true) (e4__law_lowest : PySem.W.keepIn K (.ref a__law_lowest) = true)
    {oc__law_fraction kV__law_fraction dc__law_fraction pm__law_fraction cd__law_fraction ct__law_fraction : Value} {od__law_fraction an__law_fraction : Option Addr} {sl__law_fraction : Array (Option Value)}
    (e1__law_fraction : PySem.W.nsIn K mainGlobals "_law_fraction" = some (some (.ref a__law_fraction))) (e2__law_fraction : K.lookup a__law_fraction = some ⟨oc__law_fraction, od__law_fraction, .func (PySem.W.fnOf "_law_fraction" "_law_fraction" (defArgs s__law_fraction) (defBody s__law_fraction) (defScope s__law_fraction) .none kV__law_fraction dc__law_fraction pm__law_fraction an__law_fraction cd__law_fraction ct__law_fraction), sl__law_fraction⟩) (e3__law_fraction : PySem.W.codeIn K cd__law_fraction "_law_fraction" = true) (e4__law_fraction : PySem.W.keepIn K (.ref a__law_fraction) = true)
    {oc__law_list kV__law_list dc__law_list pm__law_list cd__law_list ct__law_list : Value} {od__law_list an__law_list : Option Addr} {sl__law_list : Array (Option Value)}
    (e1__law_list : PySem.W.nsIn K mainGlobals "_law_list" = some (some (.ref a__law_list))) (e2__law_list : K.lookup a__law_list = some ⟨oc__law_list, od__law_list, .func (PySem.W.fnOf "_law_list" "_law_list" (defArgs s__law_list) (defBody s__law_list) (defScope s__law_list) .none kV__law_list dc__law_list pm__law_list an__law_list cd__law_list ct__law_list), sl__law_list⟩) (e3__law_list : PySem.W.codeIn K cd__law_list "_law_list" = true) (e4__law_list : PySem.W.keepIn K (.ref a__law_list) = true)
    {oc_is_less kV_is_less dc_is_less pm_is_less cd_is_less ct_is_less : Value} {od_is_less an_is_less : Option Addr} {sl_is_less : Array (Option Value)}
    (e1_is_less : PySem.W.nsIn K mainGlobals "is_less" = some (some (.ref a_is_less))) (e2_is_less : K.lookup a_is_less = some ⟨oc_is_less, od_is_less, .func (PySem.W.fnOf "is_less" "is_less" (defArgs s_is_less) (defBody s_is_less) (defScope s_is_less) .none kV_is_less dc_is_less pm_is_less an_is_less cd_is_less ct_is_less), sl_is_less⟩) (e3_is_less : PySem.W.codeIn K cd_is_less "is_less" = true) (e4_is_less : PySem.W.keepIn K (.ref a_is_less) = true)
    {oc__law_under kV__law_under dc__law_under pm__law_under cd__law_under ct__law_under : Value} {od__law_under an__law_under : Option Addr} {sl__law_under : Array (Option Value)}
    (e1__law_under : PySem.W.nsIn K mainGlobals "_law_under" = some (some (.ref a__law_under))) (e2__law_under : K.lookup a__law_under = some ⟨oc__law_under, od__law_under, .func (PySem.W.fnOf "_law_under" "_law_under" (defArgs s__law_under) (defBody s__law_under) (defScope s__law_under) .none kV__law_under dc__law_under pm__law_under an__law_under cd__law_under ct__law_under), sl__law_under⟩) (e3__law_under : PySem.W.codeIn K cd__law_under "_law_under" = true) (e4__law_under : PySem.W.keepIn K (.ref a__law_under) = true)
    {oc__law_told kV__law_told dc__law_told pm__law_told cd__law_told ct__law_told : Value} {od__law_told an__law_told : Option Addr} {sl__law_told : Array (Option Value)}
    (e1__law_told : PySem.W.nsIn K mainGlobals "_law_told" = some (some (.ref a__law_told))) (e2__law_told : K.lookup a__law_told = some ⟨oc__law_told, od__law_told, .func (PySem.W.fnOf "_law_told" "_law_told" (defArgs s__law_told) (defBody s__law_told) (defScope s__law_told) .none kV__law_told dc__law_told pm__law_told an__law_told cd__law_told ct__law_told), sl__law_told⟩) (e3__law_told : PySem.W.codeIn K cd__law_told "_law_told" = true) (e4__law_told : PySem.W.keepIn K (.ref a__law_told) = true)
    {oc_least_of kV_least_of dc_least_of pm_least_of cd_least_of ct_least_of : Value} {od_least_of an_least_of : Option Addr} {sl_least_of : Array (Option Value)}
    (e1_least_of : PySem.W.nsIn K mainGlobals "least_of" = some (some (.ref a_least_of))) (e2_least_of : K.lookup a_least_of = some ⟨oc_least_of, od_least_of, .func (PySem.W.fnOf "least_of" "least_of" (defArgs s_least_of) (defBody s_least_of) (defScope s_least_of) .none kV_least_of dc_least_of pm_least_of an_least_of cd_least_of ct_least_of), sl_least_of⟩) (e3_least_of : PySem.W.codeIn K cd_least_of "least_of" = true) (e4_least_of : PySem.W.keepIn K (.ref a_least_of) = true)
    {oc_most_of kV_most_of dc_most_of pm_most_of cd_most_of ct_most_of : Value} {od_most_of an_most_of : Option Addr} {sl_most_of : Array (Option Value)}
    (e1_most_of : PySem.W.nsIn K mainGlobals "most_of" = some (some (.ref a_most_of))) (e2_most_of : K.lookup a_most_of = some ⟨oc_most_of, od_most_of, .func (PySem.W.fnOf "most_of" "most_of" (defArgs s_most_of) (defBody s_most_of) (defScope s_most_of) .none kV_most_of dc_most_of pm_most_of an_most_of cd_most_of ct_most_of), sl_most_of⟩) (e3_most_of : PySem.W.codeIn K cd_most_of "most_of" = true) (e4_most_of : PySem.W.keepIn K (.ref a_most_of) = true)
    {oc__law_whole kV__law_whole dc__law_whole pm__law_whole cd__law_whole ct__law_whole : Value} {od__law_whole an__law_whole : Option Addr} {sl__law_whole : Array (Option Value)}
    (e1__law_whole : PySem.W.nsIn K mainGlobals "_law_whole" = some (some (.ref a__law_whole))) (e2__law_whole : K.lookup a__law_whole = some ⟨oc__law_whole, od__law_whole, .func (PySem.W.fnOf "_law_whole" "_law_whole" (defArgs s__law_whole) (defBody s__law_whole) (defScope s__law_whole) .none kV__law_whole dc__law_whole pm__law_whole an__law_whole cd__law_whole ct__law_whole), sl__law_whole⟩) (e3__law_whole : PySem.W.codeIn K cd__law_whole "_law_whole" = true) (e4__law_whole : PySem.W.keepIn K (.ref a__law_whole) = true)
    {oc__law_is_ratio kV__law_is_ratio dc__law_is_ratio pm__law_is_ratio cd__law_is_ratio ct__law_is_ratio : Value} {od__law_is_ratio an__law_is_ratio : Option Addr} {sl__law_is_ratio : Array (Option Value)}
    (e1__law_is_ratio : PySem.W.nsIn K mainGlobals "_law_is_ratio" = some (some (.ref a__law_is_ratio))) (e2__law_is_ratio : K.lookup a__law_is_ratio = some ⟨oc__law_is_ratio, od__law_is_ratio, .func (PySem.W.fnOf "_law_is_ratio" "_law_is_ratio" (defArgs s__law_is_ratio) (defBody s__law_is_ratio) (defScope s__law_is_ratio) .none kV__law_is_ratio dc__law_is_ratio pm__law_is_ratio an__law_is_ratio cd__law_is_ratio ct__law_is_ratio), sl__law_is_ratio⟩) (e3__law_is_ratio : PySem.W.codeIn K cd__law_is_ratio "_law_is_ratio" = true) (e4__law_is_ratio : PySem.W.keepIn K (.ref a__law_is_ratio) = true)
    {oc__law_ends kV__law_ends dc__law_ends pm__law_ends cd__law_ends ct__law_ends : Value} {od__law_ends an__law_ends : Option Addr} {sl__law_ends : Array (Option Value)}
    (e1__law_ends : PySem.W.nsIn K mainGlobals "_law_ends" = some (some (.ref a__law_ends))) (e2__law_ends : K.lookup a__law_ends = some ⟨oc__law_ends, od__law_ends, .func (PySem.W.fnOf "_law_ends" "_law_ends" (defArgs s__law_ends) (defBody s__law_ends) (defScope s__law_ends) .none kV__law_ends dc__law_ends pm__law_ends an__law_ends cd__law_ends ct__law_ends), sl__law_ends⟩) (e3__law_ends : PySem.W.codeIn K cd__law_ends "_law_ends" = true) (e4__law_ends : PySem.W.keepIn K (.ref a__law_ends) = true)
    {oc_is_whole kV_is_whole dc_is_whole pm_is_whole cd_is_whole ct_is_whole : Value} {od_is_whole an_is_whole : Option Addr} {sl_is_whole : Array (Option Value)}
    (e1_is_whole : PySem.W.nsIn K mainGlobals "is_whole" = some (some (.ref a_is_whole))) (e2_is_whole : K.lookup a_is_whole = some ⟨oc_is_whole, od_is_whole, .func (PySem.W.fnOf "is_whole" "is_whole" (defArgs s_is_whole) (defBody s_is_whole) (defScope s_is_whole) .none kV_is_whole dc_is_whole pm_is_whole an_is_whole cd_is_whole ct_is_whole), sl_is_whole⟩) (e3_is_whole : PySem.W.codeIn K cd_is_whole "is_whole" = true) (e4_is_whole : PySem.W.keepIn K (.ref a_is_whole) = true)
    {oc_common_divisor kV_common_divisor dc_common_divisor pm_common_divisor cd_common_divisor ct_common_divisor : Value} {od_common_divisor an_common_divisor : Option Addr} {sl_common_divisor : Array (Option Value)}
    (e1_common_divisor : PySem.W.nsIn K mainGlobals "common_divisor" = some (some (.ref a_common_divisor))) (e2_common_divisor : K.lookup a_common_divisor = some ⟨oc_common_divisor, od_common_divisor, .func (PySem.W.fnOf "common_divisor" "common_divisor" (defArgs s_common_divisor) (defBody s_common_divisor) (defScope s_common_divisor) .none kV_common_divisor dc_common_divisor pm_common_divisor an_common_divisor cd_common_divisor ct_common_divisor), sl_common_divisor⟩) (e3_common_divisor : PySem.W.codeIn K cd_common_divisor "common_divisor" = true) (e4_common_divisor : PySem.W.keepIn K (.ref a_common_divisor) = true)
    {oc_ratio kV_ratio dc_ratio pm_ratio cd_ratio ct_ratio : Value} {od_ratio an_ratio : Option Addr} {sl_ratio : Array (Option Value)}
    (e1_ratio : PySem.W.nsIn K mainGlobals "ratio" = some (some (.ref a_ratio))) (e2_ratio : K.lookup a_ratio = some ⟨oc_ratio, od_ratio, .func (PySem.W.fnOf "ratio" "ratio" (defArgs s_ratio) (defBody s_ratio) (defScope s_ratio) .none kV_ratio dc_ratio pm_ratio an_ratio cd_ratio ct_ratio), sl_ratio⟩) (e3_ratio : PySem.W.codeIn K cd_ratio "ratio" = true) (e4_ratio : PySem.W.keepIn K (.ref a_ratio) = true)
    {oc_plus kV_plus dc_plus pm_plus cd_plus ct_plus : Value} {od_plus an_plus : Option Addr} {sl_plus : Array (Option Value)}
    (e1_plus : PySem.W.nsIn K mainGlobals "plus" = some (some (.ref a_plus))) (e2_plus : K.lookup a_plus = some ⟨oc_plus, od_plus, .func (PySem.W.fnOf "plus" "plus" (defArgs s_plus) (defBody s_plus) (defScope s_plus) .none kV_plus dc_plus pm_plus an_plus cd_plus ct_plus), sl_plus⟩) (e3_plus : PySem.W.codeIn K cd_plus "plus" = true) (e4_plus : PySem.W.keepIn K (.ref a_plus) = true)
    {oc_sum_of kV_sum_of dc_sum_of pm_sum_of cd_sum_of ct_sum_of : Value} {od_sum_of an_sum_of : Option Addr} {sl_sum_of : Array (Option Value)}
    (e1_sum_of : PySem.W.nsIn K mainGlobals "sum_of" = some (some (.ref a_sum_of))) (e2_sum_of : K.lookup a_sum_of = some ⟨oc_sum_of, od_sum_of, .func (PySem.W.fnOf "sum_of" "sum_of" (defArgs s_sum_of) (defBody s_sum_of) (defScope s_sum_of) .none kV_sum_of dc_sum_of pm_sum_of an_sum_of cd_sum_of ct_sum_of), sl_sum_of⟩) (e3_sum_of : PySem.W.codeIn K cd_sum_of "sum_of" = true) (e4_sum_of : PySem.W.keepIn K (.ref a_sum_of) = true)
    {oc__law_sum kV__law_sum dc__law_sum pm__law_sum cd__law_sum ct__law_sum : Value} {od__law_sum an__law_sum : Option Addr} {sl__law_sum : Array (Option Value)}
    (e1__law_sum : PySem.W.nsIn K mainGlobals "_law_sum" = some (some (.ref a__law_sum))) (e2__law_sum : K.lookup a__law_sum = some ⟨oc__law_sum, od__law_sum, .func (PySem.W.fnOf "_law_sum" "_law_sum" (defArgs s__law_sum) (defBody s__law_sum) (defScope s__law_sum) .none kV__law_sum dc__law_sum pm__law_sum an__law_sum cd__law_sum ct__law_sum), sl__law_sum⟩) (e3__law_sum : PySem.W.codeIn K cd__law_sum "_law_sum" = true) (e4__law_sum : PySem.W.keepIn K (.ref a__law_sum) = true)
    {oc_law kV_law dc_law pm_law cd_law ct_law : Value} {od_law an_law : Option Addr} {sl_law : Array (Option Value)}
    (e1_law : PySem.W.nsIn K mainGlobals "law" = some (some (.ref a_law))) (e2_law : K.lookup a_law = some ⟨oc_law, od_law, .func (PySem.W.fnOf "law" "law" (defArgs s_law) (defBody s_law) (defScope s_law) .none kV_law dc_law pm_law an_law cd_law ct_law), sl_law⟩) (e3_law : PySem.W.codeIn K cd_law "law" = true) (e4_law : PySem.W.keepIn K (.ref a_law) = true)
    (z_abs : PySem.W.nsIn K mainGlobals "abs" = some none)
    (z_bool : PySem.W.nsIn K mainGlobals "bool" = some none)
    (z_int : PySem.W.nsIn K mainGlobals "int" = some none)
    (z_isinstance : PySem.W.nsIn K mainGlobals "isinstance" = some none)
    (z_len : PySem.W.nsIn K mainGlobals "len" = some none)
    (z_list : PySem.W.nsIn K mainGlobals "list" = some none)
    (z_max : PySem.W.nsIn K mainGlobals "max" = some none)
    (z_range : PySem.W.nsIn K mainGlobals "range" = some none)
    (z_tuple : PySem.W.nsIn K mainGlobals "tuple" = some none)
    {q_NOUGHT : Addr} {o_NOUGHT : Obj} (y_NOUGHT : PySem.W.nsIn K mainGlobals "NOUGHT" = some (some (.ref q_NOUGHT))) (x_NOUGHT : K.lookup q_NOUGHT = some o_NOUGHT) (w_NOUGHT : ∃ od its n sl vs, o_NOUGHT = ⟨.type "tuple", od, .seq its n, sl⟩ ∧ Vals vs its.toList ∧ its.size ≤ sizeLine ∧ ∀ H, Reps K H [.int 0, .int 1] vs) :
    ∃ t : Adr, Txt K mg t ∧ mg "law" = some (.ref t.a_law) ∧ ∃ kV doc pm an cdv ct, t.d_law = PySem.W.fnOf "law" "law" (defArgs s_law) (defBody s_law) (defScope s_law) .none kV doc pm an cdv ct := by
  obtain ⟨t, T, e, r⟩ := txt_mk X G e1__law_draws e2__law_draws e3__law_draws e4__law_draws e1__law_divisor e2__law_divisor e3__law_divisor e4__law_divisor e1__law_lowest e2__law_lowest e3__law_lowest e4__law_lowest e1__law_fraction e2__law_fraction e3__law_fraction e4__law_fraction e1__law_list e2__law_list e3__law_list e4__law_list e1_is_less e2_is_less e3_is_less e4_is_less e1__law_under e2__law_under e3__law_under e4__law_under e1__law_told e2__law_told e3__law_told e4__law_told e1_least_of e2_least_of e3_least_of e4_least_of e1_most_of e2_most_of e3_most_of e4_most_of e1__law_whole e2__law_whole e3__law_whole e4__law_whole e1__law_is_ratio e2__law_is_ratio e3__law_is_ratio e4__law_is_ratio e1__law_ends e2__law_ends e3__law_ends e4__law_ends e1_is_whole e2_is_whole e3_is_whole e4_is_whole e1_common_divisor e2_common_divisor e3_common_divisor e4_common_divisor e1_ratio e2_ratio e3_ratio e4_ratio e1_plus e2_plus e3_plus e4_plus e1_sum_of e2_sum_of e3_sum_of e4_sum_of e1__law_sum e2__law_sum e3__law_sum e4__law_sum e1_law e2_law e3_law e4_law z_abs z_bool z_int z_isinstance z_len z_list z_max z_range z_tuple y_NOUGHT x_NOUGHT w_NOUGHT
  exact ⟨t, T, T.g_law, r⟩
end K03

namespace K03
open PySem L2 DL
theorem sp_law (K : PySem.W.Frag) (H : Hp) (a : Addr) (ns : List Int) (hl : ns.length ≤ 63) (hS : SqL K H a (ns.map V.int)) : spD K 1 m_law [.ref a] H (fun v _ => v = .bl true) fun _ _ _ => False := by
  refine ⟨rfl, H, [.lst (ns.map D.int)], Same.refl _, Reps.cons (Rep.lst_iff.mpr ⟨a, _, rfl, hS, Reps.ints ns⟩) Reps.nil, ?_⟩
  rw [law_true ns hl]
  exact fun v H' H₀' _ r => Rep.bl_iff.mp r
end K03
open PySem PySem.W PyProof.Rows
set_option maxRecDepth 100000 in
set_option maxHeartbeats 0 in
theorem PySem.Challenge.cw_farthestcut_k03_order_and_lists_holds : PySem.Challenge.rw_farthestcut_k03_order_and_lists.Holds := by
  w_on; o_law; k_head; (case hw => w_witness2)
  k_fill
  refine L2.walk_ofK (l := PySem.Challenge.rw_farthestcut_k03_order_and_lists) (n := 63) (k := 5) (x := "_law_script") (CX := L2.CX0) (sp := fun K => DL.spD K 1 K03.m_law) rfl (by decide) rfl ⟨rfl, by decide, by decide⟩ (fun w h Y => PySem.W.kIn_of Y) ?F ?S ?C
  case S => exact fun K H a ns hl _ hS => K03.sp_law K H a ns hl hS
  case C => exact fun _ _ _ _ h => h
  case F =>
    intro w mg fa h KX G hmg
    have T : ∃ t : K03.Adr, K03.Txt (L2.KOf KX) mg t ∧ mg "law" = some (.ref t.a_law) ∧ ∃ kV doc pm an cdv ct, t.d_law = PySem.W.fnOf "law" "law" (L2.defArgs K03.s_law) (L2.defBody K03.s_law) (L2.defScope K03.s_law) .none kV doc pm an cdv ct := by
      dsimp only [L2.KOf]
      refine' K03.txt_mk' KX G ?e1__law_draws ?e2__law_draws ?e3__law_draws ?e4__law_draws ?e1__law_divisor ?e2__law_divisor ?e3__law_divisor ?e4__law_divisor ?e1__law_lowest ?e2__law_lowest ?e3__law_lowest ?e4__law_lowest ?e1__law_fraction ?e2__law_fraction ?e3__law_fraction ?e4__law_fraction ?e1__law_list ?e2__law_list ?e3__law_list ?e4__law_list ?e1_is_less ?e2_is_less ?e3_is_less ?e4_is_less ?e1__law_under ?e2__law_under ?e3__law_under ?e4__law_under ?e1__law_told ?e2__law_told ?e3__law_told ?e4__law_told ?e1_least_of ?e2_least_of ?e3_least_of ?e4_least_of ?e1_most_of ?e2_most_of ?e3_most_of ?e4_most_of ?e1__law_whole ?e2__law_whole ?e3__law_whole ?e4__law_whole ?e1__law_is_ratio ?e2__law_is_ratio ?e3__law_is_ratio ?e4__law_is_ratio ?e1__law_ends ?e2__law_ends ?e3__law_ends ?e4__law_ends ?e1_is_whole ?e2_is_whole ?e3_is_whole ?e4_is_whole ?e1_common_divisor ?e2_common_divisor ?e3_common_divisor ?e4_common_divisor ?e1_ratio ?e2_ratio ?e3_ratio ?e4_ratio ?e1_plus ?e2_plus ?e3_plus ?e4_plus ?e1_sum_of ?e2_sum_of ?e3_sum_of ?e4_sum_of ?e1__law_sum ?e2__law_sum ?e3__law_sum ?e4__law_sum ?e1_law ?e2_law ?e3_law ?e4_law ?z_abs ?z_bool ?z_int ?z_isinstance ?z_len ?z_list ?z_max ?z_range ?z_tuple ?y_NOUGHT ?x_NOUGHT ?w_NOUGHT
      (case e1__law_draws => k_is)
      (case e2__law_draws => k_is)
      (case e3__law_draws => k_is)
      (case e4__law_draws => k_is)
      (case e1__law_divisor => k_is)
      (case e2__law_divisor => k_is)
      (case e3__law_divisor => k_is)
      (case e4__law_divisor => k_is)
      (case e1__law_lowest => k_is)
      (case e2__law_lowest => k_is)
      (case e3__law_lowest => k_is)
      (case e4__law_lowest => k_is)
      (case e1__law_fraction => k_is)
      (case e2__law_fraction => k_is)
      (case e3__law_fraction => k_is)
      (case e4__law_fraction => k_is)
      (case e1__law_list => k_is)
      (case e2__law_list => k_is)
      (case e3__law_list => k_is)
      (case e4__law_list => k_is)
      (case e1_is_less => k_is)
      (case e2_is_less => k_is)
      (case e3_is_less => k_is)
      (case e4_is_less => k_is)
      (case e1__law_under => k_is)
      (case e2__law_under => k_is)
      (case e3__law_under => k_is)
      (case e4__law_under => k_is)
      (case e1__law_told => k_is)
      (case e2__law_told => k_is)
      (case e3__law_told => k_is)
      (case e4__law_told => k_is)
      (case e1_least_of => k_is)
      (case e2_least_of => k_is)
      (case e3_least_of => k_is)
      (case e4_least_of => k_is)
      (case e1_most_of => k_is)
      (case e2_most_of => k_is)
      (case e3_most_of => k_is)
      (case e4_most_of => k_is)
      (case e1__law_whole => k_is)
      (case e2__law_whole => k_is)
      (case e3__law_whole => k_is)
      (case e4__law_whole => k_is)
      (case e1__law_is_ratio => k_is)
      (case e2__law_is_ratio => k_is)
      (case e3__law_is_ratio => k_is)
      (case e4__law_is_ratio => k_is)
      (case e1__law_ends => k_is)
      (case e2__law_ends => k_is)
      (case e3__law_ends => k_is)
      (case e4__law_ends => k_is)
      (case e1_is_whole => k_is)
      (case e2_is_whole => k_is)
      (case e3_is_whole => k_is)
      (case e4_is_whole => k_is)
      (case e1_common_divisor => k_is)
      (case e2_common_divisor => k_is)
      (case e3_common_divisor => k_is)
      (case e4_common_divisor => k_is)
      (case e1_ratio => k_is)
      (case e2_ratio => k_is)
      (case e3_ratio => k_is)
      (case e4_ratio => k_is)
      (case e1_plus => k_is)
      (case e2_plus => k_is)
      (case e3_plus => k_is)
      (case e4_plus => k_is)
      (case e1_sum_of => k_is)
      (case e2_sum_of => k_is)
      (case e3_sum_of => k_is)
      (case e4_sum_of => k_is)
      (case e1__law_sum => k_is)
      (case e2__law_sum => k_is)
      (case e3__law_sum => k_is)
      (case e4__law_sum => k_is)
      (case e1_law => k_is)
      (case e2_law => k_is)
      (case e3_law => k_is)
      (case e4_law => k_is)
      (case z_abs => k_is)
      (case z_bool => k_is)
      (case z_int => k_is)
      (case z_isinstance => k_is)
      (case z_len => k_is)
      (case z_list => k_is)
      (case z_max => k_is)
      (case z_range => k_is)
      (case z_tuple => k_is)
      (case y_NOUGHT => k_is)
      (case x_NOUGHT => k_is)
      (case w_NOUGHT => exact ⟨_, _, _, _, [.int 0, .int 1], rfl, .cons ⟨_, rfl⟩ (.cons ⟨_, rfl⟩ (.nil)), by decide, fun H => DL.Reps.cons (DL.ri _) (DL.Reps.cons (DL.ri _) (DL.Reps.nil))⟩)
    obtain ⟨t, T, e0, kV, doc, pm, an, cdv, ct, ed⟩ := T
    have e1 := hmg.symm.trans e0
    cases e1
    refine ⟨t.d_law, fun s u => ?_, fun base kb nb => K03.ok_law T⟩
    rw [ed]
    exact .of_eq rfl

