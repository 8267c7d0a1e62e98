import PyProof.Rows.All
import Wide.All
import OpenK.AllK
import Wide.FinOn
import PyProof.EqAt
import PyProof.EqKinds
import PyProof.NeKinds
import PyProof.TupleCall
import PySem.Challenge.RW_farthestcut_k02_sums_of_fractions
set_option Elab.async false
set_option linter.all false
set_option maxRecDepth 100000
namespace L2
open PySem PySem.Spec PyProof.Rows
abbrev Key := Sum Int Str
def keyIs : Key → Value → Bool
  | .inl k, v => Value.isInt k v
  | .inr x, v => Value.isStrOf x v
def keyH (w : World) : Key → Int
  | .inl k => hashInt k
  | .inr x => hashStr w x
theorem keyIs_shape : ∀ {k : Key} {v : Value}, keyIs k v = true → (∃ i t, k = Sum.inl i ∧ v = Value.int i t) ∨ (∃ x t, k = Sum.inr x ∧ v = Value.str x t)
  | .inl i, v, h => by
    obtain ⟨t, e⟩ := Value.isInt_shape (k := i) (v := v) h
    exact .inl ⟨i, t, rfl, e⟩
  | .inr x, v, h => by
    obtain ⟨t, e⟩ := Value.isStrOf_shape (x := x) (v := v) h
    exact .inr ⟨x, t, rfl, e⟩
theorem key_ll (a b : Int) : decide ((Sum.inl a : Key) = Sum.inl b) = (a == b) := by
  by_cases e : a = b
  · subst e; simp
  · have h : ¬ (Sum.inl a : Key) = Sum.inl b := fun q => e (Sum.inl.inj q)
    rw [decide_eq_false h]
    exact (beq_eq_false_iff_ne.mpr e).symm
theorem key_rr (a b : Str) : decide ((Sum.inr a : Key) = Sum.inr b) = decide (a = b) := by
  by_cases e : a = b
  · subst e; simp
  · have h : ¬ (Sum.inr a : Key) = Sum.inr b := fun q => e (Sum.inr.inj q)
    rw [decide_eq_false h, decide_eq_false e]
theorem key_lr (a : Int) (b : Str) : decide ((Sum.inl a : Key) = Sum.inr b) = false := decide_eq_false (fun q => nomatch q)
theorem key_rl (a : Str) (b : Int) : decide ((Sum.inr a : Key) = Sum.inl b) = false := decide_eq_false (fun q => nomatch q)
def mixKind (prog : Program) (w : World) : PySem.KeyKind prog w Key where
  is := keyIs
  hash := keyH w
  inj := fun v a b ha hb => by
    rcases keyIs_shape ha with ⟨i, t, rfl, rfl⟩ | ⟨x, t, rfl, rfl⟩
    · rcases keyIs_shape hb with ⟨j, u, rfl, e⟩ | ⟨y, u, rfl, e⟩
      · injection e with e1 _; rw [e1]
      · exact nomatch e
    · rcases keyIs_shape hb with ⟨j, u, rfl, e⟩ | ⟨y, u, rfl, e⟩
      · exact nomatch e
      · injection e with e1 _; rw [e1]
  byValue := fun k v h => by
    rcases keyIs_shape h with ⟨i, t, rfl, rfl⟩ | ⟨x, t, rfl, rfl⟩ <;> rfl
  pyHash := fun hv h => by
    rcases keyIs_shape hv with ⟨i, t, rfl, rfl⟩ | ⟨x, t, rfl, rfl⟩
    · exact wpAny_pyHash_int h
    · exact wpAny_pyHash_str h
  eqBool := fun hu hv h => by
    rcases keyIs_shape hu with ⟨i, t, rfl, rfl⟩ | ⟨x, t, rfl, rfl⟩
    · rcases keyIs_shape hv with ⟨j, u, rfl, rfl⟩ | ⟨y, u, rfl, rfl⟩
      · rw [key_ll] at h; exact wpAny_eqBool_int h
      · rw [key_lr] at h; exact SeqAt.EqAt.int_str i t y u _ _ _ _ h
    · rcases keyIs_shape hv with ⟨j, u, rfl, rfl⟩ | ⟨y, u, rfl, rfl⟩
      · rw [key_rl] at h; exact SeqAt.EqAt.str_int x t j u _ _ _ _ h
      · rw [key_rr] at h; exact wpAny_eqBool_str h
  «strs» := fun k x t v h => by
    rcases keyIs_shape h with ⟨i, u, rfl, e⟩ | ⟨y, u, rfl, e⟩
    · exact nomatch e
    · injection e with e1 _
      subst e1
      cases v <;> rfl
end L2
namespace L2
open PySem PySem.Spec PyProof.Rows
inductive V where
  | non | bl (b : Bool) | int (i : Int) | str (x : Str) | byt (b : Array UInt8) | flt (b : UInt64) | ref (a : Addr) | ty (n : String)
  deriving DecidableEq
def RelV : V → Value → Prop
  | .non, u => u = Value.none
  | .bl b, u => u = Value.bool b
  | .int i, u => ∃ t, u = Value.int i t
  | .str x, u => ∃ t, u = Value.str x t
  | .byt b, u => ∃ t, u = Value.bytes b t
  | .flt b, u => ∃ t, u = Value.float b t
  | .ref a, u => u = Value.ref a
  | .ty n, u => u = Value.type n
abbrev Vals : List V → List Value → Prop := Paired RelV
theorem Vals.length {xs : List V} {us : List Value} (r : Vals xs us) : xs.length = us.length := Paired.length r
theorem Vals.get : ∀ {xs : List V} {us : List Value} {i : Nat} {x : V}, Vals xs us → xs[i]? = some x → ∃ u, us[i]? = some u ∧ RelV x u
  | _, _, _, _, .nil, e => by simp at e
  | _, _, 0, _, .cons r _, e => by simp at e; subst e; exact ⟨_, rfl, r⟩
  | _, _, i + 1, x, .cons _ t, e => by
    obtain ⟨u, h1, h2⟩ := Vals.get (i := i) (x := x) t (by simpa using e)
    exact ⟨u, by simpa using h1, h2⟩
theorem Vals.set {x : V} {u : Value} (r : RelV x u) : ∀ {xs : List V} {us : List Value} (i : Nat), Vals xs us → Vals (xs.set i x) (us.set i u)
  | _, _, _, .nil => .nil
  | _, _, 0, .cons _ t => .cons r t
  | _, _, i + 1, .cons q t => .cons q (Vals.set r i t)
theorem Vals.append : ∀ {xs ys : List V} {us ws : List Value}, Vals xs us → Vals ys ws → Vals (xs ++ ys) (us ++ ws)
  | _, _, _, _, .nil, s => s
  | _, _, _, _, .cons r t, s => .cons r (Vals.append t s)
theorem Vals.take : ∀ {xs : List V} {us : List Value} (n : Nat), Vals xs us → Vals (xs.take n) (us.take n)
  | _, _, 0, _ => .nil
  | _, _, _ + 1, .nil => .nil
  | _, _, n + 1, .cons r t => .cons r (Vals.take n t)
theorem Vals.drop : ∀ {xs : List V} {us : List Value} (n : Nat), Vals xs us → Vals (xs.drop n) (us.drop n)
  | _, _, 0, r => r
  | _, _, _ + 1, .nil => .nil
  | _, _, n + 1, .cons _ t => Vals.drop n t
def RelO : Option V → Option Value → Prop
  | some v, some u => RelV v u
  | none, none => True
  | _, _ => False
def KV {κ : Type} : List (κ × V) → List (κ × Value) → Prop := Paired fun (p : κ × V) (q : κ × Value) => p.1 = q.1 ∧ RelV p.2 q.2
def kV : Key → V
  | .inl i => .int i
  | .inr x => .str x
inductive HO where
  | lst (xs : List V)
  | tup (xs : List V)
  | dK (kvs : List (Key × V)) | dT (kvs : List (List Key × V))
  | set (S : Int → Bool) (n : Nat)
  | ins (C dx : Addr) (fs : List (Str × V))
  | own (x : Addr)
  | xd (fs : List (Str × V))
  | met (f x : Addr)
  | rng (lo hi : Int)
  | frz (o : Obj) (u : HO)
  | tbl (ps : Array Value)
  | ext (φ : Heap → Prop)
abbrev Hp := Addr → Option HO
def upd (H : Hp) (a : Addr) (o : HO) : Hp := fun b => if b = a then some o else H b
theorem upd_same {H : Hp} {a : Addr} {o : HO} : upd H a o a = some o := by unfold upd; rw [if_pos rfl]
theorem upd_ne {H : Hp} {a b : Addr} {o : HO} (h : b ≠ a) : upd H a o b = H b := by unfold upd; rw [if_neg h]
theorem ne_of_none {H : Hp} {a b : Addr} {o : HO} (h : H a = some o) (h' : H b = none) : a ≠ b := by
  intro e; subst e; rw [h] at h'; cases h'
section
variable (P : Program) (w : World)
def ObjOk (H : Hp) (h : Heap) (a : Addr) : HO → Prop
  | .lst xs => xs.length ≤ sizeLine ∧ ∃ (its : List Value) (n : Nat), Vals xs its ∧ h.get? a = some { cls := .type "list", data := .seq its.toArray n }
  | .tup xs => xs.length ≤ sizeLine ∧ ∃ its : List Value, Vals xs its ∧ IsTup h a its.toArray
  | .dK kvs => kvs.length ≤ sizeLine ∧ (a == sysModules) = false ∧ ∃ vs, KV kvs vs ∧ h.DictOf (mixKind P w) a vs
  | .dT kvs => kvs.length ≤ sizeLine ∧ (a == sysModules) = false ∧ ∃ xs : List (List Key × Addr × Value),
      Paired (fun (p : List Key × V) (q : List Key × Addr × Value) => p.1 = q.1 ∧ H q.2.1 = some (.tup (p.1.map kV)) ∧ RelV p.2 q.2.2) kvs xs ∧
      ∃ o es ep, h.get? a = some o ∧ o.ExactDict ∧ o.data = .dict es ep ∧ es.toList = xs.map (entryOfKey (tupleKind (mixKind P w))) ∧ (xs.map (·.1)).Nodup
  | .set S n => h.SetOf (intKind P w) a S n
  | .ins C dx fs => H dx = some (.own a) ∧ fs.length ≤ 1000 ∧ dx ≠ a ∧ h.get? a = some (PySem.W.instObj C dx) ∧
      ∃ mA, h.Ns1 dx mA ∧ (∀ f, RelO (fs.lookup f) (mA f)) ∧ PySem.Within mA (fs.map (·.1))
  | .own _ => ∃ o, h.get? a = some o
  | .xd fs => ∃ mA, h.Ns1 a mA ∧ ∀ f, RelO (fs.lookup f) (mA f)
  | .rng lo hi => ∃ t u v, h.get? a = some { cls := .type "range", data := .fields #[.int lo t, .int hi u, .int 1 v] }
  | .frz o u => h.get? a = some o ∧ ObjOk H h a u
  | .tbl ps => h.get? a = some { cls := .none, data := .fields ps }
  | .met f x => h.get? a = some (PySem.W.methodObj (.ref f) (.ref x))
  | .ext φ => φ h ∧ (∃ o, h.get? a = some o) ∧ ∀ h1 h2 : Heap, φ h1 → (∀ o, h1.get? a = some o → h2.get? a = some o) → φ h2
def HOk (H : Hp) (h : Heap) : Prop := ∀ a o, H a = some o → ObjOk P w H h a o
end
section
variable {P : Program} {w : World} {H H' : Hp} {h h' : Heap} {a : Addr} {o : HO}
theorem ObjOk.lt (x : ObjOk P w H h a o) : a < h.objs.size := by
  cases o with
  | lst xs => obtain ⟨_, _, _, _, e⟩ := x; exact Heap.lt_size e
  | tup xs => obtain ⟨_, _, _, p⟩ := x; exact p.lt
  | dK kvs => obtain ⟨_, _, _, _, o, _, _, e, _⟩ := x; exact Heap.lt_size e
  | dT kvs => obtain ⟨_, _, _, _, o, _, _, e, _⟩ := x; exact Heap.lt_size e
  | set S n => obtain ⟨o, _, _, _, e, _⟩ := x; exact Heap.lt_size e
  | ins C dx fs => obtain ⟨_, _, _, e, _⟩ := x; exact Heap.lt_size e
  | own y => obtain ⟨_, e⟩ := x; exact Heap.lt_size e
  | xd fs => obtain ⟨_, ⟨_, _, _, e, _⟩, _⟩ := x; exact Heap.lt_size e
  | rng lo hi => obtain ⟨_, _, _, e⟩ := x; exact Heap.lt_size e
  | frz ob u => obtain ⟨e, _⟩ := x; exact Heap.lt_size e
  | tbl ps => exact Heap.lt_size (show h.get? a = some _ from x)
  | met f y => exact Heap.lt_size (show h.get? a = some _ from x)
  | ext φ => obtain ⟨_, ⟨_, e⟩, _⟩ := x; exact Heap.lt_size e
theorem Paired.mapP {α β : Type} {F G : α → β → Prop} : ∀ {l₁ : List α} {l₂ : List β}, Paired F l₁ l₂ → (∀ a b, F a b → G a b) → Paired G l₁ l₂
  | _, _, .nil, _ => .nil
  | _, _, .cons r t, f => .cons (f _ _ r) (Paired.mapP t f)
theorem ObjOk.stay (x : ObjOk P w H h a o) (k : ∀ b u, (b = a ∨ H b = some (.own a)) → h.get? b = some u → h'.get? b = some u)
    (ho : ∀ b, H b = some (.own a) → H' b = some (.own a)) (ht : ∀ b xs, H b = some (.tup xs) → H' b = some (.tup xs)) : ObjOk P w H' h' a o := by
  induction o with
  | lst xs => obtain ⟨z, its, n, r, e⟩ := x; exact ⟨z, its, n, r, k _ _ (.inl rfl) e⟩
  | tup xs => obtain ⟨z, its, r, ob, e, c⟩ := x; exact ⟨z, its, r, ob, k _ _ (.inl rfl) e, c⟩
  | dK kvs => obtain ⟨z, y, vs, r, ob, es, ep, e, c⟩ := x; exact ⟨z, y, vs, r, ob, es, ep, k _ _ (.inl rfl) e, c⟩
  | dT kvs =>
    obtain ⟨z, y, xs, r, ob, es, ep, e, c⟩ := x
    exact ⟨z, y, xs, Paired.mapP r fun p q z => ⟨z.1, ht _ _ z.2.1, z.2.2⟩, ob, es, ep, k _ _ (.inl rfl) e, c⟩
  | set S n => obtain ⟨ob, es, ep, t, e, c⟩ := x; exact ⟨ob, es, ep, t, k _ _ (.inl rfl) e, c⟩
  | ins C dx fs =>
    obtain ⟨d, z, ne, e, mA, ⟨od, es, ep, e2, c⟩, r⟩ := x
    exact ⟨ho _ d, z, ne, k _ _ (.inl rfl) e, mA, ⟨od, es, ep, k _ _ (.inr d) e2, c⟩, r⟩
  | own y => obtain ⟨ob, e⟩ := x; exact ⟨ob, k _ _ (.inl rfl) e⟩
  | xd fs => obtain ⟨mA, ⟨od, es, ep, e, c⟩, r⟩ := x; exact ⟨mA, ⟨od, es, ep, k _ _ (.inl rfl) e, c⟩, r⟩
  | rng lo hi => obtain ⟨t, u, v, e⟩ := x; exact ⟨t, u, v, k _ _ (.inl rfl) e⟩
  | frz ob u ih => obtain ⟨e, q⟩ := x; exact ⟨k _ _ (.inl rfl) e, ih q⟩
  | tbl ps =>
    have e : h.get? a = some { cls := .none, data := .fields ps } := x
    show h'.get? a = some { cls := .none, data := .fields ps }
    exact k a _ (.inl rfl) e
  | met f y =>
    have e : h.get? a = some (PySem.W.methodObj (.ref f) (.ref y)) := x
    show h'.get? a = some (PySem.W.methodObj (.ref f) (.ref y))
    exact k a _ (.inl rfl) e
  | ext φ => obtain ⟨p, ⟨o, e⟩, st⟩ := x; exact ⟨st _ _ p fun o q => k _ _ (.inl rfl) q, ⟨o, k _ _ (.inl rfl) e⟩, st⟩
theorem HOk.lt (x : HOk P w H h) (e : H a = some o) : a < h.objs.size := (x a o e).lt
theorem HOk.fresh (x : HOk P w H h) (e : h.objs.size ≤ a) : H a = none := by
  cases q : H a with
  | none => rfl
  | some u => exact absurd (Nat.lt_of_lt_of_le (x.lt q) e) (Nat.lt_irrefl _)
theorem HOk.kept (x : HOk P w H h) (k : ∀ b u, h.get? b = some u → h'.get? b = some u) : HOk P w H h' := fun a o e =>
  (x a o e).stay (fun b u _ q => k b u q) (fun _ q => q) fun _ _ q => q
theorem HOk.laid (x : HOk P w H h) (k : ∀ b u, h.get? b = some u → h'.get? b = some u) (hp : h.objs.size ≤ a) (new : ObjOk P w (upd H a o) h' a o) : HOk P w (upd H a o) h' := fun b u e => by
  have hn := x.fresh hp
  by_cases hb : b = a
  · subst hb; rw [upd_same] at e; cases e; exact new
  · rw [upd_ne hb] at e
    exact (x b u e).stay (fun c v _ q => k c v q) (fun c q => by rw [upd_ne (ne_of_none q hn)]; exact q) fun c xs q => by rw [upd_ne (ne_of_none q hn)]; exact q
end
def Rd (H : Hp) (a : Addr) (u : HO) : Prop := H a = some u ∨ ∃ o, H a = some (.frz o u)
theorem Rd.of {H : Hp} {a : Addr} {u : HO} (h : H a = some u) : Rd H a u := .inl h
theorem Rd.ok {P : Program} {w : World} {H : Hp} {h : Heap} {a : Addr} {u : HO} (r : Rd H a u) (x : HOk P w H h) : ObjOk P w H h a u := by
  rcases r with r | ⟨o, r⟩
  · exact x a u r
  · obtain ⟨_, q⟩ := x a _ r
    exact q
def Mut : Option HO → Prop
  | some (.lst _) => True
  | some (.dK _) => True
  | some (.dT _) => True
  | some (.set _ _) => True
  | some (.ins _ _ _) => True
  | some (.ext _) => True
  | _ => False
section
variable {P : Program} {w : World} {H : Hp} {h h' : Heap} {x e : Addr} {o' : HO}
theorem HOk.write (ok : HOk P w H h) (mu : Mut (H x)) (he : e = x ∨ H e = some (.own x)) (k : ∀ b u, b ≠ e → h.get? b = some u → h'.get? b = some u) (heo : ∃ u, h'.get? e = some u)
    (new : ObjOk P w (upd H x o') h' x o') : HOk P w (upd H x o') h' := fun b u q => by
  have nown : ∀ c y, H c = some (.own y) → c ≠ x := fun c y r z => by subst z; rw [r] at mu; exact mu
  have ntup : ∀ c xs, H c = some (.tup xs) → c ≠ x := fun c xs r z => by subst z; rw [r] at mu; exact mu
  by_cases hb : b = x
  · subst hb; rw [upd_same] at q; cases q; exact new
  · rw [upd_ne hb] at q
    by_cases hbe : b = e
    · have q' : H b = some (.own x) := by
        rcases he with z | z
        · exact absurd (hbe.trans z) hb
        · rw [hbe]; exact z
      rw [q] at q'; cases q'
      obtain ⟨v, hv⟩ := heo
      exact ⟨v, by rw [hbe]; exact hv⟩
    · refine (ok b u q).stay (fun c v hc r => k c v ?_ r) (fun c r => by rw [upd_ne (nown c b r)]; exact r) fun c xs r => by rw [upd_ne (ntup c xs r)]; exact r
      rcases hc with rfl | hc
      · exact hbe
      · rintro rfl
        rcases he with z | z
        · exact nown c b hc z
        · rw [hc] at z; cases z; exact hb rfl
end
structure Un (fs ex : List Addr) (H H' : Hp) (h h' : Heap) : Prop where
  keep : ∀ b o, h.get? b = some o → H b = none → b ∉ fs → b ∉ ex → h'.get? b = some o
  slot : ∀ b o, h.get? b = some o → H b = none → b ∈ fs → b ∉ ex → ∃ sl, h'.get? b = some { o with slots := sl }
  free : ∀ b o, h.get? b = some o → H b = none → b ∉ ex → H' b = none
  there : ∀ b o, h.get? b = some o → b ∉ ex → ∃ o', h'.get? b = some o'
  tups : ∀ b xs, H b = some (.tup xs) → H' b = some (.tup xs)
  frzs : ∀ b o u, H b = some (.frz o u) → H' b = some (.frz o u)
  tbls : ∀ b ps, H b = some (.tbl ps) → ∃ more, H' b = some (.tbl (ps ++ more))
section
variable {fs fs' ex ex' : List Addr} {H H1 H2 : Hp} {h h1 h2 h' : Heap} {a x e : Addr} {o : HO}
theorem Un.any (u : Un fs ex H H1 h h1) {b : Addr} {ob : Obj} (q : h.get? b = some ob) (n : H b = none) (hx : b ∉ ex) : ∃ sl, h1.get? b = some { ob with slots := sl } := by
  by_cases hb : b ∈ fs
  · exact u.slot b ob q n hb hx
  · exact ⟨ob.slots, u.keep b ob q n hb hx⟩
theorem Un.trans (a : Un fs ex H H1 h h1) (b : Un fs ex H1 H2 h1 h2) : Un fs ex H H2 h h2 where
  keep := fun c ob q n hc hx => b.keep c ob (a.keep c ob q n hc hx) (a.free c ob q n hx) hc hx
  slot := fun c ob q n hc hx => by
    obtain ⟨sl, e1⟩ := a.slot c ob q n hc hx
    obtain ⟨sl', e2⟩ := b.slot c _ e1 (a.free c ob q n hx) hc hx
    exact ⟨sl', e2⟩
  free := fun c ob q n hx => by
    obtain ⟨o', e1⟩ := a.there c ob q hx
    exact b.free c o' e1 (a.free c ob q n hx) hx
  there := fun c ob q hx => by
    obtain ⟨o', e1⟩ := a.there c ob q hx
    exact b.there c o' e1 hx
  tups := fun c xs q => b.tups c xs (a.tups c xs q)
  frzs := fun c ob xs q => b.frzs c ob xs (a.frzs c ob xs q)
  tbls := fun c ps q => by
    obtain ⟨m1, e1⟩ := a.tbls c ps q
    obtain ⟨m2, e2⟩ := b.tbls c _ e1
    exact ⟨m1 ++ m2, by rw [e2, Array.append_assoc]⟩
theorem Un.kept (k : ∀ b u, h.get? b = some u → h'.get? b = some u) : Un fs ex H H h h' :=
  ⟨fun b ob q _ _ _ => k b ob q, fun b ob q _ _ _ => ⟨ob.slots, k b ob q⟩, fun _ _ _ n _ => n, fun b ob q _ => ⟨ob, k b ob q⟩, fun _ _ q => q, fun _ _ _ q => q, fun _ ps q => ⟨#[], by rw [q]; simp⟩⟩
theorem Un.refl : Un fs ex H H h h := Un.kept fun _ _ q => q
theorem Un.laid (k : ∀ b u, h.get? b = some u → h'.get? b = some u) (hp : h.objs.size ≤ a) (hn : H a = none) : Un fs ex H (upd H a o) h h' where
  keep := fun b u q _ _ _ => k b u q
  slot := fun b u q _ _ _ => ⟨u.slots, k b u q⟩
  free := fun b u q n _ => by rw [upd_ne (Nat.ne_of_lt (Nat.lt_of_lt_of_le (Heap.lt_size q) hp))]; exact n
  there := fun b u q _ => ⟨u, k b u q⟩
  tups := fun b xs q => by rw [upd_ne (ne_of_none q hn)]; exact q
  frzs := fun b u xs q => by rw [upd_ne (ne_of_none q hn)]; exact q
  tbls := fun b ps q => ⟨#[], by rw [upd_ne (ne_of_none q hn), q]; simp⟩
theorem Un.write (mu : Mut (H x)) (he : e = x ∨ H e = some (.own x)) (k : ∀ b u, b ≠ e → h.get? b = some u → h'.get? b = some u) (heo : ∃ u, h'.get? e = some u) : Un fs ex H (upd H x o) h h' := by
  have hx : ∀ b, H b = none → b ≠ x := fun b n z => by subst z; rw [n] at mu; exact mu
  have hb : ∀ b, H b = none → b ≠ e := fun b n z => by
    subst z
    rcases he with r | r
    · exact hx b n r
    · rw [n] at r; cases r
  have hm : ∀ b u, H b = some u → ¬ Mut (some u) → b ≠ x := fun b u q nm z => by subst z; rw [q] at mu; exact nm mu
  refine ⟨fun b u q n _ _ => k b u (hb b n) q, fun b u q n _ _ => ⟨u.slots, k b u (hb b n) q⟩, fun b u q n _ => by rw [upd_ne (hx b n)]; exact n, fun b u q _ => ?_,
    fun b xs q => by rw [upd_ne (hm b _ q fun z => z)]; exact q, fun b u xs q => by rw [upd_ne (hm b _ q fun z => z)]; exact q, fun b ps q => ⟨#[], by rw [upd_ne (hm b _ q fun z => z), q]; simp⟩⟩
  by_cases hbe : b = e
  · subst hbe; exact heo
  · exact ⟨u, k b u hbe q⟩
theorem Un.mono (u : Un fs ex H H1 h h1) (hs : ∀ b ∈ fs, b ∈ fs') (hx : ∀ b ∈ ex, b ∈ ex') : Un fs' ex' H H1 h h1 :=
  ⟨fun b ob q n hb he => u.keep b ob q n (fun z => hb (hs b z)) fun z => he (hx b z), fun _ _ q n _ he => u.any q n fun z => he (hx _ z), fun b ob q n he => u.free b ob q n fun z => he (hx b z), fun b ob q he => u.there b ob q fun z => he (hx b z), u.tups, u.frzs, u.tbls⟩
end
def trk (h : Heap) (H : Hp) : List Addr := (List.range h.objs.size).filter fun a => (H a).isSome
def hidT (h : Heap) (H : Hp) : Heap := PySem.W.hideAll h (trk h H)
theorem hidT_size (h : Heap) (H : Hp) : (hidT h H).objs.size = h.objs.size := PySem.W.hideAll_size _ _
theorem hidT_get {h : Heap} {H : Hp} {b : Addr} {o : Obj} (e : h.get? b = some o) (n : H b = none) : (hidT h H).get? b = some o :=
  PySem.W.hideAll_get _ e fun hm => by
    have q : (H b).isSome = true := (List.mem_filter.mp hm).2
    rw [n] at q; simp at q
theorem of_hidT {h : Heap} {H : Hp} {b : Addr} {o : Obj} (e : (hidT h H).get? b = some o) : h.get? b = some o ∧ H b = none := by
  have e' : h.get? b = some o := PySem.W.of_hideAll (trk h H) e
  refine ⟨e', ?_⟩
  cases q : H b with
  | none => rfl
  | some x =>
    have hm : b ∈ trk h H := List.mem_filter.mpr ⟨List.mem_range.mpr (Heap.lt_size e'), by simp [q]⟩
    have z : (hidT h H).get? b = none := PySem.W.hideAll_none (trk h H) hm
    rw [z] at e; cases e
def allNews (g h : Heap) (L : Addr) : List (Addr × Obj) := (List.range h.objs.size).filterMap fun a => if a = L ∨ (g.get? a).isSome = true then none else (h.get? a).map fun o => (a, o)
def rest (g h : Heap) (L d : Addr) : List (Addr × Obj) := (allNews g h L).filter fun p => decide (p.1 ≠ d)
end L2
namespace L2
open PySem PySem.Spec PyProof.Rows
structure Mod (K : PySem.W.Frag) (mg : Str → Option Value) (base : Heap) : Prop where
  kin : K.In base
  glob : base.Ns mainGlobals mg
  blt : ∃ mb, base.Ns builtinsNs mb ∧ ∀ x : Str, x ≠ "__name__" → mb x = bootBuiltins x
  nolimit : base.NoLimit
structure Cx where
  prog : Program
  w : World
  K : PySem.W.Frag
  mg : Str → Option Value
  base : Heap
  A : Around
  N : List Str
  s₀ : Shared
  H₀ : Hp
  env : Env
  outer : List Env
  stack : List Env
  ex : List Addr
  fn : Str → Bool
  calm : Bool
  pn : List (Addr × Obj)
  xe : Value → Shared → Prop
def frs (l : List Env) : List Addr := l.filterMap (·.frame)
abbrev Cx.fs (X : Cx) : List Addr := frs X.outer
def Vis (sc : Scope) (x : Str) : Prop := sc.names.lookup x = some .local ∨ sc.names.lookup x = some .cell ∨ sc.names.lookup x = some .free
def Loc (sc : Scope) (x : Str) : Prop := sc.names.lookup x = some .local ∨ sc.names.lookup x = some .cell
def Look (env : Env) (h : Heap) (m : Str → Option Value) (x : Str) (u : Value) : Prop :=
  (env.kindOf x = some .local ∧ m x = some u) ∨ ((env.kindOf x = some .cell ∨ env.kindOf x = some .free) ∧ ∃ c, env.cells.lookup x = some c ∧ h.IsCell c (some u))
structure Cx.Ok (X : Cx) : Prop where
  mod : Mod X.K X.mg X.base
  kind : X.env.scope.kind = .function
  glob : X.env.globals = mainGlobals
  blt : X.env.builtins = builtinsNs
  above : X.s₀.heap.objs.size ≤ X.env.locals
  inj : ∀ x y c, X.env.cells.lookup x = some c → X.env.cells.lookup y = some c → x = y
  has : ∀ x, (X.env.kindOf x = some .cell ∨ X.env.kindOf x = some .free) → ∃ c, X.env.cells.lookup x = some c
  cab : ∀ x c, X.fn x = true → X.env.cells.lookup x = some c → X.s₀.heap.objs.size ≤ c
  hd : X.calm = true → X.A.handled = none
  frames : X.A.frames = some X.stack
  stk : X.stack = X.outer ∨ (X.stack = X.env :: X.outer ∧ X.env.frame = some X.env.locals)
  exf : ∀ b ∈ X.ex, b ≠ X.env.locals ∧ ∀ x c, X.env.cells.lookup x = some c → c ≠ b
  bs : ∀ b o, X.base.get? b = some o → X.s₀.heap.get? b = some o ∧ X.H₀ b = none
  bsz : X.base.objs.size ≤ X.s₀.heap.objs.size
  noex : ∀ b o, X.base.get? b = some o → b ∉ X.ex
  exfs : ∀ b ∈ X.ex, b ∉ X.fs
  funs : X.s₀.heap.FunFrames X.base X.outer
  frf : ∀ b ∈ X.fs, X.H₀ b = none
structure Inv (X : Cx) (pins : List (Addr × Obj)) (σ : List (Option V)) (H : Hp) (s : Shared) : Prop where
  ok : X.Ok
  os : s.os = X.s₀.os
  bare : AllBare s.gens
  base : Un X.fs X.ex X.H₀ H X.s₀.heap s.heap
  loc : ∃ m, s.heap.Ns X.env.locals m ∧ ∀ (i : Nat) (x : Str) (v : V), X.N[i]? = some x → σ[i]? = some (some v) → Vis X.env.scope x → ∃ u, RelV v u ∧ Look X.env s.heap m x u
  cell : ∀ x c, X.env.cells.lookup x = some c → ∃ v, s.heap.IsCell c v
  free : H X.env.locals = none
  freeC : ∀ x c, X.env.cells.lookup x = some c → H c = none
  pin : ∀ p ∈ X.pn ++ pins, s.heap.get? p.1 = some p.2 ∧ H p.1 = none ∧ p.1 ≠ X.env.locals ∧ p.1 ∉ X.fs ∧ ∀ v, p.2.data ≠ .cell v
  hok : HOk X.prog X.w H s.heap
  len : σ.length = X.N.length
section
variable {X : Cx} {pins : List (Addr × Obj)} {σ : List (Option V)} {H H' : Hp} {s : Shared} {h' : Heap}
theorem Cx.Ok.nofr (ok : X.Ok) {b : Addr} {o : Obj} (e : X.base.get? b = some o) : b ∉ X.fs := fun hb => by
  have := (ok.funs.mem hb).1
  rw [e] at this; cases this
theorem Inv.bs (I : Inv X pins σ H s) : ∀ b o, X.base.get? b = some o → s.heap.get? b = some o ∧ H b = none := fun b o e =>
  ⟨I.base.keep b o (I.ok.bs b o e).1 (I.ok.bs b o e).2 (I.ok.nofr e) (I.ok.noex b o e), I.base.free b o (I.ok.bs b o e).1 (I.ok.bs b o e).2 (I.ok.noex b o e)⟩
theorem Inv.bk (I : Inv X pins σ H s) : ∀ b o, X.base.get? b = some o → s.heap.get? b = some o := fun b o e => (I.bs b o e).1
theorem Inv.mod (I : Inv X pins σ H s) : Mod X.K X.mg X.base := I.ok.mod
theorem Inv.kIn (I : Inv X pins σ H s) : X.K.In s.heap := I.ok.mod.kin.keeps I.bk
theorem Inv.nolimit (I : Inv X pins σ H s) : s.heap.NoLimit := I.ok.mod.nolimit.keeps I.bk
theorem Inv.fr (I : Inv X pins σ H s) : ∃ m, Fr X.base X.env.locals s.heap m :=
  let ⟨m, hn, _⟩ := I.loc
  ⟨m, hn, I.bk, Nat.le_trans I.ok.bsz I.ok.above⟩
theorem Inv.lt (I : Inv X pins σ H s) : X.env.locals < s.heap.objs.size := let ⟨_, hn, _⟩ := I.loc; hn.lt
theorem Inv.sz (I : Inv X pins σ H s) : X.s₀.heap.objs.size ≤ s.heap.objs.size := Nat.le_trans I.ok.above (Nat.le_of_lt I.lt)
theorem Inv.nofs (I : Inv X pins σ H s) {a : Addr} (h : s.heap.objs.size ≤ a) : a ∉ X.fs := fun hb => by
  obtain ⟨_, o, ho, _⟩ := I.ok.funs.mem hb
  exact absurd (Nat.lt_of_lt_of_le (Heap.lt_size ho) (Nat.le_trans I.sz h)) (Nat.lt_irrefl _)
theorem Inv.cne (I : Inv X pins σ H s) : ∀ x c, X.env.cells.lookup x = some c → c ≠ X.env.locals := fun x c e z => by
  obtain ⟨v, o, ho, hd⟩ := I.cell x c e
  obtain ⟨m, ⟨o', es, ep, ho', hd', _⟩, _⟩ := I.loc
  rw [z, ho'] at ho; cases ho; rw [hd'] at hd; cases hd
theorem Inv.funs (I : Inv X pins σ H s) : s.heap.FunFrames X.base X.outer := by
  have all : ∀ (l : List Env), (∀ b ∈ frs l, b ∈ X.fs) → X.s₀.heap.FunFrames X.base l → s.heap.FunFrames X.base l := by
    intro l
    induction l with
    | nil => intro _ _; trivial
    | cons env r ih =>
      intro hs hl
      obtain ⟨hk, ⟨L, o, hf, hn, ho, hd⟩, hr⟩ := hl
      have hL : L ∈ X.fs := hs L (by unfold frs; rw [List.filterMap_cons, hf]; exact List.mem_cons_self)
      obtain ⟨sl, e⟩ := I.base.slot L o ho (I.ok.frf L hL) hL fun z => I.ok.exfs L z hL
      exact ⟨hk, ⟨L, _, hf, hn, e, hd⟩, ih (fun b hb => hs b (by unfold frs; rw [List.filterMap_cons, hf]; exact List.mem_cons_of_mem _ hb)) hr⟩
  exact all X.outer (fun _ hb => hb) I.ok.funs
theorem Inv.stack (I : Inv X pins σ H s) : s.heap.FunFrames X.base X.stack := by
  rcases I.ok.stk with e | ⟨e, hf⟩
  · rw [e]; exact I.funs
  · rw [e]
    obtain ⟨m, hn, _⟩ := I.loc
    refine .cons (by rw [I.ok.kind]; decide) hf hn ?_ I.funs
    exact Heap.get?_none_of_le (Nat.le_trans I.ok.bsz I.ok.above)
theorem Inv.stkSub (I : Inv X pins σ H s) : ∀ b ∈ frs X.stack, b ∈ X.env.locals :: X.fs := fun b hb => by
  rcases I.ok.stk with e | ⟨e, hf⟩
  · rw [e] at hb; exact List.mem_cons_of_mem _ hb
  · rw [e] at hb
    unfold frs at hb
    rw [List.filterMap_cons, hf] at hb
    exact hb
theorem Inv.stkFree (I : Inv X pins σ H s) : ∀ b ∈ frs X.stack, H b = none := fun b hb => by
  rcases List.mem_cons.mp (I.stkSub b hb) with e | hb
  · rw [e]; exact I.free
  · obtain ⟨_, o, ho, _⟩ := I.ok.funs.mem hb
    exact I.base.free b o ho (I.ok.frf b hb) fun z => I.ok.exfs b z hb
theorem Inv.step {g' : Array GenState} {t' : Nat} {d' : Drawn} {ch : List Addr} (I : Inv X pins σ H s)
    (hch : ∀ b ∈ ch, (b ∈ X.ex ∨ X.s₀.heap.objs.size ≤ b) ∧ b ≠ X.env.locals ∧ (∀ x c, X.env.cells.lookup x = some c → c ≠ b) ∧ ∀ p ∈ X.pn ++ pins, p.1 ≠ b)
    (keep : ∀ b o, b ≠ X.env.locals → b ∉ X.fs → b ∉ ch → s.heap.get? b = some o → H b = none → h'.get? b = some o)
    (slot : ∀ b o, b ≠ X.env.locals → b ∈ X.fs → b ∉ ch → s.heap.get? b = some o → H b = none → ∃ sl, h'.get? b = some { o with slots := sl }) (free : ∀ b o, b ∉ ch → s.heap.get? b = some o → H b = none → H' b = none)
    (there : ∀ b o, b ∉ ch → s.heap.get? b = some o → ∃ o', h'.get? b = some o')
    (tups : ∀ b xs, H b = some (.tup xs) → H' b = some (.tup xs)) (frzs : ∀ b o u, H b = some (.frz o u) → H' b = some (.frz o u)) (tbls : ∀ b ps, H b = some (.tbl ps) → ∃ more, H' b = some (.tbl (ps ++ more)))
    (ns : ∀ m, s.heap.Ns X.env.locals m → h'.Ns X.env.locals m) (hok : HOk X.prog X.w H' h') (hg : AllBare g') :
    Inv X pins σ H' { s with heap := h', gens := g', drawn := d', toks := t' } := by
  have neL : ∀ b o, X.s₀.heap.get? b = some o → b ≠ X.env.locals := fun b o e => Nat.ne_of_lt (Nat.lt_of_lt_of_le (Heap.lt_size e) I.ok.above)
  have neC : ∀ b o, X.s₀.heap.get? b = some o → b ∉ X.ex → b ∉ ch := fun b o e hx hb => by
    rcases (hch b hb).1 with z | z
    · exact hx z
    · exact absurd (Nat.lt_of_lt_of_le (Heap.lt_size e) z) (Nat.lt_irrefl _)
  have cellK : ∀ x c, X.env.cells.lookup x = some c → ∀ v, s.heap.IsCell c v → h'.IsCell c v := fun x c e v ⟨o, ho, hd⟩ => by
    have nch : c ∉ ch := fun z => (hch c z).2.2.1 x c e rfl
    by_cases hc : c ∈ X.fs
    · obtain ⟨sl, q⟩ := slot c o (I.cne x c e) hc nch ho (I.freeC x c e)
      exact ⟨_, q, hd⟩
    · exact ⟨o, keep c o (I.cne x c e) hc nch ho (I.freeC x c e), hd⟩
  refine ⟨I.ok, I.os, hg, ⟨fun b o e n hb hx => ?_, fun b o e n hb hx => ?_, fun b o e n hx => ?_, fun b o e hx => ?_, fun b xs e => tups b xs (I.base.tups b xs e), fun b o xs e => frzs b o xs (I.base.frzs b o xs e), fun b ps e => ?_⟩, ?_, fun x c e => ?_, ?_, fun x c e => ?_, fun p hp => ?_, hok, I.len⟩
  · exact keep b o (neL b o e) hb (neC b o e hx) (I.base.keep b o e n hb hx) (I.base.free b o e n hx)
  · obtain ⟨sl, e1⟩ := I.base.slot b o e n hb hx
    obtain ⟨sl', e2⟩ := slot b _ (neL b o e) hb (neC b o e hx) e1 (I.base.free b o e n hx)
    exact ⟨sl', e2⟩
  · obtain ⟨o', e1⟩ := I.base.there b o e hx
    exact free b o' (neC b o e hx) e1 (I.base.free b o e n hx)
  · obtain ⟨o', e1⟩ := I.base.there b o e hx
    exact there b o' (neC b o e hx) e1
  · obtain ⟨m1, e1⟩ := I.base.tbls b ps e
    obtain ⟨m2, e2⟩ := tbls b _ e1
    exact ⟨m1 ++ m2, by rw [e2, Array.append_assoc]⟩
  · obtain ⟨m, hn, hl⟩ := I.loc
    refine ⟨m, ns m hn, fun i x v e1 e2 e3 => ?_⟩
    obtain ⟨u, r, l⟩ := hl i x v e1 e2 e3
    refine ⟨u, r, ?_⟩
    rcases l with l | ⟨k, c, e, z⟩
    · exact .inl l
    · exact .inr ⟨k, c, e, cellK x c e _ z⟩
  · obtain ⟨v, z⟩ := I.cell x c e
    exact ⟨v, cellK x c e v z⟩
  · obtain ⟨m, ⟨o, _, _, ho, _⟩, _⟩ := I.loc
    exact free _ o (fun z => (hch _ z).2.1 rfl) ho I.free
  · obtain ⟨v, o, ho, hd⟩ := I.cell x c e
    exact free c o (fun z => (hch c z).2.2.1 x c e rfl) ho (I.freeC x c e)
  · obtain ⟨e, n, ne, nf, d⟩ := I.pin p hp
    have nch : p.1 ∉ ch := fun z => (hch p.1 z).2.2.2 p hp rfl
    exact ⟨keep p.1 p.2 ne nf nch e n, free p.1 p.2 nch e n, ne, nf, d⟩
theorem Inv.un {t' : Nat} (I : Inv X pins σ H s) (u : Un X.fs [] H H' s.heap h') (hok : HOk X.prog X.w H' h') : Inv X pins σ H' { s with heap := h', toks := t' } := by
  obtain ⟨m, ⟨o, es, ep, ho, r⟩, _⟩ := id I.loc
  obtain ⟨sl, hL⟩ := u.any ho I.free (by simp)
  exact I.step (g' := s.gens) (d' := s.drawn) (ch := []) (fun _ z => nomatch z) (fun b o _ hb _ e n => u.keep b o e n hb (by simp)) (fun b o _ hb _ e n => u.slot b o e n hb (by simp)) (fun b o _ e n => u.free b o e n (by simp)) (fun b o _ e => u.there b o e (by simp)) u.tups u.frzs u.tbls (fun m' hm => by
    obtain ⟨o', es', ep', ho', r'⟩ := hm
    rw [ho] at ho'; cases ho'
    exact ⟨_, es', ep', hL, r'⟩) hok I.bare
theorem Inv.call {g' : Array GenState} {t' : Nat} {d' : Drawn} {ch : List Addr} (I : Inv X pins σ H s) (u : Un (frs X.stack) ch H H' s.heap h') (hok : HOk X.prog X.w H' h') (hg : AllBare g')
    (hch : ∀ b ∈ ch, (b ∈ X.ex ∨ X.s₀.heap.objs.size ≤ b) ∧ b ≠ X.env.locals ∧ (∀ x c, X.env.cells.lookup x = some c → c ≠ b) ∧ ∀ p ∈ X.pn ++ pins, p.1 ≠ b) :
    Inv X pins σ H' { s with heap := h', gens := g', drawn := d', toks := t' } := by
  obtain ⟨m, ⟨o, es, ep, ho, r⟩, _⟩ := id I.loc
  obtain ⟨sl, hL⟩ := u.any ho I.free fun z => (hch _ z).2.1 rfl
  exact I.step (ch := ch) hch (fun b o hL hb hc e n => u.keep b o e n (fun z => (List.mem_cons.mp (I.stkSub b z)).elim hL hb) hc) (fun b o _ _ hc e n => u.any e n hc) (fun b o hc e n => u.free b o e n hc) (fun b o hc e => u.there b o e hc) u.tups u.frzs u.tbls (fun m' hm => by
    obtain ⟨o', es', ep', ho', r'⟩ := hm
    rw [ho] at ho'; cases ho'
    exact ⟨_, es', ep', hL, r'⟩) hok hg
theorem Inv.turned {t' : Nat} {it : Addr} (I : Inv X pins σ H s) (k : ∀ b o, b ≠ it → s.heap.get? b = some o → h'.get? b = some o) (hn : H it = none) (hL : it ≠ X.env.locals)
    (h1 : it ∈ X.ex ∨ X.s₀.heap.objs.size ≤ it) (h2 : ∀ x c, X.env.cells.lookup x = some c → c ≠ it) (h3 : ∀ p ∈ X.pn ++ pins, p.1 ≠ it) : Inv X pins σ H { s with heap := h', toks := t' } := by
  have nit : ∀ b u, H b = some u → b ≠ it := fun b u e z => by rw [z, hn] at e; cases e
  refine I.step (g' := s.gens) (d' := s.drawn) (ch := [it]) (fun b hb => ?_) (fun b o _ _ hc e _ => k b o (fun z => hc (by simp [z])) e) (fun b o _ _ hc e _ => ⟨o.slots, k b o (fun z => hc (by simp [z])) e⟩) (fun _ _ _ _ n => n)
    (fun b o hc e => ⟨o, k b o (fun z => hc (by simp [z])) e⟩) (fun _ _ e => e) (fun _ _ _ e => e) (fun b ps e => ⟨#[], by rw [e]; simp⟩) (fun m hm => ?_) (fun b u e => ?_) I.bare
  · have e : b = it := by simpa using hb
    subst e
    exact ⟨h1, hL, h2, h3⟩
  · obtain ⟨o, es, ep, ho, r⟩ := hm
    exact ⟨o, es, ep, k _ o (Ne.symm hL) ho, r⟩
  · refine (I.hok b u e).stay (fun c v hc q => k c v ?_ q) (fun _ q => q) fun _ _ q => q
    rcases hc with z | z
    · rw [z]; exact nit b u e
    · exact nit c _ z
theorem Inv.tok (I : Inv X pins σ H s) (t : Nat) : Inv X pins σ H { s with toks := t } := I.un (h' := s.heap) (t' := t) Un.refl I.hok
theorem Inv.kept {t' : Nat} (I : Inv X pins σ H s) (k : ∀ b u, s.heap.get? b = some u → h'.get? b = some u) : Inv X pins σ H { s with heap := h', toks := t' } := I.un (Un.kept k) (I.hok.kept k)
theorem Inv.laid {a : Addr} {o : HO} {t' : Nat} (I : Inv X pins σ H s) (k : ∀ b u, s.heap.get? b = some u → h'.get? b = some u) (hp : s.heap.objs.size ≤ a) (new : ObjOk X.prog X.w (upd H a o) h' a o) :
    Inv X pins σ (upd H a o) { s with heap := h', toks := t' } := I.un (Un.laid k hp (I.hok.fresh hp)) (I.hok.laid k hp new)
theorem Inv.write {x e : Addr} {o : HO} {t' : Nat} (I : Inv X pins σ H s) (mu : Mut (H x)) (he : e = x ∨ H e = some (.own x)) (k : ∀ b u, b ≠ e → s.heap.get? b = some u → h'.get? b = some u) (heo : ∃ u, h'.get? e = some u)
    (new : ObjOk X.prog X.w (upd H x o) h' x o) : Inv X pins σ (upd H x o) { s with heap := h', toks := t' } := I.un (Un.write mu he k heo) (I.hok.write mu he k heo new)
theorem Inv.pins_of {pins' : List (Addr × Obj)} (I : Inv X pins σ H s) (h : ∀ p ∈ pins', s.heap.get? p.1 = some p.2 ∧ H p.1 = none ∧ p.1 ≠ X.env.locals ∧ p.1 ∉ X.fs ∧ ∀ v, p.2.data ≠ .cell v) : Inv X pins' σ H s :=
  ⟨I.ok, I.os, I.bare, I.base, I.loc, I.cell, I.free, I.freeC, fun p hp => (List.mem_append.mp hp).elim (fun z => I.pin p (List.mem_append_left _ z)) (h p), I.hok, I.len⟩
theorem nodup_ix {N : List Str} (hN : N.Nodup) {i j : Nat} {x : Str} (a : N[i]? = some x) (b : N[j]? = some x) : i = j := by
  obtain ⟨h1, e1⟩ := List.getElem?_eq_some_iff.mp a
  obtain ⟨h2, e2⟩ := List.getElem?_eq_some_iff.mp b
  exact (List.getElem_inj hN).mp (e1.trans e2.symm)
theorem store_ok2 {M : Model} {A : Around} {E : Value → Shared → Prop} {i : Nat} {x : Str} {v : V} {u : Value} {Q : Unit → Shared → Prop} (I : Inv X pins σ H s) (hN : X.N.Nodup) (hi : X.N[i]? = some x) (hx : Loc X.env.scope x) (r : RelV v u)
    (h : ∀ s', Inv X pins (σ.set i (some v)) H s' → (∃ a, Heap.SameBut a s.heap s'.heap ∧ (a = X.env.locals ∨ X.env.cells.lookup x = some a)) → Q () s') (hf : X.fn x = true ∨ X.env.scope.names.lookup x = some .local := by first | exact .inl rfl | exact .inr rfl | assumption) : wpAny M A (storeName X.env x u) Q E s := by
  obtain ⟨m, hn, hl⟩ := id I.loc
  have hcls : (X.env.scope.kind == .class || (X.env.scope.kind == .module && X.env.locals != X.env.globals)) = false := by rw [I.ok.kind]; rfl
  have hiσ : i < σ.length := by rw [I.len]; exact (List.getElem?_eq_some_iff.mp hi).1
  have cne := I.cne
  have tracked : ∀ {a : Addr} {h' : Heap}, (∃ o, s.heap.get? a = some o ∧ H a = none) → Heap.SameBut a s.heap h' → HOk X.prog X.w H h' := fun {a h'} ha hs b ob e => by
    obtain ⟨_, _, hfree⟩ := ha
    refine (I.hok b ob e).stay (fun c w' hc q => (hs.2 c ?_).trans q) (fun _ q => q) fun _ _ q => q
    rintro rfl
    rcases hc with rfl | hc
    · rw [hfree] at e; cases e
    · rw [hfree] at hc; cases hc
  rcases hx with hk | hk
  · refine wpAny_storeName_local hk hn (fun h' hn' hs => ?_) hcls
    obtain ⟨oL, _, _, hoL, _⟩ := id hn
    refine h _ ⟨I.ok, I.os, I.bare, ⟨fun b o e n hb hx => ?_, fun b o e n hb hx => ?_, I.base.free, fun b o e hx => ?_, I.base.tups, I.base.frzs, I.base.tbls⟩, ⟨_, hn', fun j y v' e1 e2 e3 => ?_⟩, fun y c e => ?_, I.free, I.freeC, fun p hp => ?_, tracked ⟨oL, hoL, I.free⟩ hs, by simpa using I.len⟩ ⟨_, hs, .inl rfl⟩
    · exact (hs.2 b (Nat.ne_of_lt (Nat.lt_of_lt_of_le (Heap.lt_size e) I.ok.above))).trans (I.base.keep b o e n hb hx)
    · obtain ⟨sl, e1⟩ := I.base.slot b o e n hb hx
      exact ⟨sl, (hs.2 b (Nat.ne_of_lt (Nat.lt_of_lt_of_le (Heap.lt_size e) I.ok.above))).trans e1⟩
    · obtain ⟨o', e1⟩ := I.base.there b o e hx
      exact ⟨o', (hs.2 b (Nat.ne_of_lt (Nat.lt_of_lt_of_le (Heap.lt_size e) I.ok.above))).trans e1⟩
    · by_cases hj : j = i
      · subst hj
        rw [hi] at e1; cases e1
        rw [List.getElem?_set_self hiσ] at e2
        cases e2
        exact ⟨u, r, .inl ⟨hk, by simp⟩⟩
      · rw [List.getElem?_set_ne (Ne.symm hj)] at e2
        obtain ⟨u', r', q⟩ := hl j y v' e1 e2 e3
        refine ⟨u', r', ?_⟩
        rcases q with ⟨k, e⟩ | ⟨k, c, e, z⟩
        · refine .inl ⟨k, ?_⟩
          have : y ≠ x := fun e => hj (nodup_ix hN e1 (e ▸ hi))
          simp [this, e]
        · exact .inr ⟨k, c, e, z.sameBut hs (cne y c e)⟩
    · obtain ⟨w', z⟩ := I.cell y c e
      exact ⟨w', z.sameBut hs (cne y c e)⟩
    · obtain ⟨e, n, ne, nf, d⟩ := I.pin p hp
      exact ⟨(hs.2 p.1 ne).trans e, n, ne, nf, d⟩
  · have hfn : X.fn x = true := by
      rcases hf with z | z
      · exact z
      · rw [z] at hk; cases hk
    obtain ⟨c, hc⟩ := I.ok.has x (.inl hk)
    obtain ⟨w', z⟩ := I.cell x c hc
    refine wpAny_storeName_cell I.ok.kind hk hc z (fun h' hc' hs => ?_)
    obtain ⟨oc, hoc, hocd⟩ := id z
    refine h { s with heap := h' } ⟨I.ok, I.os, I.bare, ⟨fun b o e n hb hx => ?_, fun b o e n hb hx => ?_, I.base.free, fun b o e hx => ?_, I.base.tups, I.base.frzs, I.base.tbls⟩, ⟨m, hn.sameBut hs (Ne.symm (cne x c hc)), fun j y v' e1 e2 e3 => ?_⟩, fun y c' e => ?_, I.free, I.freeC, fun p hp => ?_, tracked ⟨oc, hoc, I.freeC x c hc⟩ hs, by simpa using I.len⟩ ⟨c, hs, .inr hc⟩
    · exact (hs.2 b (Nat.ne_of_lt (Nat.lt_of_lt_of_le (Heap.lt_size e) (I.ok.cab x c hfn hc)))).trans (I.base.keep b o e n hb hx)
    · obtain ⟨sl, e1⟩ := I.base.slot b o e n hb hx
      exact ⟨sl, (hs.2 b (Nat.ne_of_lt (Nat.lt_of_lt_of_le (Heap.lt_size e) (I.ok.cab x c hfn hc)))).trans e1⟩
    · obtain ⟨o', e1⟩ := I.base.there b o e hx
      exact ⟨o', (hs.2 b (Nat.ne_of_lt (Nat.lt_of_lt_of_le (Heap.lt_size e) (I.ok.cab x c hfn hc)))).trans e1⟩
    · by_cases hj : j = i
      · subst hj
        rw [hi] at e1; cases e1
        rw [List.getElem?_set_self hiσ] at e2
        cases e2
        exact ⟨u, r, .inr ⟨.inl hk, c, hc, hc'⟩⟩
      · rw [List.getElem?_set_ne (Ne.symm hj)] at e2
        obtain ⟨u', r', q⟩ := hl j y v' e1 e2 e3
        refine ⟨u', r', ?_⟩
        rcases q with q | ⟨k, c', e, z'⟩
        · exact .inl q
        · refine .inr ⟨k, c', e, z'.sameBut hs ?_⟩
          rintro rfl
          exact hj (nodup_ix hN e1 (I.ok.inj _ _ _ e hc ▸ hi))
    · by_cases hcc : c' = c
      · subst hcc; exact ⟨_, hc'⟩
      · obtain ⟨w2, z2⟩ := I.cell y c' e
        exact ⟨w2, z2.sameBut hs hcc⟩
    · obtain ⟨e, n, ne, nf, d⟩ := I.pin p hp
      refine ⟨(hs.2 p.1 ?_).trans e, n, ne, nf, d⟩
      intro q
      rw [q, hoc] at e
      have q' : oc = p.2 := Option.some.inj e
      exact d w' (by rw [← q']; exact hocd)
theorem store_ok {M : Model} {A : Around} {E : Value → Shared → Prop} {i : Nat} {x : Str} {v : V} {u : Value} {Q : Unit → Shared → Prop} (I : Inv X pins σ H s) (hN : X.N.Nodup) (hi : X.N[i]? = some x) (hx : Loc X.env.scope x) (r : RelV v u)
    (h : ∀ s', Inv X pins (σ.set i (some v)) H s' → Q () s') (hf : X.fn x = true ∨ X.env.scope.names.lookup x = some .local := by first | exact .inl rfl | exact .inr rfl | assumption) : wpAny M A (storeName X.env x u) Q E s :=
  store_ok2 I hN hi hx r (fun s' I' _ => h s' I') hf
theorem Inv.call' {s' : Shared} {ch : List Addr} (I : Inv X pins σ H s) (ho : s'.os = s.os) (u : Un (frs X.stack) ch H H' s.heap s'.heap) (hok : HOk X.prog X.w H' s'.heap) (hg : AllBare s'.gens)
    (hch : ∀ b ∈ ch, (b ∈ X.ex ∨ X.s₀.heap.objs.size ≤ b) ∧ b ≠ X.env.locals ∧ (∀ x c, X.env.cells.lookup x = some c → c ≠ b) ∧ ∀ p ∈ X.pn ++ pins, p.1 ≠ b) : Inv X pins σ H' s' := by
  obtain ⟨h', g', d', t', o'⟩ := s'
  have e : o' = s.os := ho
  subst e
  exact I.call (g' := g') (t' := t') (d' := d') u hok hg hch
end
abbrev XK := Value → Option Addr → Hp → Prop
abbrev St := List (Option V)
abbrev VK := V → Hp → Prop
abbrev TE := St → Hp → VK → Prop
abbrev TT := St → Hp → (Bool → Hp → Prop) → Prop
abbrev TA := St → Hp → (List V → Hp → Prop) → Prop
structure Ends where
  nx : St → Hp → Prop
  rt : VK
  bk : St → Hp → Prop := fun _ _ => False
  ct : St → Hp → Prop := fun _ _ => False
abbrev TS := Ends → St → Hp → Prop
def EP (X : Cx) (pins : List (Addr × Obj)) (σ : St) (Q : VK) (u : Value) (s' : Shared) : Prop := ∃ v H', Inv X pins σ H' s' ∧ RelV v u ∧ Q v H'
def TP (X : Cx) (pins : List (Addr × Obj)) (σ : St) (Q : Bool → Hp → Prop) (b : Bool) (s' : Shared) : Prop := ∃ H', Inv X pins σ H' s' ∧ Q b H'
def AP (X : Cx) (pins : List (Addr × Obj)) (σ : St) (Q : List V → Hp → Prop) (us : List Value) (s' : Shared) : Prop := ∃ vs H', Inv X pins σ H' s' ∧ Vals vs us ∧ Q vs H'
def SP (X : Cx) (pins : List (Addr × Obj)) (D : Ends) (f : Flow) (s' : Shared) : Prop :=
  match f with
  | .next => ∃ σ' H', Inv X pins σ' H' s' ∧ D.nx σ' H'
  | .brk => ∃ σ' H', Inv X pins σ' H' s' ∧ D.bk σ' H'
  | .cont => ∃ σ' H', Inv X pins σ' H' s' ∧ D.ct σ' H'
  | .ret u => ∃ v σ' H', Inv X pins σ' H' s' ∧ RelV v u ∧ D.rt v H'
def PE (X : Cx) (e : Expr) (t : TE) : Prop :=
  ∀ (pins : List (Addr × Obj)) (s : Shared) (σ : St) (H : Hp) (Q : VK), Inv X pins σ H s → t σ H Q → wpAny (model X.prog X.w) X.A (eval e X.env) (EP X pins σ Q) X.xe s
def PT (X : Cx) (e : Expr) (t : TT) : Prop :=
  ∀ (pins : List (Addr × Obj)) (s : Shared) (σ : St) (H : Hp) (Q : Bool → Hp → Prop), Inv X pins σ H s → t σ H Q → wpAny (model X.prog X.w) X.A (isTrue e X.env (eval e X.env)) (TP X pins σ Q) X.xe s
def PW (X : Cx) (e : Expr) (t : TT) : Prop :=
  ∀ (whole : Sem Value) (pins : List (Addr × Obj)) (s : Shared) (σ : St) (H : Hp) (Q : Bool → Hp → Prop), Inv X pins σ H s → t σ H Q → wpAny (model X.prog X.w) X.A (isTrue e X.env whole) (TP X pins σ Q) X.xe s
theorem PW.pt {X : Cx} {e : Expr} {t : TT} (h : PW X e t) : PT X e t := h _
def PA (X : Cx) (es : List Expr) (t : TA) : Prop :=
  ∀ (pos : Pos) (pins : List (Addr × Obj)) (s : Shared) (σ : St) (H : Hp) (Q : List V → Hp → Prop), Inv X pins σ H s → t σ H Q → wpAny (model X.prog X.w) X.A (spliced (backTo pos (starEach es X.env))) (AP X pins σ Q) X.xe s
def PS (X : Cx) (st : Stmt) (t : TS) : Prop :=
  ∀ (pins : List (Addr × Obj)) (s : Shared) (σ : St) (H : Hp) (D : Ends), Inv X pins σ H s → t D σ H → wpAny (model X.prog X.w) X.A (exec st X.env) (SP X pins D) X.xe s
def PSs (X : Cx) (st : List Stmt) (t : TS) : Prop :=
  ∀ (pins : List (Addr × Obj)) (s : Shared) (σ : St) (H : Hp) (D : Ends), Inv X pins σ H s → t D σ H → wpAny (model X.prog X.w) X.A (execs st X.env) (SP X pins D) X.xe s
theorem thn {α : Type} {t : Sem α} {Q Q' : α → Shared → Prop} {M : Model} {A : Around} {E : Value → Shared → Prop} {s : Shared} (h : wpAny M A t Q E s) (hQ : ∀ a s, Q a s → Q' a s) : wpAny M A t Q' E s := wpAny_mono h hQ fun _ _ x => x
end L2
namespace L2
open PySem PySem.Spec PyProof.Rows
section
variable {X : Cx}
def tVar (i : Nat) : TE := fun σ H Q => ∃ v, σ[i]? = some (some v) ∧ Q v H
def tC (v : V) : TE := fun _ H Q => Q v H
theorem pe_var {i : Nat} {x : Str} {pos : Pos} (hN : X.N[i]? = some x) (hv : Vis X.env.scope x) (hd : (x == ("__debug__" : Str)) = false := by decide) (hcd : (x == ("__classdict__" : Str)) = false := by decide) : PE X (.Name x pos) (tVar i) := by
  intro pins s σ H Q I h
  obtain ⟨v, e, h⟩ := h
  obtain ⟨m, hn, hl⟩ := I.loc
  obtain ⟨u, r, l⟩ := hl i x v hN e hv
  have fin : EP X pins σ Q u s := ⟨v, H, I, r, h⟩
  rcases l with ⟨hk, hm⟩ | ⟨hk, c, hc, hcell⟩
  · exact wpAny_Name (wpAny_loadName_local I.ok.kind hk hn hm fin) hd
  · rcases hk with hk | hk
    · exact wpAny_Name (wpAny_loadName_cell I.ok.kind hk hc hcell fin) hd
    · exact wpAny_Name (wpAny_loadName_free I.ok.kind hk hc hcell fin hcd) hd
theorem pe_int {i j pos} : PE X (.Constant (.int i) j pos) (tC (.int i)) := fun _ _ _ H _ I h => wpAny_Constant_int ⟨.int i, H, I.tok _, ⟨_, rfl⟩, h⟩
theorem pe_bl {b j pos} : PE X (.Constant (.bool b) j pos) (tC (.bl b)) := fun _ _ _ H _ I h => Constant_bool ⟨.bl b, H, I, rfl, h⟩
theorem pe_non {j pos} : PE X (.Constant .none j pos) (tC .non) := fun _ _ _ H _ I h => Constant_none ⟨.non, H, I, rfl, h⟩
theorem pe_str {x j pos} : PE X (.Constant (.str x) j pos) (tC (.str x)) := fun _ _ _ H _ I h => Calls.Constant_str ⟨.str x, H, I.tok _, ⟨_, rfl⟩, h⟩
def Gl (X : Cx) (x : Str) : Prop := X.env.kindOf x = some .globalImplicit
theorem ld_glob {E : Value → Shared → Prop} {pins : List (Addr × Obj)} {s : Shared} {σ : St} {H : Hp} {x : Str} {u : Value} {pos : Pos} {Q : Value → Shared → Prop} (I : Inv X pins σ H s) (hg : Gl X x) (hm : X.mg x = some u) (h : Q u s)
    (hd : (x == ("__debug__" : Str)) = false := by decide) : wpAny (model X.prog X.w) X.A (eval (.Name x pos) X.env) Q E s :=
  Calls.Name_function_global I.ok.kind hg (Calls.loadGlobal_global (by rw [I.ok.glob]; exact I.mod.glob.keeps I.bk) hm h) hd
theorem ld_blt {E : Value → Shared → Prop} {pins : List (Addr × Obj)} {s : Shared} {σ : St} {H : Hp} {x : Str} {u : Value} {pos : Pos} {Q : Value → Shared → Prop} (I : Inv X pins σ H s) (hg : Gl X x) (hm : X.mg x = none) (hv : bootBuiltins x = some u) (h : Q u s)
    (hn : x ≠ "__name__" := by decide) (hd : (x == ("__debug__" : Str)) = false := by decide) : wpAny (model X.prog X.w) X.A (eval (.Name x pos) X.env) Q E s := by
  obtain ⟨mb, h1, h2⟩ := I.mod.blt
  exact Calls.Name_function_global I.ok.kind hg (Calls.loadGlobal_builtin (by rw [I.ok.glob]; exact I.mod.glob.keeps I.bk) hm (by rw [I.ok.blt]; exact h1.keeps I.bk) ((h2 x hn).trans hv) h) hd
theorem pe_glob {x : Str} {v : V} {u : Value} {pos : Pos} (hg : Gl X x) (hm : X.mg x = some u) (r : RelV v u) (hd : (x == ("__debug__" : Str)) = false := by decide) : PE X (.Name x pos) (tC v) :=
  fun _ _ _ H _ I h => ld_glob I hg hm ⟨v, H, I, r, h⟩ hd
theorem pe_bltn {x : Str} {v : V} {u : Value} {pos : Pos} (hg : Gl X x) (hm : X.mg x = none) (hv : bootBuiltins x = some u) (r : RelV v u) (hn : x ≠ "__name__" := by decide) (hd : (x == ("__debug__" : Str)) = false := by decide) : PE X (.Name x pos) (tC v) :=
  fun _ _ _ H _ I h => ld_blt I hg hm hv ⟨v, H, I, r, h⟩ hn hd
variable {a b : Expr} {ta tb : TE} {pos : Pos}
theorem nobehind (b : Expr) {op : CmpOp} (h : op ≠ .In) (h2 : op ≠ .NotIn) : behindInMarks op b = false := by
  have e1 : (op == CmpOp.In) = false := by cases op <;> first | rfl | exact absurd rfl h
  have e2 : (op == CmpOp.NotIn) = false := by cases op <;> first | rfl | exact absurd rfl h2
  cases b <;> simp [behindInMarks, e1, e2]
def tB (t : TE) : TT := fun σ H Q => t σ H fun x H1 => ∃ c, x = .bl c ∧ Q c H1
theorem pt_val {e : Expr} {t : TE} (h : PE X e t) (he : ∀ whole, isTrue e X.env whole = (do let v ← whole; standAt e.pos; holding [v] (truthy v)) := by intro _; rfl) : PT X e (tB t) := by
  intro pins s σ H Q I hw
  refine isTrue_plain (thn (h pins s σ H _ I hw) fun v s1 ⟨x, H1, I1, r1, q1⟩ => ?_) (he _)
  obtain ⟨d, rfl, q⟩ := q1
  cases r1
  exact wpAny_truthy_bool ⟨H1, I1, q⟩
variable {tA tB' : TT} {rest : List Expr}
def tAnd (t u : TT) : TT := fun σ H Q => t σ H fun c H1 => if c = true then u σ H1 Q else Q false H1
def tOr (t u : TT) : TT := fun σ H Q => t σ H fun c H1 => if c = true then Q true H1 else u σ H1 Q
def tNot (t : TT) : TT := fun σ H Q => t σ H fun c H1 => Q (!c) H1
theorem pw_and1 (ha : PT X a tA) : PW X (.BoolOp .And [a] pos) tA := by
  intro wh pins s σ H Q I h
  refine isTrue_and (thn (ha pins s σ H Q I h) fun c s1 e => ?_)
  cases c with
  | true => exact isTrue_and_nil e
  | false => exact e
theorem pw_or1 (ha : PT X a tA) : PW X (.BoolOp .Or [a] pos) tA := by
  intro wh pins s σ H Q I h
  refine isTrue_or (thn (ha pins s σ H Q I h) fun c s1 e => ?_)
  cases c with
  | false => exact isTrue_or_nil e
  | true => exact e
theorem pw_and (ha : PT X a tA) (hb : PW X (.BoolOp .And (b :: rest) pos) tB') : PW X (.BoolOp .And (a :: b :: rest) pos) (tAnd tA tB') := by
  intro wh pins s σ H Q I h
  refine isTrue_and (thn (ha pins s σ H _ I h) fun c s1 ⟨H1, I1, q1⟩ => ?_)
  cases c with
  | true => exact hb wh pins s1 σ H1 Q I1 q1
  | false => exact ⟨H1, I1, q1⟩
theorem pw_or (ha : PT X a tA) (hb : PW X (.BoolOp .Or (b :: rest) pos) tB') : PW X (.BoolOp .Or (a :: b :: rest) pos) (tOr tA tB') := by
  intro wh pins s σ H Q I h
  refine isTrue_or (thn (ha pins s σ H _ I h) fun c s1 ⟨H1, I1, q1⟩ => ?_)
  cases c with
  | true => exact ⟨H1, I1, q1⟩
  | false => exact hb wh pins s1 σ H1 Q I1 q1
theorem pt_not (ha : PT X a tA) : PT X (.UnaryOp .Not a pos) (tNot tA) := by
  intro pins s σ H Q I h
  exact isTrue_not (ha pins s σ H (fun c H1 => Q (!c) H1) I h)
def tAndV (ta tb : TE) : TE := fun σ H Q => ta σ H fun x H1 => ∃ c, x = .bl c ∧ if c = true then tb σ H1 Q else Q (.bl false) H1
def tNotV (ta : TE) : TE := fun σ H Q => ta σ H fun x H1 => ∃ c, x = .bl c ∧ Q (.bl (!c)) H1
theorem pe_one {op} {t : TE} (h : PE X a t) : PE X (.BoolOp op [a] pos) t := fun pins s σ H Q I hw => BoolOp_one (h pins s σ H Q I hw)
theorem pe_and (ha : PE X a ta) (hb : PE X (.BoolOp .And (b :: rest) pos) tb) : PE X (.BoolOp .And (a :: b :: rest) pos) (tAndV ta tb) := by
  intro pins s σ H Q I h
  refine BoolOp_and (thn (ha pins s σ H _ I h) fun v s1 ⟨x, H1, I1, r1, q1⟩ => ?_)
  obtain ⟨c, rfl, q1⟩ := q1
  cases r1
  refine wpAny_truthy_bool ?_
  cases c with
  | true => exact hb pins s1 σ H1 Q I1 q1
  | false => exact ⟨.bl false, H1, I1, rfl, q1⟩
theorem pe_not (ha : PE X a ta) : PE X (.UnaryOp .Not a pos) (tNotV ta) := by
  intro pins s σ H Q I h
  refine UnaryOp_ (thn (ha pins s σ H _ I h) fun v s1 ⟨x, H1, I1, r1, q1⟩ => ?_)
  obtain ⟨c, rfl, q1⟩ := q1
  cases r1
  exact not_of (wpAny_truthy_bool ⟨.bl (!c), H1, I1, rfl, q1⟩)
end
end L2
namespace L2
open PySem PySem.Spec PyProof.Rows
def SqL (K : PySem.W.Frag) (H : Hp) (a : Addr) (xs : List V) : Prop :=
  Rd H a (.lst xs) ∨
    ∃ (o : Obj) (its : Array Value) (n : Nat), K.lookup a = some o ∧ o.cls = .type "list" ∧ o.dict = none ∧ o.data = .seq its n ∧ its.size ≤ sizeLine ∧ Vals xs its.toList
def SqT (K : PySem.W.Frag) (H : Hp) (a : Addr) (xs : List V) : Prop :=
  Rd H a (.tup xs) ∨
    ∃ (o : Obj) (its : Array Value) (n : Nat), K.lookup a = some o ∧ o.cls = .type "tuple" ∧ o.data = .seq its n ∧ its.size ≤ sizeLine ∧ Vals xs its.toList
def absV : Value → Option V
  | .none => some .non
  | .bool b => some (.bl b)
  | .int i _ => some (.int i)
  | .str x _ => some (.str x)
  | .bytes b _ => some (.byt b)
  | .float b _ => some (.flt b)
  | .ref a => some (.ref a)
  | .type n => some (.ty n)
  | _ => none
theorem RelV.abs {x : V} {u : Value} (r : RelV x u) : absV u = some x := by
  cases x with
  | non => cases r; rfl
  | bl _ => cases r; rfl
  | int _ => obtain ⟨t, rfl⟩ := r; rfl
  | str _ => obtain ⟨t, rfl⟩ := r; rfl
  | byt _ => obtain ⟨t, rfl⟩ := r; rfl
  | flt _ => obtain ⟨t, rfl⟩ := r; rfl
  | ref _ => cases r; rfl
  | ty _ => cases r; rfl
theorem RelV.inj {x y : V} {u : Value} (r : RelV x u) (q : RelV y u) : x = y := Option.some.inj (r.abs.symm.trans q.abs)
theorem Vals.inj : ∀ {xs ys : List V} {us : List Value}, Vals xs us → Vals ys us → xs = ys
  | _, _, _, .nil, .nil => rfl
  | _, _, _, .cons r t, .cons r' t' => by rw [r.inj r', Vals.inj t t']
section
variable {X : Cx} {pins : List (Addr × Obj)} {σ : St} {H : Hp} {s : Shared} {a : Addr} {xs ys : List V}
theorem SqL.of {K : PySem.W.Frag} (h : H a = some (.lst xs)) : SqL K H a xs := .inl (.inl h)
theorem SqT.of {K : PySem.W.Frag} (h : H a = some (.tup xs)) : SqT K H a xs := .inl (.inl h)
theorem Inv.list (I : Inv X pins σ H s) (h : SqL X.K H a xs) : ∃ its : List Value, Vals xs its ∧ PlainL s.heap a its.toArray ∧ xs.length ≤ sizeLine := by
  rcases h with h | ⟨o, its, n, hk, hc, hd, hs, hz, r⟩
  · obtain ⟨z, its, n, r, e⟩ := h.ok I.hok
    exact ⟨its, r, ⟨_, n, e, rfl, rfl, rfl⟩, z⟩
  · refine ⟨its.toList, r, ⟨o, n, I.kIn a o hk, hc, hd, by simpa using hs⟩, ?_⟩
    have e := r.length
    simp only [Array.length_toList] at e
    omega
theorem Inv.tuple (I : Inv X pins σ H s) (h : SqT X.K H a xs) : ∃ its : List Value, Vals xs its ∧ IsTup s.heap a its.toArray ∧ xs.length ≤ sizeLine := by
  rcases h with h | ⟨o, its, n, hk, hc, hs, hz, r⟩
  · obtain ⟨z, its, r, p⟩ := h.ok I.hok
    exact ⟨its, r, p, z⟩
  · refine ⟨its.toList, r, ⟨o, I.kIn a o hk, hc, n, by simpa using hs⟩, ?_⟩
    have e := r.length
    simp only [Array.length_toList] at e
    omega
theorem Inv.list_inj (I : Inv X pins σ H s) (h : SqL X.K H a xs) (h' : SqL X.K H a ys) : xs = ys := by
  obtain ⟨its, r, ⟨o, n, e, _, _, d⟩, _⟩ := I.list h
  obtain ⟨its', r', ⟨o', n', e', _, _, d'⟩, _⟩ := I.list h'
  rw [e] at e'; cases e'
  rw [d] at d'
  injection d' with d1 _
  have : its = its' := by simpa using congrArg Array.toList d1
  subst this
  exact r.inj r'
theorem Inv.tuple_inj (I : Inv X pins σ H s) (h : SqT X.K H a xs) (h' : SqT X.K H a ys) : xs = ys := by
  obtain ⟨its, r, ⟨o, e, _, n, d⟩, _⟩ := I.tuple h
  obtain ⟨its', r', ⟨o', e', _, n', d'⟩, _⟩ := I.tuple h'
  rw [e] at e'; cases e'
  rw [d] at d'
  injection d' with d1 _
  have : its = its' := by simpa using congrArg Array.toList d1
  subst this
  exact r.inj r'
end
abbrev Cx.wish (X : Cx) (E : Value → Shared → Prop) : Cx := { X with xe := E }
abbrev Cx.nox (X : Cx) : Cx := X.wish fun _ _ => False
theorem Cx.Ok.wish {X : Cx} (ok : X.Ok) (E : Value → Shared → Prop) : (X.wish E).Ok :=
  ⟨ok.mod, ok.kind, ok.glob, ok.blt, ok.above, ok.inj, ok.has, ok.cab, ok.hd, ok.frames, ok.stk, ok.exf, ok.bs, ok.bsz, ok.noex, ok.exfs, ok.funs, ok.frf⟩
theorem Cx.Ok.unwish {X : Cx} {E : Value → Shared → Prop} (ok : (X.wish E).Ok) : X.Ok :=
  ⟨ok.mod, ok.kind, ok.glob, ok.blt, ok.above, ok.inj, ok.has, ok.cab, ok.hd, ok.frames, ok.stk, ok.exf, ok.bs, ok.bsz, ok.noex, ok.exfs, ok.funs, ok.frf⟩
section
variable {X : Cx} {pins : List (Addr × Obj)} {σ : St} {H : Hp} {s : Shared} {E : Value → Shared → Prop}
theorem Inv.wish (I : Inv X pins σ H s) (E : Value → Shared → Prop) : Inv (X.wish E) pins σ H s := ⟨I.ok.wish E, I.os, I.bare, I.base, I.loc, I.cell, I.free, I.freeC, I.pin, I.hok, I.len⟩
theorem Inv.unwish (I : Inv (X.wish E) pins σ H s) : Inv X pins σ H s := ⟨I.ok.unwish, I.os, I.bare, I.base, I.loc, I.cell, I.free, I.freeC, I.pin, I.hok, I.len⟩
theorem SP.unwish {D : Ends} {f : Flow} {s' : Shared} (h : SP (X.wish E) pins D f s') : SP X pins D f s' := by
  cases f with
  | next => obtain ⟨σ', H', I, q⟩ := h; exact ⟨σ', H', I.unwish, q⟩
  | brk => obtain ⟨σ', H', I, q⟩ := h; exact ⟨σ', H', I.unwish, q⟩
  | cont => obtain ⟨σ', H', I, q⟩ := h; exact ⟨σ', H', I.unwish, q⟩
  | ret u => obtain ⟨v, σ', H', I, r, q⟩ := h; exact ⟨v, σ', H', I.unwish, r, q⟩
theorem PE.nox {e : Expr} {t : TE} (h : PE X.nox e t) : PE X e t := fun pins s σ H Q I hw =>
  wpAny_mono (h pins s σ H Q (I.wish _) hw) (fun _ _ ⟨v, H', I', r, q⟩ => ⟨v, H', I'.unwish, r, q⟩) fun _ _ z => False.elim z
theorem PT.nox {e : Expr} {t : TT} (h : PT X.nox e t) : PT X e t := fun pins s σ H Q I hw =>
  wpAny_mono (h pins s σ H Q (I.wish _) hw) (fun _ _ ⟨H', I', q⟩ => ⟨H', I'.unwish, q⟩) fun _ _ z => False.elim z
theorem PSs.nox {st : List Stmt} {t : TS} (h : PSs X.nox st t) : PSs X st t := fun pins s σ H D I hw =>
  wpAny_mono (h pins s σ H D (I.wish _) hw) (fun _ _ q => q.unwish) fun _ _ z => False.elim z
end
section
variable {X : Cx} {st : Stmt} {rest : List Stmt} {t u : TS} {e : Expr} {te : TE} {pos : Pos}
def tNext : TS := fun D σ H => D.nx σ H
def tSeq (t u : TS) : TS := fun D σ H => t { D with nx := u D } σ H
theorem pss_nil : PSs X [] tNext := fun _ _ σ H _ I h => wpAny_execs_nil ⟨σ, H, I, h⟩
theorem pss_cons (h1 : PS X st t) (h2 : PSs X rest u) : PSs X (st :: rest) (tSeq t u) := by
  intro pins s σ H D I h
  refine wpAny_execs_cons (thn (h1 pins s σ H { D with nx := u D } I h) fun f s1 q => ?_)
  cases f with
  | next =>
    obtain ⟨σ', H', I', q⟩ := q
    exact h2 pins s1 σ' H' D I' q
  | ret v => exact q
  | brk => exact q
  | cont => exact q
theorem Inv.quiet {pins : List (Addr × Obj)} {σ : St} {H : Hp} {s : Shared} (I : Inv X pins σ H s) : interactive X.env = false := by simp [interactive, I.ok.kind]
def tDrop (te : TE) : TS := fun D σ H => te σ H fun _ H1 => D.nx σ H1
theorem ps_expr (he : PE X e te) (hs : swapsWith e none pos.line X.env = pure false := by rfl) : PS X (.Expr e pos) (tDrop te) := by
  intro pins s σ H D I h
  exact wpAny_Expr_any (thn (he pins s σ H _ I h) fun v s1 ⟨x, H1, I1, r1, q1⟩ => ⟨σ, H1, I1, q1⟩) I.quiet hs
def tRet (te : TE) : TS := fun D σ H => te σ H D.rt
theorem ps_ret (he : PE X e te) : PS X (.Return (some e) pos) (tRet te) := by
  intro pins s σ H D I h
  exact wpAny_Return_some (thn (he pins s σ H _ I h) fun v s1 ⟨x, H1, I1, r1, q1⟩ => ⟨x, σ, H1, I1, r1, q1⟩)
def tIfS (c : TT) (t u : TS) : TS := fun D σ H => c σ H fun b H1 => if b = true then t D σ H1 else u D σ H1
theorem ps_if {c : Expr} {a b : List Stmt} {tc : TT} (hc : PT X c tc) (ha : PSs X a t) (hb : PSs X b u) : PS X (.If c a b pos) (tIfS tc t u) := by
  intro pins s σ H D I h
  refine wpAny_If (thn (hc pins s σ H _ I h) fun d s1 ⟨H1, I1, q1⟩ => ?_)
  cases d with
  | true => exact ha pins s1 σ H1 D I1 q1
  | false => exact hb pins s1 σ H1 D I1 q1
end
abbrev TG := V → St → Hp → (St → Hp → Prop) → Prop
abbrev TGs := List V → St → Hp → (St → Hp → Prop) → Prop
def PG (X : Cx) (target : Expr) (t : TG) : Prop :=
  ∀ (pins : List (Addr × Obj)) (s : Shared) (σ : St) (H : Hp) (v : V) (u : Value) (Q : St → Hp → Prop), Inv X pins σ H s → RelV v u → t v σ H Q →
    wpAny (model X.prog X.w) X.A (assign target X.env u) (fun _ s' => ∃ σ' H', Inv X pins σ' H' s' ∧ Q σ' H') X.xe s
def PGs (X : Cx) (ts : List Expr) (t : TGs) : Prop :=
  ∀ (pins : List (Addr × Obj)) (s : Shared) (σ : St) (H : Hp) (vs : List V) (us : List Value) (Q : St → Hp → Prop), Inv X pins σ H s → Vals vs us → t vs σ H Q →
    wpAny (model X.prog X.w) X.A (assignInOrder ((assignEach ts X.env).map (·.2)) us) (fun _ s' => ∃ σ' H', Inv X pins σ' H' s' ∧ Q σ' H') X.xe s
section
variable {X : Cx} {pos : Pos}
def gName (i : Nat) : TG := fun v σ H Q => Q (σ.set i (some v)) H
theorem pg_name {i : Nat} {x : Str} (hN : X.N.Nodup) (hi : X.N[i]? = some x) (hx : Loc X.env.scope x) (hf : X.fn x = true ∨ X.env.scope.names.lookup x = some .local := by first | exact .inl rfl | exact .inr rfl | assumption) : PG X (.Name x pos) (gName i) := by
  intro pins s σ H v u Q I r h
  exact wpAny_assign_Name (store_ok I hN hi hx r (fun s' I' => ⟨_, H, I', h⟩) hf)
def gNil : TGs := fun vs σ H Q => vs = [] ∧ Q σ H
def gCons (t : TG) (u : TGs) : TGs := fun vs σ H Q => ∃ v r, vs = v :: r ∧ t v σ H fun σ' H' => u r σ' H' Q
theorem pgs_nil : PGs X [] gNil := by
  intro pins s σ H vs us Q I r h
  obtain ⟨e, h⟩ := h
  subst e
  cases r
  exact assignInOrder_nil ⟨σ, H, I, h⟩
theorem pgs_cons {e : Expr} {es : List Expr} {t : TG} {u : TGs} (h1 : PG X e t) (h2 : PGs X es u)
    (hs : (assignEach (e :: es) X.env).map (·.2) = assign e X.env :: (assignEach es X.env).map (·.2) := by rfl) : PGs X (e :: es) (gCons t u) := by
  intro pins s σ H vs us Q I r h
  obtain ⟨v, vr, e1, h⟩ := h
  subst e1
  cases r with
  | cons r rr =>
    rw [hs]
    refine assignInOrder_cons (thn (h1 pins s σ H _ _ _ I r h) fun _ s1 ⟨σ1, H1, I1, q1⟩ => ?_)
    exact h2 pins s1 σ1 H1 _ _ Q I1 rr q1
def gTup (K : PySem.W.Frag) (n : Nat) (t : TGs) : TG := fun v σ H Q => ∃ a xs, v = .ref a ∧ SqT K H a xs ∧ xs.length = n ∧ t xs σ H Q
theorem pg_tup {es : List Expr} {k : Nat} {t : TGs} {n : Nat} (hc : X.calm = true) (h : PGs X es t)
    (hn : (assignEach es X.env).length = n := by rfl) (hst : (assignEach es X.env).findIdx? (·.1) = none := by rfl) : PG X (.Tuple es k pos) (gTup X.K n t) := by
  intro pins s σ H v u Q I r hw
  obtain ⟨a, xs, e1, hq, hl, hw⟩ := hw
  subst e1
  cases r
  obtain ⟨its, rv, ht, hz⟩ := I.tuple hq
  refine assign_Tuple_tuple (I.ok.hd hc) ht (by simp [hn, ← hl, rv.length]) hst fun h' hx => ?_
  have I1 : Inv X pins σ H { s with heap := h' } := I.kept (t' := s.toks) fun b o e => hx b o (Nat.ne_of_lt (Heap.lt_size e)) e
  exact h pins _ σ H xs _ Q I1 (by simpa using rv) hw
def tAsg (te : TE) (g : TG) : TS := fun D σ H => te σ H fun x H1 => g x σ H1 D.nx
theorem ps_asg {tg e : Expr} {te : TE} {g : TG} (he : PE X e te) (hg : PG X tg g) (hs : swapsWithSole [tg] e pos.line X.env = pure false := by rfl) (hw : swappedStores [tg] e X.env = pure none := by rfl)
    (h1 : (assignEach [tg] X.env).map (·.2) = [assign tg X.env] := by rfl) : PS X (.Assign [tg] e pos) (tAsg te g) := by
  intro pins s σ H D I h
  refine wpAny_Assign_stores (thn (he pins s σ H _ I h) fun v s1 ⟨x, H1, I1, r1, q1⟩ => ?_) hs hw
  rw [h1]
  exact thn (hg pins s1 σ H1 x v _ I1 r1 q1) fun _ s2 q => q
theorem ps_set {i : Nat} {x : Str} {e : Expr} {te : TE} {pos' : Pos} (hN : X.N.Nodup) (hi : X.N[i]? = some x) (hx : Loc X.env.scope x) (he : PE X e te) (hs : swapsWith e (some (.Name x pos')) pos.line X.env = pure false := by rfl) (hf : X.fn x = true ∨ X.env.scope.names.lookup x = some .local := by first | exact .inl rfl | exact .inr rfl | assumption) :
    PS X (.Assign [.Name x pos'] e pos) (tAsg te (gName i)) := by
  intro pins s σ H D I h
  refine wpAny_Assign_Name (thn (he pins s σ H _ I h) fun v s1 ⟨y, H1, I1, r1, q1⟩ => ?_) hs
  exact store_ok I1 hN hi hx r1 (fun s2 I2 => ⟨_, H1, I2, q1⟩) hf
def tPar (i j : Nat) (ta : TA) : TS := fun D σ H => ta σ H fun vs H1 => ∃ v w, vs = [v, w] ∧ D.nx ((σ.set i (some v)).set j (some w)) H1
theorem ps_par {i j : Nat} {x y : Str} {a b : Expr} {ta : TA} {px py pt : Pos} {kt k2 pt2} (hc : X.calm = true) (hN : X.N.Nodup) (hi : X.N[i]? = some x) (hj : X.N[j]? = some y) (hij : i ≠ j)
    (hx : X.env.scope.names.lookup x = some .local) (hy : X.env.scope.names.lookup y = some .local) (ha : PA X [a, b] ta)
    (hw : swappedStores [.Tuple [.Name x px, .Name y py] kt pt] (.Tuple [a, b] k2 pt2) X.env = pure (some [x, y]))
    (hs : swapsWithSole [.Tuple [.Name x px, .Name y py] kt pt] (.Tuple [a, b] k2 pt2) pos.line X.env = pure false := by rfl) :
    PS X (.Assign [.Tuple [.Name x px, .Name y py] kt pt] (.Tuple [a, b] k2 pt2) pos) (tPar i j ta) := by
  intro pins s σ H D I h
  rw [exec_Assign_arm]
  refine wpAny_bind (wpAny_standAt ?_)
  rw [hs]
  refine wpAny_bind (wpAny_pure ?_)
  rw [if_neg (by decide)]
  refine wpAny_bind (Tuple_ (thn (ha _ pins s σ H _ I h) fun us s1 ⟨vs, H1, I1, r1, q1⟩ => ?_))
  obtain ⟨v, w, e1, q1⟩ := q1
  subst e1
  obtain ⟨u1, u2, rfl, rv, rw'⟩ : ∃ u1 u2, us = [u1, u2] ∧ RelV v u1 ∧ RelV w u2 := by
    cases r1 with
    | cons p q =>
      cases q with
      | cons p' q' =>
        cases q'
        exact ⟨_, _, rfl, p, p'⟩
  refine wpAny_newObj_type ?_ (by show 2 ≤ sizeLine; decide)
  have I2 : Inv X pins σ H1 { s1 with heap := s1.heap.push { cls := .type "tuple", data := .seq [u1, u2].toArray } } := I1.kept (t' := s1.toks) fun b o e => Heap.get?_push_of_some _ e
  rw [hw]
  refine wpAny_bind (wpAny_pure ?_)
  show wpAny (model X.prog X.w) X.A (do rule "assign.swapped-stores"; let items ← unpackItems (.ref s1.heap.objs.size) 2 none; assignInOrder [fun v => bindName X.env y v, fun v => bindName X.env x v] items.reverse; pure Flow.next) _ _ _
  refine wpAny_bind (wpAny_rule (wpAny_bind (unpackItems_tuple (items := #[u1, u2]) (I.ok.hd hc) (IsTup.new s1.heap _) fun h' hx' => ?_)))
  have I3 := I2.kept (h' := h') (t' := s1.toks) fun b o e => hx' b o (Nat.ne_of_lt (Heap.lt_size e)) e
  show wpAny _ _ (assignInOrder [fun v => bindName X.env y v, fun v => bindName X.env x v] [u2, u1] >>= fun _ => pure Flow.next) _ _ _
  refine wpAny_bind (assignInOrder_cons (wpAny_bindName (store_ok I3 hN hj (.inl hy) rw' (fun s2 I4 => ?_) (.inr hy))))
  refine assignInOrder_cons (wpAny_bindName (store_ok I4 hN hi (.inl hx) rv (fun s3 I5 => assignInOrder_nil (wpAny_pure ?_)) (.inr hx)))
  rw [List.set_comm _ _ (Ne.symm hij)] at I5
  exact ⟨_, H1, I5, q1⟩
end
section
variable {X : Cx} {pos : Pos}
def tWhile (c : TT) (tb : TS) : TS := fun D σ H => ∃ W : Nat → St → Hp → Prop, (∃ m, W m σ H) ∧ ∀ m σ H, W m σ H →
  c σ H fun b H1 => if b = true then ∃ N : St → Hp → Prop, (∀ σ' H', N σ' H' → ∃ m', m' < m ∧ W m' σ' H') ∧ tb { D with nx := N, ct := N, bk := D.nx } σ H1 else D.nx σ H1
theorem ps_while {c : Expr} {body : List Stmt} {tc : TT} {tb : TS} (hp : PassesOwn (model X.prog X.w) X.A X.env X.xe) (hc : PT X c tc) (hb : PSs X body tb) : PS X (.While c body [] pos) (tWhile tc tb) := by
  intro pins s σ H D I h
  obtain ⟨W, ⟨m0, w0⟩, turn⟩ := h
  refine wpAny_While (codeAny_whileLoop (fun n s' => ∃ σ' H', Inv X pins σ' H' s' ∧ W n σ' H') ?_ m0 ⟨σ, H, I, w0⟩)
  rintro n s1 ⟨σ1, H1, I1, w1⟩
  refine wpAny_passesOwn hp (thn (hc pins s1 σ1 H1 _ I1 (turn n σ1 H1 w1)) fun b s2 ⟨H2, I2, q2⟩ => ?_)
  cases b with
  | true =>
    obtain ⟨N, hN, q2⟩ := q2
    rw [if_pos rfl]
    refine wpAny_passesOwn hp (thn (hb pins s2 σ1 H2 _ I2 q2) fun f s3 q3 => ?_)
    cases f with
    | next =>
      obtain ⟨σ3, H3, I3, n3⟩ := q3
      obtain ⟨m', hm, w3⟩ := hN σ3 H3 n3
      exact ⟨m', hm, σ3, H3, I3, w3⟩
    | cont =>
      obtain ⟨σ3, H3, I3, n3⟩ := q3
      obtain ⟨m', hm, w3⟩ := hN σ3 H3 n3
      exact ⟨m', hm, σ3, H3, I3, w3⟩
    | brk => exact q3
    | ret v => exact q3
  | false =>
    rw [if_neg Bool.false_ne_true]
    exact wpAny_execs_nil ⟨σ1, H2, I2, q2⟩
end
structure It where
  go : Nat → Hp → Prop
  yld : Nat → Hp → V → Hp → Prop
  stop : Nat → Hp → Prop
def FpOk (X : Cx) (pins : List (Addr × Obj)) (H : Hp) (b : Addr) : Prop :=
  H b = none ∧ b ≠ X.env.locals ∧ b ∉ X.fs ∧ (b ∈ X.ex ∨ X.s₀.heap.objs.size ≤ b) ∧ (∀ x c, X.env.cells.lookup x = some c → c ≠ b) ∧ ∀ p ∈ X.pn ++ pins, p.1 ≠ b
theorem Inv.fpOk {X : Cx} {pins : List (Addr × Obj)} {σ : St} {H H' : Hp} {s : Shared} {b : Addr} (I : Inv X pins σ H s) (hb : s.heap.objs.size ≤ b) (hn : H' b = none) : FpOk X pins H' b := by
  refine ⟨hn, Nat.ne_of_gt (Nat.lt_of_lt_of_le I.lt hb), I.nofs hb, .inr (Nat.le_trans I.sz hb), fun x c e z => ?_, fun p hp z => ?_⟩
  · obtain ⟨v, q⟩ := I.cell x c e
    exact absurd (Nat.lt_of_lt_of_le q.lt (by rw [z]; exact hb)) (Nat.lt_irrefl _)
  · exact absurd (Nat.lt_of_lt_of_le (Heap.lt_size (I.pin p hp).1) (by rw [z]; exact hb)) (Nat.lt_irrefl _)
structure Turn (P : Program) (w : World) (K : PySem.W.Frag) (tg : Expr) (J : It) (fp : List Addr) (it : Addr) (tn : Nat → Heap → Prop) : Prop where
  mem : it ∈ fp
  obj : ∀ i h, tn i h → ∀ b ∈ fp, ∃ o, h.get? b = some o ∧ ∀ v, o.data ≠ .cell v
  keep : ∀ i h h', tn i h → (∀ b ∈ fp, ∀ o, h.get? b = some o → h'.get? b = some o) → tn i h'
  item : ∀ (X : Cx), X.prog = P → X.w = w → X.K = K → X.calm = true → ∀ (i : Nat) (pins : List (Addr × Obj)) (s : Shared) (σ : St) (H : Hp) (E : Value → Shared → Prop), Inv X pins σ H s → (∀ b ∈ fp, FpOk X pins H b) → tn i s.heap → J.go i H →
    wpAny (model P w) X.A (pyNext (.ref it)) (fun r s1 => ∃ u, r = some u ∧
      wpAny (model P w) X.A (letOwnedTupleGo tg (.ref it) u) (fun _ s2 => ∃ x H', Inv X pins σ H' s2 ∧ RelV x u ∧ J.yld i H x H' ∧ tn (i + 1) s2.heap ∧ ∀ b ∈ fp, H' b = none) E s1) E s
  done : ∀ (X : Cx), X.prog = P → X.w = w → X.K = K → X.calm = true → ∀ (i : Nat) (pins : List (Addr × Obj)) (s : Shared) (σ : St) (H : Hp) (E : Value → Shared → Prop), Inv X pins σ H s → (∀ b ∈ fp, FpOk X pins H b) → tn i s.heap → J.stop i H →
    wpAny (model P w) X.A (pyNext (.ref it)) (fun r s1 => r = none ∧ Inv X pins σ H s1) E s
  self : ∀ (A : Around) (i : Nat) (s : Shared) (Q : Value → Shared → Prop) (E : Value → Shared → Prop), tn i s.heap → Q (.ref it) s → wpAny (model P w) A (pyIter (.ref it)) Q E s
abbrev TI := St → Hp → (It → Hp → Prop) → Prop
def PIE (X : Cx) (pins : List (Addr × Obj)) (σ : St) (tg : Expr) (R : It → Hp → Prop) (itv : Value) (s2 : Shared) : Prop :=
  ∃ (it : Addr) (fp : List Addr) (tn : Nat → Heap → Prop) (J : It) (H' : Hp), itv = .ref it ∧ Inv X pins σ H' s2 ∧ Turn X.prog X.w X.K tg J fp it tn ∧ tn 0 s2.heap ∧ (∀ b ∈ fp, FpOk X pins H' b) ∧ R J H'
def PI (X : Cx) (tg iter : Expr) (wi : TI) : Prop :=
  ∀ (pins : List (Addr × Obj)) (s : Shared) (σ : St) (H : Hp) (R : It → Hp → Prop), Inv X pins σ H s → wi σ H R →
    wpAny (model X.prog X.w) X.A (eval iter X.env) (fun v s1 => wpAny (model X.prog X.w) X.A (pyIter v) (PIE X pins σ tg R) X.xe s1) X.xe s
theorem go_of {M : Model} {A : Around} {E : Value → Shared → Prop} {s : Shared} {tg : Expr} {it : Addr} {u : Value} {o : Obj} {n : String} {vs : Array Value} {Q : Unit → Shared → Prop} (ho : s.heap.get? it = some o) (hc : o.cls = .type n) (hd : o.data = .fields vs)
    (hn : ["enumerate", "zip", "dict_itemiterator", "dict_reverseitemiterator", "odict_iterator", "itertools.zip_longest", "itertools.pairwise"].contains n = false) (hQ : Q () s) : wpAny M A (letOwnedTupleGo tg (.ref it) u) Q E s := by
  unfold letOwnedTupleGo
  cases tg <;> first
    | exact wpAny_pure hQ
    | (cases u <;> first
        | exact wpAny_pure hQ
        | (refine wpAny_bind (wpAny_load ho ?_)
           rw [hc, hd]
           show wpAny M A (if (["enumerate", "zip", "dict_itemiterator", "dict_reverseitemiterator", "odict_iterator", "itertools.zip_longest", "itertools.pairwise"].contains n && vs[0]? == some (rawInt _)) = true then _ else _) Q E s
           rw [if_neg (by intro h; rw [hn, Bool.false_and] at h; cases h)]
           exact wpAny_pure hQ))
def Itr (lo : Int) (n : Nat) : It := ⟨fun i _ => i < n, fun i H x H' => H' = H ∧ x = .int (lo + i), fun i _ => n ≤ i⟩
theorem turn_range {P : Program} {w : World} {K : PySem.W.Frag} {tg : Expr} (it : Addr) (lo : Int) (n : Nat) : Turn P w K tg (Itr lo n) [it] it (fun i h => IsRangeIter h it (lo + (i : Nat) * 1) ((n : Int) - (i : Nat)) 1) where
  mem := by simp
  obj := fun i h st b hb => by
    have e : b = it := by simpa using hb
    subst e
    exact ⟨_, st, fun v z => by
      have z' : Data.fields _ = Data.cell v := z
      cases z'⟩
  keep := fun i h h' st k => k it (by simp) _ st
  item := by
    intro X hP hw hK hc i pins s σ H E I hf st hg
    subst hP hw hK
    obtain ⟨f0, f1, f2, f3, f4, f5⟩ := hf it (by simp)
    have W := Walks.range (prog := X.prog) (w := X.w) (I.ok.hd hc) it lo 1 n
    refine W.item i s _ _ hg st fun v h' tk hv st' kk => ?_
    obtain ⟨t, rfl⟩ := hv
    have I1 : Inv X pins σ H { s with heap := h', toks := tk } := I.turned (fun b o hb e => kk b o (by simpa using hb) e) f0 f1 f3 f4 f5
    refine ⟨_, rfl, go_of (s := { s with heap := h', toks := tk }) (n := "range_iterator") st' rfl rfl (by decide) ⟨.int (lo + i), H, I1, ⟨t, ?_⟩, ⟨rfl, rfl⟩, st', fun b hb => (hf b hb).1⟩⟩
    rw [Int.mul_one]
  done := by
    intro X hP hw hK hc i pins s σ H E I hf st hg
    subst hP hw hK
    obtain ⟨f0, f1, f2, f3, f4, f5⟩ := hf it (by simp)
    exact wpAny_pyNext_range_end (I.ok.hd hc) st (by have : n ≤ i := hg; omega) fun h' eb => ⟨rfl, I.turned (t' := s.toks) (fun b o hb e => eb b o hb e) f0 f1 f3 f4 f5⟩
  self := fun _ _ _ _ _ st h => wpAny_pyIter_rangeiter st h
end L2
namespace L2
open PySem PySem.Spec PyProof.Rows
section
variable {X : Cx} {tg : Expr}
theorem range_it {pins : List (Addr × Obj)} {σ : St} {H : Hp} {s : Shared} {R : It → Hp → Prop} {E : Value → Shared → Prop} {lo hi : Int} {t u v : Tok} {tk : Nat} (I : Inv X pins σ H s) (h1 : -(2 ^ 62) ≤ lo) (h2 : lo < 2 ^ 62) (h3 : -(2 ^ 62) ≤ hi) (h4 : hi < 2 ^ 62)
    (q : R (Itr lo (hi - lo).toNat) H) : wpAny (model X.prog X.w) X.A (pyIter (.ref s.heap.objs.size)) (PIE X pins σ tg R) E { s with heap := s.heap.push { cls := .type "range", data := .fields #[.int lo t, .int hi u, .int 1 v] }, toks := tk } := by
  refine wpAny_pyIter_range (IsRange.new ..) (small_one h1 h2 h3 h4) ?_
  have I1 : Inv X pins σ H { s with heap := s.heap.push { cls := .type "range", data := .fields #[.int lo t, .int hi u, .int 1 v] }, toks := tk } := I.kept fun b o e => Heap.get?_push_of_some _ e
  refine ⟨(s.heap.push { cls := .type "range", data := .fields #[.int lo t, .int hi u, .int 1 v] }).objs.size, [(s.heap.push { cls := .type "range", data := .fields #[.int lo t, .int hi u, .int 1 v] }).objs.size], _, _, H, rfl,
    I1.kept (t' := tk) fun b o e => Heap.get?_push_of_some _ e, turn_range _ lo (hi - lo).toNat, ?_, fun b hb => ?_, q⟩
  · have e1 : lo + ((0 : Nat) : Int) * 1 = lo := by simp
    have e2 : (((hi - lo).toNat : Nat) : Int) - ((0 : Nat) : Int) = Builtin.Range.rangeSize lo hi 1 := by rw [rangeSize_one]; split <;> omega
    show IsRangeIter _ _ (lo + ((0 : Nat) : Int) * 1) ((((hi - lo).toNat : Nat) : Int) - ((0 : Nat) : Int)) 1
    rw [e1, e2]
    exact Heap.get?_push_size _ rfl
  · have e : b = (s.heap.push { cls := .type "range", data := .fields #[.int lo t, .int hi u, .int 1 v] }).objs.size := by simpa using hb
    subst e
    exact I1.fpOk (Nat.le_refl _) (I1.hok.fresh (Nat.le_refl _))
def iRng1 (ta : TA) : TI := fun σ H R => ta σ H fun vs H1 => ∃ j : Int, vs = [.int j] ∧ -(2 ^ 62) ≤ j ∧ j < 2 ^ 62 ∧ R (Itr 0 j.toNat) H1
theorem pi_range1 {a : Expr} {ta : TA} {p pos : Pos} (hg : Gl X "range") (hm : X.mg "range" = none) (ha : PA X [a] ta) (hs : starEach [a] X.env = [(false, eval a X.env)] := by rfl) : PI X tg (.Call (.Name "range" p) [a] [] pos) (iRng1 ta) := by
  intro pins s σ H R I h
  refine Call_ (ld_blt I hg hm boot_range (PyProof.Rows.callWith_type1 (thn (ha pos pins s σ H _ I h) fun us s1 ⟨vs, H1, I1, r1, q1⟩ => ?_) hs rfl))
  obtain ⟨j, e, q1, q2, q⟩ := q1
  subst e
  cases r1 with
  | cons r rr =>
    cases rr
    obtain ⟨t, rfl⟩ := r
    exact call_range_1 (range_it I1 (by omega) (by omega) q1 q2 (by simpa using q))
def tFor (wi : TI) (g : TG) (tb : TS) : TS := fun D σ H => wi σ H fun J H1 => ∃ W : Nat → Nat → St → Hp → Prop, (∃ m, W 0 m σ H1) ∧ ∀ i m σ H, W i m σ H →
  (J.stop i H ∧ D.nx σ H) ∨ (J.go i H ∧ ∃ N : St → Hp → Prop, (∀ σ' H', N σ' H' → ∃ m', m' < m ∧ W (i + 1) m' σ' H') ∧ ∀ x H', J.yld i H x H' → g x σ H' fun σ2 H2 => tb { D with nx := N, ct := N, bk := D.nx } σ2 H2)
def pinsAt (fp : List Addr) (h : Heap) : List (Addr × Obj) := fp.filterMap fun b => (h.get? b).map fun o => (b, o)
theorem mem_pinsAt {fp : List Addr} {h : Heap} {b : Addr} {o : Obj} (hb : b ∈ fp) (e : h.get? b = some o) : (b, o) ∈ pinsAt fp h := List.mem_filterMap.mpr ⟨b, hb, by rw [e]; rfl⟩
theorem of_pinsAt {fp : List Addr} {h : Heap} {p : Addr × Obj} (hp : p ∈ pinsAt fp h) : p.1 ∈ fp ∧ h.get? p.1 = some p.2 := by
  obtain ⟨b, hb, e⟩ := List.mem_filterMap.mp hp
  cases q : h.get? b with
  | none => rw [q] at e; cases e
  | some o =>
    rw [q] at e
    have e' : (b, o) = p := Option.some.inj e
    subst e'
    exact ⟨hb, q⟩
theorem Inv.pinned {pins : List (Addr × Obj)} {σ : St} {H : Hp} {s : Shared} {fp : List Addr} (I : Inv X pins σ H s) (hf : ∀ b ∈ fp, FpOk X pins H b) (ho : ∀ b ∈ fp, ∃ o, s.heap.get? b = some o ∧ ∀ v, o.data ≠ .cell v) : Inv X (pins ++ pinsAt fp s.heap) σ H s :=
  I.pins_of fun p hp => (List.mem_append.mp hp).elim (fun z => I.pin p (List.mem_append_right _ z)) fun z => by
    obtain ⟨hb, e⟩ := of_pinsAt z
    obtain ⟨f0, f1, f2, _⟩ := hf p.1 hb
    obtain ⟨o, e', d⟩ := ho p.1 hb
    rw [e] at e'; cases e'
    exact ⟨e, f0, f1, f2, d⟩
theorem Inv.unpinned {pins pl : List (Addr × Obj)} {σ : St} {H : Hp} {s : Shared} (I : Inv X (pins ++ pl) σ H s) : Inv X pins σ H s := I.pins_of fun p hp => I.pin p (List.mem_append_right _ (List.mem_append_left _ hp))
theorem ps_for {iter : Expr} {body : List Stmt} {wi : TI} {g : TG} {tb : TS} {pos : Pos} (hp : PassesOwn (model X.prog X.w) X.A X.env X.xe) (hc : X.calm = true) (hi : PI X tg iter wi) (hg : PG X tg g) (hb : PSs X body tb)
    (hs : ∀ x, foldedSetIterable iter X.env x = pure x := by intro _; rfl) : PS X (.For tg iter body [] pos) (tFor wi g tb) := by
  intro pins s σ H D I h
  refine wpAny_For (thn (hi pins s σ H _ I h) fun v s1 h1 => thn h1 fun itv s2 h2 => ?_) hs
  obtain ⟨it, fp, tn, J, H2, e, I2, T, st2, f2, W, ⟨m0, w0⟩, turn⟩ := h2
  subst e
  have stat : ∀ {H' : Hp}, (∀ b ∈ fp, H' b = none) → ∀ b ∈ fp, FpOk X pins H' b := fun hn b hb => ⟨hn b hb, (f2 b hb).2⟩
  refine codeAny_forLoop_any (fun n s' => ∃ i σ' H', Inv X pins σ' H' s' ∧ tn i s'.heap ∧ (∀ b ∈ fp, H' b = none) ∧ W i n σ' H') ?_ m0 ⟨0, σ, H2, I2, st2, fun b hb => (f2 b hb).1, w0⟩
  rintro n s3 ⟨i, σ3, H3, I3, st3, fr3, w3⟩
  rcases turn i n σ3 H3 w3 with ⟨stop, qn⟩ | ⟨go, N, hN, step⟩
  · refine wpAny_passesOwn hp (thn (T.done X rfl rfl rfl hc i pins s3 σ3 H3 X.xe I3 (stat fr3) st3 stop) fun r s4 ⟨hr, I4⟩ => ?_)
    subst hr
    exact wpAny_execs_nil ⟨σ3, H3, I4, qn⟩
  · refine wpAny_passesOwn hp (thn (T.item X rfl rfl rfl hc i pins s3 σ3 H3 X.xe I3 (stat fr3) st3 go) fun r s4 ⟨u, hr, h4⟩ => ?_)
    subst hr
    refine wpAny_passesOwn hp (thn h4 fun _ s5 ⟨x, H5, I5, r5, y5, st5, fr5⟩ => ?_)
    have I5' := I5.pinned (stat fr5) (T.obj _ _ st5)
    refine wpAny_passesOwn hp (thn (hg _ s5 σ3 H5 x u _ I5' r5 (step x H5 y5)) fun _ s6 ⟨σ6, H6, I6, q6⟩ => ?_)
    refine wpAny_passesOwn hp (thn (hb _ s6 σ6 H6 _ I6 q6) fun f s7 q7 => ?_)
    have again : ∀ {σ7 : St} {H7 : Hp}, Inv X (pins ++ pinsAt fp s5.heap) σ7 H7 s7 → N σ7 H7 → ∃ m, m < n ∧ ∃ i σ' H', Inv X pins σ' H' s7 ∧ tn i s7.heap ∧ (∀ b ∈ fp, H' b = none) ∧ W i m σ' H' := fun {σ7 H7} I7 n7 => by
      obtain ⟨m', hm, w7⟩ := hN σ7 H7 n7
      refine ⟨m', hm, i + 1, σ7, H7, I7.unpinned, T.keep _ _ _ st5 fun b hb o e => (I7.pin (b, o) (List.mem_append_right _ (List.mem_append_right _ (mem_pinsAt hb e)))).1, fun b hb => ?_, w7⟩
      obtain ⟨o, e, d⟩ := T.obj _ _ st5 b hb
      exact (I7.pin (b, o) (List.mem_append_right _ (List.mem_append_right _ (mem_pinsAt hb e)))).2.1
    cases f with
    | next => obtain ⟨σ7, H7, I7, n7⟩ := q7; exact again I7 n7
    | cont => obtain ⟨σ7, H7, I7, n7⟩ := q7; exact again I7 n7
    | brk => obtain ⟨σ7, H7, I7, q7⟩ := q7; exact ⟨σ7, H7, I7.unpinned, q7⟩
    | ret v => obtain ⟨x7, σ7, H7, I7, r7, q7⟩ := q7; exact ⟨x7, σ7, H7, I7.unpinned, r7, q7⟩
end
theorem for_range {lo : Int} {n : Nat} {g : TG} {tb : TS} {D : Ends} {σ : St} {H : Hp} (Pv : Nat → St → Hp → Prop) (h0 : Pv 0 σ H)
    (hs : ∀ i σ H, i < n → Pv i σ H → g (.int (lo + i)) σ H fun σ2 H2 => tb { D with nx := Pv (i + 1), ct := Pv (i + 1), bk := D.nx } σ2 H2) (hd : ∀ σ H, Pv n σ H → D.nx σ H) :
    ∃ W : Nat → Nat → St → Hp → Prop, (∃ m, W 0 m σ H) ∧ ∀ i m σ H, W i m σ H →
      ((Itr lo n).stop i H ∧ D.nx σ H) ∨ ((Itr lo n).go i H ∧ ∃ N : St → Hp → Prop, (∀ σ' H', N σ' H' → ∃ m', m' < m ∧ W (i + 1) m' σ' H') ∧ ∀ x H', (Itr lo n).yld i H x H' → g x σ H' fun σ2 H2 => tb { D with nx := N, ct := N, bk := D.nx } σ2 H2) := by
  refine ⟨fun i m σ H => m = n - i ∧ i ≤ n ∧ Pv i σ H, ⟨n, by simp, Nat.zero_le _, h0⟩, ?_⟩
  rintro i m σ H ⟨rfl, hi, p⟩
  by_cases hlt : i < n
  · refine .inr ⟨hlt, Pv (i + 1), fun σ' H' p' => ⟨n - (i + 1), by omega, rfl, hlt, p'⟩, fun x H' y => ?_⟩
    obtain ⟨e, y⟩ := y
    subst e y
    exact hs i σ _ hlt p
  · have e : i = n := by omega
    subst e
    exact .inl ⟨Nat.le_refl _, hd σ H p⟩
end L2
namespace L2
open PySem PySem.Spec PyProof.Rows
abbrev R2 := V → V → Hp → VK → Prop
def OpR (X : Cx) (f : Value → Value → Sem Value) (r : R2) : Prop :=
  ∀ (pins : List (Addr × Obj)) (s : Shared) (σ : St) (H : Hp) (x y : V) (v u : Value) (Q : VK), Inv X pins σ H s → RelV x v → RelV y u → r x y H Q →
    wpAny (model X.prog X.w) X.A (f v u) (EP X pins σ Q) X.xe s
def UnR (X : Cx) (f : Value → Sem Value) (r : V → Hp → VK → Prop) : Prop :=
  ∀ (pins : List (Addr × Obj)) (s : Shared) (σ : St) (H : Hp) (x : V) (v : Value) (Q : VK), Inv X pins σ H s → RelV x v → r x H Q →
    wpAny (model X.prog X.w) X.A (f v) (EP X pins σ Q) X.xe s
def CallR (X : Cx) (f : Value) (r : List V → Hp → VK → Prop) : Prop :=
  ∀ (pins : List (Addr × Obj)) (s : Shared) (σ : St) (H : Hp) (xs : List V) (us : List Value) (Q : VK), Inv X pins σ H s → Vals xs us → r xs H Q →
    wpAny (model X.prog X.w) X.A (call f us) (EP X pins σ Q) X.xe s
def tOp (r : R2) (ta tb : TE) : TE := fun σ H Q => ta σ H fun x H1 => tb σ H1 fun y H2 => r x y H2 Q
def tUn (r : V → Hp → VK → Prop) (ta : TE) : TE := fun σ H Q => ta σ H fun x H1 => r x H1 Q
def rI (C : Int → Int → Prop) (g : Int → Int → V) : R2 := fun x y H Q => ∃ i j, x = .int i ∧ y = .int j ∧ C i j ∧ Q (g i j) H
def rI0 (g : Int → Int → V) : R2 := fun x y H Q => ∃ i j, x = .int i ∧ y = .int j ∧ Q (g i j) H
def rU (g : Int → V) : V → Hp → VK → Prop := fun x H Q => ∃ i, x = .int i ∧ Q (g i) H
section
variable {X : Cx} {a b c : Expr} {ta tb tc : TE} {pos : Pos}
theorem binT (ha : PE X a ta) (hb : PE X b tb) {pins : List (Addr × Obj)} {s : Shared} {σ : St} {H : Hp} {R : V → V → Hp → Prop} (I : Inv X pins σ H s)
    (h : ta σ H fun x H1 => tb σ H1 fun y H2 => R x y H2) {Q : Value → Shared → Prop} {f : Value → Value → Sem Value}
    (hf : ∀ v u s2 x y H2, Inv X pins σ H2 s2 → RelV x v → RelV y u → R x y H2 → wpAny (model X.prog X.w) X.A (f v u) Q X.xe s2) :
    wpAny (model X.prog X.w) X.A (eval a X.env) (fun v s₁ => wpAny (model X.prog X.w) X.A (eval b X.env) (fun u s₂ => wpAny (model X.prog X.w) X.A (f v u) Q X.xe s₂) X.xe s₁) X.xe s := by
  refine thn (ha pins s σ H _ I h) fun v s1 ⟨x, H1, I1, r1, q1⟩ => ?_
  refine thn (hb pins s1 σ H1 _ I1 q1) fun u s2 ⟨y, H2, I2, r2, q2⟩ => ?_
  exact hf v u s2 x y H2 I2 r1 r2 q2
theorem pe_op {op : Operator} {r : R2} (ho : OpR X (binaryOp op) r) (ha : PE X a ta) (hb : PE X b tb) : PE X (.BinOp a op b pos) (tOp r ta tb) := by
  intro pins s σ H Q I h
  exact wpAny_BinOp (binT ha hb I h fun v u s2 x y H2 I2 rx ry q => ho pins s2 σ H2 x y v u Q I2 rx ry q)
theorem pe_un {op : UnaryOp} {r : V → Hp → VK → Prop} (ho : UnR X (unaryOp op) r) (ha : PE X a ta) : PE X (.UnaryOp op a pos) (tUn r ta) := by
  intro pins s σ H Q I h
  exact UnaryOp_ (thn (ha pins s σ H _ I h) fun v s1 ⟨x, H1, I1, r1, q1⟩ => ho pins s1 σ H1 x v Q I1 r1 q1)
theorem opI {f : Value → Value → Sem Value} {C : Int → Int → Prop} {g : Int → Int → Int}
    (rule : ∀ (i j : Int) (t u : Tok) (s : Shared) (Q : Value → Shared → Prop) (E : Value → Shared → Prop), C i j → Q (.int (g i j) s.toks) { s with toks := s.toks + 1 } → wpAny (model X.prog X.w) X.A (f (.int i t) (.int j u)) Q E s) :
    OpR X f (rI C fun i j => .int (g i j)) := by
  intro pins s σ H x y v u Q I rx ry h
  obtain ⟨i, j, rfl, rfl, hc, q⟩ := h
  obtain ⟨t, rfl⟩ := rx
  obtain ⟨t', rfl⟩ := ry
  exact rule i j t t' s _ _ hc ⟨.int (g i j), H, I.tok _, ⟨_, rfl⟩, q⟩
theorem opI0 {f : Value → Value → Sem Value} {g : Int → Int → Int}
    (rule : ∀ (i j : Int) (t u : Tok) (s : Shared) (Q : Value → Shared → Prop) (E : Value → Shared → Prop), Q (.int (g i j) s.toks) { s with toks := s.toks + 1 } → wpAny (model X.prog X.w) X.A (f (.int i t) (.int j u)) Q E s) :
    OpR X f (rI0 fun i j => .int (g i j)) := by
  intro pins s σ H x y v u Q I rx ry h
  obtain ⟨i, j, rfl, rfl, q⟩ := h
  obtain ⟨t, rfl⟩ := rx
  obtain ⟨t', rfl⟩ := ry
  exact rule i j t t' s _ _ ⟨.int (g i j), H, I.tok _, ⟨_, rfl⟩, q⟩
theorem opB0 {f : Value → Value → Sem Value} {g : Int → Int → Bool}
    (rule : ∀ (i j : Int) (t u : Tok) (s : Shared) (Q : Value → Shared → Prop) (E : Value → Shared → Prop), Q (.bool (g i j)) s → wpAny (model X.prog X.w) X.A (f (.int i t) (.int j u)) Q E s) :
    OpR X f (rI0 fun i j => .bl (g i j)) := by
  intro pins s σ H x y v u Q I rx ry h
  obtain ⟨i, j, rfl, rfl, q⟩ := h
  obtain ⟨t, rfl⟩ := rx
  obtain ⟨t', rfl⟩ := ry
  exact rule i j t t' s _ _ ⟨.bl (g i j), H, I, rfl, q⟩
def CPow (i j : Int) : Prop := 0 ≤ j ∧ j ≤ 1000000 ∧ i.natAbs < 2 ^ 64
def CMul (i j : Int) : Prop := (-(2 ^ 64) < i ∧ i < 2 ^ 64) ∨ (-(2 ^ 64) < j ∧ j < 2 ^ 64)
theorem CMul.ok {i j : Int} (h : CMul i j) : IntMulOk i j := by
  rcases h with ⟨h1, h2⟩ | ⟨h1, h2⟩
  · exact .of_left (intBits_le_64 h1 h2)
  · exact .of_right (intBits_le_64 h1 h2)
theorem op_add : OpR X (binaryOp .Add) (rI0 fun i j => .int (i + j)) := opI0 fun _ _ _ _ _ _ _ q => add_int q
theorem op_sub : OpR X (binaryOp .Sub) (rI0 fun i j => .int (i - j)) := opI0 fun _ _ _ _ _ _ _ q => sub_int q
theorem op_modN : OpR X (binaryOp .Mod) (rI (fun _ j => j ≠ 0) fun i j => .int (i.fmod j)) := opI fun _ _ _ _ _ _ _ hc q => mod_int' hc q
theorem op_pow : OpR X (binaryOp .Pow) (rI CPow fun i j => .int (i ^ j.toNat)) := opI fun _ _ _ _ _ _ _ hc q => pow_int_small hc.1 hc.2.1 hc.2.2 q
theorem unI {f : Value → Sem Value} {g : Int → Int}
    (rule : ∀ (i : Int) (t : Tok) (s : Shared) (Q : Value → Shared → Prop) (E : Value → Shared → Prop), Q (.int (g i) s.toks) { s with toks := s.toks + 1 } → wpAny (model X.prog X.w) X.A (f (.int i t)) Q E s) :
    UnR X f (rU fun i => .int (g i)) := by
  intro pins s σ H x v Q I rx h
  obtain ⟨i, rfl, q⟩ := h
  obtain ⟨t, rfl⟩ := rx
  exact rule i t s _ _ ⟨.int (g i), H, I.tok _, ⟨_, rfl⟩, q⟩
theorem un_neg : UnR X (unaryOp .USub) (rU fun i => .int (-i)) := unI fun _ _ _ _ _ q => neg_int q
end
section
variable {X : Cx} {a b c : Expr} {ta tb tc : TE} {pos : Pos}
theorem op_lt : OpR X (compareOp .Lt) (rI0 fun i j => .bl (decide (i < j))) := opB0 fun _ _ _ _ _ _ _ q => lt_int q
theorem op_gt : OpR X (compareOp .Gt) (rI0 fun i j => .bl (decide (j < i))) := opB0 fun _ _ _ _ _ _ _ q => gt_int q
theorem op_ge : OpR X (compareOp .GtE) (rI0 fun i j => .bl (decide (j ≤ i))) := opB0 fun _ _ _ _ _ _ _ q => ge_int q
theorem OpR.or {f : Value → Value → Sem Value} {r r' : R2} (h : OpR X f r) (h' : OpR X f r') : OpR X f (fun x y H Q => r x y H Q ∨ r' x y H Q) := by
  intro pins s σ H x y v u Q I rx ry q
  rcases q with q | q
  · exact h pins s σ H x y v u Q I rx ry q
  · exact h' pins s σ H x y v u Q I rx ry q
theorem pe_cmpR {op : CmpOp} {r : R2} (ho : OpR X (compareOp op) r) (ha : PE X a ta) (hb : PE X b tb) (hm : behindInMarks op b = false) : PE X (.Compare a [op] [b] pos) (tOp r ta tb) := by
  intro pins s σ H Q I h
  exact wpAny_Compare1 (binT ha hb I h fun v u s2 x y H2 I2 rx ry q => ho pins s2 σ H2 x y v u Q I2 rx ry q) hm
def tTest (t : TE) : TT := fun σ H Q => t σ H fun x H' => ∃ k, x = .bl k ∧ Q k H'
theorem pt_cmpR {op : CmpOp} {r : R2} (ho : OpR X (compareOp op) r) (ha : PE X a ta) (hb : PE X b tb) (hm : behindInMarks op b = false) : PT X (.Compare a [op] [b] pos) (tTest (tOp r ta tb)) := by
  intro pins s σ H Q I h
  refine wpAny_isTrue_Compare1 (thn (ha pins s σ H _ I h) fun v s1 ⟨x, H1, I1, r1, q1⟩ => thn (hb pins s1 σ H1 _ I1 q1) fun u s2 ⟨y, H2, I2, r2, q2⟩ =>
    thn (ho pins s2 σ H2 x y v u _ I2 r1 r2 q2) fun c s3 ⟨z, H3, I3, r3, k, e, q3⟩ => ?_) hm
  subst e
  cases r3
  exact wpAny_truthy_bool ⟨H3, I3, q3⟩
theorem line63 : (sizeLine : Nat) < 2 ^ 63 := by rw [sizeLine_eq]; decide
theorem op_add_str : OpR X (binaryOp .Add) (fun x y H Q => ∃ i j, x = .str i ∧ y = .str j ∧ i.length + j.length ≤ sizeLine ∧ Q (.str (i ++ j)) H) := by
  intro pins s σ H x y v u Q I rx ry h
  obtain ⟨i, j, rfl, rfl, hz, q⟩ := h
  obtain ⟨t, rfl⟩ := rx
  obtain ⟨t', rfl⟩ := ry
  exact add_str (fun t' tk => ⟨.str (i ++ j), H, I.tok _, ⟨_, rfl⟩, q⟩) hz
theorem vals1 {x : V} {us : List Value} (r : Vals [x] us) : ∃ u, us = [u] ∧ RelV x u := by
  cases r with
  | cons r1 r2 => cases r2; exact ⟨_, rfl, r1⟩
theorem vals2 {x y : V} {us : List Value} (r : Vals [x, y] us) : ∃ u w', us = [u, w'] ∧ RelV x u ∧ RelV y w' := by
  cases r with
  | cons r1 r2 =>
    cases r2 with
    | cons r3 r4 => cases r4; exact ⟨_, _, rfl, r1, r3⟩
theorem call_abs : CallR X (.builtin "abs") (fun xs H Q => ∃ i, xs = [.int i] ∧ Q (.int (if i < 0 then -i else i)) H) := by
  intro pins s σ H xs us Q I r h
  obtain ⟨i, rfl, q⟩ := h
  obtain ⟨u, rfl, t, rfl⟩ := vals1 r
  exact call_abs_int fun u tk => ⟨.int (if i < 0 then -i else i), H, I.tok _, ⟨_, rfl⟩, q⟩
theorem call_max2 (hc : X.calm = true) : CallR X (.builtin "max") (fun xs H Q => ∃ i j, xs = [.int i, .int j] ∧ Q (.int (if j > i then j else i)) H) := by
  intro pins s σ H xs us Q I r h
  obtain ⟨i, j, rfl, q⟩ := h
  obtain ⟨u, w', rfl, ⟨t, rfl⟩, ⟨t', rfl⟩⟩ := vals2 r
  refine max_two_ints (I.ok.hd hc) fun h' tk k => ⟨_, H, I.kept k, ?_, q⟩
  by_cases hj : j > i
  · rw [if_pos hj, if_pos hj]; exact ⟨_, rfl⟩
  · rw [if_neg hj, if_neg hj]; exact ⟨_, rfl⟩
def LenV (K : PySem.W.Frag) (x : V) (H : Hp) (n : Nat) : Prop :=
  match x with
  | .str y => y.length ≤ sizeLine ∧ n = y.length
  | .byt y => y.size ≤ sizeLine ∧ n = y.size
  | .ref p => (∃ xs, SqL K H p xs ∧ n = xs.length) ∨ ∃ xs, SqT K H p xs ∧ n = xs.length
  | _ => False
theorem call_len : CallR X (.builtin "len") (fun xs H Q => ∃ x n, xs = [x] ∧ LenV X.K x H n ∧ Q (.int n) H) := by
  intro pins s σ H xs us Q I r h
  obtain ⟨x, n, rfl, e, q⟩ := h
  obtain ⟨u, rfl, rx⟩ := vals1 r
  have hl := line63
  have hs : sizeLine = 16777216 := sizeLine_eq
  cases x with
  | str y =>
    obtain ⟨t, rfl⟩ := rx
    obtain ⟨hy, e'⟩ : y.length ≤ sizeLine ∧ n = y.length := e
    subst e'
    exact len_str (by omega) ⟨.int _, H, I.tok _, ⟨_, rfl⟩, q⟩
  | byt y =>
    obtain ⟨t, rfl⟩ := rx
    obtain ⟨hy, e'⟩ : y.size ≤ sizeLine ∧ n = y.size := e
    subst e'
    exact PySem.W.len_bytes (by omega) ⟨.int _, H, I.tok _, ⟨_, rfl⟩, q⟩
  | ref p =>
    cases rx
    have e' : (∃ xs, SqL X.K H p xs ∧ n = xs.length) ∨ ∃ xs, SqT X.K H p xs ∧ n = xs.length := e
    rcases e' with ⟨xs, hx, e'⟩ | ⟨xs, hx, e'⟩
    · subst e'
      obtain ⟨its, r', pl, hz⟩ := I.list hx
      have hlen := r'.length
      exact Calls.call_len_list pl.isList (by simp only [List.size_toArray]; omega) ⟨.int xs.length, H, I.tok _, ⟨_, by simp only [List.size_toArray]; rw [hlen]⟩, q⟩
    · subst e'
      obtain ⟨its, r', pl, hz⟩ := I.tuple hx
      have hlen := r'.length
      exact len_tuple pl (by simp only [List.size_toArray]; omega) ⟨.int xs.length, H, I.tok _, ⟨_, by simp only [List.size_toArray]; rw [hlen]⟩, q⟩
  | _ => exact (show False from e).elim
end
end L2
namespace L2
open PySem PySem.Spec PyProof.Rows
structure ObjM (h : Heap) (x dx C : Addr) (mA : Str → Option Value) : Prop where
  obj : h.get? x = some (PySem.W.instObj C dx)
  ns : h.Ns1 dx mA
  ne : dx ≠ x
theorem lookIn_ns {h : Heap} {dx : Addr} {mA : Str → Option Value} (n : h.Ns1 dx mA) : ∃ od, h.get? dx = some od ∧ ∀ name, PySem.W.lookIn name od = some (mA name) := by
  obtain ⟨o, es, ep, ho, hd, hk, _, hm⟩ := n
  refine ⟨o, ho, fun name => ?_⟩
  have e := hm name
  unfold nsFind findBy at e
  rw [← Array.find?_toList] at e
  unfold PySem.W.lookIn
  rw [hd]
  dsimp only
  split
  · rename_i y q
    rw [q] at e
    exact congrArg some e
  · rename_i q
    rw [q] at e
    have a : es.toList.any (·.refKey) = false := by
      rw [List.any_eq_false]
      intro y hy
      obtain ⟨z, t, hkey⟩ := hk y (Array.mem_toList_iff.mp hy)
      simp [DictEntry.refKey, hkey]
    have a' : ¬ es.toList.any (·.refKey) = true := by rw [a]; exact Bool.false_ne_true
    rw [if_neg a']
    exact congrArg some e
theorem ObjM.look {h : Heap} {x dx C : Addr} {mA : Str → Option Value} (I : ObjM h x dx C mA) : ∃ od, PySem.W.InstAt h x (PySem.W.instObj C dx) C (some od) ∧ ∀ name, PySem.W.lookIn name od = some (mA name) :=
  let ⟨od, ho, hl⟩ := lookIn_ns I.ns
  ⟨od, ⟨I.obj, rfl, rfl, ho⟩, hl⟩
section
variable {prog : Program} {w : World} {A : Around} {E : Value → Shared → Prop} {s : Shared} {K : PySem.W.Frag} {x dx C f : Addr} {mA : Str → Option Value} {name : Str} {v : Value}
end
section
variable {P : Program} {w : World} {H H' : Hp} {h h' : Heap} {a C dx : Addr} {fs fs' : List (Str × V)}
theorem ins_get (hok : HOk P w H h) (e : H a = some (.ins C dx fs)) : ∃ mA, ObjM h a dx C mA ∧ (∀ f, RelO (fs.lookup f) (mA f)) ∧ PySem.Within mA (fs.map (·.1)) ∧ fs.length ≤ 1000 ∧ H dx = some (.own a) := by
  obtain ⟨d, z, ne, ob, mA, n, r, q⟩ := (show ObjOk P w H h a (.ins C dx fs) from hok a _ e)
  exact ⟨mA, ⟨ob, n, ne⟩, r, q, z, d⟩
end
structure Cls (K : PySem.W.Frag) (C : Addr) : Prop where
  pg : PySem.W.plainGet K C Str.empty = true
  hd : PySem.W.hasDictIn K C = true
  po : PySem.W.plainOver K C = true
  sa : PySem.W.findIn K (.ref C) "__setattr__" = some (some (.builtin "object.__setattr__"))
theorem Cls.get {K : PySem.W.Frag} {C : Addr} (c : Cls K C) (f : Str) : PySem.W.plainGet K C f = true := c.pg
structure Con (K : PySem.W.Frag) (C : Addr) (f : Str) (v : V) (u : Value) : Prop where
  at_ : PySem.W.findIn K (.ref C) f = some (some u)
  rel : RelV v u
  get : PySem.W.specialIn K u "__get__" = some none
  cp : PySem.W.copiedNames.contains f = false
structure Meth (K : PySem.W.Frag) (C : Addr) (m : Str) (f : Addr) : Prop where
  at_ : PySem.W.findIn K (.ref C) m = some (some (.ref f))
  fn : PySem.W.isFn K (.ref f) = true
  kp : PySem.W.keepIn K (.ref f) = true
section
variable {X : Cx} {pins : List (Addr × Obj)} {σ : St} {H : Hp} {s : Shared} {a C dx : Addr} {fs : List (Str × V)} {f : Str} {v : V} {A : Around} {E : Value → Shared → Prop}
theorem Inv.made (I : Inv X pins σ H s) : Inv X pins σ (upd (upd H s.heap.objs.size (.own (s.heap.objs.size + 1))) (s.heap.objs.size + 1) (.ins C s.heap.objs.size []))
    { s with heap := (s.heap.push PySem.W.emptyDict).push (PySem.W.instObj C s.heap.objs.size) } := by
  have e1 : (s.heap.push PySem.W.emptyDict).get? s.heap.objs.size = some PySem.W.emptyDict := Heap.get?_push_size s.heap rfl
  have e2 : ((s.heap.push PySem.W.emptyDict).push (PySem.W.instObj C s.heap.objs.size)).get? (s.heap.objs.size + 1) = some (PySem.W.instObj C s.heap.objs.size) := by
    have := Heap.get?_push_size (s.heap.push PySem.W.emptyDict) (o := PySem.W.instObj C s.heap.objs.size) rfl
    rwa [Heap.size_push] at this
  have e3 : (s.heap.push PySem.W.emptyDict).Ns s.heap.objs.size (fun _ => none) := ⟨PySem.W.emptyDict, #[], _, e1, rfl, (fun e he => absurd he (by simp)), fun _ => rfl⟩
  have I1 := I.laid (a := s.heap.objs.size) (o := .own (s.heap.objs.size + 1)) (h' := s.heap.push PySem.W.emptyDict) (t' := s.toks) (fun b u q => Heap.get?_push_of_some _ q) (Nat.le_refl _) ⟨_, e1⟩
  refine I1.laid (a := s.heap.objs.size + 1) (o := .ins C s.heap.objs.size []) (t' := s.toks) (fun b u q => Heap.get?_push_of_some _ q) (Nat.le_of_eq (Heap.size_push _ _)) ?_
  have ne : s.heap.objs.size ≠ s.heap.objs.size + 1 := Nat.ne_of_lt (Nat.lt_succ_self _)
  refine ⟨by rw [upd_ne ne, upd_same], Nat.zero_le _, ne, e2, fun _ => none, (Heap.Ns1.of_empty e3).at fun o q => Heap.get?_push_of_some _ q, fun _ => True.intro, fun y hy => absurd rfl hy⟩
end
section
variable {X : Cx} {o e value : Expr} {f : Str} {pos pos' tpos : Pos} {ta tv : TE}
end
section
variable {X : Cx} {pins : List (Addr × Obj)} {σ : St} {H : Hp} {s : Shared} {A : Around} {E : Value → Shared → Prop} {Q : Value → Shared → Prop} {c : Value} {b : Bool}
inductive TyOf (K : PySem.W.Frag) (H : Hp) : V → Value → Prop where
  | non : TyOf K H .non (.type "NoneType")
  | bl (x : Bool) : TyOf K H (.bl x) (.type "bool")
  | int (i : Int) : TyOf K H (.int i) (.type "int")
  | str (x : Str) : TyOf K H (.str x) (.type "str")
  | flt (x : UInt64) : TyOf K H (.flt x) (.type "float")
  | lst {a : Addr} {xs : List V} (e : H a = some (.lst xs)) : TyOf K H (.ref a) (.type "list")
  | frz {a : Addr} {o : Obj} {xs : List V} (e : H a = some (.frz o (.lst xs))) : TyOf K H (.ref a) (.type "list")
  | tup {a : Addr} {xs : List V} (e : H a = some (.tup xs)) : TyOf K H (.ref a) (.type "tuple")
  | dK {a : Addr} {kvs : List (Key × V)} (e : H a = some (.dK kvs)) : TyOf K H (.ref a) (.type "dict")
  | dT {a : Addr} {kvs : List (List Key × V)} (e : H a = some (.dT kvs)) : TyOf K H (.ref a) (.type "dict")
  | ins {a C dx : Addr} {fs : List (Str × V)} (e : H a = some (.ins C dx fs)) (cl : Cls K C) (ha : PySem.W.findIn K (.ref C) "__class__" = some (some (.builtin "object.__class__")))
      (hn : PySem.W.specialIn K (.builtin "object.__class__") "__get__" = some (some (.builtin "getset_descriptor.__get__"))) (htk : PySem.W.takesIn K (.builtin "object.__class__") = some true)
      (hm : PySem.W.mroIn K C (.type "object") = some true) : TyOf K H (.ref a) (.ref C)
theorem isinst_ok {x : V} {u t : Value} (I : Inv X pins σ H s) (rx : RelV x u) (ty : TyOf X.K H x t) (e : PySem.W.kitOne X.K t c = some b) (h : ∀ tk, Q (.bool b) { s with toks := tk }) :
    wpAny (model X.prog X.w) A (call (.builtin "isinstance") [u, c]) Q E s := by
  cases ty with
  | non => cases (show u = Value.none from rx); exact PySem.W.kia_one PySem.W.kitx_none I.kIn True.intro e (fun z => nomatch z) h
  | bl y => cases (show u = Value.bool y from rx); exact PySem.W.kia_one PySem.W.kitx_bool I.kIn True.intro e (fun z => nomatch z) h
  | int i => obtain ⟨t, q⟩ := (show ∃ t, u = Value.int i t from rx); cases q; exact PySem.W.kia_one PySem.W.kitx_int I.kIn True.intro e (fun z => nomatch z) h
  | str y => obtain ⟨t, q⟩ := (show ∃ t, u = Value.str y t from rx); cases q; exact PySem.W.kia_one PySem.W.kitx_str I.kIn True.intro e (fun z => nomatch z) h
  | flt y => obtain ⟨t, q⟩ := (show ∃ t, u = Value.float y t from rx); cases q; exact PySem.W.kia_one PySem.W.kitx_float I.kIn True.intro e (fun z => nomatch z) h
  | @lst a xs ea =>
    cases (show u = Value.ref a from rx)
    obtain ⟨_, _, n, _, h1⟩ := (show ObjOk X.prog X.w H s.heap a (.lst xs) from I.hok a _ ea)
    exact PySem.W.kia_one PySem.W.kitx_list I.kIn ⟨_, h1, rfl⟩ e (fun z => nomatch z) h
  | @frz a ob xs ea =>
    cases (show u = Value.ref a from rx)
    obtain ⟨_, _, _, n, _, h1⟩ := (show ObjOk X.prog X.w H s.heap a (.frz ob (.lst xs)) from I.hok a _ ea)
    exact PySem.W.kia_one PySem.W.kitx_list I.kIn ⟨_, h1, rfl⟩ e (fun z => nomatch z) h
  | @tup a xs ea =>
    cases (show u = Value.ref a from rx)
    obtain ⟨_, _, _, p⟩ := (show ObjOk X.prog X.w H s.heap a (.tup xs) from I.hok a _ ea)
    obtain ⟨o, h1, h2, _⟩ := p
    exact PySem.W.kia_one PySem.W.kitx_tuple I.kIn ⟨o, h1, h2⟩ e (fun z => nomatch z) h
  | @dK a kvs ea =>
    cases (show u = Value.ref a from rx)
    obtain ⟨_, _, vs, _, p⟩ := (show ObjOk X.prog X.w H s.heap a (.dK kvs) from I.hok a _ ea)
    obtain ⟨o, es, ep, h1, h2, _⟩ := p
    exact PySem.W.kia_one PySem.W.kitx_dict I.kIn ⟨o, h1, h2.1⟩ e (fun z => nomatch z) h
  | @dT a kvs ea =>
    cases (show u = Value.ref a from rx)
    obtain ⟨_, _, xs, _, o, es, ep, h1, h2, _⟩ := (show ObjOk X.prog X.w H s.heap a (.dT kvs) from I.hok a _ ea)
    exact PySem.W.kia_one PySem.W.kitx_dict I.kIn ⟨o, h1, h2.1⟩ e (fun z => nomatch z) h
  | @ins a C dx fs ea cl ha hn htk hm =>
    cases (show u = Value.ref a from rx)
    obtain ⟨mA, O, _⟩ := ins_get I.hok ea
    obtain ⟨od, J, _⟩ := O.look
    exact PySem.W.kia_one (PySem.W.kitx_own (cl.get _) cl.hd ha hn htk hm) I.kIn J e (fun z => nomatch z) h
end
end L2
namespace L2
open PySem PySem.Spec PyProof.Rows
structure Room (k : Nat) (A : Around) : Prop where
  hd : A.handled = none
  dp : A.depth + 3 * k + 5 < recursionLimit
  un : A.units + 16 * k + 200 < cLine
theorem Room.mono {j k : Nat} {A : Around} (r : Room k A) (h : j ≤ k) : Room j A := ⟨r.hd, by have := r.dp; omega, by have := r.un; omega⟩
theorem Room.deeper {k : Nat} {A : Around} (r : Room (k + 1) A) (env : Env) : Room k (A.deeper env) :=
  ⟨r.hd, by have := r.dp; show A.depth + 1 + 3 * k + 5 < _; omega, by have := r.un; show A.units + 3 + 16 * k + 200 < _; omega⟩
theorem Room.in1 {k : Nat} {A : Around} (r : Room (k + 1) A) : Room k A.in1 :=
  ⟨r.hd, by have := r.dp; show A.depth + 3 * k + 5 < _; omega, by have := r.un; show A.units + 1 + 16 * k + 200 < _; omega⟩
theorem Room.depth {k : Nat} {A : Around} (r : Room k A) : A.depth < recursionLimit := by have := r.dp; omega
theorem Room.units {k : Nat} {A : Around} (r : Room k A) : A.units + 64 < cLine := by have := r.un; omega
def tNil : TA := fun _ H Q => Q [] H
def tCons (ta : TE) (tr : TA) : TA := fun σ H Q => ta σ H fun x H1 => tr σ H1 fun xs H2 => Q (x :: xs) H2
section
variable {X : Cx} {e : Expr} {es : List Expr} {te : TE} {t : TA} {pos : Pos}
theorem pa_nil : PA X [] tNil := fun _ _ _ _ H Q I h => Calls.spliced_nil ⟨[], H, I, .nil, h⟩
theorem pa_cons (ha : PE X e te) (hr : PA X es t) (hs : starEach (e :: es) X.env = (false, eval e X.env) :: starEach es X.env := by rfl) : PA X (e :: es) (tCons te t) := by
  intro pos pins s σ H Q I h
  rw [hs]
  show wpAny _ _ (spliced ((false, eval e X.env) :: backTo pos (starEach es X.env))) _ _ s
  refine Calls.spliced_cons (thn (ha pins s σ H _ I h) fun u s1 ⟨x, H1, I1, r1, q1⟩ => ?_)
  exact thn (hr pos pins s1 σ H1 _ I1 q1) fun us s2 ⟨xs, H2, I2, r2, q2⟩ => ⟨x :: xs, H2, I2, .cons r1 r2, q2⟩
def tTup (t : TA) : TE := fun σ H Q => t σ H fun xs H1 => xs.length ≤ sizeLine ∧ ∀ p, H1 p = none → Q (.ref p) (upd H1 p (.tup xs))
def tLst (t : TA) : TE := fun σ H Q => t σ H fun xs H1 => xs.length ≤ sizeLine ∧ ∀ p, H1 p = none → Q (.ref p) (upd H1 p (.lst xs))
theorem pe_tup {x1} (h : PA X es t) : PE X (.Tuple es x1 pos) (tTup t) := by
  intro pins s σ H Q I hq
  refine wpAny_Tuple_spliced (thn (h pos pins s σ H _ I hq) fun us s1 ⟨xs, H1, I1, r, z, q⟩ => ⟨by rw [← r.length]; exact z, ?_⟩)
  have hf : H1 s1.heap.objs.size = none := I1.hok.fresh (Nat.le_refl _)
  refine ⟨.ref s1.heap.objs.size, upd H1 s1.heap.objs.size (.tup xs), I1.laid (t' := s1.toks) (fun b u e => Heap.get?_push_of_some _ e) (Nat.le_refl _) ?_, rfl, q _ hf⟩
  exact ⟨z, us, r, ⟨_, Heap.get?_push_size _ rfl, rfl, _, rfl⟩⟩
theorem pe_lst (h : PA X es t) : PE X (.List es pos) (tLst t) := by
  intro pins s σ H Q I hq
  refine wpAny_List_spliced (thn (h pos pins s σ H _ I hq) fun us s1 ⟨xs, H1, I1, r, z, q⟩ => ⟨by rw [← r.length]; exact z, ?_⟩)
  have hf : H1 s1.heap.objs.size = none := I1.hok.fresh (Nat.le_refl _)
  refine ⟨.ref s1.heap.objs.size, upd H1 s1.heap.objs.size (.lst xs), I1.laid (t' := s1.toks) (fun b u e => Heap.get?_push_of_some _ e) (Nat.le_refl _) ?_, rfl, q _ hf⟩
  exact ⟨z, us, 0, r, Heap.get?_push_size _ rfl⟩
end
abbrev Sp := List V → Hp → VK → XK → Prop
abbrev CXT := List Env → Hp → Shared → XK → Value → Shared → Prop
structure Env0 (P : Program) (w : World) (K : PySem.W.Frag) (mg : Str → Option Value) (base : Heap) (A : Around) (outer : List Env) (s : Shared) (H : Hp) : Prop where
  frames : A.frames = some outer
  mod : Mod K mg base
  bs : ∀ b o, base.get? b = some o → s.heap.get? b = some o ∧ H b = none
  bsz : base.objs.size ≤ s.heap.objs.size
  funs : s.heap.FunFrames base outer
  frf : ∀ b ∈ frs outer, H b = none
  hok : HOk P w H s.heap
  bare : AllBare s.gens
def CE (outer : List Env) (P : Program) (w : World) (H : Hp) (s : Shared) (Q : VK) (u : Value) (s' : Shared) : Prop :=
  ∃ v H', s'.os = s.os ∧ AllBare s'.gens ∧ Un (frs outer) [] H H' s.heap s'.heap ∧ HOk P w H' s'.heap ∧ RelV v u ∧ Q v H'
def CR (CX : CXT) (outer : List Env) (P : Program) (w : World) (H : Hp) (s : Shared) (Q : VK) (E : XK) (r : Result) (s' : Shared) : Prop :=
  match r with
  | .ok (.ret u) => CE outer P w H s Q u s'
  | .ok _ => False
  | .error e => CX outer H s E e s'
structure FnOk (P : Program) (w : World) (K : PySem.W.Frag) (mg : Str → Option Value) (base : Heap) (CX : CXT) (k : Nat) (f : Addr) (fd : FuncData) (ps : List Str) (sp : Sp) : Prop where
  len : ∀ vs H Q E, sp vs H Q E → vs.length = ps.length
  run : ∀ (A : Around) (outer : List Env) (s : Shared) (H : Hp) (args : Args) (us : List Value) (vs : List V) (Q : VK) (E : XK), Room k A → Env0 P w K mg base A outer s H → BindsTo s fd args (ps.zip us) → Vals vs us → sp vs H Q E →
    codeAny (model P w) A (.call (.ref f) args) (CR CX outer P w H s Q E) s
theorem FnOk.mono {P : Program} {w : World} {K : PySem.W.Frag} {mg : Str → Option Value} {base : Heap} {CX : CXT} {j k : Nat} {f : Addr} {fd : FuncData} {ps : List Str} {sp : Sp} (F : FnOk P w K mg base CX j f fd ps sp) (h : j ≤ k) :
    FnOk P w K mg base CX k f fd ps sp := ⟨F.len, fun A outer s H args us vs Q E hr => F.run A outer s H args us vs Q E (hr.mono h)⟩
theorem Env0.in1 {P : Program} {w : World} {K : PySem.W.Frag} {mg : Str → Option Value} {base : Heap} {A : Around} {outer : List Env} {s : Shared} {H : Hp} (e : Env0 P w K mg base A outer s H) :
    Env0 P w K mg base A.in1 outer s H := ⟨e.frames, e.mod, e.bs, e.bsz, e.funs, e.frf, e.hok, e.bare⟩
section
variable {X : Cx} {pins : List (Addr × Obj)} {σ : St} {H : Hp} {s s' : Shared}
theorem Inv.env0 (I : Inv X pins σ H s) : Env0 X.prog X.w X.K X.mg X.base X.A X.stack s H :=
  ⟨I.ok.frames, I.ok.mod, I.bs, Nat.le_trans I.ok.bsz I.sz, I.stack, I.stkFree, I.hok, I.bare⟩
theorem Inv.after {Q : VK} {u : Value} (I : Inv X pins σ H s) (h : CE X.stack X.prog X.w H s Q u s') : EP X pins σ Q u s' := by
  obtain ⟨v, H', os, bare, un, hok, r, q⟩ := h
  obtain ⟨hh, g, d, t, os'⟩ := s'
  obtain rfl : os' = s.os := os
  exact ⟨v, H', I.call (h' := hh) (g' := g) (d' := d) (t' := t) (ch := []) un hok bare (fun b z => absurd z (by simp)), r, q⟩
end
def tCall (sp : Sp) (dvs : List V) (E : XK) (t : TA) : TE := fun σ H Q => t σ H fun vs H1 => sp (vs ++ dvs) H1 Q E
def Binds (K : PySem.W.Frag) (fd : FuncData) (ps : List Str) (ds : List Value) : Prop :=
  ∀ (s : Shared) (us : List Value), K.In s.heap → (us ++ ds).length = ps.length → BindsTo s fd ⟨us, []⟩ (ps.zip (us ++ ds))
theorem Binds.all {K : PySem.W.Frag} {fd : FuncData} {ps : List Str} (h : ∀ us : List Value, us.length = ps.length → bindArgs fd ⟨us, []⟩ = pure (ps.zip us)) : Binds K fd ps [] := fun s us _ hl => by
  rw [List.append_nil] at hl ⊢
  exact .of_eq (h us hl)
def Passes (CX : CXT) (X : Cx) (E : XK) : Prop := ∀ (pins : List (Addr × Obj)) (σ : St) (H : Hp) (s : Shared) (e : Value) (s' : Shared), Inv X pins σ H s → CX X.stack H s E e s' → X.xe e s'
section
variable {X : Cx} {CX : CXT} {k : Nat} {f C : Addr} {fd : FuncData} {ps : List Str} {sp : Sp} {dvs : List V} {ds : List Value} {E : XK} {x m : Str} {p pos apos : Pos} {e o : Expr} {es : List Expr} {ta : TE} {t : TA}
theorem run_fn {pins : List (Addr × Obj)} {σ : St} {H : Hp} {s : Shared} {Q : VK} {us : List Value} {vs : List V} (F : FnOk X.prog X.w X.K X.mg X.base CX k f fd ps sp) (hr : Room k X.A) (hb : Binds X.K fd ps ds) (hd : Vals dvs ds) (hx : Passes CX X E)
    (I : Inv X pins σ H s) (r : Vals vs us) (h : sp (vs ++ dvs) H Q E) : wpAny (model X.prog X.w) X.A (call (.ref f) us) (EP X pins σ Q) X.xe s := by
  have r2 : Vals (vs ++ dvs) (us ++ ds) := r.append hd
  have hl : (us ++ ds).length = ps.length := by rw [← r2.length]; exact F.len _ _ _ _ h
  refine wpAny_call (codeAny_mono (F.run X.A X.stack s H ⟨us, []⟩ (us ++ ds) (vs ++ dvs) Q E hr I.env0 (hb s us I.kIn hl) r2 h) fun r s' hq => ?_)
  cases r with
  | error e => exact hx pins σ H s e s' I hq
  | ok fl =>
    cases fl with
    | ret u => exact I.after hq
    | next => exact False.elim hq
    | brk => exact False.elim hq
    | cont => exact False.elim hq
theorem pe_call (F : FnOk X.prog X.w X.K X.mg X.base CX k f fd ps sp) (hr : Room k X.A) (hg : Gl X x) (hm : X.mg x = some (.ref f)) (hk : PySem.W.keepIn X.K (.ref f) = true) (hb : Binds X.K fd ps ds) (hd : Vals dvs ds) (hx : Passes CX X E)
    (ha : PA X (e :: es) t) (hdb : (x == ("__debug__" : Str)) = false := by decide) (he : starEach (e :: es) X.env = (false, eval e X.env) :: starEach es X.env := by rfl) (hpl : (backTo pos (starEach es X.env)).any (·.1) = false := by rfl) :
    PE X (.Call (.Name x p) (e :: es) [] pos) (tCall sp dvs E t) := by
  intro pins s σ H Q I h
  refine wpAny_Call_Name_kw (ld_glob I hg hm ?_ hdb)
  refine PySem.W.callWith_K (h₀ := X.base) I.ok.mod.kin hk (thn (ha pos pins s σ H _ I h) fun us s1 ⟨vs, H1, I1, r, q⟩ => ⟨I1.kIn, ?_⟩) he hpl
  exact run_fn F hr hb hd hx I1 r q
structure Mk (K : PySem.W.Frag) (C f : Addr) : Prop where
  makes : PySem.W.makesIn K C = true
  init : PySem.W.findIn K (.ref C) "__init__" = some (some (.ref f))
  fn : PySem.W.isFn K (.ref f) = true
  kp : PySem.W.keepIn K (.ref C) = true
end
section
variable {X : Cx} {CX : CXT} {k : Nat} {f C : Addr} {fd : FuncData} {ps ks : List Str} {sp : Sp} {E : XK} {x m : Str} {p pos apos kpos : Pos} {e o : Expr} {es : List Expr} {kws : List Keyword} {te ta : TE} {t tk : TA} {nm : Option Str}
structure KBinds (K : PySem.W.Frag) (fd : FuncData) (ps ks : List Str) (g : List Value → List Value → List Value) (gV : List V → List V → List V) : Prop where
  to : ∀ (s : Shared) (us ws : List Value), K.In s.heap → (g us ws).length = ps.length → BindsTo s fd ⟨us, ks.zip ws⟩ (ps.zip (g us ws))
  rel : ∀ {vs : List V} {us : List Value} {zs : List V} {ws : List Value}, Vals vs us → Vals zs ws → Vals (gV vs zs) (g us ws)
variable {g : List Value → List Value → List Value} {gV : List V → List V → List V}
end
structure FnScope (N P : List Str) (sc : Scope) : Prop where
  kind : sc.kind = .function
  co : sc.isCoroutine = false
  gen : sc.isGenerator = false
  nd : N.Nodup
  pre : N.take P.length = P
  par : ∀ x ∈ P, sc.names.lookup x = some .local ∨ sc.names.lookup x = some .cell
  nofree : ∀ y ∈ sc.names, y.2 ≠ .free
theorem bindL_out {kindOf : Str → Option NameKind} {x : Str} : ∀ {binds : List (Str × Value)} {m : Str → Option Value}, (∀ v, (x, v) ∉ binds) → bindL kindOf binds m x = m x
  | [], _, _ => rfl
  | (n, v) :: r, m, h => by
    unfold bindL
    rw [bindL_out fun w hw => h w (List.mem_cons_of_mem _ hw)]
    split
    · have : x ≠ n := by rintro rfl; exact h v List.mem_cons_self
      simp [this]
    · rfl
theorem bindC_out {kindOf : Str → Option NameKind} {x : Str} : ∀ {binds : List (Str × Value)} {m : Str → Option Value}, (∀ v, (x, v) ∉ binds) → bindC kindOf binds m x = m x
  | [], _, _ => rfl
  | (n, v) :: r, m, h => by
    unfold bindC
    rw [bindC_out fun w hw => h w (List.mem_cons_of_mem _ hw)]
    split
    · rfl
    · have : x ≠ n := by rintro rfl; exact h v List.mem_cons_self
      simp [this]
theorem bindL_get {kindOf : Str → Option NameKind} {x : Str} {v : Value} : ∀ {P : List Str} {vs : List Value} {i : Nat} {m : Str → Option Value}, P.Nodup → P[i]? = some x → vs[i]? = some v → kindOf x = some .local →
    bindL kindOf (P.zip vs) m x = some v
  | [], _, _, _, _, h, _, _ => by simp at h
  | _ :: _, [], _, _, _, _, h, _ => by simp at h
  | p :: P, w :: vs, 0, m, nd, h1, h2, hk => by
    simp at h1 h2; subst h1; subst h2
    show bindL kindOf ((p, w) :: P.zip vs) m p = _
    unfold bindL
    rw [bindL_out fun v hv => (List.nodup_cons.mp nd).1 (List.of_mem_zip hv).1, if_pos hk]
    simp
  | p :: P, w :: vs, i + 1, m, nd, h1, h2, hk => by
    show bindL kindOf ((p, w) :: P.zip vs) m x = _
    unfold bindL
    exact bindL_get (i := i) (List.nodup_cons.mp nd).2 (by simpa using h1) (by simpa using h2) hk
theorem bindC_get {kindOf : Str → Option NameKind} {x : Str} {v : Value} : ∀ {P : List Str} {vs : List Value} {i : Nat} {m : Str → Option Value}, P.Nodup → P[i]? = some x → vs[i]? = some v → kindOf x ≠ some .local →
    bindC kindOf (P.zip vs) m x = some v
  | [], _, _, _, _, h, _, _ => by simp at h
  | _ :: _, [], _, _, _, _, h, _ => by simp at h
  | p :: P, w :: vs, 0, m, nd, h1, h2, hk => by
    simp at h1 h2; subst h1; subst h2
    show bindC kindOf ((p, w) :: P.zip vs) m p = _
    unfold bindC
    rw [bindC_out fun v hv => (List.nodup_cons.mp nd).1 (List.of_mem_zip hv).1, if_neg hk]
    simp
  | p :: P, w :: vs, i + 1, m, nd, h1, h2, hk => by
    show bindC kindOf ((p, w) :: P.zip vs) m x = _
    unfold bindC
    exact bindC_get (i := i) (List.nodup_cons.mp nd).2 (by simpa using h1) (by simpa using h2) hk
def start (N : List Str) (vs : List V) : St := vs.map some ++ List.replicate (N.length - vs.length) none
def cxOf (CX : CXT) (P : Program) (w : World) (K : PySem.W.Frag) (mg : Str → Option Value) (base : Heap) (N : List Str) (qual : Str) (scope : Scope) (f : Addr) (cd : Value) (A : Around) (outer : List Env) (s : Shared) (H : Hp) (E : XK) : Cx where
  prog := P
  w := w
  K := K
  mg := mg
  base := base
  A := A.deeper (envOfC qual scope s.heap.objs.size f cd)
  N := N
  s₀ := s
  H₀ := H
  env := envOfC qual scope s.heap.objs.size f cd
  outer := outer
  stack := envOfC qual scope s.heap.objs.size f cd :: outer
  ex := []
  calm := true
  fn := fun _ => true
  pn := []
  xe := fun e s' => wpAny (model P w) (A.deeper (envOfC qual scope s.heap.objs.size f cd)) (leaving (envOfC qual scope s.heap.objs.size f cd) e) (fun _ s'' => CX outer H s E e s'') (fun e' s'' => CX outer H s E e' s'') s'
theorem cell_has {sc : Scope} {n : Nat} {x : Str} (h : sc.names.lookup x = some .cell) : ∃ c, (cellsFrom n sc.names []).lookup x = some c := by
  have q := PySem.W.cellsFrom_some sc.names n [] (.inl h)
  exact Option.isSome_iff_exists.mp q
theorem inv_start {CX : CXT} {P : Program} {w : World} {K : PySem.W.Frag} {mg : Str → Option Value} {base : Heap} {N ps : List Str} {qual : Str} {scope : Scope} {f : Addr} {cd : Value} {A : Around} {outer : List Env} {s s1 : Shared} {H : Hp} {E : XK} {us : List Value} {vs : List V}
    (S : FnScope N ps scope) (hd : A.handled = none) (e0 : Env0 P w K mg base A outer s H) (hl : vs.length = ps.length) (r : Vals vs us)
    (x : InCallC s s.heap.objs.size (bindL (envOfC qual scope s.heap.objs.size f cd).kindOf (ps.zip us) fun _ => none) (cellsFrom (s.heap.objs.size + 1) scope.names []) (bindC (envOfC qual scope s.heap.objs.size f cd).kindOf (ps.zip us) fun _ => none) s1) :
    Inv (cxOf CX P w K mg base N qual scope f cd A outer s H E) [] (start N vs) H s1 := by
  have hpl : ps.length ≤ N.length := by have := congrArg List.length S.pre; rw [List.length_take] at this; omega
  obtain ⟨h1, tk, rfl, hk⟩ := x.done
  have noA : ∀ b : Addr, b ∉ (cxOf CX P w K mg base N qual scope f cd A outer s H E).ex := fun b z => absurd (show b ∈ ([] : List Addr) from z) (by simp)
  refine ⟨⟨e0.mod, S.kind, rfl, rfl, Nat.le_refl _, fun y z c h1 h2 => ?_, fun y hy => ?_, fun y c _ h => ?_, fun _ => hd, Around.frames_deeper e0.frames, .inr ⟨rfl, rfl⟩, fun b z => absurd z (noA b), e0.bs, e0.bsz, fun b _ _ => noA b, fun b z => absurd z (noA b), e0.funs, e0.frf⟩,
    rfl, e0.bare, Un.kept hk, ⟨_, x.toInCall.ns, fun i y v h1 h2 h3 => ?_⟩, fun y c h => ⟨_, x.cell y c h⟩, e0.hok.fresh (Nat.le_refl _), fun y c h => ?_, fun p hp => absurd (show p ∈ ([] : List (Addr × Obj)) from hp) (by simp), e0.hok.kept hk, ?_⟩
  · exact name_of_addr x.apart (PySem.mem_of_lookup h1) (PySem.mem_of_lookup h2)
  · have hy : scope.names.lookup y = some .cell ∨ scope.names.lookup y = some .free := hy
    rcases hy with hy | hy
    · exact cell_has hy
    · exact absurd rfl (S.nofree _ (PySem.mem_of_lookup hy))
  · exact Nat.le_of_lt (x.above y c (PySem.mem_of_lookup h))
  · have hi : i < vs.length := by
      unfold start at h2
      by_cases hi : i < vs.length
      · exact hi
      · rw [List.getElem?_append_right (by simpa using hi)] at h2
        rw [List.getElem?_replicate] at h2
        split at h2 <;> cases h2
    have ha : vs[i]? = some v := by
      unfold start at h2
      rw [List.getElem?_append_left (by simpa using hi), List.getElem?_map] at h2
      cases e : vs[i]? with
      | none => rw [e] at h2; cases h2
      | some a => rw [e] at h2; cases h2; rfl
    obtain ⟨u, hu, rv⟩ := r.get ha
    have hp : ps[i]? = some y := by
      rw [← S.pre, List.getElem?_take_of_lt (by omega)]; exact h1
    have ndP : ps.Nodup := by rw [← S.pre]; exact S.nd.sublist (List.take_sublist _ _)
    refine ⟨u, rv, ?_⟩
    rcases S.par y (List.mem_of_getElem? hp) with k | k
    · exact .inl ⟨k, bindL_get ndP hp hu k⟩
    · obtain ⟨c, e⟩ := cell_has (n := s.heap.objs.size + 1) k
      refine .inr ⟨.inl k, c, e, ?_⟩
      have q := x.cell y c e
      rw [bindC_get ndP hp hu (by show scope.names.lookup y ≠ _; rw [k]; decide)] at q
      exact q
  · exact e0.hok.fresh (Nat.le_of_lt (x.above y c (PySem.mem_of_lookup h)))
  · unfold start
    show _ = N.length
    rw [List.length_append, List.length_map, List.length_replicate]
    omega
theorem fn_of {CX : CXT} {P : Program} {w : World} {K : PySem.W.Frag} {mg : Str → Option Value} {base : Heap} {k : Nat} {f : Addr} {name qual : Str} {params : Arguments} {body : List Stmt} {scope : Scope} {dV kV doc pm cdv ct oc : Value} {an od : Option Addr}
    {osl : Array (Option Value)} {N ps : List Str} {sp : Sp} (lk : K.lookup f = some ⟨oc, od, .func (PySem.W.fnOf name qual params body scope dV kV doc pm an cdv ct), osl⟩) (hcd : PySem.W.codeIn K cdv qual = true) (S : FnScope N ps scope)
    (len : ∀ vs H Q E, sp vs H Q E → vs.length = ps.length)
    (hbody : ∀ (A : Around) (outer : List Env) (s : Shared) (H : Hp) (vs : List V) (Q : VK) (E : XK), Room k (A.deeper (envOfC qual scope s.heap.objs.size f cdv)) → sp vs H Q E →
      ∃ t, PSs (cxOf CX P w K mg base N qual scope f cdv A outer s H E) body t ∧ t { nx := fun _ H' => Q .non H', rt := Q } (start N vs) H) :
    FnOk P w K mg base CX (k + 1) f (PySem.W.fnOf name qual params body scope dV kV doc pm an cdv ct) ps sp := by
  refine ⟨len, fun A outer s H args us vs Q E hr e0 hb r hsp => ?_⟩
  have hl := len _ _ _ _ hsp
  have KX : K.In s.heap := e0.mod.kin.keeps fun b o e => (e0.bs b o e).1
  have lim : s.heap.NoLimit := e0.mod.nolimit.keeps fun b o e => (e0.bs b o e).1
  have hkind : ∀ y ∈ ps.zip us, scope.names.lookup y.1 = some .local ∨ (scope.names.lookup y.1 = some .cell ∧ ((cellsFrom (s.heap.objs.size + 1) scope.names []).lookup y.1).isSome = true) := fun ⟨n, v⟩ hy => by
    rcases S.par n (List.of_mem_zip hy).1 with q | q
    · exact .inl q
    · exact .inr ⟨q, PySem.W.cellsFrom_some _ _ _ (.inl q)⟩
  refine codeAny_call_function hr.depth (KX _ _ lk) rfl S.co S.gen rfl (PySem.W.codeRec_of KX hcd) (hb _ _ _ _ ?_)
  refine wpAny_newFunctionEnv_cells S.kind hkind fun env he s1 x => ?_
  subst he
  refine ⟨lim.keeps x.toInCall.keep, codeAny_func ?_⟩
  obtain ⟨t, ht, hq⟩ := hbody A outer s H vs Q E (hr.deeper _) hsp
  have I : Inv (cxOf CX P w K mg base N qual scope f cdv A outer s H E) [] (start N vs) H s1 := inv_start S hr.hd e0 hl r x
  refine wpAny_mono (ht [] s1 (start N vs) H _ I hq) (fun fl s' hs => ?_) fun e s' hs => hs
  have fin : ∀ {σ' : St} {H' : Hp} {v : V} {u : Value}, Inv (cxOf CX P w K mg base N qual scope f cdv A outer s H E) [] σ' H' s' → RelV v u → Q v H' → CE outer P w H s Q u s' :=
    fun {σ' H' v u} J rv q => ⟨v, H', J.os, J.bare, J.base, J.hok, rv, q⟩
  cases fl with
  | ret u =>
    obtain ⟨v, σ', H', J, rv, q⟩ := hs
    exact fin J rv q
  | next =>
    obtain ⟨σ', H', J, q⟩ := hs
    exact fin (v := V.non) (u := Value.none) J rfl q
  | brk =>
    obtain ⟨_, _, _, q⟩ := hs
    exact False.elim q
  | cont =>
    obtain ⟨_, _, _, q⟩ := hs
    exact False.elim q
end L2
namespace L2
open PySem PySem.Spec PyProof.Rows
section
variable {X : Cx} {x : Str} {p pos : Pos} {e : Expr} {es : List Expr} {t : TA} {id T : String} {r : List V → Hp → VK → Prop}
def tCB (r : List V → Hp → VK → Prop) (t : TA) : TE := fun σ H Q => t σ H fun vs H1 => r vs H1 Q
theorem pe_callB (hc : CallR X (.builtin id) r) (hg : Gl X x) (hm : X.mg x = none) (hv : bootBuiltins x = some (.builtin id)) (ha : PA X (e :: es) t) (hn : x ≠ "__name__" := by decide) (hdb : (x == ("__debug__" : Str)) = false := by decide)
    (he : starEach (e :: es) X.env = (false, eval e X.env) :: starEach es X.env := by rfl) (hpl : (backTo pos (starEach es X.env)).any (·.1) = false := by rfl) : PE X (.Call (.Name x p) (e :: es) [] pos) (tCB r t) := by
  intro pins s σ H Q I h
  refine wpAny_Call_Name_kw (ld_blt I hg hm hv ?_ hn hdb)
  exact PyProof.Rows.callWith_builtin1 (thn (ha pos pins s σ H _ I h) fun us s1 ⟨vs, H1, I1, r1, q1⟩ => hc pins s1 σ H1 vs us Q I1 r1 q1) he hpl
end
end L2
namespace HT
open PySem PyProof.Rows
section
open PySem.SeqAt
open PySem.AutoSeq1 (wpAny_loadPart')
open PySem.MeetsSeq PySem.MeetsSeq2 PySem.MeetsSeq3
end
section
variable {prog : Program} {w : World} {A : Around} {E : Value → Shared → Prop} {s : Shared}
def sIx (n d : Nat) : Option Int → Nat
  | none => d
  | some v => if v < 0 then (v + (n : Int)).toNat else min v.toNat n
end
end HT
namespace L2
open PySem PySem.Spec PyProof.Rows
abbrev TO := St → Hp → (Option Int → Hp → Prop) → Prop
def PO (X : Cx) (e : Option Expr) (t : TO) : Prop :=
  ∀ (pins : List (Addr × Obj)) (s : Shared) (σ : St) (H : Hp) (Q : Option Int → Hp → Prop), Inv X pins σ H s → t σ H Q →
    wpAny (model X.prog X.w) X.A (evalPart e X.env) (fun u s' => ∃ o H', Inv X pins σ H' s' ∧ IsPart u o ∧ Q o H') X.xe s
def tNoPart : TO := fun _ H Q => Q none H
def tPart (t : TE) : TO := fun σ H Q => t σ H fun x H1 => ∃ i, x = .int i ∧ Q (some i) H1
section
variable {X : Cx} {e : Expr} {te : TE} {lo hi : Option Expr} {tl th : TO} {pos p2 : Pos}
theorem po_none : PO X none tNoPart := by
  intro pins s σ H Q I h
  rw [evalPart_none]
  exact wpAny_pure ⟨none, H, I, .none, h⟩
theorem po_some (h : PE X e te) : PO X (some e) (tPart te) := by
  intro pins s σ H Q I hw
  rw [evalPart_some]
  refine thn (h pins s σ H _ I hw) fun u s1 ⟨x, H1, I1, r1, q1⟩ => ?_
  obtain ⟨i, rfl, q⟩ := q1
  obtain ⟨t, rfl⟩ := r1
  exact ⟨some i, H1, I1, .int i t, q⟩
def SlR (X : Cx) (r : V → Option Int → Option Int → Hp → VK → Prop) : Prop :=
  ∀ (pins : List (Addr × Obj)) (s : Shared) (σ : St) (H : Hp) (x : V) (v vl vu : Value) (lo hi : Option Int) (sl : Addr) (Q : VK), Inv X pins σ H s → RelV x v → s.heap.IsSliceOf sl vl vu .none → IsPart vl lo → IsPart vu hi → r x lo hi H Q →
    ∃ T id, typeLookup (.type T) "__getitem__" = pure (some (.builtin id)) ∧ s.TypeIs v T ∧ wpAny (model X.prog X.w) X.A (getItem v (.ref sl)) (EP X pins σ Q) X.xe s
theorem SlR.or {r r' : V → Option Int → Option Int → Hp → VK → Prop} (h : SlR X r) (h' : SlR X r') : SlR X (fun x lo hi H Q => r x lo hi H Q ∨ r' x lo hi H Q) := by
  intro pins s σ H x v vl vu lo hi sl Q I rx hs pl pu q
  rcases q with q | q
  · exact h pins s σ H x v vl vu lo hi sl Q I rx hs pl pu q
  · exact h' pins s σ H x v vl vu lo hi sl Q I rx hs pl pu q
def tSl (r : V → Option Int → Option Int → Hp → VK → Prop) (te : TE) (tl th : TO) : TE := fun σ H Q => te σ H fun x H1 => tl σ H1 fun l H2 => th σ H2 fun u H3 => r x l u H3 Q
theorem pe_slice {r : V → Option Int → Option Int → Hp → VK → Prop} (hr : SlR X r) (he : PE X e te) (hl : PO X lo tl) (hu : PO X hi th) : PE X (.Subscript e (.Slice lo hi none p2) pos) (tSl r te tl th) := by
  intro pins s σ H Q I h
  refine Subscript_ (thn (he pins s σ H _ I h) fun v s1 ⟨x, H1, I1, r1, q1⟩ => ?_)
  refine wpAny_Slice (thn (hl pins s1 σ H1 _ I1 q1) fun vl s2 ⟨l, H2, I2, pl, q2⟩ => thn (hu pins s2 σ H2 _ I2 q2) fun vu s3 ⟨u, H3, I3, pu, q3⟩ => ?_)
  rw [evalPart_none]
  refine wpAny_pure ?_
  have I4 : Inv X pins σ H3 { s3 with heap := s3.heap.push { cls := .type "slice", data := .fields #[vl, vu, .none] } } := I3.kept (t' := s3.toks) fun b ob q => Heap.get?_push_of_some _ q
  obtain ⟨T, id, hT, ht, hg⟩ := hr pins { s3 with heap := s3.heap.push { cls := .type "slice", data := .fields #[vl, vu, .none] } } σ H3 x v vl vu l u s3.heap.objs.size Q I4 r1 (Heap.IsSliceOf.new ..) pl pu q3
  show wpAny (model X.prog X.w) X.A (subscriptTail e (.Slice lo hi none p2) v (.ref s3.heap.objs.size)) (EP X pins σ Q) X.xe { s3 with heap := s3.heap.push { cls := .type "slice", data := .fields #[vl, vu, .none] } }
  exact tail_any (ops := [.ref s3.heap.objs.size, v]) ht hT hg (by with_unfolding_all rfl)
def cutV (xs : List V) (lo hi : Option Int) : List V := (xs.drop (HT.sIx xs.length 0 lo)).take (HT.sIx xs.length xs.length hi - HT.sIx xs.length 0 lo)
theorem cutV_length (xs : List V) (lo hi : Option Int) : (cutV xs lo hi).length ≤ xs.length := by
  unfold cutV
  rw [List.length_take, List.length_drop]
  omega
theorem Vals.nil_iff {xs : List V} {us : List Value} (r : Vals xs us) : us = [] ↔ xs = [] := by
  cases r with
  | nil => simp
  | cons _ _ => simp
end
end L2
namespace L2
open PySem PySem.Spec PyProof.Rows
def ixN (n : Nat) (i : Int) : Option Nat := if 0 ≤ i then (if i < n then some i.toNat else none) else if -(n : Int) ≤ i then some (i + n).toNat else none
def atI {α : Type} (xs : List α) (i : Int) : Option α := (ixN xs.length i).bind fun j => xs[j]?
theorem ixN_seq {n : Nat} {i : Int} {j : Nat} (h : ixN n i = some j) : seqIndex? i n = some j ∧ j < n ∧ -(n : Int) ≤ i ∧ i < n := by
  unfold ixN at h
  by_cases h0 : 0 ≤ i
  · rw [if_pos h0] at h
    by_cases h1 : i < n
    · rw [if_pos h1] at h
      have e : i.toNat = j := Option.some.inj h
      exact ⟨by rw [seqIndex_of h0 h1, e], by omega, by omega, h1⟩
    · rw [if_neg h1] at h; cases h
  · rw [if_neg h0] at h
    by_cases h1 : -(n : Int) ≤ i
    · rw [if_pos h1] at h
      have e : (i + n).toNat = j := Option.some.inj h
      exact ⟨by rw [seqIndex_neg (by omega) h1, e], by omega, h1, by omega⟩
    · rw [if_neg h1] at h; cases h
theorem atI_get {α : Type} {xs : List α} {i : Int} {v : α} (h : atI xs i = some v) : ∃ j, seqIndex? i xs.length = some j ∧ xs[j]? = some v ∧ j < xs.length ∧ -(xs.length : Int) ≤ i ∧ i < xs.length := by
  unfold atI at h
  cases e : ixN xs.length i with
  | none => rw [e] at h; cases h
  | some j =>
    rw [e] at h
    obtain ⟨h1, h2, h3, h4⟩ := ixN_seq e
    exact ⟨j, h1, h, h2, h3, h4⟩
theorem atI_nat {α : Type} {xs : List α} {j : Nat} {v : α} (h : xs[j]? = some v) : atI xs (j : Int) = some v := by
  have hj : j < xs.length := (List.getElem?_eq_some_iff.mp h).1
  have e : ixN xs.length (j : Int) = some j := by
    unfold ixN
    rw [if_pos (by omega), if_pos (by omega)]; simp
  unfold atI; rw [e]; exact h
def PlainIx (b : Expr) : Prop := ∀ o i, subscripted b false o i = operate [o, i] (getItem o i)
def IxR (X : Cx) (r : R2) : Prop :=
  ∀ (value slice : Expr) (pins : List (Addr × Obj)) (s : Shared) (σ : St) (H : Hp) (x y : V) (v u : Value) (Q : VK), Inv X pins σ H s → RelV x v → RelV y u → r x y H Q →
    subscripted slice false v u = operate [v, u] (getItem v u) → wpAny (model X.prog X.w) X.A (subscriptTail value slice v u) (EP X pins σ Q) X.xe s
def MtR (X : Cx) (id : String) (r : V → List V → Hp → VK → Prop) : Prop :=
  ∀ (pins : List (Addr × Obj)) (s : Shared) (σ : St) (H : Hp) (x : V) (xs : List V) (v : Value) (us : List Value) (Q : VK), Inv X pins σ H s → RelV x v → Vals xs us → r x xs H Q →
    wpAny (model X.prog X.w) X.A (call (.builtin id) (v :: us)) (EP X pins σ Q) X.xe s
section
variable {X : Cx} {a b : Expr} {ta tb : TE} {pos : Pos}
theorem IxR.or {r r' : R2} (h : IxR X r) (h' : IxR X r') : IxR X (fun x y H Q => r x y H Q ∨ r' x y H Q) := by
  intro value slice pins s σ H x y v u Q I rx ry q hs
  rcases q with q | q
  · exact h value slice pins s σ H x y v u Q I rx ry q hs
  · exact h' value slice pins s σ H x y v u Q I rx ry q hs
theorem MtR.or {id : String} {r r' : V → List V → Hp → VK → Prop} (h : MtR X id r) (h' : MtR X id r') : MtR X id (fun x xs H Q => r x xs H Q ∨ r' x xs H Q) := by
  intro pins s σ H x xs v us Q I rx rs q
  rcases q with q | q
  · exact h pins s σ H x xs v us Q I rx rs q
  · exact h' pins s σ H x xs v us Q I rx rs q
theorem pe_ix {r : R2} (hr : IxR X r) (ha : PE X a ta) (hb : PE X b tb) (hs : PlainIx b) : PE X (.Subscript a b pos) (tOp r ta tb) := by
  intro pins s σ H Q I h
  exact Subscript_ (binT ha hb I h fun v u s2 x y H2 I2 rx ry q => hr a b pins s2 σ H2 x y v u Q I2 rx ry q (hs _ _))
def rIxL (K : PySem.W.Frag) : R2 := fun x y H Q => ∃ p xs i v, x = .ref p ∧ y = .int i ∧ SqL K H p xs ∧ atI xs i = some v ∧ Q v H
def rIxT (K : PySem.W.Frag) : R2 := fun x y H Q => ∃ p xs i v, x = .ref p ∧ y = .int i ∧ SqT K H p xs ∧ atI xs i = some v ∧ Q v H
def rIxS : R2 := fun x y H Q => ∃ z i c, x = .str z ∧ y = .int i ∧ z.length ≤ sizeLine ∧ atI z.cps.toList i = some c ∧ Q (.str ⟨#[c]⟩) H
theorem ix_list : IxR X (rIxL X.K) := by
  intro value slice pins s σ H x y v u Q I rx ry h hs
  obtain ⟨p, xs, i, z, rfl, rfl, hq, he, q⟩ := h
  cases rx
  obtain ⟨t, rfl⟩ := ry
  obtain ⟨its, r, pl, hz⟩ := I.list hq
  obtain ⟨j, h1, h2, h3, h4, h5⟩ := atI_get he
  obtain ⟨w, ew, rw'⟩ := r.get h2
  have hl := r.length
  have hn := line63
  have fin : EP X pins σ Q w s := ⟨z, H, I, rw', q⟩
  by_cases h0 : 0 ≤ i
  · have hj : i.toNat = j := by
      rw [seqIndex_of h0 h5] at h1
      exact Option.some.inj h1
    exact item_listR pl.isList h0 (by omega) (by rw [hj]; simpa using ew) fin hs
  · have hj : (i + (its.toArray.size : Int)).toNat = j := by
      rw [seqIndex_neg (by omega) h4] at h1
      rw [List.size_toArray, ← hl]
      exact Option.some.inj h1
    exact subscriptTail_builtinR (x := w) pl.isList.typeIs slot_list_getitem.lookup
      (wpAny_getItem_list_neg (Q := fun r s' => r = w ∧ EP X pins σ Q r s') pl.isList (by omega) (by rw [List.size_toArray] <;> omega) (by omega) (by rw [hj]; simpa using ew) ⟨rfl, fin⟩) hs
theorem ix_tup : IxR X (rIxT X.K) := by
  intro value slice pins s σ H x y v u Q I rx ry h hs
  obtain ⟨p, xs, i, z, rfl, rfl, hq, he, q⟩ := h
  cases rx
  obtain ⟨t, rfl⟩ := ry
  obtain ⟨its, r, pl, hz⟩ := I.tuple hq
  obtain ⟨j, h1, h2, h3, h4, h5⟩ := atI_get he
  obtain ⟨w, ew, rw'⟩ := r.get h2
  have hl := r.length
  have hn := line63
  have fin : EP X pins σ Q w s := ⟨z, H, I, rw', q⟩
  exact subscriptTail_builtinR (x := w) pl.typeIs slot_tuple_getitem.lookup
    (getItem_tuple (j := j) (Q := fun r s' => r = w ∧ EP X pins σ Q r s') pl (by omega) (by omega) (by rw [List.size_toArray, ← hl]; exact h1) (by simpa using ew) ⟨rfl, fin⟩) hs
theorem ix_str : IxR X rIxS := by
  intro value slice pins s σ H x y v u Q I rx ry h hs
  obtain ⟨z, i, c, rfl, rfl, hz, he, q⟩ := h
  obtain ⟨t, rfl⟩ := rx
  obtain ⟨t', rfl⟩ := ry
  obtain ⟨j, h1, h2, h3, h4, h5⟩ := atI_get he
  have hl : z.cps.toList.length = z.length := by simp [Str.length]
  rw [hl] at h1 h4 h5
  have hn := line63
  exact tail_any (typeIs_str s z t) slot_str_getitem.lookup (getItem_str (c := c) (by
    have e1 : decide (i < -(2 ^ 63 : Int)) = false := decide_eq_false (by omega)
    have e2 : decide (i ≥ 2 ^ 63) = false := decide_eq_false (by omega)
    rw [e1, e2, Bool.or_false]) (by rw [h1]; simpa using h2) ⟨.str ⟨#[c]⟩, H, I.tok _, ⟨_, rfl⟩, q⟩) hs
def rIx (K : PySem.W.Frag) : R2 := fun x y H Q => rIxL K x y H Q ∨ rIxT K x y H Q ∨ rIxS x y H Q
theorem ix_seq : IxR X (rIx X.K) := ix_list.or (ix_tup.or ix_str)
theorem Inv.lst {pins : List (Addr × Obj)} {σ : St} {H : Hp} {s : Shared} {p : Addr} {xs : List V} (I : Inv X pins σ H s) (h : H p = some (.lst xs)) :
    ∃ (its : List Value) (n : Nat), Vals xs its ∧ s.heap.get? p = some { cls := .type "list", data := .seq its.toArray n } ∧ xs.length ≤ sizeLine := by
  obtain ⟨z, its, n, r, e⟩ := I.hok p _ h
  exact ⟨its, n, r, e, z⟩
theorem slice_bounds (lo hi : Option Int) (n : Nat) : (sliceBounds lo hi none n).1 = ((HT.sIx n 0 lo : Nat) : Int) ∧ (sliceBounds lo hi none n).2.1 = ((HT.sIx n n hi : Nat) : Int) ∧ (sliceBounds lo hi none n).2.2 = 1 := by
  refine ⟨?_, ?_, rfl⟩
  · cases lo with
    | none => simp [sliceBounds, HT.sIx]
    | some i =>
      simp only [sliceBounds, HT.sIx, Option.getD_none, show (1 : Int) > 0 by decide, if_true]
      by_cases h : i < 0
      · simp only [h, if_true] <;> omega
      · simp only [h, if_false] <;> omega
  · cases hi with
    | none => simp [sliceBounds, HT.sIx]
    | some i =>
      simp only [sliceBounds, HT.sIx, Option.getD_none, show (1 : Int) > 0 by decide, if_true]
      by_cases h : i < 0
      · simp only [h, if_true] <;> omega
      · simp only [h, if_false] <;> omega
theorem slicePick_cut (its : List Value) (lo hi : Option Int) : slicePick its.toArray lo hi none = ((its.drop (HT.sIx its.length 0 lo)).take (HT.sIx its.length its.length hi - HT.sIx its.length 0 lo)).toArray := by
  obtain ⟨h1, h2, h3⟩ := slice_bounds lo hi its.toArray.size
  unfold slicePick
  rw [h1, h2, h3]
  simp only [sliceRange_one, pick_run, List.size_toArray] <;> rfl
def rSlL (K : PySem.W.Frag) : V → Option Int → Option Int → Hp → VK → Prop := fun x lo hi H Q => ∃ a xs, x = .ref a ∧ SqL K H a xs ∧ ∀ p, H p = none → Q (.ref p) (upd H p (.lst (cutV xs lo hi)))
theorem sl_list : SlR X (rSlL X.K) := by
  intro pins s σ H x v vl vu lo hi sl Q I rx hs pl pu h
  obtain ⟨a, xs, rfl, hx, q⟩ := h
  cases rx
  obtain ⟨its, r, ht, hz⟩ := I.list hx
  have hlen := r.length
  refine ⟨"list", _, slot_list_getitem.lookup, ht.isList.typeIs, ?_⟩
  refine wpAny_getItem_list_slice ht.isList hs pl pu .none (by simp) ?_ (by rw [List.size_toArray] <;> omega)
  rw [slicePick_cut, ← hlen]
  refine ⟨.ref s.heap.objs.size, _, I.laid (t' := s.toks) (o := .lst (cutV xs lo hi)) (fun b ob q => Heap.get?_push_of_some _ q) (Nat.le_refl _) ?_, rfl, q _ (I.hok.fresh (Nat.le_refl _))⟩
  exact ⟨Nat.le_trans (cutV_length xs lo hi) hz, _, 0, (r.drop (HT.sIx xs.length 0 lo)).take (HT.sIx xs.length xs.length hi - HT.sIx xs.length 0 lo), Heap.get?_push_size _ rfl⟩
theorem CallR.or {f : Value} {r r' : List V → Hp → VK → Prop} (h : CallR X f r) (h' : CallR X f r') : CallR X f (fun xs H Q => r xs H Q ∨ r' xs H Q) := by
  intro pins s σ H xs us Q I rs q
  rcases q with q | q
  · exact h pins s σ H xs us Q I rs q
  · exact h' pins s σ H xs us Q I rs q
def tyV (K : PySem.W.Frag) (T : String) (x : V) (H : Hp) : Prop := match x with
  | .str _ => T = "str"
  | .int _ => T = "int"
  | .ref p => (T = "list" ∧ ∃ xs, SqL K H p xs) ∨ (T = "tuple" ∧ ∃ o, K.lookup p = some o ∧ o.cls = .type "tuple" ∧ o.dict = none) ∨
      (T = "dict" ∧ ((∃ kvs, H p = some (.dK kvs)) ∨ ∃ kvs, H p = some (.dT kvs))) ∨ (T = "set" ∧ ∃ S n, H p = some (.set S n))
  | _ => False
theorem tyV_is {pins : List (Addr × Obj)} {σ : St} {H : Hp} {s : Shared} {T : String} {x : V} {v : Value} (I : Inv X pins σ H s) (r : RelV x v) (ty : tyV X.K T x H) :
    s.TypeIs v T ∧ ∀ a, v = .ref a → ∃ ob, s.heap.get? a = some ob ∧ ob.dict = none := by
  cases x with
  | str z =>
    obtain ⟨t, rfl⟩ := r
    cases (show T = "str" from ty)
    exact ⟨typeIs_str s z t, fun _ e => nomatch e⟩
  | int i =>
    obtain ⟨t, rfl⟩ := r
    cases (show T = "int" from ty)
    exact ⟨typeIs_int s i t, fun _ e => nomatch e⟩
  | ref p =>
    cases r
    rcases ty with ⟨rfl, xs, hq⟩ | ⟨rfl, o, hk, hc, hd⟩ | ⟨rfl, hk⟩ | ⟨rfl, S, n, hk⟩
    · obtain ⟨its, _, pl, _⟩ := I.list hq
      refine ⟨pl.isList.typeIs, fun a e => ?_⟩
      cases e
      obtain ⟨o, n, e, c, hd, _⟩ := pl
      exact ⟨o, e, hd⟩
    · refine ⟨⟨o, I.kIn p o hk, hc⟩, fun a e => ?_⟩
      cases e
      exact ⟨o, I.kIn _ o hk, hd⟩
    · have z : ∃ o, s.heap.get? p = some o ∧ o.ExactDict := by
        rcases hk with ⟨kvs, hk⟩ | ⟨kvs, hk⟩
        · obtain ⟨_, _, _, _, o, _, _, e, ex, _⟩ := I.hok p _ hk
          exact ⟨o, e, ex⟩
        · obtain ⟨_, _, _, _, o, _, _, e, ex, _⟩ := I.hok p _ hk
          exact ⟨o, e, ex⟩
      obtain ⟨o, e, ex⟩ := z
      refine ⟨⟨o, e, ex.1⟩, fun a e2 => ?_⟩
      cases e2
      exact ⟨o, e, ex.2.1⟩
    · obtain ⟨o, _, _, _, e, ex, _⟩ := I.hok p _ hk
      refine ⟨⟨o, e, ex.1⟩, fun a e2 => ?_⟩
      cases e2
      exact ⟨o, e, ex.2.1⟩
  | _ => exact False.elim ty
def tBM (K : PySem.W.Frag) (T : String) (r : V → List V → Hp → VK → Prop) (to : TE) (t : TA) : TE := fun σ H Q => to σ H fun x H1 => tyV K T x H1 ∧ t σ H1 fun xs H2 => r x xs H2 Q
variable {o e : Expr} {es : List Expr} {to : TE} {t : TA} {name : Str} {apos cpos : Pos} {T id : String} {r : V → List V → Hp → VK → Prop}
theorem pe_bm (pa : PlainAttrs T) (slot : Slot T name id) (hty : typeOf (.builtin id) = pure (.type "method_descriptor")) (hm : MtR X id r) (ho : PE X o to) (ha : PA X (e :: es) t)
    (hbase : attributeBase o name X.env (eval o X.env) = eval o X.env := by rfl)
    (hfew : ((backTo cpos (starEach (e :: es) X.env)).all (fun x => !x.1) && (backToKw cpos (keywordEach [] X.env)).all (fun x => x.1.isSome)
      && decide ((e :: es).length + ([] : List Keyword).length + (if ([] : List Keyword).isEmpty then 0 else 1) < 30)) = true := by rfl)
    (hline : (apos.endLine == cpos.line) = true := by rfl) (hs : starEach (e :: es) X.env = (false, eval e X.env) :: starEach es X.env := by rfl) (hplain : (backTo cpos (starEach es X.env)).any (·.1) = false := by rfl) :
    PE X (.Call (.Attribute o name apos) (e :: es) [] cpos) (tBM X.K T r to t) := by
  intro pins s σ H Q I h
  refine wpAny_Call_method_late hbase hfew hline rfl (thn (ho pins s σ H _ I h) fun v s1 ⟨x, H1, I1, r1, ty, q1⟩ => ?_)
  obtain ⟨h1, h2⟩ := tyV_is I1 r1 ty
  refine ⟨T, id, pa, slot, hty, h1, h2, ?_⟩
  have hA := ha cpos pins s1 σ H1 _ I1 q1
  rw [hs] at hA ⊢
  refine Calls.callWith_builtin (by show (false || (backTo cpos (starEach es X.env)).any (·.1)) = false; rw [hplain] <;> rfl) (Calls.evalArgs_plain ?_)
  exact thn hA fun us s2 ⟨vs, H2, I2, r2, q2⟩ => hm pins s2 σ H2 x vs v us Q I2 r1 r2 q2
end
end L2
namespace L2
open PySem PySem.Spec PyProof.Rows
def MtM (X : Cx) (id : String) (r : V → List V → Hp → VK → Prop) : Prop :=
  ∀ (pins : List (Addr × Obj)) (s : Shared) (σ : St) (H : Hp) (x : V) (xs : List V) (v : Value) (us : List Value) (Q : VK), Inv X pins σ H s → RelV x v → Vals xs us → r x xs H Q →
    wpAny (model X.prog X.w) X.A (call (.builtin id) (v :: us)) (EP X pins σ Q) X.xe s
theorem Vals.one : ∀ {x : V} {us : List Value}, Vals [x] us → ∃ u, us = [u] ∧ RelV x u
  | _, _, .cons r .nil => ⟨_, rfl, r⟩
theorem Vals.two : ∀ {x y : V} {us : List Value}, Vals [x, y] us → ∃ u v, us = [u, v] ∧ RelV x u ∧ RelV y v
  | _, _, _, .cons r (.cons q .nil) => ⟨_, _, rfl, r, q⟩
theorem Vals.zero : ∀ {us : List Value}, Vals [] us → us = []
  | _, .nil => rfl
theorem Vals.reverse {xs : List V} {us : List Value} (h : Vals xs us) : Vals xs.reverse us.reverse := by
  induction h with
  | nil => exact .nil
  | cons r t ih => rw [List.reverse_cons, List.reverse_cons]; exact Vals.append ih (.cons r .nil)
section
variable {X : Cx} {pins : List (Addr × Obj)} {σ : St} {H : Hp} {s : Shared} {l b : Addr} {xs ys zs : List V}
theorem Inv.lset {its its' : List Value} {n : Nat} {f : Array Value → Array Value} {t' : Nat} (I : Inv X pins σ H s) (hH : H l = some (.lst xs))
    (e : s.heap.get? l = some { cls := .type "list", data := .seq its.toArray n }) (hf : f its.toArray = its'.toArray) (hv : Vals ys its') (hz : ys.length ≤ sizeLine) :
    Inv X pins σ (upd H l (.lst ys)) { s with heap := s.heap.update l (Obj.mapSeq f), toks := t' } := by
  have q := PySem.IsL.update e f
  rw [hf] at q
  refine I.write (x := l) (e := l) (by rw [hH]; exact trivial) (.inl rfl) (fun b' u hb hu => (Heap.get?_update_other s.heap (Obj.mapSeq f) (Ne.symm hb)).trans hu) ⟨_, q⟩ ?_
  exact ⟨hz, its', _, hv, q⟩
theorem Inv.lnew {its : List Value} {t' : Nat} (I : Inv X pins σ H s) (hv : Vals ys its) (hz : ys.length ≤ sizeLine) :
    Inv X pins σ (upd H s.heap.objs.size (.lst ys)) { s with heap := s.heap.push { cls := .type "list", data := .seq its.toArray }, toks := t' } :=
  I.laid (fun _ _ q => Heap.get?_push_of_some _ q) (Nat.le_refl _) ⟨hz, its, 0, hv, Heap.get?_push_size _ rfl⟩
theorem Inv.fresh (I : Inv X pins σ H s) : H s.heap.objs.size = none := I.hok.fresh (Nat.le_refl _)
theorem Inv.lstM (I : Inv X pins σ H s) (hH : H l = some (.lst xs)) : xs.length ≤ sizeLine ∧ ∃ (its : List Value) (n : Nat), Vals xs its ∧ xs.length = its.length ∧ s.heap.get? l = some { cls := .type "list", data := .seq its.toArray n } := by
  obtain ⟨z, its, n, r, e⟩ := I.hok l _ hH
  exact ⟨z, its, n, r, r.length, e⟩
end
section
variable {X : Cx}
def rAppend : V → List V → Hp → VK → Prop := fun x vs H Q => ∃ l xs y, x = .ref l ∧ vs = [y] ∧ H l = some (.lst xs) ∧ xs.length < sizeLine ∧ Q .non (upd H l (.lst (xs ++ [y])))
theorem mt_append : MtM X "list.append" rAppend := by
  intro pins s σ H x vs v us Q I rx rv h
  obtain ⟨l, xs, y, rfl, rfl, hH, hz, q⟩ := h
  cases rx
  obtain ⟨u, rfl, ru⟩ := rv.one
  obtain ⟨z, its, n, r, hl, e⟩ := I.lstM hH
  refine call_meets F.slot_list_append ⟨_, e, rfl⟩ F.entry_list_append (F.args_list_append_2 _ _) (PySem.list_append l its.toArray n u (by rw [List.size_toArray]; omega)) ⟨e, ?_⟩
  refine ⟨.non, _, I.lset (its' := its ++ [u]) hH e (by simp) (r.append (.cons ru .nil)) ?_, rfl, q⟩
  rw [List.length_append, List.length_singleton]
  omega
end
section
variable {prog : Program} {w : World} {A : Around} {E : Value → Shared → Prop} {s : Shared}
set_option maxRecDepth 100000 in
end
section
variable {X : Cx}
end
end L2
namespace Att
open PySem PySem.W PySem.Calls PyProof.Rows
theorem ints_of_wellAll {P : Params} {h : Heap} : ∀ (ns : List Int) (vs : List Value), WellAll P h vs (ns.map WData.int) → IntsAre vs ns := by
  intro ns
  induction ns with
  | nil =>
    intro vs w
    rw [List.map_nil] at w
    cases w
    exact .nil
  | cons n ns ih =>
    intro vs w
    rw [List.map_cons] at w
    cases w with
    | cons a b =>
      cases a
      exact .cons _ _ (ih _ b)
theorem script_of {l : OpenLaw} {n : Nat} (hn : l.most = some n) {P : Params} {h : Heap} {args : List WData} {vals : List Value}
    (hpre : l.row.toRowW.claim.pre args = true) (hwl : WellAll P h vals args) :
    ∃ a vs ns, vals = [Value.ref a] ∧ args = [WData.list (ns.map WData.int)] ∧ h.get? a = some { cls := .type "list", data := .seq vs.toArray } ∧ IntsAre vs ns ∧ ns.length ≤ n := by
  have hsh : WShape.hasAll [] args [.list .int] = true := (pre_splitW hpre).1
  have hc : l.pre.holds [] { args := args } = true := (pre_splitW hpre).2
  obtain ⟨d, r, rfl, h1, h2⟩ := hasAllW_cons hsh
  obtain rfl := hasAllW_nil h2
  obtain ⟨xs, rfl, h3⟩ := hasW_list h1
  obtain ⟨ns, rfl⟩ := items_int h3
  have hlen : ns.length ≤ n := by
    unfold OpenLaw.pre at hc
    have h4 : (WTm.not (.lt (.lit (.int (n : Int))) (.len (.arg 0)))).holds [] { args := [.list (ns.map .int)] } = true := by
      have h4 := (holds_andW hc).1
      rw [hn] at h4
      exact h4
    have h5 := condW_of h4 (w_not (w_lt w_lit (w_len_list (w_arg rfl))))
    rw [List.length_map] at h5
    refine Nat.le_of_not_lt fun q => ?_
    have q' : (n : Int) < ((ns.length : Nat) : Int) := by omega
    first
      | (rw [decide_eq_true q'] at h5; exact absurd h5 (by decide))
      | (simp at h5; omega)
  cases hwl with
  | cons w1 w2 =>
    cases w2
    cases w1 with
    | list ho hall => exact ⟨_, _, ns, rfl, rfl, ho, ints_of_wellAll ns _ hall, hlen⟩
theorem post_true (l : OpenLaw) (args : List WData) : l.row.toRowW.claim.post args (.bool true) args = true :=
  postW_of (r := l.row.toRowW) (X := (true == true))
    (show WShape.has [] (.bool true) .bool = true by first | rfl | decide | simp [WShape.has, WShape.arms, WShape.armsAll])
    (show (WTm.eq .res (.lit (.bool true))).value [] { args := args, res := some (.bool true), after := args } = some (.bool (true == true)) from w_eq_bool (w_res rfl) w_lit) rfl
theorem attach_call {l : OpenLaw} {n : Nat} {q : Program} {loose : List Str} {XP : (Str → Option Value) → Heap → Prop} {YP : World → Heap → Prop} {d : DefRec}
    (hn : l.most = some n) (hdf : d.params.defaults = [])
    (call : ∀ (w : World) (s₀ s₁ : Shared) (mg mb : Str → Option Value) (fa : Addr) (o : Obj) (pm cd doc : Value) (a : Addr) (vs : List Value) (ns : List Int),
      Ground q loose [] XP w s₀ mg mb s₁.heap → YP w s₁.heap →
      s₁.heap.get? fa = some o → o.data = .func (docDef d.name d.params d.body d.scope pm cd doc) → s₁.heap.CodeRec cd d.name → mg d.name = some (.ref fa) →
      s₁.heap.get? a = some { cls := .type "list", data := .seq vs.toArray } → IntsAre vs ns → ns.length ≤ n → s₁.gens = #[] →
      codeAny (model l.prog w) callerA (.call (.ref fa) ⟨[.ref a], []⟩) (fun r s' => r = .ok (.ret (.bool true)) ∧ OldK s₁.heap s'.heap ∧ s'.os = s₁.os ∧ AllBare s'.gens) s₁) :
    WalkO q loose XP YP l.row.toRowW d [] (fun f vs => PySem.call f vs) := by
  intro w s₀ s₁ mg mb G Y fa o pm cd doc dV kV ho hd hcd hD hmg hg args vals as hpre hlay hrd hwl hlo
  obtain rfl : dV = .none := Dflts.none hD hdf
  obtain rfl : kV = .none := Dflts.noKw hD
  obtain ⟨a, vs, ns, rfl, rfl, hobj, hints, hlen⟩ := script_of hn hpre hwl
  refine enter_call (codeAny_mono (call w s₀ s₁ mg mb fa o pm cd doc a vs ns G Y ho (fd_plain hd) hcd hmg hobj hints hlen hg) fun r s' hq => ?_)
  obtain ⟨rfl, h2, h3, h4⟩ := hq
  exact ⟨.inl ⟨.bool true, .bool true, [], rfl, fun _ => rfl, .bool true, post_true l _, fun _ => ⟨List.Pairwise.nil, fun _ hm => (nomatch hm)⟩⟩, h2, h3, h4⟩
section
variable {prog : Program} {w : World} {A : Around} {E : Value → Shared → Prop} {s : Shared} {K : Frag}
end
end Att
namespace L2
open PySem PySem.Spec PyProof.Rows
theorem vals_ints : ∀ {vs : List Value} {ns : List Int}, IntsAre vs ns → Vals (ns.map V.int) vs
  | _, _, .nil => .nil
  | _, _, .cons n t h => .cons ⟨t, rfl⟩ (vals_ints h)
def Only (H : Hp) : Prop := ∀ b, H b = none ∨ ∃ o xs, H b = some (.frz o (.lst xs))
theorem law_call {P : Program} {w : World} {K : PySem.W.Frag} {mg mb : Str → Option Value} {CX : CXT} {k : Nat} {fa a : Addr} {fd : FuncData} {x : Str} {sp : Sp} {s₁ : Shared} {vs : List Value} {ns : List Int}
    (KX : K.In s₁.heap) (hns : s₁.heap.Ns mainGlobals mg) (hb : s₁.heap.Ns builtinsNs mb) (hbb : ∀ x : Str, x ≠ "__name__" → mb x = bootBuiltins x) (hlim : s₁.heap.NoLimit) (hg : s₁.gens = #[])
    (ha : s₁.heap.get? a = some { cls := .type "list", data := .seq vs.toArray }) (hi : IntsAre vs ns) (hl : ns.length ≤ sizeLine) (hr : Room k callerA)
    (F : ∀ base : Heap, K.In base → base.Ns mainGlobals mg → FnOk P w K mg base CX k fa fd [x] sp) (hbind : ∀ (s : Shared) (u : Value), BindsTo s fd ⟨[u], []⟩ [(x, u)])
    (hsp : ∀ H : Hp, Only H → SqL K H a (ns.map V.int) → sp [.ref a] H (fun v _ => v = .bl true) fun _ _ _ => False)
    (hCX : ∀ H e s', CX [] H s₁ (fun _ _ _ => False) e s' → False) :
    codeAny (model P w) callerA (.call (.ref fa) ⟨[.ref a], []⟩) (fun r s' => r = .ok (.ret (.bool true)) ∧ OldK s₁.heap s'.heap ∧ s'.os = s₁.os ∧ AllBare s'.gens) s₁ := by
  have rv := vals_ints hi
  have lenV := hi.length
  have core : ∀ H : Hp, Only H → SqL K H a (ns.map V.int) → HOk P w H s₁.heap → (∀ b, H b ≠ none → b = a) → (H a ≠ none → K.lookup a = none) →
      codeAny (model P w) callerA (.call (.ref fa) ⟨[.ref a], []⟩) (fun r s' => r = .ok (.ret (.bool true)) ∧ OldK s₁.heap s'.heap ∧ s'.os = s₁.os ∧ AllBare s'.gens) s₁ := by
    intro H hO hS hok hA hK
    have base_of : ∀ {b : Addr} {o : Obj}, s₁.heap.get? b = some o → H b = none → (hidT s₁.heap H).get? b = some o := fun e n => hidT_get e n
    have noA : ∀ {b : Addr} {o : Obj} {es : Array DictEntry} {ep : Nat}, s₁.heap.get? b = some o → o.data = .dict es ep → H b = none := fun {b o es ep} e d => by
      cases q : H b with
      | none => rfl
      | some u =>
        have e' : b = a := hA b (by rw [q]; simp)
        subst e'
        rw [ha] at e; cases e
        have d' : Data.seq vs.toArray _ = Data.dict es ep := d
        cases d'
    have nsK : ∀ {b : Addr} {m : Str → Option Value}, s₁.heap.Ns b m → (hidT s₁.heap H).Ns b m := fun {b m} ⟨o, es, ep, e, d, r⟩ => ⟨o, es, ep, base_of e (noA e d), d, r⟩
    have hKb : K.In (hidT s₁.heap H) := fun b o e => base_of (KX b o e) (by
      cases q : H b with
      | none => rfl
      | some u =>
        have e' : b = a := hA b (by rw [q]; simp)
        subst e'
        rw [hK (by rw [q]; simp)] at e; cases e)
    have hM : Mod K mg (hidT s₁.heap H) := ⟨hKb, nsK hns, ⟨mb, nsK hb, hbb⟩, let ⟨mc, h1, h2⟩ := hlim; ⟨mc, nsK h1, h2⟩⟩
    have e0 : Env0 P w K mg (hidT s₁.heap H) callerA [] s₁ H := ⟨rfl, hM, fun b o e => of_hidT e, Nat.le_of_eq (hidT_size _ _), trivial, fun b hb => absurd (show b ∈ ([] : List Addr) from hb) (by simp), hok, .of_eq hg⟩
    refine codeAny_mono ((F _ hKb (nsK hns)).run callerA [] s₁ H ⟨[.ref a], []⟩ [.ref a] [.ref a] _ _ hr e0 (hbind s₁ (.ref a)) (.cons rfl .nil) (hsp H hO hS)) fun r s' h => ?_
    cases r with
    | error e => exact (hCX H e s' h).elim
    | ok fl =>
      cases fl with
      | next => exact False.elim h
      | brk => exact False.elim h
      | cont => exact False.elim h
      | ret u =>
        obtain ⟨v, H', os, bare, un, hok', r', q⟩ := h
        have q' : v = .bl true := q
        subst q'
        obtain rfl : u = Value.bool true := r'
        refine ⟨rfl, OldK.of_keep fun b o e => ?_, os, bare⟩
        cases q : H b with
        | none => exact un.keep b o e q (by intro z; exact absurd (show b ∈ ([] : List Addr) from z) (by simp)) (by simp)
        | some u =>
          rcases hO b with z | ⟨ob, xs, z⟩
          · rw [q] at z; cases z
          · have z2 := un.frzs b ob _ z
            obtain ⟨e1, _⟩ := hok b _ z
            obtain ⟨e2, _⟩ := hok' b _ z2
            rw [e] at e1; cases e1
            exact e2
  cases hk : K.lookup a with
  | some o =>
    have e := KX a o hk
    rw [ha] at e
    cases e
    refine core (fun _ => none) (fun _ => .inl rfl) (.inr ⟨_, vs.toArray, _, hk, rfl, rfl, rfl, by rw [List.size_toArray, lenV]; exact hl, by simpa using rv⟩) (fun b u z => by have z' : (none : Option HO) = some u := z; cases z') (fun b z => absurd rfl z) fun z => absurd rfl z
  | none =>
    refine core (fun b => if b = a then some (.frz { cls := .type "list", data := .seq vs.toArray } (.lst (ns.map V.int))) else none) (fun b => ?_) (.inl (.inr ⟨{ cls := .type "list", data := .seq vs.toArray }, if_pos rfl⟩)) (fun b u z => ?_) (fun b z => ?_) fun _ => hk
    · by_cases hb : b = a
      · exact .inr ⟨_, _, if_pos hb⟩
      · exact .inl (if_neg hb)
    · by_cases hb : b = a
      · have z' := (if_pos hb).symm.trans z
        cases z'
        subst hb
        exact ⟨ha, by rw [List.length_map]; exact hl, vs, _, rv, ha⟩
      · have z' := (if_neg hb).symm.trans z
        cases z'
    · by_cases hb : b = a
      · exact hb
      · exact absurd (if_neg hb) z
end L2
namespace L2
open PySem PySem.Spec PyProof.Rows
abbrev KOf {K : PySem.W.Frag} {h : Heap} (_ : K.In h) : PySem.W.Frag := K
theorem walk_of {l : PySem.W.OpenLaw} {n k : Nat} {q : Program} {loose : List Str} {XP : (Str → Option Value) → Heap → Prop} {YP : World → Heap → Prop} {d : DefRec} {K : Params → PySem.W.Frag} {CX : World → CXT} {sp : World → Sp} {x : Str}
    (hn : l.most = some n) (hn2 : n ≤ sizeLine) (hdf : d.params.defaults = []) (hr : Room k callerA)
    (hY : ∀ (w : World) (h : Heap), YP w h → (K w.params).In h)
    (F : ∀ (w : World) (mg : Str → Option Value) (fa : Addr) (h : Heap), (K w.params).In h → h.Ns mainGlobals mg → mg d.name = some (.ref fa) →
      ∃ fd : FuncData, (∀ (s : Shared) (u : Value), BindsTo s fd ⟨[u], []⟩ [(x, u)]) ∧
        ∀ base : Heap, (K w.params).In base → base.Ns mainGlobals mg → FnOk l.prog w (K w.params) mg base (CX w) k fa fd [x] (sp w))
    (hsp : ∀ (w : World) (H : Hp) (a : Addr) (ns : List Int), ns.length ≤ n → Only H → SqL (K w.params) H a (ns.map V.int) → sp w [.ref a] H (fun v _ => v = .bl true) fun _ _ _ => False)
    (hCX : ∀ (w : World) (H : Hp) (s : Shared) (e : Value) (s' : Shared), CX w [] H s (fun _ _ _ => False) e s' → False) :
    PySem.W.WalkO q loose XP YP l.row.toRowW d [] (fun f vs => PySem.call f vs) := by
  refine Att.attach_call hn hdf fun w s₀ s₁ mg mb fa o pm cd doc a vs ns G Y ho hd hcd hmg hobj hints hlen hg => ?_
  have KX := hY w _ Y
  obtain ⟨fd, hb, hF⟩ := F w mg fa _ KX G.T.g hmg
  exact law_call KX G.T.g G.T.b G.T.builtins G.T.nolimit hg hobj hints (Nat.le_trans hlen hn2) hr hF hb (fun H hO hS => hsp w H a ns hlen hO hS) fun H e s' => hCX w H s₁ e s'
theorem walk_ofK {l : PySem.W.OpenLaw} {n k : Nat} {q : Program} {loose : List Str} {XP : (Str → Option Value) → Heap → Prop} {YP : World → Heap → Prop} {d : DefRec} {K : Params → PySem.W.Frag} {CX : CXT} {sp : PySem.W.Frag → Sp} {x : Str}
    (hn : l.most = some n) (hn2 : n ≤ sizeLine) (hdf : d.params.defaults = []) (hr : Room k callerA)
    (hY : ∀ (w : World) (h : Heap), YP w h → (K w.params).In h)
    (F : ∀ (w : World) (mg : Str → Option Value) (fa : Addr) (h : Heap), (K w.params).In h → h.Ns mainGlobals mg → mg d.name = some (.ref fa) →
      ∃ fd : FuncData, (∀ (s : Shared) (u : Value), BindsTo s fd ⟨[u], []⟩ [(x, u)]) ∧
        ∀ base : Heap, (K w.params).In base → base.Ns mainGlobals mg → FnOk l.prog w (K w.params) mg base CX k fa fd [x] (sp (K w.params)))
    (hsp : ∀ (K : PySem.W.Frag) (H : Hp) (a : Addr) (ns : List Int), ns.length ≤ n → Only H → SqL K H a (ns.map V.int) → sp K [.ref a] H (fun v _ => v = .bl true) fun _ _ _ => False)
    (hCX : ∀ (H : Hp) (s : Shared) (e : Value) (s' : Shared), CX [] H s (fun _ _ _ => False) e s' → False) :
    PySem.W.WalkO q loose XP YP l.row.toRowW d [] (fun f vs => PySem.call f vs) :=
  walk_of (K := K) (CX := fun _ => CX) (sp := fun w => sp (K w.params)) hn hn2 hdf hr hY F (fun w H a ns h1 h2 h3 => hsp (K w.params) H a ns h1 h2 h3) fun _ H s e s' => hCX H s e s'
end L2
namespace L2
open PySem PySem.Spec PyProof.Rows
def defArgs (s : Stmt) : Arguments := match s with
  | .FunctionDef _ a _ _ _ _ _ _ _ _ => a
  | _ => { posonlyargs := [], args := [], vararg := none, kwonlyargs := [], kw_defaults := [], kwarg := none, defaults := [] }
def defBody (s : Stmt) : List Stmt := match s with
  | .FunctionDef _ _ b _ _ _ _ _ _ _ => b
  | _ => []
def defScope (s : Stmt) : Scope := match s with
  | .FunctionDef _ _ _ _ _ _ sc _ _ _ => sc
  | _ => { kind := .function, names := [], isGenerator := false, isCoroutine := false }
abbrev CX0 : CXT := fun _ _ _ _ _ _ => False
abbrev E0 : XK := fun _ _ _ => False
theorem pass0 {X : Cx} : Passes CX0 X E0 := fun _ _ _ _ _ _ _ h => h.elim
structure Fun (K : PySem.W.Frag) (x qual : Str) (st : Stmt) (f : Addr) (fd : FuncData) : Prop where
  ex : ∃ (oc : Value) (od : Option Addr) (kV doc pm : Value) (an : Option Addr) (cdv ct : Value) (osl : Array (Option Value)),
    fd = PySem.W.fnOf x qual (defArgs st) (defBody st) (defScope st) .none kV doc pm an cdv ct ∧ K.lookup f = some ⟨oc, od, .func fd, osl⟩ ∧ PySem.W.codeIn K cdv qual = true
  kp : PySem.W.keepIn K (.ref f) = true
section
variable {P : Program} {w : World} {K : PySem.W.Frag} {mg : Str → Option Value} {base : Heap}
theorem Fun.ok {x qual : Str} {st : Stmt} {f : Addr} {fd : FuncData} {N ps : List Str} {k : Nat} {sp : Sp} (F : Fun K x qual st f fd) (S : FnScope N ps (defScope st)) (len : ∀ vs H Q E, sp vs H Q E → vs.length = ps.length)
    (hbody : ∀ (cdv : Value) (A : Around) (outer : List Env) (s : Shared) (H : Hp) (vs : List V) (Q : VK) (E : XK), Room k (A.deeper (envOfC qual (defScope st) s.heap.objs.size f cdv)) → sp vs H Q E →
      ∃ t, PSs (cxOf CX0 P w K mg base N qual (defScope st) f cdv A outer s H E).nox (defBody st) t ∧ t { nx := fun _ H' => Q .non H', rt := Q } (start N vs) H) : FnOk P w K mg base CX0 (k + 1) f fd ps sp := by
  obtain ⟨oc, od, kV, doc, pm, an, cdv, ct, osl, rfl, lk, hcd⟩ := F.ex
  refine fn_of lk hcd S len fun A outer s H vs Q E hr hsp => ?_
  obtain ⟨t, h, q⟩ := hbody cdv A outer s H vs Q E hr hsp
  exact ⟨t, h.nox, q⟩
theorem Fun.binds {x qual : Str} {st : Stmt} {f : Addr} {fd : FuncData} {ps : List Str} (F : Fun K x qual st f fd)
    (h : ∀ (kV doc pm : Value) (an : Option Addr) (cdv ct : Value) (us : List Value), us.length = ps.length → bindArgs (PySem.W.fnOf x qual (defArgs st) (defBody st) (defScope st) .none kV doc pm an cdv ct) ⟨us, []⟩ = pure (ps.zip us)) : Binds K fd ps [] := by
  obtain ⟨oc, od, kV, doc, pm, an, cdv, ct, osl, rfl, lk, hcd⟩ := F.ex
  exact .all (h kV doc pm an cdv ct)
theorem fun_mk {x qual : Str} {st : Stmt} {f : Addr} {oc : Value} {od an : Option Addr} {osl : Array (Option Value)} {kV doc pm cdv ct : Value} (l : K.lookup f = some ⟨oc, od, .func (PySem.W.fnOf x qual (defArgs st) (defBody st) (defScope st) .none kV doc pm an cdv ct), osl⟩)
    (c : PySem.W.codeIn K cdv qual = true) (k : PySem.W.keepIn K (.ref f) = true) : Fun K x qual st f (PySem.W.fnOf x qual (defArgs st) (defBody st) (defScope st) .none kV doc pm an cdv ct) := ⟨⟨oc, od, kV, doc, pm, an, cdv, ct, osl, rfl, l, c⟩, k⟩
end
section
variable {X : Cx}
end
def Same (H H' : Hp) : Prop := ∀ b o, H b = some o → H' b = some o
theorem Same.refl (H : Hp) : Same H H := fun _ _ h => h
theorem Same.trans {H H1 H2 : Hp} (a : Same H H1) (b : Same H1 H2) : Same H H2 := fun c o h => b c o (a c o h)
theorem Same.free {H H' : Hp} (e : Same H H') {l : Addr} (h : H' l = Option.none) : H l = Option.none := by
  cases q : H l with
  | none => rfl
  | some o =>
    rw [e l o q] at h
    cases h
theorem Same.seq {K : PySem.W.Frag} {H H' : Hp} {a : Addr} {xs : List V} (e : Same H H') (h : SqL K H a xs) : SqL K H' a xs := by
  rcases h with (h | ⟨o, h⟩) | h
  · exact .inl (.inl (e _ _ h))
  · exact .inl (.inr ⟨o, e _ _ h⟩)
  · exact .inr h
end L2
set_option Elab.async false
set_option linter.all false
set_option maxRecDepth 100000
namespace DL
open PySem PySem.Spec PySem.Calls PySem.W PyProof.Rows Builtin Builtin.ObjectAttr Builtin.Getset_descriptor
section
variable {prog : Program} {w : World} {A : Around} {E : Value → Shared → Prop} {h : Heap} {g : Array GenState} {d : Drawn} {t : Nat} {os : OsState} {a C : Addr} {o : Obj} {K : Frag}
structure ExcK (K : Frag) (C : Addr) : Prop where
  cls : findIn K (.ref C) "__class__" = some (some (.builtin "object.__class__"))
  ga : findIn K (.ref C) "__getattribute__" = some (some (.builtin "BaseException.__getattribute__"))
  gt : findIn K (.ref C) "__getattr__" = some none
  ob : mroIn K C (.type "object") = some true
  be : subIn K (.ref C) (.type "BaseException") = some true
theorem xc_get {R : Result → Shared → Prop} {tp : Value} (X : K.In h) (Z : ExcK K C) (hx : h.get? a = some o) (hc : o.cls = .ref C) (hq : R (.ok (.ret (.ref C))) ⟨h, g, d, t, os⟩) :
    codeAny (model prog w) A (.call (.builtin "getset_descriptor.__get__") ⟨[.builtin "object.__class__", .ref a, tp], []⟩) R ⟨h, g, d, t, os⟩ := by
  have L0 : Looks (model prog w) h (typeOf (.ref a)) (.ref C) := hc ▸ (Looks.ld hx).andThen .now
  have L1 := looks_mroIn (M := model prog w) X Z.ob
  refine codeAny_call_builtin KF.slot_gs.plain KF.entry_gs (KF.slot_gs.check _ _ _ _ _ _ _ _ KF.type_class (KF.args_gs _ _ _) ?_)
  unfold Builtin.«getset_descriptor.__get__» descrGet
  rw [dga_obj]
  refine wpAny_bind (wpAny_pure ?_)
  unfold descrGetter descrCheckInstance descrNameAndClass isInstance
  simp only [KF.owner_class]
  repeat lk
  refine ⟨Code.quiet_builtin _ (by decide +kernel), codeAny_builtin KF.entry_class ?_⟩
  unfold Builtin.«object.__class__» shownTypeOf
  repeat lk
  exact hq
theorem xc_check {M : Model} {nameV : Value} {Q : Unit → Shared → Prop} (X : K.In h) (Z : ExcK K C) (hx : h.get? a = some o) (hc : o.cls = .ref C) (hq : Q () ⟨h, g, d, t, os⟩) : wpAny M A (checkBuiltinCall "BaseException.__getattribute__" ⟨[.ref a, nameV], []⟩) Q E ⟨h, g, d, t, os⟩ := by
  have hk : builtinKind "BaseException.__getattribute__" = some .slot := by decide +kernel
  have hsplit : splitId "BaseException.__getattribute__" = some ("BaseException", "__getattribute__") := by decide +kernel
  have ha := F.args_bexc_ga (.ref a) nameV
  have LS : Looks M h (isSubtype (.ref C) (.type "BaseException")) true := looks_subIn X Z.be
  simp only [checkBuiltinCall, hk, hsplit]
  refine wpAny_bind ?_
  · unfold isInstance
    repeat (first | (with_reducible refine wpAny_loadPart_at hx ?_; rw [hc]) | (with_reducible refine LS.at ?_) | wp_step)
    exact hq
theorem xc_entry {tk : Tok} {Q : Fin → Shared → Prop} (X : K.In h) (Z : ExcK K C) (hx : h.get? a = some o) (hc : o.cls = .ref C) (hq : Q (.done (.ret (.ref C))) ⟨h, g, d, t, os⟩) :
    wpAny (model prog w) A (Builtin.«object.__getattribute__» ⟨[.ref a, .str "__class__" tk], []⟩) Q E ⟨h, g, d, t, os⟩ := by
  have hT5 : (⟨h, g, d, t, os⟩ : Shared).TypeIs (.builtin "object.__class__") "getset_descriptor" := F.typeOf_object_class
  have f5 := F.typeOf_object_class
  have f6 := F.slot_gs_get.lookup
  have f7 := F.slot_gs_set.lookup
  have LC : Looks (model prog w) h (typeLookup (.ref C) "__class__") (some (.builtin "object.__class__")) := looks_findIn X Z.cls
  repeat (any_goals (first | assumption | (with_reducible refine wpAny_loadPart_at hx ?_; rw [hc]) | (with_reducible refine LC.at ?_) | wp_step))
  refine xc_get X Z hx hc ?_
  repeat (any_goals (first | assumption | wp_step))
theorem xc_call {tk : Tok} {R : Result → Shared → Prop} (X : K.In h) (Z : ExcK K C) (hx : h.get? a = some o) (hc : o.cls = .ref C) (hq : R (.ok (.ret (.ref C))) ⟨h, g, d, t, os⟩) :
    codeAny (model prog w) A (.call (.builtin "BaseException.__getattribute__") ⟨[.ref a, .str "__class__" tk], []⟩) R ⟨h, g, d, t, os⟩ :=
  codeAny_call_builtin F.attr_ValueError.ga.plain F.entry_bexc_ga (xc_check X Z hx hc (xc_entry X Z hx hc hq))
theorem xc_by {tk : Tok} {Q : Value → Shared → Prop} (X : K.In h) (Z : ExcK K C) (hx : h.get? a = some o) (hc : o.cls = .ref C) (hq : Q (.ref C) ⟨h, g, d, t, os⟩) :
    wpAny (model prog w) A (getAttrBy (.ref a) (.str "__class__" tk) false) Q E ⟨h, g, d, t, os⟩ := by
  have f3 := F.attr_ValueError.ga.bind (.ref a)
  have hx2 : (Value.builtin "BaseException.__getattribute__" == Value.builtin "object.__getattribute__") = false := by decide +kernel
  have hx1 : (onTheHeap (Value.ref C) && Value.builtin "BaseException.__getattribute__" == Value.builtin "object.__getattribute__") = false := by rw [hx2]; rfl
  have L1 : Looks (model prog w) h (typeLookup (.ref C) "__getattribute__") (some (.builtin "BaseException.__getattribute__")) := looks_findIn X Z.ga
  have L2 : Looks (model prog w) h (typeLookup (.ref C) "__getattr__") none := looks_findIn X Z.gt
  repeat (any_goals (first | assumption | (with_reducible refine wpAny_loadPart_at hx ?_; rw [hc]) | (with_reducible refine L1.at ?_) | (with_reducible refine L2.at ?_) | wp_step))
  refine xc_call X Z hx hc ?_
  repeat (any_goals (first | assumption | wp_step))
theorem xc_attr {Q : Option Value → Shared → Prop} (X : K.In h) (Z : ExcK K C) (hx : h.get? a = some o) (hc : o.cls = .ref C) (hq : Q (some (.ref C)) ⟨h, g, d, t + 1, os⟩) : wpAny (model prog w) A (getAttr? (.ref a) "__class__") Q E ⟨h, g, d, t, os⟩ := by
  unfold getAttr? getAttrBy?
  repeat (any_goals (first | assumption | with_reducible apply xc_by X Z hx hc | wp_step))
end
def ExAt (a C : Addr) : Heap → Prop := fun h => ∃ o vs, h.get? a = some o ∧ o.cls = .ref C ∧ o.data = .fields vs
theorem kitx_exc {K : Frag} {a C : Addr} (Z : ExcK K C) (hC : (clsIn K C).isSome = true) : KitX K (.ref a) (.ref C) (ExAt a C) where
  ty := fun _ _ _ ⟨o, _, h1, h2, _⟩ => h2 ▸ (Looks.ld h1).andThen .now
  it := fun _ _ X _ => by
    obtain ⟨cd, hcD⟩ := Option.isSome_iff_exists.mp hC
    unfold clsIn at hcD
    split at hcD
    · rename_i c' d' cd' sl' ho
      intro A' Q' E' s' k q
      unfold isType loadHead
      exact wpAny_bind (wpAny_loadPart (k _ _ (X _ _ ho)) (wpAny_pure q))
    · cases hcD
  ne := fun h tp dd its n sl X htp => by
    obtain ⟨cd, hcD⟩ := Option.isSome_iff_exists.mp hC
    refine Bool.eq_false_iff.mpr fun q => ?_
    have e : C = tp := Value.ref.inj (beq_iff_eq.mp q)
    subst e
    unfold clsIn at hcD
    split at hcD
    · rename_i c' d' cd' sl' ho
      have z := (X _ _ ho).symm.trans htp
      cases z
    · cases hcD
  ca := fun {_ _ _ _ _ s} X ⟨o, _, h1, h2, _⟩ k => by
    obtain ⟨h, g, d, t, os⟩ := s
    exact xc_attr X Z h1 h2 k
theorem ExcK.isCls {K : Frag} {C : Addr} (Z : ExcK K C) : (clsIn K C).isSome = true := by
  obtain ⟨cd, a, b⟩ := Option.bind_eq_some_iff.mp Z.ob
  rw [a]; rfl
def bltTys : List String := ["NoneType", "bool", "int", "str", "tuple", "list", "dict"]
structure XC (K : Frag) (x : Str) (C : Addr) : Prop where
  ns : nsIn K mainGlobals x = some (some (.ref C))
  ek : ExcK K C
  bt : ∀ T ∈ bltTys, kitOne K (.ref C) (.type T) = some false
end DL
set_option Elab.async false
set_option linter.all false
set_option maxRecDepth 100000
namespace L2
open PySem PySem.Spec PyProof.Rows
section
variable {κ : Type} [DecidableEq κ]
def valV (kvs : List (κ × V)) (k : κ) : Option V := (kvs.find? fun kv => decide (kv.1 = k)).map (·.2)
def putK (kvs : List (κ × V)) (k : κ) (v : V) : List (κ × V) :=
  if (kvs.any fun kv => decide (kv.1 = k)) = true then kvs.map (fun kv => if kv.1 = k then (kv.1, v) else kv) else kvs ++ [(k, v)]
def dropK (kvs : List (κ × V)) (k : κ) : List (κ × V) := kvs.filter fun kv => decide (kv.1 ≠ k)
theorem valV_pos {p : κ × V} {r : List (κ × V)} {k : κ} (e : p.1 = k) : valV (p :: r) k = some p.2 := by simp [valV, List.find?_cons, e]
theorem valV_neg {p : κ × V} {r : List (κ × V)} {k : κ} (e : ¬ p.1 = k) : valV (p :: r) k = valV r k := by simp [valV, List.find?_cons, e]
theorem valV_any (k : κ) : ∀ kvs : List (κ × V), (kvs.any fun kv => decide (kv.1 = k)) = (valV kvs k).isSome
  | [] => rfl
  | p :: r => by
    rw [List.any_cons]
    by_cases e : p.1 = k
    · simp only [valV_pos e, decide_eq_true e, Bool.true_or, Option.isSome_some]
    · rw [valV_neg e, decide_eq_false e, Bool.false_or]; exact valV_any k r
theorem RelO.isSome_eq {o : Option V} {u : Option Value} (r : RelO o u) : o.isSome = u.isSome := by
  cases o with
  | none => cases u with
    | none => rfl
    | some _ => exact (show False from r).elim
  | some _ => cases u with
    | none => exact (show False from r).elim
    | some _ => rfl
theorem RelO.getD {o : Option V} {u : Option Value} {d : V} {d' : Value} (r : RelO o u) (rd : RelV d d') : RelV (o.getD d) (u.getD d') := by
  cases o with
  | none => cases u with
    | none => exact rd
    | some _ => exact (show False from r).elim
  | some _ => cases u with
    | none => exact (show False from r).elim
    | some _ => exact r
theorem KV.val {kvs : List (κ × V)} {vs : List (κ × Value)} (r : KV kvs vs) (k : κ) : RelO (valV kvs k) (valueAt vs k) := by
  unfold KV at r
  induction r with
  | nil => exact True.intro
  | @cons p q ps qs h t ih =>
    obtain ⟨h1, h2⟩ := h
    by_cases e : p.1 = k
    · have e' : q.1 = k := h1.symm.trans e
      have b : valueAt (q :: qs) k = some q.2 := by simp [valueAt, List.find?_cons, e']
      rw [valV_pos e, b]; exact h2
    · have e' : ¬ q.1 = k := fun z => e (h1.trans z)
      have b : valueAt (q :: qs) k = valueAt qs k := by simp [valueAt, List.find?_cons, e']
      rw [valV_neg e, b]; exact ih
theorem KV.any {kvs : List (κ × V)} {vs : List (κ × Value)} (r : KV kvs vs) (k : κ) : (kvs.any fun kv => decide (kv.1 = k)) = vs.any fun kv => decide (kv.1 = k) := by
  unfold KV at r
  induction r with
  | nil => rfl
  | cons h t ih => rw [List.any_cons, List.any_cons, ih, h.1]
theorem KV.repl {kvs : List (κ × V)} {vs : List (κ × Value)} (r : KV kvs vs) (k : κ) {y : V} {u : Value} (ry : RelV y u) :
    KV (kvs.map fun kv => if kv.1 = k then (kv.1, y) else kv) (vs.map fun kv => if kv.1 = k then (kv.1, u) else kv) := by
  unfold KV at r ⊢
  induction r with
  | nil => exact .nil
  | @cons p q ps qs h t ih =>
    rw [List.map_cons, List.map_cons]
    refine .cons ?_ ih
    obtain ⟨h1, h2⟩ := h
    by_cases e : p.1 = k
    · rw [if_pos e, if_pos (h1.symm.trans e)]; exact ⟨h1, ry⟩
    · rw [if_neg e, if_neg (fun z => e (h1.trans z))]; exact ⟨h1, h2⟩
theorem KV.put {kvs : List (κ × V)} {vs : List (κ × Value)} (r : KV kvs vs) (k : κ) {y : V} {u : Value} (ry : RelV y u) : KV (putK kvs k y) (stored vs k u) := by
  unfold putK stored
  rw [r.any k]
  by_cases e : (vs.any fun kv => decide (kv.1 = k)) = true
  · rw [if_pos e, if_pos e]; exact r.repl k ry
  · rw [if_neg e, if_neg e]; exact Paired.snoc r ⟨rfl, ry⟩
theorem KV.drop {kvs : List (κ × V)} {vs : List (κ × Value)} (r : KV kvs vs) (k : κ) : KV (dropK kvs k) (without vs k) := by
  unfold KV at r ⊢
  unfold dropK without
  induction r with
  | nil => exact .nil
  | @cons p q ps qs h t ih =>
    obtain ⟨h1, h2⟩ := h
    rw [List.filter_cons, List.filter_cons]
    by_cases e : p.1 = k
    · have a : ¬ decide (p.1 ≠ k) = true := by simp [e]
      have b : ¬ decide (q.1 ≠ k) = true := by simp [h1.symm.trans e]
      rw [if_neg a, if_neg b]; exact ih
    · have e' : ¬ q.1 = k := fun z => e (h1.trans z)
      have a : decide (p.1 ≠ k) = true := by simp [e]
      have b : decide (q.1 ≠ k) = true := by simp [e']
      rw [if_pos a, if_pos b]; exact .cons ⟨h1, h2⟩ ih
theorem KV.keys {kvs : List (κ × V)} {vs : List (κ × Value)} (r : KV kvs vs) : kvs.map (·.1) = vs.map (·.1) := by
  unfold KV at r
  induction r with
  | nil => rfl
  | cons h t ih => rw [List.map_cons, List.map_cons, ih, h.1]
theorem KV.length {kvs : List (κ × V)} {vs : List (κ × Value)} (r : KV kvs vs) : kvs.length = vs.length := Paired.length r
end
abbrev KT (H : Hp) : List (List Key × V) → List (List Key × Addr × Value) → Prop := Paired fun p q => p.1 = q.1 ∧ H q.2.1 = some (.tup (p.1.map kV)) ∧ RelV p.2 q.2.2
theorem KT.val {H : Hp} {kvs : List (List Key × V)} {xs : List (List Key × Addr × Value)} (r : KT H kvs xs) (k : List Key) : RelO (valV kvs k) ((atKey xs k).map (·.2)) := by
  induction r with
  | nil => exact True.intro
  | @cons p q ps qs h t ih =>
    obtain ⟨h1, _, h2⟩ := h
    by_cases e : p.1 = k
    · have e' : q.1 = k := h1.symm.trans e
      have b : atKey (q :: qs) k = some q.2 := by simp [atKey, List.find?_cons, e']
      rw [valV_pos e, b]; exact h2
    · have e' : ¬ q.1 = k := fun z => e (h1.trans z)
      have b : atKey (q :: qs) k = atKey qs k := by simp [atKey, List.find?_cons, e']
      rw [valV_neg e, b]; exact ih
theorem KT.repl {H : Hp} {kvs : List (List Key × V)} {xs : List (List Key × Addr × Value)} (r : KT H kvs xs) (k : List Key) {y : V} {u : Value} (ry : RelV y u) :
    KT H (kvs.map fun kv => if kv.1 = k then (kv.1, y) else kv) (xs.map (putAt k u)) := by
  induction r with
  | nil => exact .nil
  | @cons p q ps qs h t ih =>
    rw [List.map_cons, List.map_cons]
    refine .cons ?_ ih
    obtain ⟨h1, h2, h3⟩ := h
    unfold putAt
    by_cases e : p.1 = k
    · rw [if_pos e, if_pos (h1.symm.trans e)]; exact ⟨h1, h2, ry⟩
    · rw [if_neg e, if_neg (fun z => e (h1.trans z))]; exact ⟨h1, h2, h3⟩
theorem KT.put {H : Hp} {kvs : List (List Key × V)} {xs : List (List Key × Addr × Value)} (r : KT H kvs xs) (k : List Key) {b : Addr} {y : V} {u : Value} (hb : H b = some (.tup (k.map kV))) (ry : RelV y u) :
    KT H (putK kvs k y) (storedH xs k b u) := by
  have e : (kvs.any fun kv => decide (kv.1 = k)) = (atKey xs k).isSome := by
    rw [valV_any, (r.val k).isSome_eq, Option.isSome_map]
  unfold putK storedH
  rw [e]
  by_cases q : (atKey xs k).isSome = true
  · rw [if_pos q, if_pos q]; exact r.repl k ry
  · rw [if_neg q, if_neg q]; exact Paired.snoc r ⟨rfl, hb, ry⟩
theorem KT.keeps {H H' : Hp} {kvs : List (List Key × V)} {xs : List (List Key × Addr × Value)} (r : KT H kvs xs) (ht : ∀ b ys, H b = some (.tup ys) → H' b = some (.tup ys)) : KT H' kvs xs :=
  Paired.mapP r fun _ _ z => ⟨z.1, ht _ _ z.2.1, z.2.2⟩
section
variable {P : Program} {w : World} {H : Hp} {h : Heap} {a : Addr}
end
def DGet (H : Hp) (a : Addr) (y : V) (r : Option V) : Prop :=
  (∃ kvs k, Rd H a (.dK kvs) ∧ y = kV k ∧ r = valV kvs k) ∨ ∃ kvs k b, Rd H a (.dT kvs) ∧ y = .ref b ∧ H b = some (.tup (k.map kV)) ∧ r = valV kvs k
def DPut (H : Hp) (a : Addr) (y v : V) (H' : Hp) : Prop :=
  (∃ kvs k, H a = some (.dK kvs) ∧ y = kV k ∧ kvs.length < sizeLine ∧ H' = upd H a (.dK (putK kvs k v))) ∨
  ∃ kvs k b, H a = some (.dT kvs) ∧ y = .ref b ∧ H b = some (.tup (k.map kV)) ∧ kvs.length < sizeLine ∧ H' = upd H a (.dT (putK kvs k v))
theorem DGet.k {H : Hp} {a : Addr} {kvs : List (Key × V)} {k : Key} (e : H a = some (.dK kvs)) : DGet H a (kV k) (valV kvs k) := .inl ⟨kvs, k, .inl e, rfl, rfl⟩
theorem DGet.t {H : Hp} {a b : Addr} {kvs : List (List Key × V)} {k : List Key} (e : H a = some (.dT kvs)) (eb : H b = some (.tup (k.map kV))) : DGet H a (.ref b) (valV kvs k) := .inr ⟨kvs, k, b, .inl e, rfl, eb, rfl⟩
theorem DPut.k {H : Hp} {a : Addr} {kvs : List (Key × V)} {k : Key} {v : V} (e : H a = some (.dK kvs)) (hl : kvs.length < sizeLine) : DPut H a (kV k) v (upd H a (.dK (putK kvs k v))) := .inl ⟨kvs, k, e, rfl, hl, rfl⟩
theorem DPut.t {H : Hp} {a b : Addr} {kvs : List (List Key × V)} {k : List Key} {v : V} (e : H a = some (.dT kvs)) (eb : H b = some (.tup (k.map kV))) (hl : kvs.length < sizeLine) :
    DPut H a (.ref b) v (upd H a (.dT (putK kvs k v))) := .inr ⟨kvs, k, b, e, rfl, eb, hl, rfl⟩
section
variable {X : Cx} {pins : List (Addr × Obj)} {σ : St} {H : Hp} {s : Shared} {a : Addr} {y v : V} {u r : Value} {o : Option V} {A : Around} {E : Value → Shared → Prop}
end
section
variable {X : Cx} {pins : List (Addr × Obj)} {σ : St} {H : Hp} {s : Shared} {a : Addr} {kvs : List (Key × V)} {k : Key} {u : Value} {A : Around} {E : Value → Shared → Prop}
end
section
variable {X : Cx} {o i e value : Expr} {pos pos' tpos : Pos} {td ty tv : TE}
end
section
variable {X : Cx} {pos : Pos}
end
structure M1 (X : Cx) (o : Expr) (m : Str) (apos : Pos) (e : Expr) (cpos : Pos) : Prop where
  base : attributeBase o m X.env (eval o X.env) = eval o X.env
  few : ((backTo cpos (starEach [e] X.env)).all (fun x => !x.1) && (backToKw cpos (keywordEach [] X.env)).all (fun x => x.1.isSome)
    && decide (([e] : List Expr).length + ([] : List Keyword).length + (if ([] : List Keyword).isEmpty then 0 else 1) < 30)) = true
  line : (apos.endLine == cpos.line) = true
  trees : backTo cpos (starEach [e] X.env) = [(false, eval e X.env)]
structure M2 (X : Cx) (o : Expr) (m : Str) (apos : Pos) (e f : Expr) (cpos : Pos) : Prop where
  base : attributeBase o m X.env (eval o X.env) = eval o X.env
  few : ((backTo cpos (starEach [e, f] X.env)).all (fun x => !x.1) && (backToKw cpos (keywordEach [] X.env)).all (fun x => x.1.isSome)
    && decide (([e, f] : List Expr).length + ([] : List Keyword).length + (if ([] : List Keyword).isEmpty then 0 else 1) < 30)) = true
  line : (apos.endLine == cpos.line) = true
  trees : backTo cpos (starEach [e, f] X.env) = [(false, eval e X.env), (false, eval f X.env)]
section
variable {X : Cx} {pins : List (Addr × Obj)} {σ : St} {H : Hp} {s : Shared} {a : Addr} {y d : V} {u r : Value} {o : Option V} {A : Around} {E : Value → Shared → Prop}
end
section
variable {X : Cx} {o e f : Expr} {apos cpos : Pos} {td ty tx : TE}
end
section
variable {X : Cx} {pins : List (Addr × Obj)} {σ : St} {H : Hp} {s : Shared} {a : Addr} {kvs : List (Key × V)} {A : Around} {E : Value → Shared → Prop}
end
section
variable {X : Cx} {pins : List (Addr × Obj)} {σ : St} {H : Hp} {s : Shared} {a : Addr} {y : V} {u : Value} {A : Around} {E : Value → Shared → Prop}
end
end L2
set_option Elab.async false
set_option linter.all false
set_option maxRecDepth 100000
namespace DL
open PySem PySem.Spec PyProof.Rows L2
def nst : Expr → Bool
  | .Starred _ _ => false
  | _ => true
theorem star_cons {e : Expr} {es : List Expr} {env : PySem.Env} (h : nst e = true) : starEach (e :: es) env = (false, eval e env) :: starEach es env := by
  cases e <;> first | (rw [starEach]; intros; contradiction) | rw [starEach] | (cases h)
theorem star_one {e : Expr} {env : PySem.Env} (h : nst e = true) : starEach [e] env = [(false, eval e env)] := by
  rw [star_cons h, starEach]
theorem any_star {env : PySem.Env} {pos : Pos} : ∀ {es : List Expr}, es.all nst = true → (backTo pos (starEach es env)).any (·.1) = false
  | [], _ => by rw [starEach]; rfl
  | e :: es, h => by
    rw [List.all_cons, Bool.and_eq_true] at h
    rw [star_cons h.1]
    have := any_star (env := env) (pos := pos) h.2
    show (false || (backTo pos (starEach es env)).any (·.1)) = false
    rw [this]; rfl
theorem few_star {e : Expr} {env : PySem.Env} {pos : Pos} (h : nst e = true) : ((backTo pos (starEach [e] env)).all (fun x => !x.1) && (backToKw pos (keywordEach [] env)).all (fun x => x.1.isSome)
      && decide ([e].length + ([] : List Keyword).length + (if ([] : List Keyword).isEmpty then 0 else 1) < 30)) = true := by
  rw [star_one h, keywordEach]; rfl
inductive D where
  | non | bl (b : Bool) | int (i : Int) | str (x : Str) | tup (xs : List D) | lst (xs : List D) | dic (ks : List Str) (xs : List D) | exc (x : Str)
structure Exn where
  cls : Str
  flds : List (Str × D)
inductive Res (α : Type) where
  | ok (a : α) | exn (x : Exn) | stuck
def Res.bind {α β : Type} (r : Res α) (f : α → Res β) : Res β := match r with
  | .ok a => f a
  | .exn x => .exn x
  | .stuck => .stuck
mutual
def Rep (K : PySem.W.Frag) (H : Hp) : D → V → Prop
  | .non, v => v = .non
  | .bl b, v => v = .bl b
  | .int i, v => v = .int i
  | .str x, v => v = .str x
  | .tup ds, v => ∃ a vs, v = .ref a ∧ SqT K H a vs ∧ Reps K H ds vs
  | .lst ds, v => ∃ a vs, v = .ref a ∧ SqL K H a vs ∧ Reps K H ds vs
  | .dic ks ds, v => ∃ a kvs vs, v = .ref a ∧ Rd H a (.dK kvs) ∧ kvs = (ks.map Sum.inr).zip vs ∧ ks.length = vs.length ∧ Reps K H ds vs
  | .exc x, v => ∃ a C, v = .ref a ∧ XC K x C ∧ Rd H a (.ext (ExAt a C))
def Reps (K : PySem.W.Frag) (H : Hp) : List D → List V → Prop
  | [], vs => vs = []
  | d :: ds, vs => ∃ v r, vs = v :: r ∧ Rep K H d v ∧ Reps K H ds r
end
theorem Same.rd {H H' : Hp} (e : Same H H') {a : Addr} {o : HO} (h : Rd H a o) : Rd H' a o := by
  rcases h with h | ⟨o', h⟩
  · exact .inl (e _ _ h)
  · exact .inr ⟨o', e _ _ h⟩
theorem Same.sqT {K : PySem.W.Frag} {H H' : Hp} (e : Same H H') {a : Addr} {xs : List V} (h : SqT K H a xs) : SqT K H' a xs := by
  rcases h with h | h
  · exact .inl (Same.rd e h)
  · exact .inr h
theorem Same.sqL {K : PySem.W.Frag} {H H' : Hp} (e : Same H H') {a : Addr} {xs : List V} (h : SqL K H a xs) : SqL K H' a xs := by
  rcases h with h | h
  · exact .inl (Same.rd e h)
  · exact .inr h
mutual
theorem Rep.mono {K : PySem.W.Frag} {H H' : Hp} (e : Same H H') : ∀ {d : D} {v : V}, Rep K H d v → Rep K H' d v
  | .non, _, h => by unfold Rep at h ⊢; exact h
  | .bl _, _, h => by unfold Rep at h ⊢; exact h
  | .int _, _, h => by unfold Rep at h ⊢; exact h
  | .str _, _, h => by unfold Rep at h ⊢; exact h
  | .tup ds, _, h => by
    unfold Rep at h ⊢
    obtain ⟨a, vs, e1, e2, e3⟩ := h
    exact ⟨a, vs, e1, Same.sqT e e2, Reps.mono e e3⟩
  | .lst ds, _, h => by
    unfold Rep at h ⊢
    obtain ⟨a, vs, e1, e2, e3⟩ := h
    exact ⟨a, vs, e1, Same.sqL e e2, Reps.mono e e3⟩
  | .dic ks ds, _, h => by
    unfold Rep at h ⊢
    obtain ⟨a, kvs, vs, e1, e2, e3, e4, e5⟩ := h
    exact ⟨a, kvs, vs, e1, Same.rd e e2, e3, e4, Reps.mono e e5⟩
  | .exc x, _, h => by
    unfold Rep at h ⊢
    obtain ⟨a, C, e1, e2, e3⟩ := h
    exact ⟨a, C, e1, e2, Same.rd e e3⟩
theorem Reps.mono {K : PySem.W.Frag} {H H' : Hp} (e : Same H H') : ∀ {ds : List D} {vs : List V}, Reps K H ds vs → Reps K H' ds vs
  | [], _, h => by unfold Reps at h ⊢; exact h
  | d :: ds, _, h => by
    unfold Reps at h ⊢
    obtain ⟨v, r, e1, e2, e3⟩ := h
    exact ⟨v, r, e1, Rep.mono e e2, Reps.mono e e3⟩
end
section
variable {K : PySem.W.Frag} {H : Hp} {v : V} {vs : List V} {d : D} {ds : List D}
theorem Rep.non_iff : Rep K H .non v ↔ v = .non := by unfold Rep; exact Iff.rfl
theorem Rep.bl_iff {b} : Rep K H (.bl b) v ↔ v = .bl b := by unfold Rep; exact Iff.rfl
theorem Rep.int_iff {i} : Rep K H (.int i) v ↔ v = .int i := by unfold Rep; exact Iff.rfl
theorem Rep.str_iff {x} : Rep K H (.str x) v ↔ v = .str x := by unfold Rep; exact Iff.rfl
theorem Rep.tup_iff : Rep K H (.tup ds) v ↔ ∃ a vs, v = .ref a ∧ SqT K H a vs ∧ Reps K H ds vs := by rw [Rep]
theorem Rep.lst_iff : Rep K H (.lst ds) v ↔ ∃ a vs, v = .ref a ∧ SqL K H a vs ∧ Reps K H ds vs := by rw [Rep]
theorem Rep.exc_iff {x} : Rep K H (.exc x) v ↔ ∃ a C, v = .ref a ∧ XC K x C ∧ Rd H a (.ext (ExAt a C)) := by rw [Rep]
theorem Reps.nil_iff : Reps K H [] vs ↔ vs = [] := by unfold Reps; exact Iff.rfl
theorem Reps.cons_iff : Reps K H (d :: ds) vs ↔ ∃ v r, vs = v :: r ∧ Rep K H d v ∧ Reps K H ds r := by rw [Reps]
theorem Reps.nil : Reps K H [] [] := Reps.nil_iff.mpr rfl
theorem Reps.cons (h : Rep K H d v) (h' : Reps K H ds vs) : Reps K H (d :: ds) (v :: vs) := Reps.cons_iff.mpr ⟨_, _, rfl, h, h'⟩
end
theorem Reps.length {K : PySem.W.Frag} {H : Hp} : ∀ {ds : List D} {vs : List V}, Reps K H ds vs → ds.length = vs.length
  | [], _, h => by rw [Reps.nil_iff.mp h]; rfl
  | d :: ds, _, h => by
    obtain ⟨v, r, rfl, _, h⟩ := Reps.cons_iff.mp h
    simp [Reps.length h]
theorem Reps.get {K : PySem.W.Frag} {H : Hp} : ∀ {ds : List D} {vs : List V} {i : Nat} {d : D}, Reps K H ds vs → ds[i]? = some d → ∃ v, vs[i]? = some v ∧ Rep K H d v
  | [], _, _, _, h, e => by simp at e
  | x :: ds, _, 0, d, h, e => by
    obtain ⟨v, r, rfl, h1, _⟩ := Reps.cons_iff.mp h
    simp at e; subst e; exact ⟨v, rfl, h1⟩
  | x :: ds, _, i + 1, d, h, e => by
    obtain ⟨v, r, rfl, _, h2⟩ := Reps.cons_iff.mp h
    obtain ⟨u, e1, e2⟩ := Reps.get (i := i) h2 (by simpa using e)
    exact ⟨u, by simpa using e1, e2⟩
theorem Reps.app {K : PySem.W.Frag} {H : Hp} : ∀ {ds es : List D} {vs us : List V}, Reps K H ds vs → Reps K H es us → Reps K H (ds ++ es) (vs ++ us)
  | [], _, _, _, h, h' => by rw [Reps.nil_iff.mp h]; exact h'
  | d :: ds, _, _, _, h, h' => by
    obtain ⟨v, r, rfl, h1, h2⟩ := Reps.cons_iff.mp h
    exact Reps.cons h1 (Reps.app h2 h')
theorem Reps.take {K : PySem.W.Frag} {H : Hp} : ∀ {ds : List D} {vs : List V} (n : Nat), Reps K H ds vs → Reps K H (ds.take n) (vs.take n)
  | _, _, 0, _ => by simp; exact Reps.nil
  | [], _, n + 1, h => by rw [Reps.nil_iff.mp h]; exact Reps.nil
  | d :: ds, _, n + 1, h => by
    obtain ⟨v, r, rfl, h1, h2⟩ := Reps.cons_iff.mp h
    exact Reps.cons h1 (Reps.take n h2)
theorem Reps.drop {K : PySem.W.Frag} {H : Hp} : ∀ {ds : List D} {vs : List V} (n : Nat), Reps K H ds vs → Reps K H (ds.drop n) (vs.drop n)
  | _, _, 0, h => by simpa using h
  | [], _, n + 1, h => by rw [Reps.nil_iff.mp h]; exact Reps.nil
  | d :: ds, _, n + 1, h => by
    obtain ⟨v, r, rfl, h1, h2⟩ := Reps.cons_iff.mp h
    exact Reps.drop n h2
theorem Reps.set {K : PySem.W.Frag} {H : Hp} {d : D} {v : V} (h : Rep K H d v) : ∀ {ds : List D} {vs : List V} (n : Nat), Reps K H ds vs → Reps K H (ds.set n d) (vs.set n v)
  | [], _, n, h' => by rw [Reps.nil_iff.mp h']; exact Reps.nil
  | x :: ds, _, 0, h' => by
    obtain ⟨v, r, rfl, h1, h2⟩ := Reps.cons_iff.mp h'
    exact Reps.cons h h2
  | x :: ds, _, n + 1, h' => by
    obtain ⟨v, r, rfl, h1, h2⟩ := Reps.cons_iff.mp h'
    exact Reps.cons h1 (Reps.set h n h2)
theorem Reps.ints {K : PySem.W.Frag} {H : Hp} : ∀ (ns : List Int), Reps K H (ns.map D.int) (ns.map V.int)
  | [] => Reps.nil
  | n :: r => Reps.cons (Rep.int_iff.mpr rfl) (Reps.ints r)
structure Grow (H H₀ H' H₀' : Hp) : Prop where
  s : Same H H'
  z : Same H₀ H₀'
  sub : Same H₀' H'
  nw : ∀ a, H₀' a ≠ none → H₀ a = none → H a = none
theorem Grow.refl {H H₀ : Hp} (h : Same H₀ H) : Grow H H₀ H H₀ := ⟨Same.refl _, Same.refl _, h, fun a h1 h2 => absurd h2 h1⟩
theorem Grow.trans {H H₀ H1 H01 H2 H02 : Hp} (a : Grow H H₀ H1 H01) (b : Grow H1 H01 H2 H02) : Grow H H₀ H2 H02 :=
  ⟨a.s.trans b.s, a.z.trans b.z, b.sub, fun x h1 h2 => by
    cases q : H01 x with
    | none => exact a.s.free (b.nw x h1 q)
    | some o => exact a.nw x (by rw [q]; simp) h2⟩
theorem Grow.alloc {H H₀ : Hp} {p : Addr} {o : HO} (hs : Same H₀ H) (hp : H p = none) : Grow H H₀ (upd H p o) (upd H₀ p o) :=
  ⟨same_new hp o, same_new (hs.free hp) o, fun b u e => by
    by_cases hb : b = p
    · subst hb; rw [upd_same] at e ⊢; exact e
    · rw [upd_ne hb] at e ⊢; exact hs _ _ e, fun a h1 h2 => by
    by_cases hb : a = p
    · subst hb; exact hp
    · rw [upd_ne hb] at h1; exact absurd h2 h1⟩
where
  same_new {H : Hp} {p : Addr} (h : H p = none) (o : HO) : Same H (upd H p o) := fun b u q => by rw [upd_ne (ne_of_none q h)]; exact q
inductive Sl where
  | no | sh (d : D) | ow (d : D)
abbrev Ev := List Sl
def Reads (K : PySem.W.Frag) (H₀ : Hp) (σ : L2.St) (ρ : Ev) : Prop := ∀ (i : Nat) (d : D), ρ[i]? = some (.sh d) → ∃ v, σ[i]? = some (some v) ∧ Rep K H₀ d v
theorem Reads.mono {K : PySem.W.Frag} {H H' : Hp} {σ : L2.St} {ρ : Ev} (e : Same H H') (r : Reads K H σ ρ) : Reads K H' σ ρ := fun i d h =>
  let ⟨v, h1, h2⟩ := r i d h
  ⟨v, h1, h2.mono e⟩
def ExR (K : PySem.W.Frag) (H : Hp) (x : Exn) (C : Value) (ox : Option Addr) : Prop :=
  (∃ c, C = .ref c ∧ XC K x.cls c) ∧ match ox with
    | none => x.flds = []
    | some a => ∃ fs, H a = some (.xd fs) ∧ ∀ n d, x.flds.lookup n = some d → ∃ v, fs.lookup n = some v ∧ Rep K H d v
def post (K : PySem.W.Frag) (E : XK) (H H₀ : Hp) (r : Res D) (Q : VK) : Prop := match r with
  | .ok d => ∀ v H' H₀', Grow H H₀ H' H₀' → Rep K H₀' d v → Q v H'
  | .exn x => ∀ C ox H' H₀', Grow H H₀ H' H₀' → ExR K H₀' x C ox → E C ox H'
  | .stuck => False
def posts (K : PySem.W.Frag) (E : XK) (H H₀ : Hp) (r : Res (List D)) (Q : List V → Hp → Prop) : Prop := match r with
  | .ok ds => ∀ vs H' H₀', Grow H H₀ H' H₀' → Reps K H₀' ds vs → Q vs H'
  | .exn x => ∀ C ox H' H₀', Grow H H₀ H' H₀' → ExR K H₀' x C ox → E C ox H'
  | .stuck => False
def postT (K : PySem.W.Frag) (E : XK) (H H₀ : Hp) (r : Res D) (Q : Bool → Hp → Prop) : Prop := match r with
  | .ok (.bl b) => ∀ H' H₀', Grow H H₀ H' H₀' → Q b H'
  | .ok _ => False
  | .exn x => ∀ C ox H' H₀', Grow H H₀ H' H₀' → ExR K H₀' x C ox → E C ox H'
  | .stuck => False
section
variable {K : PySem.W.Frag} {E : XK} {H H₀ H1 H01 : Hp}
theorem post.grow {r : Res D} {Q : VK} (h : post K E H H₀ r Q) (g : Grow H H₀ H1 H01) : post K E H1 H01 r Q := by
  cases r with
  | ok d => exact fun v H' H₀' g' => h v H' H₀' (g.trans g')
  | exn x => exact fun C ox H' H₀' g' => h C ox H' H₀' (g.trans g')
  | stuck => exact h
theorem posts.grow {r : Res (List D)} {Q : List V → Hp → Prop} (h : posts K E H H₀ r Q) (g : Grow H H₀ H1 H01) : posts K E H1 H01 r Q := by
  cases r with
  | ok d => exact fun v H' H₀' g' => h v H' H₀' (g.trans g')
  | exn x => exact fun C ox H' H₀' g' => h C ox H' H₀' (g.trans g')
  | stuck => exact h
theorem postT.grow {r : Res D} {Q : Bool → Hp → Prop} (h : postT K E H H₀ r Q) (g : Grow H H₀ H1 H01) : postT K E H1 H01 r Q := by
  cases r with
  | ok d =>
    cases d with
    | bl b => exact fun H' H₀' g' => h H' H₀' (g.trans g')
    | _ => exact h
  | exn x => exact fun C ox H' H₀' g' => h C ox H' H₀' (g.trans g')
  | stuck => exact h
theorem post.bind {r : Res D} {g : D → Res D} {Q : VK} (h : post K E H H₀ (r.bind g) Q) :
    post K E H H₀ r fun v H1 => ∃ x H01, Grow H H₀ H1 H01 ∧ Rep K H01 x v ∧ r = .ok x ∧ post K E H1 H01 (g x) Q := by
  cases r with
  | ok d => exact fun v H' H₀' g' rp => ⟨d, H₀', g', rp, rfl, post.grow (r := g d) h g'⟩
  | exn x => exact h
  | stuck => exact h
end
def tD (K : PySem.W.Frag) (E : XK) (f : Ev → Res D) : TE := fun σ H Q => ∃ H₀ ρ, Same H₀ H ∧ Reads K H₀ σ ρ ∧ post K E H H₀ (f ρ) Q
def tDA (K : PySem.W.Frag) (E : XK) (f : Ev → Res (List D)) : TA := fun σ H Q => ∃ H₀ ρ, Same H₀ H ∧ Reads K H₀ σ ρ ∧ posts K E H H₀ (f ρ) Q
def tDT (K : PySem.W.Frag) (E : XK) (f : Ev → Res D) : TT := fun σ H Q => ∃ H₀ ρ, Same H₀ H ∧ Reads K H₀ σ ρ ∧ postT K E H H₀ (f ρ) Q
structure DE (X : Cx) (E : XK) (e : Expr) (f : Ev → Res D) : Prop where
  o : PE X e (tD X.K E f)
structure DA (X : Cx) (E : XK) (es : List Expr) (f : Ev → Res (List D)) : Prop where
  o : PA X es (tDA X.K E f)
structure DT (X : Cx) (E : XK) (e : Expr) (f : Ev → Res D) : Prop where
  o : PT X e (tDT X.K E f)
structure DW (X : Cx) (E : XK) (e : Expr) (f : Ev → Res D) : Prop where
  o : PW X e (tDT X.K E f)
section
variable {X : Cx} {E : XK} {e a b : Expr} {es : List Expr} {f g : Ev → Res D} {fa : Ev → Res (List D)} {pos : Pos}
theorem pe_weak {t t' : TE} (h : PE X e t) (w : ∀ σ H Q, t' σ H Q → t σ H Q) : PE X e t' := fun pins s σ H Q I q => h pins s σ H Q I (w σ H Q q)
theorem pa_weak {t t' : TA} (h : PA X es t) (w : ∀ σ H Q, t' σ H Q → t σ H Q) : PA X es t' := fun pos pins s σ H Q I q => h pos pins s σ H Q I (w σ H Q q)
theorem pt_weak {t t' : TT} (h : PT X e t) (w : ∀ σ H Q, t' σ H Q → t σ H Q) : PT X e t' := fun pins s σ H Q I q => h pins s σ H Q I (w σ H Q q)
theorem pw_weak {t t' : TT} (h : PW X e t) (w : ∀ σ H Q, t' σ H Q → t σ H Q) : PW X e t' := fun wh pins s σ H Q I q => h wh pins s σ H Q I (w σ H Q q)
def dVar (i : Nat) : Ev → Res D := fun ρ => match ρ[i]? with
  | some (.sh d) => .ok d
  | _ => .stuck
def dC (d : D) : Ev → Res D := fun _ => .ok d
theorem de_var {i : Nat} {x : Str} (hN : X.N[i]? = some x) (hv : Vis X.env.scope x) (hd : (x == ("__debug__" : Str)) = false := by decide) (hcd : (x == ("__classdict__" : Str)) = false := by decide) : DE X E (.Name x pos) (dVar i) := by
  refine ⟨?_⟩
  refine pe_weak (pe_var hN hv hd hcd) fun σ H Q ⟨H₀, ρ, hs, hr, q⟩ => ?_
  unfold dVar at q
  cases e : ρ[i]? with
  | none => rw [e] at q; exact q.elim
  | some s =>
    rw [e] at q
    cases s with
    | sh d =>
      obtain ⟨v, e1, e2⟩ := hr i d e
      exact ⟨v, e1, q v H H₀ (Grow.refl hs) e2⟩
    | no => exact q.elim
    | ow d => exact q.elim
theorem de_int {i j} : DE X E (.Constant (.int i) j pos) (dC (.int i)) := ⟨pe_weak pe_int fun σ H Q ⟨H₀, ρ, hs, hr, q⟩ => q _ H H₀ (Grow.refl hs) (Rep.int_iff.mpr rfl)⟩
theorem de_bl {i j} : DE X E (.Constant (.bool i) j pos) (dC (.bl i)) := ⟨pe_weak pe_bl fun σ H Q ⟨H₀, ρ, hs, hr, q⟩ => q _ H H₀ (Grow.refl hs) (Rep.bl_iff.mpr rfl)⟩
theorem de_non {j} : DE X E (.Constant .none j pos) (dC .non) := ⟨pe_weak pe_non fun σ H Q ⟨H₀, ρ, hs, hr, q⟩ => q _ H H₀ (Grow.refl hs) (Rep.non_iff.mpr rfl)⟩
theorem de_str {x j} : DE X E (.Constant (.str x) j pos) (dC (.str x)) := ⟨pe_weak pe_str fun σ H Q ⟨H₀, ρ, hs, hr, q⟩ => q _ H H₀ (Grow.refl hs) (Rep.str_iff.mpr rfl)⟩
def bind2 (f g : Ev → Res D) (op : D → D → Res D) : Ev → Res D := fun ρ => (f ρ).bind fun x => (g ρ).bind fun y => op x y
def bind1 (f : Ev → Res D) (op : D → Res D) : Ev → Res D := fun ρ => (f ρ).bind op
def OpD (K : PySem.W.Frag) (E : XK) (r : R2) (op : D → D → Res D) : Prop := ∀ (x y : D) (v u : V) (H H₀ : Hp) (Q : VK), Same H₀ H → Rep K H₀ x v → Rep K H₀ y u → post K E H H₀ (op x y) Q → r v u H Q
theorem two_steps {r : R2} {op : D → D → Res D} (ho : OpD X.K E r op) (σ : L2.St) (H : Hp) (Q : VK) (h : tD X.K E (bind2 f g op) σ H Q) : tOp r (tD X.K E f) (tD X.K E g) σ H Q := by
  obtain ⟨H₀, ρ, hs, hr, q⟩ := h
  refine ⟨H₀, ρ, hs, hr, ?_⟩
  unfold bind2 at q
  cases e1 : f ρ with
  | stuck => rw [e1] at q; exact q
  | exn x => rw [e1] at q; exact q
  | ok x =>
    rw [e1] at q
    intro v H1 H01 g1 r1
    refine ⟨H01, ρ, g1.sub, hr.mono g1.z, ?_⟩
    replace q : post X.K E H H₀ ((g ρ).bind fun y => op x y) Q := q
    replace q := q.grow g1
    cases e2 : g ρ with
    | stuck => rw [e2] at q; exact q
    | exn x => rw [e2] at q; exact q
    | ok y =>
      rw [e2] at q
      intro u H2 H02 g2 r2
      exact ho x y v u H2 H02 Q g2.sub (r1.mono g2.z) r2 (post.grow (r := op x y) q g2)
theorem de_op {op : Operator} {r : R2} {o : D → D → Res D} (h : OpR X (binaryOp op) r) (ho : OpD X.K E r o) (ha : DE X E a f) (hb : DE X E b g) : DE X E (.BinOp a op b pos) (bind2 f g o) :=
  ⟨pe_weak (pe_op h ha.o hb.o) (two_steps ho)⟩
theorem de_cmp {op : CmpOp} {r : R2} {o : D → D → Res D} (h : OpR X (compareOp op) r) (ho : OpD X.K E r o) (ha : DE X E a f) (hb : DE X E b g) (hm : behindInMarks op b = false) : DE X E (.Compare a [op] [b] pos) (bind2 f g o) :=
  ⟨pe_weak (pe_cmpR h ha.o hb.o hm) (two_steps ho)⟩
theorem de_ix {r : R2} {o : D → D → Res D} (h : IxR X r) (ho : OpD X.K E r o) (ha : DE X E a f) (hb : DE X E b g) (hs : PlainIx b) : DE X E (.Subscript a b pos) (bind2 f g o) :=
  ⟨pe_weak (pe_ix h ha.o hb.o hs) (two_steps ho)⟩
def UnD (K : PySem.W.Frag) (E : XK) (r : V → Hp → VK → Prop) (op : D → Res D) : Prop := ∀ (x : D) (v : V) (H H₀ : Hp) (Q : VK), Same H₀ H → Rep K H₀ x v → post K E H H₀ (op x) Q → r v H Q
theorem de_un {op : UnaryOp} {r : V → Hp → VK → Prop} {o : D → Res D} (h : UnR X (unaryOp op) r) (ho : UnD X.K E r o) (ha : DE X E a f) : DE X E (.UnaryOp op a pos) (bind1 f o) := by
  refine ⟨?_⟩
  refine pe_weak (pe_un h ha.o) fun σ H Q ⟨H₀, ρ, hs, hr, q⟩ => ⟨H₀, ρ, hs, hr, ?_⟩
  unfold bind1 at q
  cases e1 : f ρ with
  | stuck => rw [e1] at q; exact q
  | exn x => rw [e1] at q; exact q
  | ok x =>
    rw [e1] at q
    intro v H1 H01 g1 r1
    exact ho x v H1 H01 Q g1.sub r1 (post.grow (r := o x) q g1)
def aNil : Ev → Res (List D) := fun _ => .ok []
def aCons (f : Ev → Res D) (fa : Ev → Res (List D)) : Ev → Res (List D) := fun ρ => (f ρ).bind fun x => (fa ρ).bind fun xs => .ok (x :: xs)
theorem da_nil : DA X E [] aNil := ⟨pa_weak pa_nil fun σ H Q ⟨H₀, ρ, hs, hr, q⟩ => q [] H H₀ (Grow.refl hs) Reps.nil⟩
theorem da_cons (ha : DE X E e f) (hr : DA X E es fa) (hs : starEach (e :: es) X.env = (false, eval e X.env) :: starEach es X.env := by exact star_cons rfl) : DA X E (e :: es) (aCons f fa) := by
  refine ⟨?_⟩
  refine pa_weak (pa_cons ha.o hr.o hs) fun σ H Q ⟨H₀, ρ, hs, hr, q⟩ => ⟨H₀, ρ, hs, hr, ?_⟩
  unfold aCons at q
  cases e1 : f ρ with
  | stuck => rw [e1] at q; exact q
  | exn x => rw [e1] at q; exact q
  | ok x =>
    rw [e1] at q
    intro v H1 H01 g1 r1
    refine ⟨H01, ρ, g1.sub, hr.mono g1.z, ?_⟩
    replace q : posts X.K E H H₀ ((fa ρ).bind fun xs => .ok (x :: xs)) Q := q
    replace q := q.grow g1
    cases e2 : fa ρ with
    | stuck => rw [e2] at q; exact q
    | exn x => rw [e2] at q; exact q
    | ok xs =>
      rw [e2] at q
      intro us H2 H02 g2 r2
      exact q (v :: us) H2 H02 g2 (Reps.cons (r1.mono g2.z) r2)
def line : Nat := 1000000
theorem line_le {n : Nat} (h : n ≤ line) : n ≤ sizeLine := Nat.le_trans h (by decide)
def bindA (fa : Ev → Res (List D)) (m : List D → Res D) : Ev → Res D := fun ρ => (fa ρ).bind m
def mTup : List D → Res D := fun ds => if ds.length ≤ line then .ok (.tup ds) else .stuck
def mLst : List D → Res D := fun ds => if ds.length ≤ line then .ok (.lst ds) else .stuck
theorem arg_steps {m : List D → Res D} {r : List V → Hp → VK → Prop} (ho : ∀ (ds : List D) (vs : List V) (H H₀ : Hp) (Q : VK), Same H₀ H → Reps X.K H₀ ds vs → post X.K E H H₀ (m ds) Q → r vs H Q)
    (σ : L2.St) (H : Hp) (Q : VK) (h : tD X.K E (bindA fa m) σ H Q) : tDA X.K E fa σ H fun vs H1 => r vs H1 Q := by
  obtain ⟨H₀, ρ, hs, hr, q⟩ := h
  refine ⟨H₀, ρ, hs, hr, ?_⟩
  unfold bindA at q
  cases e1 : fa ρ with
  | stuck => rw [e1] at q; exact q
  | exn x => rw [e1] at q; exact q
  | ok x =>
    rw [e1] at q
    intro v H1 H01 g1 r1
    exact ho x v H1 H01 Q g1.sub r1 (post.grow (r := m x) q g1)
theorem de_tup {x1} (h : DA X E es fa) : DE X E (.Tuple es x1 pos) (bindA fa mTup) := by
  refine ⟨?_⟩
  refine pe_weak (pe_tup h.o) (arg_steps (r := fun xs H1 Q => xs.length ≤ sizeLine ∧ ∀ p, H1 p = none → Q (.ref p) (upd H1 p (.tup xs))) fun ds vs H H₀ Q hs hr q => ?_)
  unfold mTup at q
  by_cases hl : ds.length ≤ line
  · rw [if_pos hl] at q
    refine ⟨by rw [← hr.length]; exact line_le hl, fun p hp => q _ _ _ (Grow.alloc hs hp) (Rep.tup_iff.mpr ⟨p, vs, rfl, SqT.of upd_same, hr.mono (Grow.alloc hs hp).z⟩)⟩
  · rw [if_neg hl] at q; exact q.elim
theorem de_lst (h : DA X E es fa) : DE X E (.List es pos) (bindA fa mLst) := by
  refine ⟨?_⟩
  refine pe_weak (pe_lst h.o) (arg_steps (r := fun xs H1 Q => xs.length ≤ sizeLine ∧ ∀ p, H1 p = none → Q (.ref p) (upd H1 p (.lst xs))) fun ds vs H H₀ Q hs hr q => ?_)
  unfold mLst at q
  by_cases hl : ds.length ≤ line
  · rw [if_pos hl] at q
    refine ⟨by rw [← hr.length]; exact line_le hl, fun p hp => q _ _ _ (Grow.alloc hs hp) (Rep.lst_iff.mpr ⟨p, vs, rfl, SqL.of upd_same, hr.mono (Grow.alloc hs hp).z⟩)⟩
  · rw [if_neg hl] at q; exact q.elim
def spD (K : PySem.W.Frag) (n : Nat) (m : List D → Res D) : Sp := fun vs H Q E => vs.length = n ∧ ∃ H₀ ds, Same H₀ H ∧ Reps K H₀ ds vs ∧ post K E H H₀ (m ds) Q
theorem de_call {CX : CXT} {k n : Nat} {fn : Addr} {fd : FuncData} {ps : List Str} {m : List D → Res D} {x : Str} {p : Pos} (F : FnOk X.prog X.w X.K X.mg X.base CX k fn fd ps (spD X.K n m)) (hr : Room k X.A) (hg : Gl X x) (hm : X.mg x = some (.ref fn))
    (hk : PySem.W.keepIn X.K (.ref fn) = true) (hb : Binds X.K fd ps []) (hx : Passes CX X E) (ha : DA X E (e :: es) fa) (hn : (e :: es).length = n := by rfl) (hl : ∀ ρ ds, fa ρ = .ok ds → ds.length = (e :: es).length)
    (hdb : (x == ("__debug__" : Str)) = false := by decide) (he : starEach (e :: es) X.env = (false, eval e X.env) :: starEach es X.env := by exact star_cons rfl) (hpl : (backTo pos (starEach es X.env)).any (·.1) = false := by exact any_star rfl) :
    DE X E (.Call (.Name x p) (e :: es) [] pos) (bindA fa m) := by
  refine ⟨?_⟩
  refine pe_weak (pe_call F hr hg hm hk hb .nil hx ha.o hdb he hpl) fun σ H Q h => ?_
  obtain ⟨H₀, ρ, hs, hr, q⟩ := h
  refine ⟨H₀, ρ, hs, hr, ?_⟩
  unfold bindA at q
  cases e1 : fa ρ with
  | stuck => rw [e1] at q; exact q
  | exn x => rw [e1] at q; exact q
  | ok ds =>
    rw [e1] at q
    intro v H1 H01 g1 r1
    refine ⟨?_, H01, ds, g1.sub, by simpa using r1, post.grow (r := m ds) q g1⟩
    have := r1.length
    have := hl ρ ds e1
    simp only [List.append_nil]
    omega
theorem aNil_len {ρ : Ev} {ds : List D} (h : aNil ρ = .ok ds) : ds.length = 0 := by cases h; rfl
theorem aCons_len {ρ : Ev} {ds : List D} {n : Nat} (hr : ∀ es, fa ρ = .ok es → es.length = n) (h : aCons f fa ρ = .ok ds) : ds.length = n + 1 := by
  unfold aCons at h
  cases e1 : f ρ with
  | stuck => rw [e1] at h; cases h
  | exn x => rw [e1] at h; cases h
  | ok x =>
    rw [e1] at h
    replace h : ((fa ρ).bind fun xs => Res.ok (x :: xs)) = .ok ds := h
    cases e2 : fa ρ with
    | stuck => rw [e2] at h; cases h
    | exn x => rw [e2] at h; cases h
    | ok xs =>
      rw [e2] at h
      cases h
      simp [hr xs e2]
def CallD (X : Cx) (E : XK) (r : List V → Hp → VK → Prop) (m : List D → Res D) : Prop := ∀ (ds : List D) (vs : List V) (H H₀ : Hp) (Q : VK), Same H₀ H → Reps X.K H₀ ds vs → post X.K E H H₀ (m ds) Q → r vs H Q
theorem de_callB {id : String} {r : List V → Hp → VK → Prop} {m : List D → Res D} {x : Str} {p : Pos} (hc : CallR X (.builtin id) r) (hd : CallD X E r m) (hg : Gl X x) (hm : X.mg x = none) (hv : bootBuiltins x = some (.builtin id)) (ha : DA X E (e :: es) fa) (hn : x ≠ "__name__" := by decide) (hdb : (x == ("__debug__" : Str)) = false := by decide)
    (he : starEach (e :: es) X.env = (false, eval e X.env) :: starEach es X.env := by exact star_cons rfl) (hpl : (backTo pos (starEach es X.env)).any (·.1) = false := by exact any_star rfl) : DE X E (.Call (.Name x p) (e :: es) [] pos) (bindA fa m) :=
  ⟨pe_weak (pe_callB hc hg hm hv ha.o hn hdb he hpl) (arg_steps hd)⟩
theorem dt_of_tB (h : PT X e (tB (tD X.K E f))) : DT X E e f := by
  refine ⟨?_⟩
  refine pt_weak h fun σ H Q ⟨H₀, ρ, hs, hr, q⟩ => ⟨H₀, ρ, hs, hr, ?_⟩
  cases e1 : f ρ with
  | stuck => rw [e1] at q; exact q
  | exn x => rw [e1] at q; exact q
  | ok d =>
    rw [e1] at q
    intro v H1 H01 g1 r1
    cases d with
    | bl b => rw [Rep.bl_iff.mp r1]; exact ⟨b, rfl, q H1 H01 g1⟩
    | _ => exact q.elim
theorem dt_val (h : DE X E e f) (he : ∀ whole, isTrue e X.env whole = (do let v ← whole; standAt e.pos; holding [v] (truthy v)) := by intro _; rfl) : DT X E e f := dt_of_tB (pt_val h.o he)
theorem dt_cmp {op : CmpOp} {r : R2} {o : D → D → Res D} (h : OpR X (compareOp op) r) (ho : OpD X.K E r o) (ha : DE X E a f) (hb : DE X E b g) (hm : behindInMarks op b = false) : DT X E (.Compare a [op] [b] pos) (bind2 f g o) := by
  refine ⟨?_⟩
  refine pt_weak (pt_cmpR h ha.o hb.o hm) fun σ H Q h => ?_
  have w : tD X.K E (bind2 f g o) σ H fun x H' => ∃ k, x = .bl k ∧ Q k H' := by
    obtain ⟨H₀, ρ, hs, hr, q⟩ := h
    refine ⟨H₀, ρ, hs, hr, ?_⟩
    cases e1 : bind2 f g o ρ with
    | stuck => rw [e1] at q; exact q
    | exn x => rw [e1] at q; exact q
    | ok d =>
      rw [e1] at q
      intro v H1 H01 g1 r1
      cases d with
      | bl b => rw [Rep.bl_iff.mp r1]; exact ⟨b, rfl, q H1 H01 g1⟩
      | _ => exact q.elim
  exact two_steps ho σ H _ w
def dNot (f : Ev → Res D) : Ev → Res D := bind1 f fun x => match x with
  | .bl b => .ok (.bl (!b))
  | _ => .stuck
def dAnd (f g : Ev → Res D) : Ev → Res D := fun ρ => (f ρ).bind fun x => match x with
  | .bl true => g ρ
  | .bl false => .ok (.bl false)
  | _ => .stuck
def dOr (f g : Ev → Res D) : Ev → Res D := fun ρ => (f ρ).bind fun x => match x with
  | .bl true => .ok (.bl true)
  | .bl false => g ρ
  | _ => .stuck
theorem dt_not (ha : DT X E a f) : DT X E (.UnaryOp .Not a pos) (dNot f) := by
  refine ⟨?_⟩
  refine pt_weak (pt_not ha.o) fun σ H Q ⟨H₀, ρ, hs, hr, q⟩ => ⟨H₀, ρ, hs, hr, ?_⟩
  unfold dNot bind1 at q
  cases e1 : f ρ with
  | stuck => rw [e1] at q; exact q
  | exn x => rw [e1] at q; exact q
  | ok d =>
    rw [e1] at q
    cases d with
    | bl b => exact q
    | _ => exact q.elim
theorem de_not (ha : DE X E a f) : DE X E (.UnaryOp .Not a pos) (dNot f) := by
  refine ⟨?_⟩
  refine pe_weak (pe_not ha.o) fun σ H Q ⟨H₀, ρ, hs, hr, q⟩ => ⟨H₀, ρ, hs, hr, ?_⟩
  unfold dNot bind1 at q
  cases e1 : f ρ with
  | stuck => rw [e1] at q; exact q
  | exn x => rw [e1] at q; exact q
  | ok d =>
    rw [e1] at q
    intro v H1 H01 g1 r1
    cases d with
    | bl b => rw [Rep.bl_iff.mp r1]; exact ⟨b, rfl, q (.bl !b) H1 H01 g1 (Rep.bl_iff.mpr rfl)⟩
    | _ => exact q.elim
variable {rest : List Expr}
theorem dw_one_and (ha : DT X E a f) : DW X E (.BoolOp .And [a] pos) f := ⟨pw_and1 ha.o⟩
theorem dw_one_or (ha : DT X E a f) : DW X E (.BoolOp .Or [a] pos) f := ⟨pw_or1 ha.o⟩
theorem dw_and (ha : DT X E a f) (hb : DW X E (.BoolOp .And (b :: rest) pos) g) : DW X E (.BoolOp .And (a :: b :: rest) pos) (dAnd f g) := by
  refine ⟨?_⟩
  refine pw_weak (pw_and ha.o hb.o) fun σ H Q ⟨H₀, ρ, hs, hr, q⟩ => ⟨H₀, ρ, hs, hr, ?_⟩
  unfold dAnd at q
  cases e1 : f ρ with
  | stuck => rw [e1] at q; exact q
  | exn x => rw [e1] at q; exact q
  | ok d =>
    rw [e1] at q
    cases d with
    | bl b =>
      cases b with
      | true => exact fun H1 H01 g1 => ⟨H01, ρ, g1.sub, hr.mono g1.z, postT.grow (r := g ρ) q g1⟩
      | false => exact fun H1 H01 g1 => q H1 H01 g1
    | _ => exact q.elim
theorem dw_or (ha : DT X E a f) (hb : DW X E (.BoolOp .Or (b :: rest) pos) g) : DW X E (.BoolOp .Or (a :: b :: rest) pos) (dOr f g) := by
  refine ⟨?_⟩
  refine pw_weak (pw_or ha.o hb.o) fun σ H Q ⟨H₀, ρ, hs, hr, q⟩ => ⟨H₀, ρ, hs, hr, ?_⟩
  unfold dOr at q
  cases e1 : f ρ with
  | stuck => rw [e1] at q; exact q
  | exn x => rw [e1] at q; exact q
  | ok d =>
    rw [e1] at q
    cases d with
    | bl b =>
      cases b with
      | false => exact fun H1 H01 g1 => ⟨H01, ρ, g1.sub, hr.mono g1.z, postT.grow (r := g ρ) q g1⟩
      | true => exact fun H1 H01 g1 => q H1 H01 g1
    | _ => exact q.elim
theorem DW.dt (h : DW X E e f) : DT X E e f := ⟨PW.pt h.o⟩
theorem de_one {op} (h : DE X E a f) : DE X E (.BoolOp op [a] pos) f := ⟨pe_one h.o⟩
theorem de_and (ha : DE X E a f) (hb : DE X E (.BoolOp .And (b :: rest) pos) g) : DE X E (.BoolOp .And (a :: b :: rest) pos) (dAnd f g) := by
  refine ⟨?_⟩
  refine pe_weak (pe_and ha.o hb.o) fun σ H Q ⟨H₀, ρ, hs, hr, q⟩ => ⟨H₀, ρ, hs, hr, ?_⟩
  unfold dAnd at q
  cases e1 : f ρ with
  | stuck => rw [e1] at q; exact q
  | exn x => rw [e1] at q; exact q
  | ok d =>
    rw [e1] at q
    intro v H1 H01 g1 r1
    cases d with
    | bl b =>
      rw [Rep.bl_iff.mp r1]
      cases b with
      | true => exact ⟨true, rfl, H01, ρ, g1.sub, hr.mono g1.z, post.grow (r := g ρ) q g1⟩
      | false => exact ⟨false, rfl, q (.bl false) H1 H01 g1 (Rep.bl_iff.mpr rfl)⟩
    | _ => exact q.elim
def dIf (c f g : Ev → Res D) : Ev → Res D := fun ρ => (c ρ).bind fun x => match x with
  | .bl true => f ρ
  | .bl false => g ρ
  | _ => .stuck
end
end DL
set_option Elab.async false
set_option linter.all false
set_option maxRecDepth 100000
namespace DL
open PySem PySem.Spec PyProof.Rows L2
def OwnR (K : PySem.W.Frag) (H₀ H : Hp) (a : Addr) (d : D) : Prop := match d with
  | .lst ds => ∃ vs, H a = some (.lst vs) ∧ Reps K H₀ ds vs
  | _ => False
structure SRx (K : PySem.W.Frag) (He H0e H₀ : Hp) (σ : L2.St) (H : Hp) (ρ : Ev) : Prop where
  g : Grow He H0e H H₀
  rd : Reads K H₀ σ ρ
  ow : ∀ (i : Nat) (d : D), ρ[i]? = some (.ow d) → ∃ a, σ[i]? = some (some (.ref a)) ∧ He a = none ∧ H₀ a = none ∧ OwnR K H₀ H a d
  ap : ∀ (i j : Nat) (d d' : D), i ≠ j → ρ[i]? = some (.ow d) → ρ[j]? = some (.ow d') → σ[i]? ≠ σ[j]?
  ln : ρ.length = σ.length
inductive Fl where
  | nx (ρ : Ev) | rt (d : D) | bk (ρ : Ev) | ct (ρ : Ev)
def postS (K : PySem.W.Frag) (E : XK) (He H0e H₀ : Hp) (r : Res Fl) (D : Ends) : Prop := match r with
  | .ok (.nx ρ) => ∀ σ H H₀', Same H₀ H₀' → SRx K He H0e H₀' σ H ρ → D.nx σ H
  | .ok (.rt d) => ∀ v H H₀', Grow He H0e H H₀' → Rep K H₀' d v → D.rt v H
  | .ok (.bk ρ) => ∀ σ H H₀', Same H₀ H₀' → SRx K He H0e H₀' σ H ρ → D.bk σ H
  | .ok (.ct ρ) => ∀ σ H H₀', Same H₀ H₀' → SRx K He H0e H₀' σ H ρ → D.ct σ H
  | .exn x => ∀ C ox H H₀', Grow He H0e H H₀' → ExR K H₀' x C ox → E C ox H
  | .stuck => False
theorem postS.grow {K : PySem.W.Frag} {E : XK} {He H0e H₀ H₁ : Hp} {r : Res Fl} {D : Ends} (h : postS K E He H0e H₀ r D) (s : Same H₀ H₁) : postS K E He H0e H₁ r D := by
  cases r with
  | ok f =>
    cases f with
    | nx ρ => exact fun σ H H₀' s' => h σ H H₀' (s.trans s')
    | rt d => exact h
    | bk ρ => exact fun σ H H₀' s' => h σ H H₀' (s.trans s')
    | ct ρ => exact fun σ H H₀' s' => h σ H H₀' (s.trans s')
  | exn x => exact h
  | stuck => exact h
def tS (K : PySem.W.Frag) (E : XK) (He H0e : Hp) (g : Ev → Res Fl) : TS := fun D σ H => ∃ H₀ ρ, SRx K He H0e H₀ σ H ρ ∧ postS K E He H0e H₀ (g ρ) D
structure DS (X : Cx) (E : XK) (He H0e : Hp) (st : Stmt) (g : Ev → Res Fl) : Prop where
  o : PS X st (tS X.K E He H0e g)
structure DSs (X : Cx) (E : XK) (He H0e : Hp) (st : List Stmt) (g : Ev → Res Fl) : Prop where
  o : PSs X st (tS X.K E He H0e g)
def shr (ρ : Ev) : Ev := ρ.map fun s => match s with
  | .ow d => .sh d
  | x => x
def frz (He H₀ H : Hp) : Hp := fun a => match He a with
  | none => H a
  | some _ => H₀ a
section
variable {K : PySem.W.Frag} {E : XK} {He H0e H₀ H H1 : Hp} {σ : L2.St} {ρ : Ev}
theorem SRx.same (h : SRx K He H0e H₀ σ H ρ) (s : Same H H1) : SRx K He H0e H₀ σ H1 ρ :=
  ⟨⟨h.g.s.trans s, h.g.z, h.g.sub.trans s, h.g.nw⟩, h.rd, fun i d e => by
    obtain ⟨a, h1, h2, h3, h4⟩ := h.ow i d e
    refine ⟨a, h1, h2, h3, ?_⟩
    cases d with
    | lst ds => obtain ⟨vs, h5, h6⟩ := h4; exact ⟨vs, s _ _ h5, h6⟩
    | _ => exact h4, h.ap, h.ln⟩
theorem SRx.grow {H01 : Hp} (h : SRx K He H0e H₀ σ H ρ) (s : Grow H H₀ H1 H01) : SRx K He H0e H01 σ H1 ρ :=
  ⟨h.g.trans s, h.rd.mono s.z, fun i d e => by
    obtain ⟨a, h1, h2, h3, h4⟩ := h.ow i d e
    have ha : H01 a = none := by
      cases q : H01 a with
      | none => rfl
      | some o =>
        have := s.nw a (by rw [q]; simp) h3
        cases d with
        | lst ds => obtain ⟨vs, h5, _⟩ := h4; rw [h5] at this; cases this
        | _ => exact h4.elim
    refine ⟨a, h1, h2, ha, ?_⟩
    cases d with
    | lst ds => obtain ⟨vs, h5, h6⟩ := h4; exact ⟨vs, s.s _ _ h5, h6.mono s.z⟩
    | _ => exact h4, h.ap, h.ln⟩
theorem SRx.frz_sub (h : SRx K He H0e H₀ σ H ρ) : Same H₀ (frz He H₀ H) := fun b o e => by
  unfold frz
  cases q : He b with
  | none => exact h.g.sub _ _ e
  | some _ => exact e
theorem SRx.frz_le (h : SRx K He H0e H₀ σ H ρ) : Same (frz He H₀ H) H := fun b o e => by
  unfold frz at e
  cases q : He b with
  | none => rw [q] at e; exact e
  | some _ => rw [q] at e; exact h.g.sub _ _ e
theorem SRx.frz_grow (h : SRx K He H0e H₀ σ H ρ) : Grow He H0e H (frz He H₀ H) :=
  ⟨h.g.s, h.g.z.trans h.frz_sub, h.frz_le, fun a h1 h2 => by
    cases q : He a with
    | none => rfl
    | some o =>
      unfold frz at h1
      rw [q] at h1
      have := h.g.nw a h1 h2
      rw [q] at this; cases this⟩
theorem SRx.looks (h : SRx K He H0e H₀ σ H ρ) : Reads K (frz He H₀ H) σ (shr ρ) := fun i d e => by
  unfold shr at e
  rw [List.getElem?_map] at e
  cases q : ρ[i]? with
  | none => rw [q] at e; cases e
  | some s =>
    rw [q] at e
    cases s with
    | no => cases e
    | sh d' =>
      cases e
      obtain ⟨v, h1, h2⟩ := h.rd i d q
      exact ⟨v, h1, h2.mono h.frz_sub⟩
    | ow d' =>
      cases e
      obtain ⟨a, h1, h2, h3, h4⟩ := h.ow i d q
      refine ⟨_, h1, ?_⟩
      cases d with
      | lst ds =>
        obtain ⟨vs, h5, h6⟩ := h4
        exact Rep.lst_iff.mpr ⟨a, vs, rfl, SqL.of (by unfold frz; rw [h2]; exact h5), h6.mono h.frz_sub⟩
      | _ => exact h4.elim
theorem SRx.put (h : SRx K He H0e H₀ σ H ρ) {i : Nat} {d : D} {v : V} (r : Rep K H₀ d v) : SRx K He H0e H₀ (σ.set i (some v)) H (ρ.set i (.sh d)) := by
  have key : ∀ (j : Nat) (s : Sl), (ρ.set i (.sh d))[j]? = some s → (j = i ∧ s = .sh d ∧ i < σ.length) ∨ (j ≠ i ∧ ρ[j]? = some s) := fun j s e => by
    by_cases hj : i = j
    · subst hj
      rw [List.getElem?_set_self'] at e
      cases q : ρ[i]? with
      | none => rw [q] at e; cases e
      | some s' =>
        rw [q] at e
        cases e
        refine .inl ⟨rfl, rfl, ?_⟩
        rw [← h.ln]
        exact (List.getElem?_eq_some_iff.mp q).1
    · rw [List.getElem?_set_ne hj] at e
      exact .inr ⟨fun z => hj z.symm, e⟩
  refine ⟨h.g, fun j d' e => ?_, fun j d' e => ?_, fun j k d1 d2 hn e1 e2 => ?_, by simp [h.ln]⟩
  · rcases key j _ e with ⟨rfl, e', hl⟩ | ⟨hj, e'⟩
    · cases e'
      exact ⟨v, by rw [List.getElem?_set_self hl], r⟩
    · obtain ⟨v', h1, h2⟩ := h.rd j d' e'
      exact ⟨v', by rw [List.getElem?_set_ne (Ne.symm hj)]; exact h1, h2⟩
  · rcases key j _ e with ⟨rfl, e', hl⟩ | ⟨hj, e'⟩
    · cases e'
    · obtain ⟨a, h1, h2⟩ := h.ow j d' e'
      exact ⟨a, by rw [List.getElem?_set_ne (Ne.symm hj)]; exact h1, h2⟩
  · rcases key j _ e1 with ⟨_, e', _⟩ | ⟨hj, e1'⟩
    · cases e'
    rcases key k _ e2 with ⟨_, e', _⟩ | ⟨hk, e2'⟩
    · cases e'
    rw [List.getElem?_set_ne (Ne.symm hj), List.getElem?_set_ne (Ne.symm hk)]
    exact h.ap j k d1 d2 hn e1' e2'
theorem SRx.putOwn (h : SRx K He H0e H₀ σ H ρ) {i : Nat} {ds : List D} {vs : List V} {p : Addr} (hp : ∀ (j : Nat) (a : Addr), σ[j]? = some (some (V.ref a)) → a = p → ∀ d : D, ρ[j]? ≠ some (Sl.ow d)) (he : He p = none) (h0 : H₀ p = none) (hv : H p = some (.lst vs)) (r : Reps K H₀ ds vs) :
    SRx K He H0e H₀ (σ.set i (some (.ref p))) H (ρ.set i (.ow (.lst ds))) := by
  have key : ∀ (j : Nat) (s : Sl), (ρ.set i (.ow (.lst ds)))[j]? = some s → (j = i ∧ s = .ow (.lst ds) ∧ i < σ.length) ∨ (j ≠ i ∧ ρ[j]? = some s) := fun j s e => by
    by_cases hj : i = j
    · subst hj
      rw [List.getElem?_set_self'] at e
      cases q : ρ[i]? with
      | none => rw [q] at e; cases e
      | some s' =>
        rw [q] at e
        cases e
        refine .inl ⟨rfl, rfl, ?_⟩
        rw [← h.ln]
        exact (List.getElem?_eq_some_iff.mp q).1
    · rw [List.getElem?_set_ne hj] at e
      exact .inr ⟨fun z => hj z.symm, e⟩
  have other : ∀ (k : Nat) (d2 : D), k ≠ i → ρ[k]? = some (.ow d2) → some (some (V.ref p)) ≠ σ[k]? := fun k d2 hk e2 z => by
    obtain ⟨a, h1, _⟩ := h.ow k d2 e2
    rw [h1] at z
    cases z
    exact hp k p h1 rfl d2 e2
  refine ⟨h.g, fun j d' e => ?_, fun j d' e => ?_, fun j k d1 d2 hn e1 e2 => ?_, by simp [h.ln]⟩
  · rcases key j _ e with ⟨rfl, e', hl⟩ | ⟨hj, e'⟩
    · cases e'
    · obtain ⟨v', h1, h2⟩ := h.rd j d' e'
      exact ⟨v', by rw [List.getElem?_set_ne (Ne.symm hj)]; exact h1, h2⟩
  · rcases key j _ e with ⟨rfl, e', hl⟩ | ⟨hj, e'⟩
    · cases e'
      exact ⟨p, by rw [List.getElem?_set_self hl], he, h0, vs, hv, r⟩
    · obtain ⟨a, h1, h2⟩ := h.ow j d' e'
      exact ⟨a, by rw [List.getElem?_set_ne (Ne.symm hj)]; exact h1, h2⟩
  · rcases key j _ e1 with ⟨rfl, _, hl⟩ | ⟨hj, e1'⟩
    · rcases key k _ e2 with ⟨rfl, _, _⟩ | ⟨hk, e2'⟩
      · exact absurd rfl hn
      · rw [List.getElem?_set_self hl, List.getElem?_set_ne (Ne.symm hk)]
        exact other k d2 hk e2'
    · rcases key k _ e2 with ⟨rfl, _, hl⟩ | ⟨hk, e2'⟩
      · rw [List.getElem?_set_self hl, List.getElem?_set_ne (Ne.symm hj)]
        exact fun z => other j d1 hj e1' z.symm
      · rw [List.getElem?_set_ne (Ne.symm hj), List.getElem?_set_ne (Ne.symm hk)]
        exact h.ap j k d1 d2 hn e1' e2'
theorem SRx.write (h : SRx K He H0e H₀ σ H ρ) {i : Nat} {d : D} {p : Addr} {ds : List D} {vs : List V} (e : ρ[i]? = some (.ow d)) (es : σ[i]? = some (some (.ref p))) (r : Reps K H₀ ds vs) :
    SRx K He H0e H₀ σ (upd H p (.lst vs)) (ρ.set i (.ow (.lst ds))) := by
  obtain ⟨a, h1, h2, h3, h4⟩ := h.ow i d e
  rw [h1] at es; cases es
  have hil : i < ρ.length := (List.getElem?_eq_some_iff.mp e).1
  have key : ∀ (j : Nat) (s : Sl), (ρ.set i (.ow (.lst ds)))[j]? = some s → (j = i ∧ s = .ow (.lst ds)) ∨ (j ≠ i ∧ ρ[j]? = some s) := fun j s e => by
    by_cases hj : i = j
    · subst hj
      rw [List.getElem?_set_self hil] at e
      cases e
      exact .inl ⟨rfl, rfl⟩
    · rw [List.getElem?_set_ne hj] at e
      exact .inr ⟨fun z => hj z.symm, e⟩
  refine ⟨⟨fun b o eb => ?_, h.g.z, fun b o eb => ?_, h.g.nw⟩, fun j d' e' => ?_, fun j d' e' => ?_, fun j k d1 d2 hn e1 e2 => ?_, by simp [h.ln]⟩
  · rw [upd_ne (by intro z; subst z; rw [h2] at eb; cases eb)]; exact h.g.s _ _ eb
  · rw [upd_ne (by intro z; subst z; rw [h3] at eb; cases eb)]; exact h.g.sub _ _ eb
  · rcases key j _ e' with ⟨rfl, e''⟩ | ⟨hj, e''⟩
    · cases e''
    · exact h.rd j d' e''
  · rcases key j _ e' with ⟨rfl, e''⟩ | ⟨hj, e''⟩
    · cases e''
      exact ⟨p, h1, h2, h3, vs, upd_same, r⟩
    · obtain ⟨b, k1, k2, k3, k4⟩ := h.ow j d' e''
      refine ⟨b, k1, k2, k3, ?_⟩
      have hb : b ≠ p := by
        intro z; subst z
        exact h.ap j i d' d hj e'' e (by rw [k1, h1])
      cases d' with
      | lst ds' =>
        obtain ⟨vs', h5, h6⟩ := k4
        exact ⟨vs', by rw [upd_ne hb]; exact h5, h6⟩
      | _ => exact k4.elim
  · rcases key j _ e1 with ⟨rfl, e1'⟩ | ⟨hj, e1'⟩
    · rcases key k _ e2 with ⟨rfl, _⟩ | ⟨hk, e2'⟩
      · exact absurd rfl hn
      · exact h.ap j k d d2 hn e e2'
    · rcases key k _ e2 with ⟨rfl, _⟩ | ⟨hk, e2'⟩
      · exact h.ap j k d1 d hn e1' e
      · exact h.ap j k d1 d2 hn e1' e2'
end
mutual
def flat : D → Bool
  | .lst _ => false
  | .dic _ _ => false
  | .exc _ => false
  | .tup ds => flats ds
  | _ => true
def flats : List D → Bool
  | [] => true
  | d :: ds => flat d && flats ds
end
mutual
theorem Rep.flat_to {K : PySem.W.Frag} {H H' : Hp} (e : ∀ a vs, Rd H a (.tup vs) → Rd H' a (.tup vs)) : ∀ {d : D} {v : V}, flat d = true → Rep K H d v → Rep K H' d v
  | .non, _, _, h => by unfold Rep at h ⊢; exact h
  | .bl _, _, _, h => by unfold Rep at h ⊢; exact h
  | .int _, _, _, h => by unfold Rep at h ⊢; exact h
  | .str _, _, _, h => by unfold Rep at h ⊢; exact h
  | .tup ds, _, f, h => by
    unfold flat at f
    obtain ⟨a, vs, e1, e2, e3⟩ := Rep.tup_iff.mp h
    refine Rep.tup_iff.mpr ⟨a, vs, e1, ?_, Reps.flat_to e f e3⟩
    rcases e2 with e2 | e2
    · exact .inl (e _ _ e2)
    · exact .inr e2
  | .lst ds, _, f, h => by unfold flat at f; cases f
  | .dic ks ds, _, f, h => by unfold flat at f; cases f
  | .exc x, _, f, h => by unfold flat at f; cases f
theorem Reps.flat_to {K : PySem.W.Frag} {H H' : Hp} (e : ∀ a vs, Rd H a (.tup vs) → Rd H' a (.tup vs)) : ∀ {ds : List D} {vs : List V}, flats ds = true → Reps K H ds vs → Reps K H' ds vs
  | [], _, _, h => by unfold Reps at h ⊢; exact h
  | d :: ds, _, f, h => by
    unfold flats at f
    rw [Bool.and_eq_true] at f
    obtain ⟨v, r, e1, e2, e3⟩ := Reps.cons_iff.mp h
    exact Reps.cons_iff.mpr ⟨v, r, e1, Rep.flat_to e f.1 e2, Reps.flat_to e f.2 e3⟩
end
section
variable {K : PySem.W.Frag} {E : XK} {He H0e H₀ H H1 J : Hp} {σ : L2.St} {ρ : Ev}
end
end DL
set_option Elab.async false
set_option linter.all false
set_option maxRecDepth 100000
namespace DL
open PySem PySem.Spec PyProof.Rows L2
section
variable {X : Cx} {E : XK} {He H0e : Hp} {st : Stmt} {rest : List Stmt} {e a b : Expr} {es : List Expr} {f g : Ev → Res D} {fa : Ev → Res (List D)} {s t : Ev → Res Fl} {pos : Pos}
theorem ps_weak {t t' : TS} (h : PS X st t) (w : ∀ D σ H, t' D σ H → t D σ H) : PS X st t' := fun pins s σ H D I q => h pins s σ H D I (w D σ H q)
theorem pss_weak {t t' : TS} (h : PSs X rest t) (w : ∀ D σ H, t' D σ H → t D σ H) : PSs X rest t' := fun pins s σ H D I q => h pins s σ H D I (w D σ H q)
def sNext : Ev → Res Fl := fun ρ => .ok (.nx ρ)
def sSeq (s t : Ev → Res Fl) : Ev → Res Fl := fun ρ => (s ρ).bind fun r => match r with
  | .nx ρ' => t ρ'
  | r => .ok r
theorem dss_nil : DSs X E He H0e [] sNext := ⟨pss_weak pss_nil fun D σ H ⟨H₀, ρ, h, q⟩ => q σ H H₀ (Same.refl _) h⟩
theorem dss_cons (h1 : DS X E He H0e st s) (h2 : DSs X E He H0e rest t) : DSs X E He H0e (st :: rest) (sSeq s t) := by
  refine ⟨?_⟩
  refine pss_weak (pss_cons h1.o h2.o) fun D σ H ⟨H₀, ρ, h, q⟩ => ⟨H₀, ρ, h, ?_⟩
  unfold sSeq at q
  cases e1 : s ρ with
  | stuck => rw [e1] at q; exact q
  | exn x => rw [e1] at q; exact q
  | ok r =>
    rw [e1] at q
    cases r with
    | nx ρ' => exact fun σ' H' H₀' s' h' => ⟨H₀', ρ', h', postS.grow (r := t ρ') q s'⟩
    | rt d => exact q
    | bk ρ' => exact q
    | ct ρ' => exact q
def sStuck : Ev → Res Fl := fun _ => .stuck
theorem plain {K : PySem.W.Frag} {H₀ H : Hp} {σ : L2.St} {ρ : Ev} {k : D → Res Fl} {D' : Ends} (h : SRx K He H0e H₀ σ H ρ) {r : Res D} {Q : VK}
    (q : postS K E He H0e H₀ (r.bind k) D') (hk : ∀ d v H' H₀', r = .ok d → Grow H H₀ H' H₀' → Rep K H₀' d v → postS K E He H0e H₀' (k d) D' → Q v H') : post K E H H₀ r Q := by
  cases r with
  | stuck => exact q
  | exn x => exact fun C ox H' H₀' g ex => q C ox H' H₀' (h.g.trans g) ex
  | ok d => exact fun v H' H₀' g rp => hk d v H' H₀' rfl g rp (postS.grow (r := k d) q g.z)
theorem look {K : PySem.W.Frag} {H₀ H : Hp} {σ : L2.St} {ρ : Ev} {k : D → Res Fl} {D' : Ends} (h : SRx K He H0e H₀ σ H ρ) {r : Res D} {Q : VK}
    (q : postS K E He H0e H₀ (r.bind k) D') (hk : ∀ d v H' J, r = .ok d → Grow H (frz He H₀ H) H' J → Rep K J d v → postS K E He H0e H₀ (k d) D' → Q v H') : post K E H (frz He H₀ H) r Q := by
  cases r with
  | stuck => exact q
  | exn x => exact fun C ox H' H₀' g ex => q C ox H' H₀' (h.frz_grow.trans g) ex
  | ok d => exact fun v H' J g rp => hk d v H' J rfl g rp q
theorem lookT {K : PySem.W.Frag} {H₀ H : Hp} {σ : L2.St} {ρ : Ev} {k : Bool → Res Fl} {D' : Ends} (h : SRx K He H0e H₀ σ H ρ) {r : Res D} {Q : Bool → Hp → Prop}
    (q : postS K E He H0e H₀ (r.bind fun x => match x with | .bl b => k b | _ => .stuck) D') (hk : ∀ b H', Same H H' → postS K E He H0e H₀ (k b) D' → Q b H') : postT K E H (frz He H₀ H) r Q := by
  cases r with
  | stuck => exact q
  | exn x => exact fun C ox H' H₀' g ex => q C ox H' H₀' (h.frz_grow.trans g) ex
  | ok d =>
    cases d with
    | bl b => exact fun H' J g => hk b H' g.s q
    | _ => exact q.elim
def sSet (i : Nat) (f : Ev → Res D) : Ev → Res Fl := fun ρ => (f ρ).bind fun d => .ok (.nx (ρ.set i (.sh d)))
def sRet (f : Ev → Res D) : Ev → Res Fl := fun ρ => (f (shr ρ)).bind fun d => .ok (.rt d)
def sDrop (f : Ev → Res D) : Ev → Res Fl := fun ρ => (f (shr ρ)).bind fun _ => .ok (.nx ρ)
def sIf (c : Ev → Res D) (s t : Ev → Res Fl) : Ev → Res Fl := fun ρ => (c (shr ρ)).bind fun x => match x with
  | .bl b => if b = true then s ρ else t ρ
  | _ => .stuck
theorem ds_set {i : Nat} {x : Str} {pos' : Pos} (hN : X.N.Nodup) (hi : X.N[i]? = some x) (hx : Loc X.env.scope x) (he : DE X E e f) (hs : swapsWith e (some (.Name x pos')) pos.line X.env = pure false := by rfl)
    (hf : X.fn x = true ∨ X.env.scope.names.lookup x = some .local := by first | exact .inl rfl | exact .inr rfl | assumption) : DS X E He H0e (.Assign [.Name x pos'] e pos) (sSet i f) := by
  refine ⟨?_⟩
  refine ps_weak (ps_set hN hi hx he.o hs hf) fun D σ H ⟨H₀, ρ, h, q⟩ => ⟨H₀, ρ, h.g.sub, h.rd, ?_⟩
  refine plain h q fun d v H' H₀' _ g rp q' => ?_
  exact q' _ H' H₀' (Same.refl _) ((h.grow g).put rp)
theorem ds_ret (he : DE X E e f) : DS X E He H0e (.Return (some e) pos) (sRet f) := by
  refine ⟨?_⟩
  refine ps_weak (ps_ret he.o) fun D σ H ⟨H₀, ρ, h, q⟩ => ⟨frz He H₀ H, shr ρ, h.frz_le, h.looks, ?_⟩
  exact look h q fun d v H' J _ g rp q' => q' v H' J (h.frz_grow.trans g) rp
def sRetN : Ev → Res Fl := fun _ => .ok (.rt .non)
theorem ds_if {c : Expr} {fc : Ev → Res D} {sa sb : List Stmt} (hc : DT X E c fc) (ha : DSs X E He H0e sa s) (hb : DSs X E He H0e sb t) : DS X E He H0e (.If c sa sb pos) (sIf fc s t) := by
  refine ⟨?_⟩
  refine ps_weak (ps_if hc.o ha.o hb.o) fun D σ H ⟨H₀, ρ, h, q⟩ => ⟨frz He H₀ H, shr ρ, h.frz_le, h.looks, ?_⟩
  refine lookT (k := fun b => if b = true then s ρ else t ρ) h q fun b H' hs q' => ?_
  cases b with
  | true => rw [if_pos rfl] at q' ⊢; exact ⟨H₀, ρ, h.same hs, q'⟩
  | false => rw [if_neg Bool.false_ne_true] at q' ⊢; exact ⟨H₀, ρ, h.same hs, q'⟩
def tF (K : PySem.W.Frag) (E : XK) (f : Ev → Res D) : TE := fun σ H Q => ∃ H₀ ρ, Same H₀ H ∧ Reads K H₀ σ ρ ∧ match f ρ with
  | .ok (.lst ds) => ∀ p vs H' H₀', Grow H H₀ H' H₀' → H p = none → H₀' p = none → H' p = some (.lst vs) → Reps K H₀' ds vs → Q (.ref p) H'
  | .ok _ => False
  | .exn x => ∀ C ox H' H₀', Grow H H₀ H' H₀' → ExR K H₀' x C ox → E C ox H'
  | .stuck => False
structure DF (X : Cx) (E : XK) (e : Expr) (f : Ev → Res D) : Prop where
  o : PE X e (tF X.K E f)
def sOwn (i : Nat) (f : Ev → Res D) : Ev → Res Fl := fun ρ => (f ρ).bind fun d => match d with
  | .lst ds => .ok (.nx (ρ.set i (.ow (.lst ds))))
  | _ => .stuck
theorem ds_own {i : Nat} {x : Str} {pos' : Pos} (hN : X.N.Nodup) (hi : X.N[i]? = some x) (hx : Loc X.env.scope x) (he : DF X E e f) (hs : swapsWith e (some (.Name x pos')) pos.line X.env = pure false := by rfl)
    (hf : X.fn x = true ∨ X.env.scope.names.lookup x = some .local := by first | exact .inl rfl | exact .inr rfl | assumption) : DS X E He H0e (.Assign [.Name x pos'] e pos) (sOwn i f) := by
  refine ⟨?_⟩
  refine ps_weak (ps_set hN hi hx he.o hs hf) fun D σ H ⟨H₀, ρ, h, q⟩ => ⟨H₀, ρ, h.g.sub, h.rd, ?_⟩
  unfold sOwn at q
  cases e1 : f ρ with
  | stuck => rw [e1] at q; exact q
  | exn x => rw [e1] at q; exact fun C ox H' H₀' g ex => q C ox H' H₀' (h.g.trans g) ex
  | ok d =>
    rw [e1] at q
    cases d with
    | lst ds =>
      intro p vs H' H₀' g hp h0 hv rp
      refine q _ H' H₀' g.z ((h.grow g).putOwn (fun j a ej ea d ed => ?_) (h.g.s.free hp) h0 hv rp)
      subst ea
      obtain ⟨a', k1, _, _, k4⟩ := h.ow j d ed
      rw [ej] at k1; cases k1
      cases d with
      | lst ds' => obtain ⟨vs', h5, _⟩ := k4; rw [hp] at h5; cases h5
      | _ => exact k4.elim
    | _ => exact q.elim
theorem df_lst (h : DA X E es fa) : DF X E (.List es pos) (bindA fa mLst) := by
  refine ⟨?_⟩
  refine pe_weak (pe_lst h.o) fun σ H Q h => ?_
  obtain ⟨H₀, ρ, hs, hr, q⟩ := h
  refine ⟨H₀, ρ, hs, hr, ?_⟩
  unfold bindA at q
  cases e1 : fa ρ with
  | stuck => rw [e1] at q; exact q
  | exn x => rw [e1] at q; exact q
  | ok ds =>
    rw [e1] at q
    intro vs H1 H01 g1 r1
    replace q : match mLst ds with
      | .ok (.lst ds) => ∀ p vs H' H₀', Grow H H₀ H' H₀' → H p = none → H₀' p = none → H' p = some (.lst vs) → Reps X.K H₀' ds vs → Q (.ref p) H'
      | .ok _ => False
      | .exn x => ∀ C ox H' H₀', Grow H H₀ H' H₀' → ExR X.K H₀' x C ox → E C ox H'
      | .stuck => False := q
    unfold mLst at q
    by_cases hl : ds.length ≤ line
    · rw [if_pos hl] at q
      refine ⟨by rw [← r1.length]; exact line_le hl, fun p hp => ?_⟩
      have h0 : H01 p = none := g1.sub.free hp
      refine q p vs _ H01 (g1.trans ⟨fun b o q => by rw [upd_ne (ne_of_none q hp)]; exact q, Same.refl _, fun b o q => ?_, fun a h1 h2 => absurd h2 h1⟩) (g1.s.free hp) h0 upd_same r1
      rw [upd_ne (by intro z; subst z; rw [h0] at q; cases q)]; exact g1.sub _ _ q
    · rw [if_neg hl] at q; exact q.elim
def ownAt (ρ : Ev) (i : Nat) (k : List D → Res Fl) : Res Fl := match ρ[i]? with
  | some (.ow (.lst ds)) => k ds
  | _ => .stuck
def sAppend (i : Nat) (f : Ev → Res D) : Ev → Res Fl := fun ρ => ownAt ρ i fun ds => (f ρ).bind fun d => if ds.length < line then .ok (.nx (ρ.set i (.ow (.lst (ds ++ [d]))))) else .stuck
def sAppendL (i : Nat) (f : Ev → Res D) : Ev → Res Fl := fun ρ => ownAt ρ i fun ds => (f (shr ρ)).bind fun d => if flat d = true ∧ ds.length < line then .ok (.nx (ρ.set i (.ow (.lst (ds ++ [d]))))) else .stuck
theorem ownAt_of {K : PySem.W.Frag} {H₀ H : Hp} {σ : L2.St} {ρ : Ev} {i : Nat} {k : List D → Res Fl} {D' : Ends} (h : SRx K He H0e H₀ σ H ρ) (q : postS K E He H0e H₀ (ownAt ρ i k) D') :
    ∃ ds p vs, ρ[i]? = some (.ow (.lst ds)) ∧ σ[i]? = some (some (.ref p)) ∧ He p = none ∧ H₀ p = none ∧ H p = some (.lst vs) ∧ Reps K H₀ ds vs ∧ postS K E He H0e H₀ (k ds) D' := by
  unfold ownAt at q
  cases e : ρ[i]? with
  | none => rw [e] at q; exact q.elim
  | some s =>
    rw [e] at q
    cases s with
    | no => exact q.elim
    | sh d => exact q.elim
    | ow d =>
      cases d with
      | lst ds =>
        obtain ⟨p, h1, h2, h3, vs, h4, h5⟩ := h.ow i _ e
        exact ⟨ds, p, vs, rfl, h1, h2, h3, h4, h5, q⟩
      | _ => exact q.elim
theorem ds_append {i : Nat} {x : Str} {p1 p2 p3 : Pos} (hN : X.N[i]? = some x) (hv : Vis X.env.scope x) (he : DE X E e f)
    (hd : (x == ("__debug__" : Str)) = false := by decide) (hcd : (x == ("__classdict__" : Str)) = false := by decide)
    (hbase : attributeBase (.Name x p1) "append" X.env (eval (.Name x p1) X.env) = eval (.Name x p1) X.env := by rfl)
    (hfew : ((backTo p3 (starEach [e] X.env)).all (fun x => !x.1) && (backToKw p3 (keywordEach [] X.env)).all (fun x => x.1.isSome)
      && decide ([e].length + ([] : List Keyword).length + (if ([] : List Keyword).isEmpty then 0 else 1) < 30)) = true := by exact few_star rfl)
    (hline : (p2.endLine == p3.line) = true := by rfl) (hs : starEach [e] X.env = (false, eval e X.env) :: starEach [] X.env := by exact star_cons rfl) (hplain : (backTo p3 (starEach [] X.env)).any (·.1) = false := by exact any_star rfl)
    (hw : swapsWith (.Call (.Attribute (.Name x p1) "append" p2) [e] [] p3) none pos.line X.env = pure false := by rfl) :
    DS X E He H0e (.Expr (.Call (.Attribute (.Name x p1) "append" p2) [e] [] p3) pos) (sAppend i f) := by
  refine ⟨?_⟩
  refine ps_weak (ps_expr (pe_bm PySem.F.plainAttrs_list PySem.F.slot_list_append PySem.F.type_list_append mt_append (pe_var hN hv hd hcd) (pa_cons he.o pa_nil hs) hbase hfew hline hs hplain) hw) fun D σ H ⟨H₀, ρ, h, q⟩ => ?_
  obtain ⟨ds, p, vs, e1, e2, e3, e4, e5, e6, q⟩ := ownAt_of h q
  refine ⟨.ref p, e2, .inl ⟨rfl, vs, SqL.of e5⟩, ?_⟩
  refine ⟨H₀, ρ, h.g.sub, h.rd, plain h q fun d v H' H₀' _ g rp q' => ?_⟩
  by_cases hl : ds.length < line
  · rw [if_pos hl] at q'
    have e5' : H' p = some (.lst vs) := g.s _ _ e5
    refine ⟨p, vs, v, rfl, rfl, e5', by rw [← e6.length]; exact Nat.lt_of_lt_of_le hl (by decide), ?_⟩
    exact q' σ _ H₀' (Same.refl _) ((h.grow g).write e1 e2 ((e6.mono g.z).app (Reps.cons rp Reps.nil)))
  · rw [if_neg hl] at q'; exact q'.elim
def putAt (ρ : Ev) (i : Nat) (ds : List D) (d : D) (j : D) : Res Fl := match j with
  | .int j => match ixN ds.length j with
    | some n => .ok (.nx (ρ.set i (.ow (.lst (ds.set n d)))))
    | none => .stuck
  | _ => .stuck
def sPut (i : Nat) (f k : Ev → Res D) : Ev → Res Fl := fun ρ => ownAt ρ i fun ds => (f ρ).bind fun d => (k ρ).bind fun j => putAt ρ i ds d j
def sPutL (i : Nat) (f k : Ev → Res D) : Ev → Res Fl := fun ρ => ownAt ρ i fun ds => (f (shr ρ)).bind fun d => (k (shr ρ)).bind fun j => if flat d = true then putAt ρ i ds d j else .stuck
section
variable {i : Nat} {x : Str} {p1 p2 : Pos} {k : Ev → Res D}
end
def forD (tg : Ev → D → Res Ev) (body : Ev → Res Fl) : List D → Ev → Res Fl
  | [], ρ => .ok (.nx ρ)
  | d :: r, ρ => (tg ρ d).bind fun ρ1 => (body ρ1).bind fun x => match x with
    | .nx ρ2 => forD tg body r ρ2
    | .ct ρ2 => forD tg body r ρ2
    | .bk ρ2 => .ok (.nx ρ2)
    | .rt d => .ok (.rt d)
def tG (K : PySem.W.Frag) (He H0e : Hp) (tg : Ev → D → Res Ev) : TG := fun v σ H Q => ∃ H₀ ρ d, SRx K He H0e H₀ σ H ρ ∧ Rep K H₀ d v ∧ match tg ρ d with
    | .ok ρ' => ∀ σ' H' H₀', Same H₀ H₀' → SRx K He H0e H₀' σ' H' ρ' → Q σ' H'
    | _ => False
structure DG (X : Cx) (E : XK) (He H0e : Hp) (target : Expr) (tg : Ev → D → Res Ev) : Prop where
  o : PG X target (tG X.K He H0e tg)
def gSet (i : Nat) : Ev → D → Res Ev := fun ρ d => .ok (ρ.set i (.sh d))
theorem pg_weak {tgt : Expr} {t t' : TG} (h : PG X tgt t) (w : ∀ v σ H Q, t' v σ H Q → t v σ H Q) : PG X tgt t' := fun pins s σ H v u Q I r q => h pins s σ H v u Q I r (w v σ H Q q)
theorem dg_name {i : Nat} {x : Str} (hN : X.N.Nodup) (hi : X.N[i]? = some x) (hx : Loc X.env.scope x) (hf : X.fn x = true ∨ X.env.scope.names.lookup x = some .local := by first | exact .inl rfl | exact .inr rfl | assumption) : DG X E He H0e (.Name x pos) (gSet i) :=
  ⟨pg_weak (pg_name hN hi hx hf) fun v σ H Q ⟨H₀, ρ, d, h, rp, q⟩ => q _ H H₀ (Same.refl _) (h.put rp)⟩
def LoopI (K : PySem.W.Frag) (E : XK) (He H0e H₁ : Hp) (tg : Ev → D → Res Ev) (s : Ev → Res Fl) (ds : List D) (D' : Ends) (i : Nat) (σ : L2.St) (H : Hp) : Prop :=
  ∃ H₀ ρ, Same H₁ H₀ ∧ SRx K He H0e H₀ σ H ρ ∧ postS K E He H0e H₀ (forD tg s (ds.drop i) ρ) D'
theorem LoopI.step {K : PySem.W.Frag} {H₁ : Hp} {tg : Ev → D → Res Ev} {ds : List D} {D' : Ends} {i : Nat} {σ : L2.St} {H : Hp} {d : D} {v : V} (h : LoopI K E He H0e H₁ tg s ds D' i σ H) (hd : ds[i]? = some d) (rv : Rep K H₁ d v)
    (he : ∀ ρ, tg ρ d = .stuck ∨ ∃ ρ', tg ρ d = .ok ρ') :
    tG K He H0e tg v σ H fun σ2 H2 => tS K E He H0e s { D' with nx := LoopI K E He H0e H₁ tg s ds D' (i + 1), ct := LoopI K E He H0e H₁ tg s ds D' (i + 1), bk := D'.nx } σ2 H2 := by
  obtain ⟨H₀, ρ, z, h, q⟩ := h
  have hi : i < ds.length := (List.getElem?_eq_some_iff.mp hd).1
  have hdr : ds.drop i = d :: ds.drop (i + 1) := by
    rw [List.drop_eq_getElem_cons hi]
    rw [List.getElem?_eq_getElem hi] at hd
    cases hd; rfl
  rw [hdr] at q
  refine ⟨H₀, ρ, d, h, rv.mono z, ?_⟩
  unfold forD at q
  rcases he ρ with e1 | ⟨ρ1, e1⟩
  · rw [e1] at q; exact q.elim
  · rw [e1] at q ⊢
    intro σ' H' H₀' z' h'
    refine ⟨H₀', ρ1, h', ?_⟩
    replace q := postS.grow (r := (s ρ1).bind fun x => match x with
      | .nx ρ2 => forD tg s (ds.drop (i + 1)) ρ2
      | .ct ρ2 => forD tg s (ds.drop (i + 1)) ρ2
      | .bk ρ2 => .ok (.nx ρ2)
      | .rt d => .ok (.rt d)) q z'
    cases e2 : s ρ1 with
    | stuck => rw [e2] at q; exact q
    | exn x => rw [e2] at q; exact q
    | ok r =>
      rw [e2] at q
      cases r with
      | nx ρ2 => exact fun σ3 H3 H03 z3 h3 => ⟨H03, ρ2, (z.trans z').trans z3, h3, postS.grow (r := forD tg s (ds.drop (i + 1)) ρ2) q z3⟩
      | ct ρ2 => exact fun σ3 H3 H03 z3 h3 => ⟨H03, ρ2, (z.trans z').trans z3, h3, postS.grow (r := forD tg s (ds.drop (i + 1)) ρ2) q z3⟩
      | bk ρ2 => exact q
      | rt d => exact q
theorem LoopI.done {K : PySem.W.Frag} {H₁ : Hp} {tg : Ev → D → Res Ev} {ds : List D} {D' : Ends} {σ : L2.St} {H : Hp} (h : LoopI K E He H0e H₁ tg s ds D' ds.length σ H) : D'.nx σ H := by
  obtain ⟨H₀, ρ, z, h, q⟩ := h
  rw [List.drop_length] at q
  unfold forD at q
  exact q σ H H₀ (Same.refl _) h
def Total (tg : Ev → D → Res Ev) : Prop := ∀ ρ d, tg ρ d = .stuck ∨ ∃ ρ', tg ρ d = .ok ρ'
theorem total_set {i : Nat} : Total (gSet i) := fun ρ d => .inr ⟨_, rfl⟩
def sFor (f : Ev → Res D) (tg : Ev → D → Res Ev) (s : Ev → Res Fl) : Ev → Res Fl := fun ρ => (f ρ).bind fun d => match d with
  | .lst ds => forD tg s ds ρ
  | _ => .stuck
def intsFrom (lo : Int) (n : Nat) : List D := (List.range n).map fun (k : Nat) => D.int (lo + (k : Int))
def sForR (f : Ev → Res D) (tg : Ev → D → Res Ev) (s : Ev → Res Fl) : Ev → Res Fl := fun ρ => (f (shr ρ)).bind fun d => match d with
  | .int j => if -4611686018427387904 ≤ j ∧ j < 4611686018427387904 then forD tg s (intsFrom 0 j.toNat) ρ else .stuck
  | _ => .stuck
theorem ds_forR {tgt iter : Expr} {p pos2 : Pos} {body : List Stmt} {tg : Ev → D → Res Ev} (hp : PassesOwn (model X.prog X.w) X.A X.env X.xe) (hc : X.calm = true) (hgl : Gl X "range") (hm : X.mg "range" = none) (hi : DE X E iter f) (hg : DG X E He H0e tgt tg) (ht : Total tg) (hb : DSs X E He H0e body s)
    (hst : starEach [iter] X.env = [(false, eval iter X.env)] := by exact star_one rfl) (hs : ∀ x, foldedSetIterable (.Call (.Name "range" p) [iter] [] pos2) X.env x = pure x := by intro _; rfl) : DS X E He H0e (.For tgt (.Call (.Name "range" p) [iter] [] pos2) body [] pos) (sForR f tg s) := by
  refine ⟨?_⟩
  refine ps_weak (ps_for hp hc (pi_range1 hgl hm (pa_cons hi.o pa_nil hst) hst) hg.o hb.o hs) fun D' σ H ⟨H₀, ρ, h, q⟩ => ?_
  refine ⟨frz He H₀ H, shr ρ, h.frz_le, h.looks, look h q fun d v H1 J _ g rp q1 => ?_⟩
  cases d with
  | int j =>
    rw [Rep.int_iff.mp rp]
    replace q1 : postS X.K E He H0e H₀ (if -4611686018427387904 ≤ j ∧ j < 4611686018427387904 then forD tg s (intsFrom 0 j.toNat) ρ else .stuck) D' := q1
    by_cases hj : -4611686018427387904 ≤ j ∧ j < 4611686018427387904
    · rw [if_pos hj] at q1
      refine ⟨j, rfl, by omega, by omega, ?_⟩
      have hlen : (intsFrom 0 j.toNat).length = j.toNat := by unfold intsFrom; simp
      refine for_range (lo := 0) (n := j.toNat) (g := tG X.K He H0e tg) (tb := tS X.K E He H0e s) (D := D') (LoopI X.K E He H0e H₀ tg s (intsFrom 0 j.toNat) D') ⟨H₀, ρ, Same.refl _, h.same g.s, q1⟩ ?_ ?_
      · intro i σ' H' hlt hI
        refine hI.step (d := .int (0 + i)) ?_ (Rep.int_iff.mpr rfl) fun ρ => ht ρ _
        unfold intsFrom
        simp [hlt]
      · intro σ' H' hI
        exact LoopI.done (ds := intsFrom 0 j.toNat) (by rw [hlen]; exact hI)
    · rw [if_neg hj] at q1; exact q1.elim
  | _ => exact q1.elim
def whileD (c : Ev → Res D) (s : Ev → Res Fl) : Nat → Ev → Res Fl
  | 0, _ => .stuck
  | n + 1, ρ => (c (shr ρ)).bind fun x => match x with
    | .bl b => if b = true then (s ρ).bind fun x => match x with
        | .nx ρ2 => whileD c s n ρ2
        | .ct ρ2 => whileD c s n ρ2
        | .bk ρ2 => .ok (.nx ρ2)
        | .rt d => .ok (.rt d)
      else .ok (.nx ρ)
    | _ => .stuck
def sWhile (fuel : Ev → Nat) (c : Ev → Res D) (s : Ev → Res Fl) : Ev → Res Fl := fun ρ => whileD c s (fuel ρ) ρ
theorem ds_while (fuel : Ev → Nat) {c : Expr} {body : List Stmt} {fc : Ev → Res D} (hp : PassesOwn (model X.prog X.w) X.A X.env X.xe) (hc : DT X E c fc) (hb : DSs X E He H0e body s) : DS X E He H0e (.While c body [] pos) (sWhile fuel fc s) := by
  refine ⟨?_⟩
  refine ps_weak (ps_while hp hc.o hb.o) fun D' σ H ⟨H₀, ρ, h, q⟩ => ?_
  refine ⟨fun m σ H => ∃ H₀ ρ, SRx X.K He H0e H₀ σ H ρ ∧ postS X.K E He H0e H₀ (whileD fc s m ρ) D', ⟨fuel ρ, H₀, ρ, h, q⟩, ?_⟩
  rintro m σ1 H1 ⟨H01, ρ1, h1, q1⟩
  cases m with
  | zero => exact q1.elim
  | succ m =>
    refine ⟨frz He H01 H1, shr ρ1, h1.frz_le, h1.looks, ?_⟩
    unfold whileD at q1
    refine lookT (k := fun b => if b = true then (s ρ1).bind fun x => match x with
        | .nx ρ2 => whileD fc s m ρ2
        | .ct ρ2 => whileD fc s m ρ2
        | .bk ρ2 => .ok (.nx ρ2)
        | .rt d => .ok (.rt d)
      else .ok (.nx ρ1)) h1 q1 fun b H2 hs q2 => ?_
    cases b with
    | false =>
      rw [if_neg Bool.false_ne_true] at q2 ⊢
      exact q2 σ1 H2 H01 (Same.refl _) (h1.same hs)
    | true =>
      rw [if_pos rfl] at q2 ⊢
      refine ⟨fun σ' H' => ∃ m', m' < m + 1 ∧ ∃ H₀ ρ, SRx X.K He H0e H₀ σ' H' ρ ∧ postS X.K E He H0e H₀ (whileD fc s m' ρ) D', fun σ' H' z => z, H01, ρ1, h1.same hs, ?_⟩
      cases e2 : s ρ1 with
      | stuck => rw [e2] at q2; exact q2
      | exn x => rw [e2] at q2; exact q2
      | ok r =>
        rw [e2] at q2
        cases r with
        | nx ρ2 => exact fun σ3 H3 H03 z3 h3 => ⟨m, Nat.lt_succ_self _, H03, ρ2, h3, postS.grow (r := whileD fc s m ρ2) q2 z3⟩
        | ct ρ2 => exact fun σ3 H3 H03 z3 h3 => ⟨m, Nat.lt_succ_self _, H03, ρ2, h3, postS.grow (r := whileD fc s m ρ2) q2 z3⟩
        | bk ρ2 => exact q2
        | rt d => exact q2
end
def runD (n : Nat) (s : Ev → Res Fl) (ds : List D) : Res D := (s (ds.map Sl.sh ++ List.replicate (n - ds.length) .no)).bind fun r => match r with
  | .nx _ => .ok .non
  | .rt d => .ok d
  | _ => .stuck
theorem start_reads {K : PySem.W.Frag} {H₀ : Hp} {N : List Str} {ds : List D} {vs : List V} (h : Reps K H₀ ds vs) : Reads K H₀ (start N vs) (ds.map Sl.sh ++ List.replicate (N.length - ds.length) .no) := by
  intro i d e
  have hl := h.length
  by_cases hi : i < ds.length
  · rw [List.getElem?_append_left (by simpa using hi), List.getElem?_map] at e
    cases q : ds[i]? with
    | none => rw [q] at e; cases e
    | some d' =>
      rw [q] at e; cases e
      obtain ⟨v, h1, h2⟩ := h.get q
      refine ⟨v, ?_, h2⟩
      unfold L2.start
      rw [List.getElem?_append_left (by simp; omega), List.getElem?_map, h1]
      rfl
  · rw [List.getElem?_append_right (by simpa using hi), List.getElem?_replicate] at e
    split at e <;> cases e
theorem fn_mirror {P : Program} {w : World} {K : PySem.W.Frag} {mg : Str → Option Value} {base : Heap} {x qual : Str} {st : Stmt} {f : Addr} {fd : FuncData} {N ps : List Str} {k : Nat} {s : Ev → Res Fl} (F : Fun K x qual st f fd) (S : FnScope N ps (defScope st))
    (hbody : ∀ (cdv : Value) (A : Around) (outer : List PySem.Env) (s0 : Shared) (H H₀ : Hp) (E : XK), Room k (A.deeper (envOfC qual (defScope st) s0.heap.objs.size f cdv)) →
      DSs (cxOf CX0 P w K mg base N qual (defScope st) f cdv A outer s0 H E).nox E H H₀ (defBody st) s) : FnOk P w K mg base CX0 (k + 1) f fd ps (spD K ps.length (runD N.length s)) := by
  have hpl : ps.length ≤ N.length := by have := congrArg List.length S.pre; rw [List.length_take] at this; omega
  refine F.ok S (fun vs H Q E h => h.1) fun cdv A outer s0 H vs Q E hr h => ?_
  obtain ⟨hn, H₀, ds, hs, hv, q⟩ := h
  refine ⟨_, (hbody cdv A outer s0 H H₀ E hr).o, H₀, ds.map Sl.sh ++ List.replicate (N.length - ds.length) .no, ?_, ?_⟩
  · refine ⟨Grow.refl hs, start_reads hv, fun i d e => ?_, fun i j d d' hij e => ?_, ?_⟩
    · by_cases hi : i < ds.length
      · rw [List.getElem?_append_left (by simpa using hi), List.getElem?_map] at e
        cases q : ds[i]? with
        | none => rw [q] at e; cases e
        | some d' => rw [q] at e; cases e
      · rw [List.getElem?_append_right (by simpa using hi), List.getElem?_replicate] at e
        split at e <;> cases e
    · by_cases hi : i < ds.length
      · rw [List.getElem?_append_left (by simpa using hi), List.getElem?_map] at e
        cases q : ds[i]? with
        | none => rw [q] at e; cases e
        | some d' => rw [q] at e; cases e
      · rw [List.getElem?_append_right (by simpa using hi), List.getElem?_replicate] at e
        split at e <;> cases e
    · unfold L2.start
      have := hv.length
      simp only [List.length_append, List.length_map, List.length_replicate]
      omega
  · unfold runD at q
    cases e1 : s (ds.map Sl.sh ++ List.replicate (N.length - ds.length) .no) with
    | stuck => rw [e1] at q; exact q
    | exn x => rw [e1] at q; exact q
    | ok r =>
      rw [e1] at q
      cases r with
      | nx ρ' => exact fun σ' H' H₀' _ h' => q .non H' H₀' h'.g (Rep.non_iff.mpr rfl)
      | rt d => exact fun v H' H₀' g rp => q v H' H₀' g rp
      | bk ρ' => exact q.elim
      | ct ρ' => exact q.elim
end DL
set_option Elab.async false
set_option linter.all false
set_option maxRecDepth 100000
namespace DL
open PySem PySem.Spec PyProof.Rows L2
mutual
def eqD : D → D → Bool
  | .non, .non => true
  | .bl a, .bl b => a == b
  | .bl a, .int b => (if a then 1 else 0) == b
  | .int a, .bl b => a == (if b then 1 else 0)
  | .int a, .int b => a == b
  | .str a, .str b => a == b
  | .tup xs, .tup ys => eqDs xs ys
  | .lst xs, .lst ys => eqDs xs ys
  | _, _ => false
def eqDs : List D → List D → Bool
  | [], [] => true
  | x :: xs, y :: ys => eqD x y && eqDs xs ys
  | _, _ => false
end
def shal : Nat → D → Bool
  | _, .non => true
  | _, .bl _ => true
  | _, .int _ => true
  | _, .str _ => true
  | n + 1, .tup ds => ds.all (shal n)
  | n + 1, .lst ds => ds.all (shal n)
  | _, _ => false
theorem eqDs_refl {ds : List D} (h : ∀ d ∈ ds, eqD d d = true) : eqDs ds ds = true := by
  induction ds with
  | nil => simp [eqDs]
  | cons d r ih =>
    unfold eqDs
    rw [h d List.mem_cons_self, ih fun x hx => h x (List.mem_cons_of_mem _ hx)]
    rfl
theorem eqD_refl : ∀ (n : Nat) (d : D), shal n d = true → eqD d d = true
  | _, .non, _ => by simp [eqD]
  | _, .bl b, _ => by simp [eqD]
  | _, .int b, _ => by simp [eqD]
  | _, .str b, _ => by simp [eqD]
  | n + 1, .tup ds, h => by
    unfold shal at h
    unfold eqD
    exact eqDs_refl fun d hd => eqD_refl n d (List.all_eq_true.mp h d hd)
  | n + 1, .lst ds, h => by
    unfold shal at h
    unfold eqD
    exact eqDs_refl fun d hd => eqD_refl n d (List.all_eq_true.mp h d hd)
  | 0, .tup ds, h => by unfold shal at h; cases h
  | 0, .lst ds, h => by unfold shal at h; cases h
  | 0, .dic ks ds, h => by unfold shal at h; cases h
  | n + 1, .dic ks ds, h => by unfold shal at h; cases h
  | 0, .exc x, h => by unfold shal at h; cases h
  | n + 1, .exc x, h => by unfold shal at h; cases h
theorem eqD_tup {xs ys : List D} : eqD (.tup xs) (.tup ys) = eqDs xs ys := by rw [eqD]
theorem eqD_lst {xs ys : List D} : eqD (.lst xs) (.lst ys) = eqDs xs ys := by rw [eqD]
theorem eqDs_range : ∀ (xs ys : List D), xs.length = ys.length → eqDs xs ys = (List.range xs.length).all fun j => eqD (xs.getD j .non) (ys.getD j .non)
  | [], [], _ => by simp [eqDs]
  | x :: xs, y :: ys, h => by
    have ih := eqDs_range xs ys (by simpa using h)
    unfold eqDs
    rw [ih, List.length_cons, List.range_succ_eq_map, List.all_cons, List.all_map]
    rfl
  | [], _ :: _, h => by simp at h
  | _ :: _, [], h => by simp at h
theorem eqDs_len : ∀ (xs ys : List D), xs.length ≠ ys.length → eqDs xs ys = false
  | [], [], h => absurd rfl h
  | x :: xs, y :: ys, h => by
    unfold eqDs
    rw [eqDs_len xs ys (by simpa using h), Bool.and_false]
  | [], _ :: _, h => by simp [eqDs]
  | _ :: _, [], h => by simp [eqDs]
section
variable {X : Cx} {pins : List (Addr × Obj)} {σ : L2.St} {H : Hp} {s : Shared}
theorem Rep.tup_get (I : Inv X pins σ H s) {ds : List D} {v : V} {u : Value} (r : Rep X.K H (.tup ds) v) (rv : RelV v u) : ∃ a vs its, v = .ref a ∧ u = .ref a ∧ SqT X.K H a vs ∧ Reps X.K H ds vs ∧ Vals vs its ∧ IsTup s.heap a its.toArray ∧ ds.length = its.length := by
  obtain ⟨a, vs, rfl, h1, h2⟩ := Rep.tup_iff.mp r
  obtain rfl : u = Value.ref a := rv
  obtain ⟨its, h3, h4, _⟩ := I.tuple h1
  exact ⟨a, vs, its, rfl, rfl, h1, h2, h3, h4, h2.length.trans h3.length⟩
theorem Rep.lst_get (I : Inv X pins σ H s) {ds : List D} {v : V} {u : Value} (r : Rep X.K H (.lst ds) v) (rv : RelV v u) : ∃ a vs its, v = .ref a ∧ u = .ref a ∧ SqL X.K H a vs ∧ Reps X.K H ds vs ∧ Vals vs its ∧ s.heap.IsList a its.toArray ∧ ds.length = its.length := by
  obtain ⟨a, vs, rfl, h1, h2⟩ := Rep.lst_iff.mp r
  obtain rfl : u = Value.ref a := rv
  obtain ⟨its, h3, h4, _⟩ := I.list h1
  exact ⟨a, vs, its, rfl, rfl, h1, h2, h3, h4.isList, h2.length.trans h3.length⟩
theorem reps_inj {n : Nat} (ih : ∀ (d d' : D) (v : V), shal n d = true → shal n d' = true → Rep X.K H d v → Rep X.K H d' v → d = d') : ∀ (ds ds' : List D) (vs : List V), ds.all (shal n) = true → ds'.all (shal n) = true → Reps X.K H ds vs → Reps X.K H ds' vs → ds = ds'
  | [], ds', vs, _, _, h, h' => by
    rw [Reps.nil_iff.mp h] at h'
    cases ds' with
    | nil => rfl
    | cons d r => obtain ⟨_, _, e, _⟩ := Reps.cons_iff.mp h'; cases e
  | d :: ds, ds', vs, a, a', h, h' => by
    obtain ⟨v, r, rfl, h1, h2⟩ := Reps.cons_iff.mp h
    cases ds' with
    | nil => cases Reps.nil_iff.mp h'
    | cons d' ds' =>
      obtain ⟨v', r', e, h1', h2'⟩ := Reps.cons_iff.mp h'
      cases e
      rw [List.all_cons, Bool.and_eq_true] at a a'
      rw [ih d d' v a.1 a'.1 h1 h1', reps_inj ih ds ds' r a.2 a'.2 h2 h2']
theorem Rep.inj (I : Inv X pins σ H s) : ∀ (n : Nat) (d d' : D) (v : V), shal n d = true → shal n d' = true → Rep X.K H d v → Rep X.K H d' v → d = d' := by
  have atom : ∀ (n : Nat) (d d' : D) (v : V), (∀ ds, d ≠ .tup ds) → (∀ ds, d ≠ .lst ds) → shal n d = true → shal n d' = true → Rep X.K H d v → Rep X.K H d' v → d = d' := by
    intro n d d' v n1 n2 s1 s2 h h'
    have nd : ∀ m ks ds, shal m (.dic ks ds) = true → False := fun m ks ds h => by cases m <;> (unfold shal at h; cases h)
    have nx : ∀ m x, shal m (.exc x) = true → False := fun m x h => by cases m <;> (unfold shal at h; cases h)
    cases d with
    | tup ds => exact absurd rfl (n1 ds)
    | lst ds => exact absurd rfl (n2 ds)
    | dic ks ds => exact (nd _ _ _ s1).elim
    | exc x => exact (nx _ _ s1).elim
    | non =>
      rw [Rep.non_iff.mp h] at h'
      cases d' with
      | non => rfl
      | bl b => cases Rep.bl_iff.mp h'
      | int b => cases Rep.int_iff.mp h'
      | str b => cases Rep.str_iff.mp h'
      | tup ds => obtain ⟨_, _, e, _⟩ := Rep.tup_iff.mp h'; cases e
      | lst ds => obtain ⟨_, _, e, _⟩ := Rep.lst_iff.mp h'; cases e
      | dic ks ds => exact (nd _ _ _ s2).elim
      | exc x => exact (nx _ _ s2).elim
    | bl x =>
      rw [Rep.bl_iff.mp h] at h'
      cases d' with
      | non => cases Rep.non_iff.mp h'
      | bl b => cases Rep.bl_iff.mp h'; rfl
      | int b => cases Rep.int_iff.mp h'
      | str b => cases Rep.str_iff.mp h'
      | tup ds => obtain ⟨_, _, e, _⟩ := Rep.tup_iff.mp h'; cases e
      | lst ds => obtain ⟨_, _, e, _⟩ := Rep.lst_iff.mp h'; cases e
      | dic ks ds => exact (nd _ _ _ s2).elim
      | exc x => exact (nx _ _ s2).elim
    | int x =>
      rw [Rep.int_iff.mp h] at h'
      cases d' with
      | non => cases Rep.non_iff.mp h'
      | bl b => cases Rep.bl_iff.mp h'
      | int b => cases Rep.int_iff.mp h'; rfl
      | str b => cases Rep.str_iff.mp h'
      | tup ds => obtain ⟨_, _, e, _⟩ := Rep.tup_iff.mp h'; cases e
      | lst ds => obtain ⟨_, _, e, _⟩ := Rep.lst_iff.mp h'; cases e
      | dic ks ds => exact (nd _ _ _ s2).elim
      | exc x => exact (nx _ _ s2).elim
    | str x =>
      rw [Rep.str_iff.mp h] at h'
      cases d' with
      | non => cases Rep.non_iff.mp h'
      | bl b => cases Rep.bl_iff.mp h'
      | int b => cases Rep.int_iff.mp h'
      | str b => cases Rep.str_iff.mp h'; rfl
      | tup ds => obtain ⟨_, _, e, _⟩ := Rep.tup_iff.mp h'; cases e
      | lst ds => obtain ⟨_, _, e, _⟩ := Rep.lst_iff.mp h'; cases e
      | dic ks ds => exact (nd _ _ _ s2).elim
      | exc x => exact (nx _ _ s2).elim
  intro n
  induction n with
  | zero =>
    intro d d' v s1 s2 h h'
    exact atom 0 d d' v (fun ds e => by subst e; unfold shal at s1; cases s1) (fun ds e => by subst e; unfold shal at s1; cases s1) s1 s2 h h'
  | succ n ih =>
    intro d d' v s1 s2 h h'
    by_cases t1 : ∃ ds, d = .tup ds
    · obtain ⟨ds, rfl⟩ := t1
      by_cases t2 : ∃ ds', d' = .tup ds'
      · obtain ⟨ds', rfl⟩ := t2
        obtain ⟨a, vs, rfl, h1, h2⟩ := Rep.tup_iff.mp h
        obtain ⟨a', vs', e, h1', h2'⟩ := Rep.tup_iff.mp h'
        cases e
        rw [I.tuple_inj h1' h1] at h2'
        unfold shal at s1 s2
        rw [reps_inj ih ds ds' vs s1 s2 h2 h2']
      · by_cases t3 : ∃ ds', d' = .lst ds'
        · obtain ⟨ds', rfl⟩ := t3
          obtain ⟨a0, _, ev, _, _⟩ := Rep.tup_iff.mp h; subst ev
          obtain ⟨a, vs, its, ea, _, h1, h2, h3, h4, _⟩ := Rep.tup_get I h rfl; cases ea
          obtain ⟨a', vs', its', e, _, h1', h2', h3', h4', _⟩ := Rep.lst_get I h' rfl
          cases e
          exact absurd rfl (SeqAt.ne_of_list_tuple h4' h4)
        · exact (atom (n + 1) d' _ v (fun ds e => t2 ⟨ds, e⟩) (fun ds e => t3 ⟨ds, e⟩) s2 s1 h' h).symm
    · by_cases t1' : ∃ ds, d = .lst ds
      · obtain ⟨ds, rfl⟩ := t1'
        by_cases t2 : ∃ ds', d' = .lst ds'
        · obtain ⟨ds', rfl⟩ := t2
          obtain ⟨a, vs, rfl, h1, h2⟩ := Rep.lst_iff.mp h
          obtain ⟨a', vs', e, h1', h2'⟩ := Rep.lst_iff.mp h'
          cases e
          rw [I.list_inj h1' h1] at h2'
          unfold shal at s1 s2
          rw [reps_inj ih ds ds' vs s1 s2 h2 h2']
        · by_cases t3 : ∃ ds', d' = .tup ds'
          · obtain ⟨ds', rfl⟩ := t3
            obtain ⟨a0, _, ev, _, _⟩ := Rep.lst_iff.mp h; subst ev
            obtain ⟨a, vs, its, ea, _, h1, h2, h3, h4, _⟩ := Rep.lst_get I h rfl; cases ea
            obtain ⟨a', vs', its', e, _, h1', h2', h3', h4', _⟩ := Rep.tup_get I h' rfl
            cases e
            exact absurd rfl (SeqAt.ne_of_list_tuple h4 h4')
          · exact (atom (n + 1) d' _ v (fun ds e => t3 ⟨ds, e⟩) (fun ds e => t2 ⟨ds, e⟩) s2 s1 h' h).symm
      · exact atom (n + 1) d d' v (fun ds e => t1 ⟨ds, e⟩) (fun ds e => t1' ⟨ds, e⟩) s1 s2 h h'
theorem items_eq {n : Nat} {A : Around} {xs ys : List D} {vs us : List V} {is js : List Value}
    (ih : ∀ (x y : D) (v u : V) (a b : Value), shal n x = true → shal n y = true → Rep X.K H x v → Rep X.K H y u → RelV v a → RelV u b → SeqAt.EqAt A.in1 s a b (eqD x y))
    (sx : xs.all (shal n) = true) (sy : ys.all (shal n) = true) (rx : Reps X.K H xs vs) (ry : Reps X.K H ys us) (qx : Vals vs is) (qy : Vals us js) :
    ∀ j (h1 : j < is.toArray.size) (h2 : j < js.toArray.size), SeqAt.EqAt A.in1 s is.toArray[j] js.toArray[j] (eqD (xs.getD j .non) (ys.getD j .non)) := by
  intro j h1 h2
  have lx := rx.length
  have ly := ry.length
  have kx := qx.length
  have ky := qy.length
  have h1' : j < is.length := by simpa using h1
  have h2' : j < js.length := by simpa using h2
  have hx : j < xs.length := by omega
  have hy : j < ys.length := by omega
  obtain ⟨v, e1, r1⟩ := rx.get (List.getElem?_eq_getElem hx)
  obtain ⟨u, e2, r2⟩ := ry.get (List.getElem?_eq_getElem hy)
  obtain ⟨a, e3, r3⟩ := qx.get e1
  obtain ⟨b, e4, r4⟩ := qy.get e2
  have ea : is.toArray[j] = a := by
    rw [List.getElem?_eq_getElem h1'] at e3
    simpa using Option.some.inj e3
  have eb : js.toArray[j] = b := by
    rw [List.getElem?_eq_getElem h2'] at e4
    simpa using Option.some.inj e4
  rw [ea, eb]
  have gx : xs.getD j .non = xs[j] := by simp [List.getD, List.getElem?_eq_getElem hx]
  have gy : ys.getD j .non = ys[j] := by simp [List.getD, List.getElem?_eq_getElem hy]
  rw [gx, gy]
  exact ih _ _ v u a b (List.all_eq_true.mp sx _ (List.getElem_mem hx)) (List.all_eq_true.mp sy _ (List.getElem_mem hy)) r1 r2 r3 r4
theorem rc_mixed (I : Inv X pins σ H s) {A : Around} (hu : A.units < cLine) {x y : D} {v u : V} {a b : Value} (rx : Rep X.K H x v) (ry : Rep X.K H y u) (qx : RelV v a) (qy : RelV u b)
    (n1 : ∀ ds ds', ¬ (x = .lst ds ∧ y = .lst ds')) (n2 : ∀ ds ds', ¬ (x = .tup ds ∧ y = .tup ds')) (d1 : ∀ ks ds, x ≠ .dic ks ds) (d2 : ∀ ks ds, y ≠ .dic ks ds) (x1 : ∀ c, x ≠ .exc c) (x2 : ∀ c, y ≠ .exc c) :
    SeqAt.RcAt A s a b (eqD x y) ∧ SeqAt.EqAt A s a b (eqD x y) ∧ SeqAt.RcNeAt A s a b (!(eqD x y)) := by
  cases x with
  | non =>
    cases y with
    | non =>
      obtain rfl := Rep.non_iff.mp rx; obtain rfl : a = Value.none := qx
      obtain rfl := Rep.non_iff.mp ry; obtain rfl : b = Value.none := qy
      unfold eqD
      exact ⟨SeqAt.RcAt.none_none , SeqAt.EqAt.same _, SeqAt.RcNeAt.none_none ⟩
    | bl y =>
      obtain rfl := Rep.non_iff.mp rx; obtain rfl : a = Value.none := qx
      obtain rfl := Rep.bl_iff.mp ry; obtain rfl : b = Value.bool _ := qy
      unfold eqD
      exact ⟨SeqAt.RcAt.none_bool _, SeqAt.EqAt.none_bool _, SeqAt.RcNeAt.none_bool _⟩
    | int y =>
      obtain rfl := Rep.non_iff.mp rx; obtain rfl : a = Value.none := qx
      obtain rfl := Rep.int_iff.mp ry; obtain ⟨ty, rfl⟩ : ∃ t, b = Value.int _ t := qy
      unfold eqD
      exact ⟨SeqAt.RcAt.none_int _ _, SeqAt.EqAt.none_int _ _, SeqAt.RcNeAt.none_int _ _⟩
    | str y =>
      obtain rfl := Rep.non_iff.mp rx; obtain rfl : a = Value.none := qx
      obtain rfl := Rep.str_iff.mp ry; obtain ⟨ty, rfl⟩ : ∃ t, b = Value.str _ t := qy
      unfold eqD
      exact ⟨SeqAt.RcAt.none_str _ _, SeqAt.EqAt.none_str _ _, SeqAt.RcNeAt.none_str _ _⟩
    | lst y =>
      obtain rfl := Rep.non_iff.mp rx; obtain rfl : a = Value.none := qx
      obtain ⟨ly, _, _, rfl, rfl, _, _, _, hy, _⟩ := Rep.lst_get I ry qy
      unfold eqD
      exact ⟨SeqAt.RcAt.none_list  hy hu, SeqAt.EqAt.none_list  hy hu, SeqAt.RcNeAt.none_list  hy hu⟩
    | tup y =>
      obtain rfl := Rep.non_iff.mp rx; obtain rfl : a = Value.none := qx
      obtain ⟨ly, _, _, rfl, rfl, _, _, _, hy, _⟩ := Rep.tup_get I ry qy
      unfold eqD
      exact ⟨SeqAt.RcAt.none_tuple  hy hu, SeqAt.EqAt.none_tuple  hy hu, SeqAt.RcNeAt.none_tuple  hy hu⟩
    | dic ks ds => exact absurd rfl (d2 ks ds)
    | exc c => exact absurd rfl (x2 c)
  | bl x =>
    cases y with
    | non =>
      obtain rfl := Rep.bl_iff.mp rx; obtain rfl : a = Value.bool _ := qx
      obtain rfl := Rep.non_iff.mp ry; obtain rfl : b = Value.none := qy
      unfold eqD
      exact ⟨SeqAt.RcAt.bool_none _, SeqAt.EqAt.bool_none _, SeqAt.RcNeAt.bool_none _⟩
    | bl y =>
      obtain rfl := Rep.bl_iff.mp rx; obtain rfl : a = Value.bool _ := qx
      obtain rfl := Rep.bl_iff.mp ry; obtain rfl : b = Value.bool _ := qy
      unfold eqD
      exact ⟨SeqAt.RcAt.bool_bool _ _, SeqAt.EqAt.bool_bool _ _, SeqAt.RcNeAt.bool_bool _ _⟩
    | int y =>
      obtain rfl := Rep.bl_iff.mp rx; obtain rfl : a = Value.bool _ := qx
      obtain rfl := Rep.int_iff.mp ry; obtain ⟨ty, rfl⟩ : ∃ t, b = Value.int _ t := qy
      unfold eqD
      exact ⟨SeqAt.RcAt.bool_int _ _ _, SeqAt.EqAt.bool_int _ _ _, SeqAt.RcNeAt.bool_int _ _ _⟩
    | str y =>
      obtain rfl := Rep.bl_iff.mp rx; obtain rfl : a = Value.bool _ := qx
      obtain rfl := Rep.str_iff.mp ry; obtain ⟨ty, rfl⟩ : ∃ t, b = Value.str _ t := qy
      unfold eqD
      exact ⟨SeqAt.RcAt.bool_str _ _ _, SeqAt.EqAt.bool_str _ _ _, SeqAt.RcNeAt.bool_str _ _ _⟩
    | lst y =>
      obtain rfl := Rep.bl_iff.mp rx; obtain rfl : a = Value.bool _ := qx
      obtain ⟨ly, _, _, rfl, rfl, _, _, _, hy, _⟩ := Rep.lst_get I ry qy
      unfold eqD
      exact ⟨SeqAt.RcAt.bool_list _ hy hu, SeqAt.EqAt.bool_list _ hy hu, SeqAt.RcNeAt.bool_list _ hy hu⟩
    | tup y =>
      obtain rfl := Rep.bl_iff.mp rx; obtain rfl : a = Value.bool _ := qx
      obtain ⟨ly, _, _, rfl, rfl, _, _, _, hy, _⟩ := Rep.tup_get I ry qy
      unfold eqD
      exact ⟨SeqAt.RcAt.bool_tuple _ hy hu, SeqAt.EqAt.bool_tuple _ hy hu, SeqAt.RcNeAt.bool_tuple _ hy hu⟩
    | dic ks ds => exact absurd rfl (d2 ks ds)
    | exc c => exact absurd rfl (x2 c)
  | int x =>
    cases y with
    | non =>
      obtain rfl := Rep.int_iff.mp rx; obtain ⟨tx, rfl⟩ : ∃ t, a = Value.int _ t := qx
      obtain rfl := Rep.non_iff.mp ry; obtain rfl : b = Value.none := qy
      unfold eqD
      exact ⟨SeqAt.RcAt.int_none _ _, SeqAt.EqAt.int_none _ _, SeqAt.RcNeAt.int_none _ _⟩
    | bl y =>
      obtain rfl := Rep.int_iff.mp rx; obtain ⟨tx, rfl⟩ : ∃ t, a = Value.int _ t := qx
      obtain rfl := Rep.bl_iff.mp ry; obtain rfl : b = Value.bool _ := qy
      unfold eqD
      exact ⟨SeqAt.RcAt.int_bool _ _ _, SeqAt.EqAt.int_bool _ _ _, SeqAt.RcNeAt.int_bool _ _ _⟩
    | int y =>
      obtain rfl := Rep.int_iff.mp rx; obtain ⟨tx, rfl⟩ : ∃ t, a = Value.int _ t := qx
      obtain rfl := Rep.int_iff.mp ry; obtain ⟨ty, rfl⟩ : ∃ t, b = Value.int _ t := qy
      unfold eqD
      exact ⟨SeqAt.RcAt.int_int _ _ _ _, SeqAt.EqAt.int_int _ _ _ _, SeqAt.RcNeAt.int_int _ _ _ _⟩
    | str y =>
      obtain rfl := Rep.int_iff.mp rx; obtain ⟨tx, rfl⟩ : ∃ t, a = Value.int _ t := qx
      obtain rfl := Rep.str_iff.mp ry; obtain ⟨ty, rfl⟩ : ∃ t, b = Value.str _ t := qy
      unfold eqD
      exact ⟨SeqAt.RcAt.int_str _ _ _ _, SeqAt.EqAt.int_str _ _ _ _, SeqAt.RcNeAt.int_str _ _ _ _⟩
    | lst y =>
      obtain rfl := Rep.int_iff.mp rx; obtain ⟨tx, rfl⟩ : ∃ t, a = Value.int _ t := qx
      obtain ⟨ly, _, _, rfl, rfl, _, _, _, hy, _⟩ := Rep.lst_get I ry qy
      unfold eqD
      exact ⟨SeqAt.RcAt.int_list _ _ hy hu, SeqAt.EqAt.int_list _ _ hy hu, SeqAt.RcNeAt.int_list _ _ hy hu⟩
    | tup y =>
      obtain rfl := Rep.int_iff.mp rx; obtain ⟨tx, rfl⟩ : ∃ t, a = Value.int _ t := qx
      obtain ⟨ly, _, _, rfl, rfl, _, _, _, hy, _⟩ := Rep.tup_get I ry qy
      unfold eqD
      exact ⟨SeqAt.RcAt.int_tuple _ _ hy hu, SeqAt.EqAt.int_tuple _ _ hy hu, SeqAt.RcNeAt.int_tuple _ _ hy hu⟩
    | dic ks ds => exact absurd rfl (d2 ks ds)
    | exc c => exact absurd rfl (x2 c)
  | str x =>
    cases y with
    | non =>
      obtain rfl := Rep.str_iff.mp rx; obtain ⟨tx, rfl⟩ : ∃ t, a = Value.str _ t := qx
      obtain rfl := Rep.non_iff.mp ry; obtain rfl : b = Value.none := qy
      unfold eqD
      exact ⟨SeqAt.RcAt.str_none _ _, SeqAt.EqAt.str_none _ _, SeqAt.RcNeAt.str_none _ _⟩
    | bl y =>
      obtain rfl := Rep.str_iff.mp rx; obtain ⟨tx, rfl⟩ : ∃ t, a = Value.str _ t := qx
      obtain rfl := Rep.bl_iff.mp ry; obtain rfl : b = Value.bool _ := qy
      unfold eqD
      exact ⟨SeqAt.RcAt.str_bool _ _ _, SeqAt.EqAt.str_bool _ _ _, SeqAt.RcNeAt.str_bool _ _ _⟩
    | int y =>
      obtain rfl := Rep.str_iff.mp rx; obtain ⟨tx, rfl⟩ : ∃ t, a = Value.str _ t := qx
      obtain rfl := Rep.int_iff.mp ry; obtain ⟨ty, rfl⟩ : ∃ t, b = Value.int _ t := qy
      unfold eqD
      exact ⟨SeqAt.RcAt.str_int _ _ _ _, SeqAt.EqAt.str_int _ _ _ _, SeqAt.RcNeAt.str_int _ _ _ _⟩
    | str y =>
      obtain rfl := Rep.str_iff.mp rx; obtain ⟨tx, rfl⟩ : ∃ t, a = Value.str _ t := qx
      obtain rfl := Rep.str_iff.mp ry; obtain ⟨ty, rfl⟩ : ∃ t, b = Value.str _ t := qy
      unfold eqD
      exact ⟨SeqAt.RcAt.str_str _ _ _ _, SeqAt.EqAt.str_str _ _ _ _, SeqAt.RcNeAt.str_str _ _ _ _⟩
    | lst y =>
      obtain rfl := Rep.str_iff.mp rx; obtain ⟨tx, rfl⟩ : ∃ t, a = Value.str _ t := qx
      obtain ⟨ly, _, _, rfl, rfl, _, _, _, hy, _⟩ := Rep.lst_get I ry qy
      unfold eqD
      exact ⟨SeqAt.RcAt.str_list _ _ hy hu, SeqAt.EqAt.str_list _ _ hy hu, SeqAt.RcNeAt.str_list _ _ hy hu⟩
    | tup y =>
      obtain rfl := Rep.str_iff.mp rx; obtain ⟨tx, rfl⟩ : ∃ t, a = Value.str _ t := qx
      obtain ⟨ly, _, _, rfl, rfl, _, _, _, hy, _⟩ := Rep.tup_get I ry qy
      unfold eqD
      exact ⟨SeqAt.RcAt.str_tuple _ _ hy hu, SeqAt.EqAt.str_tuple _ _ hy hu, SeqAt.RcNeAt.str_tuple _ _ hy hu⟩
    | dic ks ds => exact absurd rfl (d2 ks ds)
    | exc c => exact absurd rfl (x2 c)
  | lst x =>
    cases y with
    | non =>
      obtain ⟨lx, _, _, rfl, rfl, _, _, _, hx, _⟩ := Rep.lst_get I rx qx
      obtain rfl := Rep.non_iff.mp ry; obtain rfl : b = Value.none := qy
      unfold eqD
      exact ⟨SeqAt.RcAt.list_none  hx hu, SeqAt.EqAt.list_none  hx hu, SeqAt.RcNeAt.list_none  hx hu⟩
    | bl y =>
      obtain ⟨lx, _, _, rfl, rfl, _, _, _, hx, _⟩ := Rep.lst_get I rx qx
      obtain rfl := Rep.bl_iff.mp ry; obtain rfl : b = Value.bool _ := qy
      unfold eqD
      exact ⟨SeqAt.RcAt.list_bool _ hx hu, SeqAt.EqAt.list_bool _ hx hu, SeqAt.RcNeAt.list_bool _ hx hu⟩
    | int y =>
      obtain ⟨lx, _, _, rfl, rfl, _, _, _, hx, _⟩ := Rep.lst_get I rx qx
      obtain rfl := Rep.int_iff.mp ry; obtain ⟨ty, rfl⟩ : ∃ t, b = Value.int _ t := qy
      unfold eqD
      exact ⟨SeqAt.RcAt.list_int _ _ hx hu, SeqAt.EqAt.list_int _ _ hx hu, SeqAt.RcNeAt.list_int _ _ hx hu⟩
    | str y =>
      obtain ⟨lx, _, _, rfl, rfl, _, _, _, hx, _⟩ := Rep.lst_get I rx qx
      obtain rfl := Rep.str_iff.mp ry; obtain ⟨ty, rfl⟩ : ∃ t, b = Value.str _ t := qy
      unfold eqD
      exact ⟨SeqAt.RcAt.list_str _ _ hx hu, SeqAt.EqAt.list_str _ _ hx hu, SeqAt.RcNeAt.list_str _ _ hx hu⟩
    | lst y =>
      exact absurd ⟨rfl, rfl⟩ (n1 x y)
    | tup y =>
      obtain ⟨lx, _, _, rfl, rfl, _, _, _, hx, _⟩ := Rep.lst_get I rx qx
      obtain ⟨ly, _, _, rfl, rfl, _, _, _, hy, _⟩ := Rep.tup_get I ry qy
      unfold eqD
      exact ⟨SeqAt.RcAt.list_tuple  hx hy hu, SeqAt.EqAt.list_tuple  hx hy hu, SeqAt.RcNeAt.list_tuple  hx hy hu⟩
    | dic ks ds => exact absurd rfl (d2 ks ds)
    | exc c => exact absurd rfl (x2 c)
  | tup x =>
    cases y with
    | non =>
      obtain ⟨lx, _, _, rfl, rfl, _, _, _, hx, _⟩ := Rep.tup_get I rx qx
      obtain rfl := Rep.non_iff.mp ry; obtain rfl : b = Value.none := qy
      unfold eqD
      exact ⟨SeqAt.RcAt.tuple_none  hx hu, SeqAt.EqAt.tuple_none  hx hu, SeqAt.RcNeAt.tuple_none  hx hu⟩
    | bl y =>
      obtain ⟨lx, _, _, rfl, rfl, _, _, _, hx, _⟩ := Rep.tup_get I rx qx
      obtain rfl := Rep.bl_iff.mp ry; obtain rfl : b = Value.bool _ := qy
      unfold eqD
      exact ⟨SeqAt.RcAt.tuple_bool _ hx hu, SeqAt.EqAt.tuple_bool _ hx hu, SeqAt.RcNeAt.tuple_bool _ hx hu⟩
    | int y =>
      obtain ⟨lx, _, _, rfl, rfl, _, _, _, hx, _⟩ := Rep.tup_get I rx qx
      obtain rfl := Rep.int_iff.mp ry; obtain ⟨ty, rfl⟩ : ∃ t, b = Value.int _ t := qy
      unfold eqD
      exact ⟨SeqAt.RcAt.tuple_int _ _ hx hu, SeqAt.EqAt.tuple_int _ _ hx hu, SeqAt.RcNeAt.tuple_int _ _ hx hu⟩
    | str y =>
      obtain ⟨lx, _, _, rfl, rfl, _, _, _, hx, _⟩ := Rep.tup_get I rx qx
      obtain rfl := Rep.str_iff.mp ry; obtain ⟨ty, rfl⟩ : ∃ t, b = Value.str _ t := qy
      unfold eqD
      exact ⟨SeqAt.RcAt.tuple_str _ _ hx hu, SeqAt.EqAt.tuple_str _ _ hx hu, SeqAt.RcNeAt.tuple_str _ _ hx hu⟩
    | lst y =>
      obtain ⟨lx, _, _, rfl, rfl, _, _, _, hx, _⟩ := Rep.tup_get I rx qx
      obtain ⟨ly, _, _, rfl, rfl, _, _, _, hy, _⟩ := Rep.lst_get I ry qy
      unfold eqD
      exact ⟨SeqAt.RcAt.tuple_list  hx hy hu, SeqAt.EqAt.tuple_list  hx hy hu, SeqAt.RcNeAt.tuple_list  hx hy hu⟩
    | tup y =>
      exact absurd ⟨rfl, rfl⟩ (n2 x y)
    | dic ks ds => exact absurd rfl (d2 ks ds)
    | exc c => exact absurd rfl (x2 c)
  | dic ks ds => exact absurd rfl (d1 ks ds)
  | exc c => exact absurd rfl (x1 c)
theorem rc_D (I : Inv X pins σ H s) : ∀ (n : Nat) (A : Around), A.units + n < cLine → ∀ (x y : D) (v u : V) (a b : Value), shal n x = true → shal n y = true → Rep X.K H x v → Rep X.K H y u → RelV v a → RelV u b →
    SeqAt.RcAt A s a b (eqD x y) ∧ SeqAt.EqAt A s a b (eqD x y) ∧ SeqAt.RcNeAt A s a b (!(eqD x y)) := by
  have nd : ∀ m ks ds, shal m (.dic ks ds) = true → False := fun m ks ds h => by cases m <;> (unfold shal at h; cases h)
  have nx : ∀ m x, shal m (.exc x) = true → False := fun m x h => by cases m <;> (unfold shal at h; cases h)
  intro n
  induction n with
  | zero =>
    intro A hu x y v u a b sx sy rx ry qa qb
    refine rc_mixed I (by omega) rx ry qa qb (fun ds ds' z => ?_) (fun ds ds' z => ?_) (fun ks ds z => ?_) (fun ks ds z => ?_) (fun c z => nx _ _ (z ▸ sx)) (fun c z => nx _ _ (z ▸ sy))
    · rw [z.1] at sx; unfold shal at sx; cases sx
    · rw [z.1] at sx; unfold shal at sx; cases sx
    · rw [z] at sx; exact nd _ _ _ sx
    · rw [z] at sy; exact nd _ _ _ sy
  | succ n ih =>
    intro A hu x y v u a b sx sy rx ry qa qb
    have ih' : ∀ (x y : D) (v u : V) (a b : Value), shal n x = true → shal n y = true → Rep X.K H x v → Rep X.K H y u → RelV v a → RelV u b → SeqAt.EqAt A.in1 s a b (eqD x y) :=
      fun x y v u a b s1 s2 r1 r2 q1 q2 => (ih A.in1 (by show A.units + 1 + n < cLine; omega) x y v u a b s1 s2 r1 r2 q1 q2).2.1
    by_cases t1 : ∃ ds ds', x = .tup ds ∧ y = .tup ds'
    · obtain ⟨xs, ys, rfl, rfl⟩ := t1
      obtain ⟨l, vs, is, rfl, rfl, h1, h2, h3, h4, h5⟩ := Rep.tup_get I rx qa
      obtain ⟨m, us, js, rfl, rfl, k1, k2, k3, k4, k5⟩ := Rep.tup_get I ry qb
      have hsx := sx
      have hsy := sy
      unfold shal at sx sy
      have each := items_eq (A := A) ih' sx sy h2 k2 h3 k3
      have eall : eqD (.tup xs) (.tup ys) = ((List.range (min is.toArray.size js.toArray.size)).all (fun j => eqD (xs.getD j .non) (ys.getD j .non)) && is.toArray.size == js.toArray.size) := by
        rw [eqD_tup]
        simp only [List.size_toArray, ← h5, ← k5]
        by_cases hl : xs.length = ys.length
        · rw [eqDs_range xs ys hl, ← hl, Nat.min_self, beq_self_eq_true, Bool.and_true]
        · rw [eqDs_len xs ys hl, beq_eq_false_iff_ne.mpr hl, Bool.and_false]
      refine ⟨?_, ?_, ?_⟩
      · rw [eall]; exact SeqAt.RcAt.tuples h4 k4 (by omega) each
      · by_cases hlm : l = m
        · subst hlm
          rw [Rep.inj I (n + 1) _ _ _ hsx hsy rx ry, eqD_refl (n + 1) _ hsy]
          exact SeqAt.EqAt.same _
        · refine SeqAt.EqAt.of_refs hlm ?_
          rw [eall]; exact SeqAt.RcAt.tuples h4 k4 (by omega) each
      · rw [eall]; exact SeqAt.RcNeAt.tuples h4 k4 (by omega) each
    · by_cases t2 : ∃ ds ds', x = .lst ds ∧ y = .lst ds'
      · obtain ⟨xs, ys, rfl, rfl⟩ := t2
        obtain ⟨l, vs, is, rfl, rfl, h1, h2, h3, h4, h5⟩ := Rep.lst_get I rx qa
        obtain ⟨m, us, js, rfl, rfl, k1, k2, k3, k4, k5⟩ := Rep.lst_get I ry qb
        have hsx := sx
        have hsy := sy
        unfold shal at sx sy
        have each := items_eq (A := A) ih' sx sy h2 k2 h3 k3
        by_cases hl : xs.length = ys.length
        · have hsz : is.toArray.size = js.toArray.size := by simp only [List.size_toArray]; omega
          have eall : eqD (.lst xs) (.lst ys) = (List.range is.toArray.size).all (fun j => eqD (xs.getD j .non) (ys.getD j .non)) := by
            rw [eqD_lst]
            simp only [List.size_toArray, ← h5]
            exact eqDs_range xs ys hl
          refine ⟨?_, ?_, ?_⟩
          · rw [eall]; exact SeqAt.RcAt.lists h4 k4 hsz (by omega) each
          · by_cases hlm : l = m
            · subst hlm
              rw [Rep.inj I (n + 1) _ _ _ hsx hsy rx ry, eqD_refl (n + 1) _ hsy]
              exact SeqAt.EqAt.same _
            · refine SeqAt.EqAt.of_refs hlm ?_
              rw [eall]; exact SeqAt.RcAt.lists h4 k4 hsz (by omega) each
          · rw [eall]; exact SeqAt.RcNeAt.lists h4 k4 hsz (by omega) each
        · have hsz : (is.toArray.size != js.toArray.size) = true := by simp only [List.size_toArray, bne_iff_ne, ne_eq]; omega
          have eall : eqD (.lst xs) (.lst ys) = false := by rw [eqD_lst]; exact eqDs_len xs ys hl
          rw [eall]
          refine ⟨SeqAt.RcAt.lists_lengths h4 k4 hsz (by omega), ?_, SeqAt.RcNeAt.lists_lengths h4 k4 hsz (by omega)⟩
          refine SeqAt.EqAt.of_refs (fun e => ?_) (SeqAt.RcAt.lists_lengths h4 k4 hsz (by omega))
          subst e
          have := Rep.inj I (n + 1) _ _ _ hsx hsy rx ry
          cases this
          exact hl rfl
      · exact rc_mixed I (by omega) rx ry qa qb (fun ds ds' z => t2 ⟨ds, ds', z⟩) (fun ds ds' z => t1 ⟨ds, ds', z⟩) (fun ks ds z => by rw [z] at sx; exact nd _ _ _ sx) (fun ks ds z => by rw [z] at sy; exact nd _ _ _ sy) (fun c z => nx _ _ (z ▸ sx)) (fun c z => nx _ _ (z ▸ sy))
end
section
variable {X : Cx} {E : XK}
def dEq (x y : D) : Res D := if shal 40 x = true ∧ shal 40 y = true then .ok (.bl (eqD x y)) else .stuck
def dNe (x y : D) : Res D := if shal 40 x = true ∧ shal 40 y = true then .ok (.bl (!(eqD x y))) else .stuck
def rEqD (K : PySem.W.Frag) : R2 := fun v u H Q => ∃ x y, Rep K H x v ∧ Rep K H y u ∧ shal 40 x = true ∧ shal 40 y = true ∧ Q (.bl (eqD x y)) H
def rNeD (K : PySem.W.Frag) : R2 := fun v u H Q => ∃ x y, Rep K H x v ∧ Rep K H y u ∧ shal 40 x = true ∧ shal 40 y = true ∧ Q (.bl (!(eqD x y))) H
theorem op_eqD (hu : X.A.units + 64 < cLine) : OpR X (compareOp .Eq) (rEqD X.K) := by
  intro pins s σ H x y v u Q I rx ry h
  obtain ⟨d, d', h1, h2, s1, s2, q⟩ := h
  exact (rc_D I 40 X.A (by omega) d d' x y v u s1 s2 h1 h2 rx ry).1 _ _ _ _ ⟨.bl _, H, I, rfl, q⟩
theorem op_neD (hu : X.A.units + 64 < cLine) : OpR X (compareOp .NotEq) (rNeD X.K) := by
  intro pins s σ H x y v u Q I rx ry h
  obtain ⟨d, d', h1, h2, s1, s2, q⟩ := h
  exact (rc_D I 40 X.A (by omega) d d' x y v u s1 s2 h1 h2 rx ry).2.2 _ _ _ _ ⟨.bl _, H, I, rfl, q⟩
theorem od_eq : OpD X.K E (rEqD X.K) dEq := by
  intro x y v u H H₀ Q hs r1 r2 q
  unfold dEq at q
  by_cases c : shal 40 x = true ∧ shal 40 y = true
  · rw [if_pos c] at q
    exact ⟨x, y, r1.mono hs, r2.mono hs, c.1, c.2, q _ H H₀ (Grow.refl hs) (Rep.bl_iff.mpr rfl)⟩
  · rw [if_neg c] at q; exact q.elim
theorem od_ne : OpD X.K E (rNeD X.K) dNe := by
  intro x y v u H H₀ Q hs r1 r2 q
  unfold dNe at q
  by_cases c : shal 40 x = true ∧ shal 40 y = true
  · rw [if_pos c] at q
    exact ⟨x, y, r1.mono hs, r2.mono hs, c.1, c.2, q _ H H₀ (Grow.refl hs) (Rep.bl_iff.mpr rfl)⟩
  · rw [if_neg c] at q; exact q.elim
open Classical in
end
end DL
set_option Elab.async false
set_option linter.all false
set_option maxRecDepth 100000
namespace DL
open PySem PySem.Spec PyProof.Rows L2
@[irreducible] def B9 : Nat := 2 ^ 9000
@[irreducible] def B13 : Nat := 2 ^ 13500
@[irreducible] def B60 : Nat := 2 ^ 60000
theorem B9_eq : B9 = 2 ^ 9000 := by unfold B9; rfl
theorem B13_eq : B13 = 2 ^ 13500 := by unfold B13; rfl
theorem B60_eq : B60 = 2 ^ 60000 := by unfold B60; rfl
theorem log2_lt_of {n k : Nat} (h : n < 2 ^ k) (hk : 0 < k) : n.log2 < k := by
  by_cases h0 : n = 0
  · rw [h0]
    have : Nat.log2 0 = 0 := by decide
    omega
  · exact (Nat.log2_lt h0).mpr h
theorem noPy9 {x y : Int} (h : y.natAbs < B9) : Builtin.divisionGoesByPylong x y = false := by
  rw [B9_eq] at h
  exact PyProof.noPylong_of_log2 (log2_lt_of h (by omega))
theorem noPy13 {x y : Int} (h : x.natAbs < B13) : Builtin.divisionGoesByPylong x y = false := by
  rw [B13_eq] at h
  have hx : x.natAbs.log2 < 13500 := log2_lt_of h (by omega)
  show (decide ((if y == 0 then 0 else y.natAbs.log2 / 30 + 1) > 300) && decide ((if x == 0 then 0 else x.natAbs.log2 / 30 + 1) > (if y == 0 then 0 else y.natAbs.log2 / 30 + 1) + 150)) = false
  have k : (if x == 0 then 0 else x.natAbs.log2 / 30 + 1) ≤ 450 := by
    by_cases hx0 : (x == 0) = true
    · rw [if_pos hx0]; omega
    · rw [if_neg hx0]; omega
  by_cases c : (if y == 0 then 0 else y.natAbs.log2 / 30 + 1) > 300
  · rw [Bool.and_eq_false_iff]; right; exact decide_eq_false (by omega)
  · rw [Bool.and_eq_false_iff]; left; exact decide_eq_false c
def divOk (i j : Int) : Bool := decide (j ≠ 0) && (decide (j.natAbs < B9) || decide (i.natAbs < B13))
def mulOk (i j : Int) : Bool := decide (i.natAbs < B60) && decide (j.natAbs < B60)
theorem divOk.ok {i j : Int} (h : divOk i j = true) : j ≠ 0 ∧ Builtin.divisionGoesByPylong i j = false := by
  unfold divOk at h
  rw [Bool.and_eq_true, Bool.or_eq_true] at h
  refine ⟨of_decide_eq_true h.1, ?_⟩
  rcases h.2 with h | h
  · exact noPy9 (of_decide_eq_true h)
  · exact noPy13 (of_decide_eq_true h)
theorem mulOk.ok {i j : Int} (h : mulOk i j = true) : IntMulOk i j := by
  unfold mulOk at h
  rw [Bool.and_eq_true] at h
  have h1 := of_decide_eq_true h.1
  have h2 := of_decide_eq_true h.2
  rw [B60_eq] at h1 h2
  exact PyProof.Rows.mulOk_of_bits (m := 60000) (n := 60000) (PySem.intBits_le_iff.mpr h1) (PySem.intBits_le_iff.mpr h2) (by decide)
section
variable {X : Cx} {E : XK} {e a b c : Expr} {es : List Expr} {f g k : Ev → Res D} {fa : Ev → Res (List D)} {pos : Pos}
theorem done_at {K : PySem.W.Frag} {H H₀ : Hp} {d : D} {v : V} {Q : VK} (hs : Same H₀ H) (q : post K E H H₀ (.ok d) Q) (r : Rep K H₀ d v) : Q v H := q v H H₀ (Grow.refl hs) r
def iop (c : Int → Int → Bool) (g : Int → Int → D) (x y : D) : Res D := match x, y with
  | .int i, .int j => if c i j = true then .ok (g i j) else .stuck
  | _, _ => .stuck
theorem od_iop {C : Int → Int → Prop} {c : Int → Int → Bool} {gv : Int → Int → V} {g : Int → Int → D} (hc : ∀ i j, c i j = true → C i j) (hg : ∀ K H i j, Rep K H (g i j) (gv i j)) : OpD X.K E (rI C gv) (iop c g) := by
  intro x y v u H H₀ Q hs r1 r2 q
  unfold iop at q
  cases x with
  | int i =>
    cases y with
    | int j =>
      by_cases h : c i j = true
      · simp only [if_pos h] at q
        exact ⟨i, j, Rep.int_iff.mp r1, Rep.int_iff.mp r2, hc i j h, done_at hs q (hg _ _ i j)⟩
      · simp only [if_neg h] at q; exact q.elim
    | _ => exact q.elim
  | _ => exact q.elim
theorem od_iop0 {gv : Int → Int → V} {g : Int → Int → D} (hg : ∀ K H i j, Rep K H (g i j) (gv i j)) : OpD X.K E (rI0 gv) (iop (fun _ _ => true) g) := by
  intro x y v u H H₀ Q hs r1 r2 q
  unfold iop at q
  cases x with
  | int i =>
    cases y with
    | int j => simp only [if_pos] at q; exact ⟨i, j, Rep.int_iff.mp r1, Rep.int_iff.mp r2, done_at hs q (hg _ _ i j)⟩
    | _ => exact q.elim
  | _ => exact q.elim
theorem ri {K : PySem.W.Frag} {H : Hp} (n : Int) : Rep K H (.int n) (.int n) := Rep.int_iff.mpr rfl
theorem rb {K : PySem.W.Frag} {H : Hp} (n : Bool) : Rep K H (.bl n) (.bl n) := Rep.bl_iff.mpr rfl
abbrev dSub := iop (fun _ _ => true) fun i j => .int (i - j)
abbrev dDiv := iop divOk fun i j => .int (i.fdiv j)
abbrev dMod := iop (fun _ j => decide (j ≠ 0)) fun i j => .int (i.fmod j)
abbrev dPow := iop (fun i j => decide (0 ≤ j) && decide (j ≤ 1000000) && decide (i.natAbs < 18446744073709551616)) fun i j => .int (i ^ j.toNat)
abbrev dLt := iop (fun _ _ => true) fun i j => .bl (decide (i < j))
abbrev dGt := iop (fun _ _ => true) fun i j => .bl (decide (j < i))
abbrev dGe := iop (fun _ _ => true) fun i j => .bl (decide (j ≤ i))
theorem op_mulB : OpR X (binaryOp .Mult) (rI IntMulOk fun i j => .int (i * j)) := opI fun _ _ _ _ _ _ _ hc q => mul_int q hc
theorem op_divB : OpR X (binaryOp .FloorDiv) (rI (fun i j => j ≠ 0 ∧ Builtin.divisionGoesByPylong i j = false) fun i j => .int (i.fdiv j)) := opI fun _ _ _ _ _ _ _ hc q => floordiv_int hc.1 q (.inl hc.2)
theorem de_sub (ha : DE X E a f) (hb : DE X E b g) : DE X E (.BinOp a .Sub b pos) (bind2 f g dSub) := de_op op_sub (od_iop0 fun _ _ _ _ => ri _) ha hb
theorem de_div (ha : DE X E a f) (hb : DE X E b g) : DE X E (.BinOp a .FloorDiv b pos) (bind2 f g dDiv) := de_op op_divB (od_iop (fun _ _ h => divOk.ok h) fun _ _ _ _ => ri _) ha hb
theorem de_mod (ha : DE X E a f) (hb : DE X E b g) : DE X E (.BinOp a .Mod b pos) (bind2 f g dMod) := de_op op_modN (od_iop (fun _ _ h => of_decide_eq_true h) fun _ _ _ _ => ri _) ha hb
theorem de_pow (ha : DE X E a f) (hb : DE X E b g) : DE X E (.BinOp a .Pow b pos) (bind2 f g dPow) := de_op op_pow (od_iop (fun i j h => by
  rw [Bool.and_eq_true, Bool.and_eq_true] at h
  exact ⟨of_decide_eq_true h.1.1, of_decide_eq_true h.1.2, of_decide_eq_true h.2⟩) fun _ _ _ _ => ri _) ha hb
theorem nm {op : CmpOp} {b : Expr} (h1 : op ≠ .In := by decide) (h2 : op ≠ .NotIn := by decide) : behindInMarks op b = false := nobehind _ h1 h2
def dNeg (x : D) : Res D := match x with
  | .int i => .ok (.int (-i))
  | _ => .stuck
theorem de_neg (ha : DE X E a f) : DE X E (.UnaryOp .USub a pos) (bind1 f dNeg) := de_un un_neg (by
  intro x v H H₀ Q hs r q
  cases x with
  | int i => exact ⟨i, Rep.int_iff.mp r, done_at hs q (ri _)⟩
  | _ => exact q.elim) ha
theorem op_catL : OpR X (binaryOp .Add) (fun x y H Q => ∃ l b xs zs, x = .ref l ∧ y = .ref b ∧ SqL X.K H l xs ∧ SqL X.K H b zs ∧ xs.length + zs.length ≤ sizeLine ∧ ∀ p, H p = none → Q (.ref p) (upd H p (.lst (xs ++ zs)))) := by
  intro pins s σ H x y v u Q I rx ry h
  obtain ⟨l, b, xs, zs, rfl, rfl, hH, hB, hz, q⟩ := h
  cases rx
  cases ry
  obtain ⟨its, r, pl, z⟩ := I.list hH
  obtain ⟨its2, r2, pl2, z2⟩ := I.list hB
  obtain ⟨⟨cls, dd, data, sl⟩, ho, hc, n, hd⟩ := pl.isList
  obtain ⟨⟨cls2, dd2, data2, sl2⟩, ho2, hc2, n2, hd2⟩ := pl2.isList
  simp only at hc hd hc2 hd2
  subst hc hd hc2 hd2
  have e : its.toArray ++ its2.toArray = (its ++ its2).toArray := by simp
  have l1 := r.length
  have l2 := r2.length
  refine concat_meets ⟨_, ho, rfl⟩ ⟨_, ho2, rfl⟩ noFill_list_add seq_list_add PySem.F.slot_list_add PySem.F.entry_list_add (PySem.F.args_list_add_2 _ _) (list_addW l b its.toArray its2.toArray n n2 dd dd2 sl sl2 (by simp only [List.size_toArray]; omega)) ⟨ho, ho2, ?_⟩
  rw [e]
  exact ⟨.ref _, _, I.lnew (t' := s.toks) (r.append r2) (by rw [List.length_append]; omega), rfl, q _ I.fresh⟩
def dAdd (x y : D) : Res D := match x, y with
  | .int i, .int j => .ok (.int (i + j))
  | .str i, .str j => if i.length + j.length ≤ line then .ok (.str (i ++ j)) else .stuck
  | .lst ds, .lst es => if ds.length + es.length ≤ line then .ok (.lst (ds ++ es)) else .stuck
  | _, _ => .stuck
theorem de_add (ha : DE X E a f) (hb : DE X E b g) : DE X E (.BinOp a .Add b pos) (bind2 f g dAdd) := de_op (OpR.or op_add (OpR.or op_add_str op_catL)) (by
  intro x y v u H H₀ Q hs r1 r2 q
  unfold dAdd at q
  cases x with
  | int i =>
    cases y with
    | int j => exact .inl ⟨i, j, Rep.int_iff.mp r1, Rep.int_iff.mp r2, done_at hs q (ri _)⟩
    | _ => exact q.elim
  | str i =>
    cases y with
    | str j =>
      by_cases h : i.length + j.length ≤ line
      · simp only [if_pos h] at q
        exact .inr (.inl ⟨i, j, Rep.str_iff.mp r1, Rep.str_iff.mp r2, line_le h, done_at hs q (Rep.str_iff.mpr rfl)⟩)
      · simp only [if_neg h] at q; exact q.elim
    | _ => exact q.elim
  | lst ds =>
    cases y with
    | lst es =>
      by_cases h : ds.length + es.length ≤ line
      · simp only [if_pos h] at q
        obtain ⟨l, vs, rfl, h1, h2⟩ := Rep.lst_iff.mp r1
        obtain ⟨m, us, rfl, k1, k2⟩ := Rep.lst_iff.mp r2
        refine .inr (.inr ⟨l, m, vs, us, rfl, rfl, Same.sqL hs h1, Same.sqL hs k1, by rw [← h2.length, ← k2.length]; exact line_le h, fun p hp => ?_⟩)
        exact q _ _ _ (Grow.alloc hs hp) (Rep.lst_iff.mpr ⟨p, _, rfl, SqL.of upd_same, (h2.app k2).mono (Grow.alloc hs hp).z⟩)
      · simp only [if_neg h] at q; exact q.elim
    | _ => exact q.elim
  | _ => exact q.elim) ha hb
def dIx (x y : D) : Res D := match y with
  | .int i => match x with
    | .lst ds => match atI ds i with
      | some d => .ok d
      | none => .stuck
    | .tup ds => match atI ds i with
      | some d => .ok d
      | none => .stuck
    | .str z => if z.length ≤ line then match atI z.cps.toList i with
      | some c => .ok (.str ⟨#[c]⟩)
      | none => .stuck else .stuck
    | _ => .stuck
  | _ => .stuck
theorem Reps.atI {K : PySem.W.Frag} {H : Hp} {ds : List D} {vs : List V} {i : Int} {d : D} (h : Reps K H ds vs) (e : atI ds i = some d) : ∃ v, L2.atI vs i = some v ∧ Rep K H d v := by
  unfold L2.atI at e ⊢
  rw [← h.length]
  cases q : ixN ds.length i with
  | none => rw [q] at e; cases e
  | some j =>
    rw [q] at e
    exact h.get e
theorem od_ix : OpD X.K E (rIx X.K) dIx := by
  intro x y v u H H₀ Q hs r1 r2 q
  unfold dIx at q
  cases y with
  | int i =>
    cases x with
    | lst ds =>
      obtain ⟨l, vs, rfl, h1, h2⟩ := Rep.lst_iff.mp r1
      cases e : atI ds i with
      | none => simp only [e] at q; exact q.elim
      | some d =>
        simp only [e] at q
        obtain ⟨w, e1, e2⟩ := h2.atI e
        exact .inl ⟨l, vs, i, w, rfl, Rep.int_iff.mp r2, Same.sqL hs h1, e1, done_at hs q e2⟩
    | tup ds =>
      obtain ⟨l, vs, rfl, h1, h2⟩ := Rep.tup_iff.mp r1
      cases e : atI ds i with
      | none => simp only [e] at q; exact q.elim
      | some d =>
        simp only [e] at q
        obtain ⟨w, e1, e2⟩ := h2.atI e
        exact .inr (.inl ⟨l, vs, i, w, rfl, Rep.int_iff.mp r2, Same.sqT hs h1, e1, done_at hs q e2⟩)
    | str z =>
      by_cases hz : z.length ≤ line
      · simp only [if_pos hz] at q
        cases e : atI z.cps.toList i with
        | none => simp only [e] at q; exact q.elim
        | some c =>
          simp only [e] at q
          exact .inr (.inr ⟨z, i, c, Rep.str_iff.mp r1, Rep.int_iff.mp r2, line_le hz, e, done_at hs q (Rep.str_iff.mpr rfl)⟩)
      · simp only [if_neg hz] at q; exact q.elim
    | _ => exact q.elim
  | _ => exact q.elim
theorem de_item (ha : DE X E a f) (hb : DE X E b g) (hs : PlainIx b := by intro _ _; rfl) : DE X E (.Subscript a b pos) (bind2 f g dIx) := de_ix ix_seq od_ix ha hb hs
def oNone : Ev → Res (Option Int) := fun _ => .ok none
def oSome (f : Ev → Res D) : Ev → Res (Option Int) := fun ρ => (f ρ).bind fun x => match x with
  | .int i => .ok (some i)
  | _ => .stuck
def tDO (K : PySem.W.Frag) (E : XK) (f : Ev → Res (Option Int)) : TO := fun σ H Q => ∃ H₀ ρ, Same H₀ H ∧ Reads K H₀ σ ρ ∧ match f ρ with
  | .ok o => ∀ H' H₀', Grow H H₀ H' H₀' → Q o H'
  | .exn x => ∀ C ox H' H₀', Grow H H₀ H' H₀' → ExR K H₀' x C ox → E C ox H'
  | .stuck => False
structure DO (X : Cx) (E : XK) (e : Option Expr) (f : Ev → Res (Option Int)) : Prop where
  o : PO X e (tDO X.K E f)
theorem po_weak {eo : Option Expr} {t t' : TO} (h : PO X eo t) (w : ∀ σ H Q, t' σ H Q → t σ H Q) : PO X eo t' := fun pins s σ H Q I q => h pins s σ H Q I (w σ H Q q)
theorem do_none : DO X E none oNone := ⟨po_weak po_none fun σ H Q ⟨H₀, ρ, hs, hr, q⟩ => q H H₀ (Grow.refl hs)⟩
theorem do_some (ha : DE X E a f) : DO X E (some a) (oSome f) := by
  refine ⟨?_⟩
  refine po_weak (po_some ha.o) fun σ H Q ⟨H₀, ρ, hs, hr, q⟩ => ⟨H₀, ρ, hs, hr, ?_⟩
  unfold oSome at q
  cases e1 : f ρ with
  | stuck => rw [e1] at q; exact q
  | exn x => rw [e1] at q; exact q
  | ok d =>
    rw [e1] at q
    intro v H1 H01 g1 r1
    cases d with
    | int i => exact ⟨i, Rep.int_iff.mp r1, q H1 H01 g1⟩
    | _ => exact q.elim
def cutD (xs : List D) (lo hi : Option Int) : List D := (xs.drop (HT.sIx xs.length 0 lo)).take (HT.sIx xs.length xs.length hi - HT.sIx xs.length 0 lo)
theorem Reps.cut {K : PySem.W.Frag} {H : Hp} {ds : List D} {vs : List V} (h : Reps K H ds vs) (lo hi : Option Int) : Reps K H (cutD ds lo hi) (cutV vs lo hi) := by
  unfold cutD cutV
  rw [← h.length]
  exact (h.drop _).take _
theorem slice_steps {r : V → Option Int → Option Int → Hp → VK → Prop} {lo hi : Ev → Res (Option Int)} {m : D → Option Int → Option Int → Res D}
    (ho : ∀ x v l h H H₀ Q, Same H₀ H → Rep X.K H₀ x v → post X.K E H H₀ (m x l h) Q → r v l h H Q) (σ : L2.St) (H : Hp) (Q : VK)
    (h : tD X.K E (fun ρ => (f ρ).bind fun x => (lo ρ).bind fun l => (hi ρ).bind fun h => m x l h) σ H Q) : tSl r (tD X.K E f) (tDO X.K E lo) (tDO X.K E hi) σ H Q := by
  obtain ⟨H₀, ρ, hs, hr, q⟩ := h
  refine ⟨H₀, ρ, hs, hr, ?_⟩
  replace q : post X.K E H H₀ ((f ρ).bind fun x => (lo ρ).bind fun l => (hi ρ).bind fun h => m x l h) Q := q
  cases e1 : f ρ with
  | stuck => rw [e1] at q; exact q
  | exn x => rw [e1] at q; exact q
  | ok x =>
    rw [e1] at q
    intro v H1 H01 g1 r1
    refine ⟨H01, ρ, g1.sub, hr.mono g1.z, ?_⟩
    replace q : post X.K E H H₀ ((lo ρ).bind fun l => (hi ρ).bind fun h => m x l h) Q := q
    replace q := q.grow g1
    cases e2 : lo ρ with
    | stuck => rw [e2] at q; exact q
    | exn x => rw [e2] at q; exact q
    | ok l =>
      rw [e2] at q
      intro H2 H02 g2
      refine ⟨H02, ρ, g2.sub, (hr.mono g1.z).mono g2.z, ?_⟩
      replace q : post X.K E H1 H01 ((hi ρ).bind fun h => m x l h) Q := q
      replace q := q.grow g2
      cases e3 : hi ρ with
      | stuck => rw [e3] at q; exact q
      | exn x => rw [e3] at q; exact q
      | ok h =>
        rw [e3] at q
        intro H3 H03 g3
        exact ho x v l h H3 H03 Q g3.sub ((r1.mono g2.z).mono g3.z) (post.grow (r := m x l h) q g3)
def m1 (m : D → Res D) (ds : List D) : Res D := match ds with
  | [x] => m x
  | _ => .stuck
def m2 (m : D → D → Res D) (ds : List D) : Res D := match ds with
  | [x, y] => m x y
  | _ => .stuck
theorem call1 {r : List V → Hp → VK → Prop} {m : D → Res D} (h : ∀ x v H H₀ Q, Same H₀ H → Rep X.K H₀ x v → post X.K E H H₀ (m x) Q → r [v] H Q) : CallD X E r (m1 m) := by
  intro ds vs H H₀ Q hs hr q
  unfold m1 at q
  match ds, hr, q with
  | [x], hr, q =>
    obtain ⟨v, r', rfl, h1, h2⟩ := Reps.cons_iff.mp hr
    rw [Reps.nil_iff.mp h2]
    exact h x v H H₀ Q hs h1 q
  | [], _, q => exact q.elim
  | _ :: _ :: _, _, q => exact q.elim
theorem call2 {r : List V → Hp → VK → Prop} {m : D → D → Res D} (h : ∀ x y v u H H₀ Q, Same H₀ H → Rep X.K H₀ x v → Rep X.K H₀ y u → post X.K E H H₀ (m x y) Q → r [v, u] H Q) : CallD X E r (m2 m) := by
  intro ds vs H H₀ Q hs hr q
  unfold m2 at q
  match ds, hr, q with
  | [x, y], hr, q =>
    obtain ⟨v, r', rfl, h1, h2⟩ := Reps.cons_iff.mp hr
    obtain ⟨u, r'', rfl, h3, h4⟩ := Reps.cons_iff.mp h2
    rw [Reps.nil_iff.mp h4]
    exact h x y v u H H₀ Q hs h1 h3 q
  | [], _, q => exact q.elim
  | [_], _, q => exact q.elim
  | _ :: _ :: _ :: _, _, q => exact q.elim
def dAbs (x : D) : Res D := match x with
  | .int i => .ok (.int (if i < 0 then -i else i))
  | _ => .stuck
def dMax (x y : D) : Res D := match x, y with
  | .int i, .int j => .ok (.int (if j > i then j else i))
  | _, _ => .stuck
def dLen (x : D) : Res D := match x with
  | .lst ds => .ok (.int ds.length)
  | .tup ds => .ok (.int ds.length)
  | .str z => if z.length ≤ line then .ok (.int z.length) else .stuck
  | _ => .stuck
theorem cd_abs : CallD X E (fun xs H Q => ∃ i, xs = [.int i] ∧ Q (.int (if i < 0 then -i else i)) H) (m1 dAbs) := call1 fun x v H H₀ Q hs r q => by
  cases x with
  | int i => exact ⟨i, by rw [Rep.int_iff.mp r], done_at hs q (ri _)⟩
  | _ => exact q.elim
theorem cd_max : CallD X E (fun xs H Q => ∃ i j, xs = [.int i, .int j] ∧ Q (.int (if j > i then j else i)) H) (m2 dMax) := call2 fun x y v u H H₀ Q hs r r' q => by
  cases x with
  | int i =>
    cases y with
    | int j => exact ⟨i, j, by rw [Rep.int_iff.mp r, Rep.int_iff.mp r'], done_at hs q (ri _)⟩
    | _ => exact q.elim
  | _ => exact q.elim
theorem cd_len : CallD X E (fun xs H Q => ∃ x n, xs = [x] ∧ LenV X.K x H n ∧ Q (.int n) H) (m1 dLen) := call1 fun x v H H₀ Q hs r q => by
  cases x with
  | lst ds =>
    obtain ⟨p, vs, rfl, h1, h2⟩ := Rep.lst_iff.mp r
    refine ⟨_, vs.length, rfl, .inl ⟨vs, Same.sqL hs h1, rfl⟩, ?_⟩
    rw [← h2.length]; exact done_at hs q (ri _)
  | tup ds =>
    obtain ⟨p, vs, rfl, h1, h2⟩ := Rep.tup_iff.mp r
    refine ⟨_, vs.length, rfl, .inr ⟨vs, Same.sqT hs h1, rfl⟩, ?_⟩
    rw [← h2.length]; exact done_at hs q (ri _)
  | str z =>
    unfold dLen at q
    by_cases hz : z.length ≤ line
    · simp only [if_pos hz] at q
      rw [Rep.str_iff.mp r]
      exact ⟨_, z.length, rfl, ⟨line_le hz, rfl⟩, done_at hs q (ri _)⟩
    · simp only [if_neg hz] at q; exact q.elim
  | _ => exact q.elim
def isNon : D → Bool
  | .non => true
  | _ => false
def dIsN (x y : D) : Res D := match y with
  | .non => .ok (.bl (isNon x))
  | _ => .stuck
def dNotN (x y : D) : Res D := match y with
  | .non => .ok (.bl (!(isNon x)))
  | _ => .stuck
def tyD : D → String
  | .non => "NoneType"
  | .bl _ => "bool"
  | .int _ => "int"
  | .str _ => "str"
  | .tup _ => "tuple"
  | .lst _ => "list"
  | .dic _ _ => "dict"
  | .exc _ => "<exc>"
def dIsI (T : String) (x : D) : Res D := .ok (.bl (tyD x == T || (tyD x == "bool" && T == "int")))
def KitOk (K : PySem.W.Frag) (T : String) : Prop := ∀ S, S ∈ ["NoneType", "bool", "int", "str", "tuple", "list", "dict"] → PySem.W.kitOne K (.type S) (.type T) = some (S == T || (S == "bool" && T == "int"))
theorem isinst_D {pins : List (Addr × Obj)} {σ : L2.St} {H : Hp} {s : Shared} {A : Around} {Q : Value → Shared → Prop} {x : D} {v : V} {u : Value} {T : String} (I : Inv X pins σ H s) (r : Rep X.K H x v) (q : RelV v u) (hk : KitOk X.K T) (hT : T ∈ bltTys) (h : ∀ tk, Q (.bool (tyD x == T || (tyD x == "bool" && T == "int"))) { s with toks := tk }) :
    wpAny (model X.prog X.w) A (call (.builtin "isinstance") [u, .type T]) Q X.xe s := by
  cases x with
  | non => rw [Rep.non_iff.mp r] at q; exact isinst_ok I q .non (hk _ (by simp)) h
  | bl b => rw [Rep.bl_iff.mp r] at q; exact isinst_ok I q (.bl b) (hk _ (by simp)) h
  | int b => rw [Rep.int_iff.mp r] at q; exact isinst_ok I q (.int b) (hk _ (by simp)) h
  | str b => rw [Rep.str_iff.mp r] at q; exact isinst_ok I q (.str b) (hk _ (by simp)) h
  | tup ds =>
    obtain ⟨a, vs, its, rfl, rfl, h1, h2, h3, h4, _⟩ := Rep.tup_get I r q
    obtain ⟨o, k1, k2, _⟩ := h4
    exact PySem.W.kia_one PySem.W.kitx_tuple I.kIn ⟨o, k1, k2⟩ (hk _ (by simp)) (fun z => nomatch z) h
  | lst ds =>
    obtain ⟨a, vs, its, rfl, rfl, h1, h2, h3, h4, _⟩ := Rep.lst_get I r q
    obtain ⟨o, k1, k2, _⟩ := h4
    exact PySem.W.kia_one PySem.W.kitx_list I.kIn ⟨o, k1, k2⟩ (hk _ (by simp)) (fun z => nomatch z) h
  | dic ks ds =>
    rw [Rep] at r
    obtain ⟨a, kvs, vs, rfl, h1, h2, _⟩ := r
    cases (show u = Value.ref a from q)
    obtain ⟨_, _, vs', _, p⟩ := h1.ok I.hok
    obtain ⟨o, es, ep, k1, k2, _⟩ := p
    exact PySem.W.kia_one PySem.W.kitx_dict I.kIn ⟨o, k1, k2.1⟩ (hk _ (by simp)) (fun z => nomatch z) h
  | exc x =>
    obtain ⟨a, C, rfl, hc, h1⟩ := Rep.exc_iff.mp r
    cases (show u = Value.ref a from q)
    obtain ⟨p, _, _⟩ := h1.ok I.hok
    have e : (tyD (.exc x) == T || (tyD (.exc x) == "bool" && T == "int")) = false := by
      have : ∀ T ∈ bltTys, (tyD (.exc x) == T || (tyD (.exc x) == "bool" && T == "int")) = false := by show ∀ T ∈ bltTys, ("<exc>" == T || ("<exc>" == "bool" && T == "int")) = false; decide
      exact this T hT
    rw [e] at h
    exact PySem.W.kia_one (kitx_exc hc.ek hc.ek.isCls) I.kIn p (hc.bt T hT) (fun z => nomatch z) h
theorem de_isinst {T : String} {x : Str} {p1 p2 : Pos} (hk : KitOk X.K T) (hgi : Gl X "isinstance") (hmi : X.mg "isinstance" = none) (hg : Gl X x) (hm : X.mg x = none) (hv : bootBuiltins x = some (.type T)) (ha : DE X E a f)
    (hn : x ≠ "__name__" := by decide) (hdb : (x == ("__debug__" : Str)) = false := by decide) (hT : T ∈ bltTys := by decide)
    (he : starEach [a, .Name x p2] X.env = (false, eval a X.env) :: starEach [.Name x p2] X.env := by exact star_cons rfl) (he2 : starEach [.Name x p2] X.env = (false, eval (.Name x p2) X.env) :: starEach [] X.env := by exact star_cons rfl) (hpl : (backTo pos (starEach [.Name x p2] X.env)).any (·.1) = false := by exact any_star rfl) :
    DE X E (.Call (.Name "isinstance" p1) [a, .Name x p2] [] pos) (bind1 f (dIsI T)) := by
  refine ⟨?_⟩
  refine pe_weak (pe_callB (r := fun vs H Q => ∃ d v, vs = [v, .ty T] ∧ Rep X.K H d v ∧ Q (.bl (tyD d == T || (tyD d == "bool" && T == "int"))) H) ?_ hgi hmi PyProof.Rows.Boot.«isinstance» (pa_cons ha.o (pa_cons (pe_bltn (v := .ty T) hg hm hv rfl hn hdb) pa_nil he2) he) (by decide) (by decide) he hpl) fun σ H Q ⟨H₀, ρ, hs, hr, q⟩ => ⟨H₀, ρ, hs, hr, ?_⟩
  · intro pins s σ H xs us Q I r h
    obtain ⟨d, v, rfl, h1, q⟩ := h
    cases r with
    | cons r1 r2 =>
      cases r2 with
      | cons r3 r4 =>
        cases r4
        rename_i u1 u2
        obtain rfl : u2 = Value.type T := r3
        exact isinst_D I h1 r1 hk hT fun tk => ⟨.bl _, H, I.tok _, rfl, q⟩
  · unfold bind1 at q
    cases e1 : f ρ with
    | stuck => rw [e1] at q; exact q
    | exn x => rw [e1] at q; exact q
    | ok d =>
      rw [e1] at q
      intro v H1 H01 g1 r1
      exact ⟨d, v, rfl, r1.mono g1.sub, q _ H1 H01 g1 (rb _)⟩
end
theorem draw_list {prog : Program} {w : World} {A : Around} {E : Value → Shared → Prop} {it t : Addr} {items : Array Value} (hne : t ≠ it) : ∀ (n i : Nat) (s : Shared) (Q : List Value → Shared → Prop), s.heap.IsListIter it t i → s.heap.IsList t items → i + n ≤ items.size →
    (∀ h', h'.IsListIter it t (i + n) → Heap.SameBut it s.heap h' → Q ((items.toList.drop i).take n) { s with heap := h' }) → wpAny (model prog w) A (draw (.ref it) n) Q E s
  | 0, i, s, Q, hit, _, _, hQ => by
    show wpAny _ _ (pure []) Q E s
    exact wpAny_pure (by simpa using hQ s.heap hit (Heap.SameBut.refl ..))
  | n + 1, i, s, Q, hit, ht, hle, hQ => by
    have hlt : i < items.size := by omega
    show wpAny _ _ (pyNext (.ref it) >>= _) Q E s
    refine wpAny_bind (wpAny_pyNext_list_item hit ht (x := items[i]) (by simp [hlt]) fun h₁ hit₁ hs₁ => ?_)
    have ht₁ : h₁.IsList t items := by
      obtain ⟨o, k1, k2⟩ := ht
      exact ⟨o, (hs₁.2 t hne).trans k1, k2⟩
    refine wpAny_bind (wpAny_holding (draw_list hne n (i + 1) _ _ hit₁ ht₁ (by omega) fun h₂ hit₂ hs₂ => wpAny_pure ?_))
    have hd : items.toList.drop i = items[i] :: items.toList.drop (i + 1) := by simp [List.drop_eq_getElem_cons, hlt]
    have := hQ h₂ (by rw [show i + (n + 1) = i + 1 + n by omega]; exact hit₂) (hs₁.trans hs₂)
    rw [hd, List.take_succ_cons] at this
    exact this
theorem unpackItems_list {prog : Program} {w : World} {A : Around} {E : Value → Shared → Prop} {s : Shared} {t : Addr} {items : Array Value} {Q : List Value → Shared → Prop} (hh : A.handled = none) (ht : s.heap.IsList t items)
    (hQ : ∀ h', Heap.ExtBut s.heap.objs.size s.heap h' → Q items.toList { s with heap := h' }) : wpAny (model prog w) A (unpackItems (.ref t) items.size none) Q E s := by
  have hlt : t ≠ s.heap.objs.size := by obtain ⟨o, ho, _⟩ := ht; exact Nat.ne_of_lt (Heap.lt_size ho)
  unfold unpackItems
  refine wpAny_bind ?_
  · unfold notIterableAtAll
    refine wpAny_bind (wpAny_specialOf ht.typeIs slot_list_iter.lookup ?_)
    refine wpAny_pure ?_
    simp only [Bool.false_eq_true, if_false]
    refine wpAny_bind (wpAny_holding (wpAny_pyIter_list ht ?_))
    have ht0 : (s.heap.push { cls := .type "list_iterator", data := .fields #[.ref t, .int 0 0] }).IsList t items := by
      obtain ⟨o, k1, k2⟩ := ht
      exact ⟨o, Heap.get?_push_of_some _ k1, k2⟩
    refine wpAny_bind (wpAny_holding (draw_list hlt items.size 0 _ _ ⟨_, Heap.get?_push_size _ rfl, rfl, rfl⟩ ht0 (by omega) fun h₁ hit₁ hs₁ => ?_))
    have hall : List.take items.size (List.drop 0 items.toList) = items.toList := by
      rw [List.drop_zero]; exact List.take_of_length_le (by simp)
    rw [hall]
    rw [if_neg (by simp)]
    have ht₁ : h₁.IsList t items := by
      obtain ⟨o, k1, k2⟩ := ht0
      exact ⟨o, (hs₁.2 t hlt).trans k1, k2⟩
    refine wpAny_bind (wpAny_holding (wpAny_pyNext_list_end hh hit₁ ht₁ (by simp) fun h₂ he₂ => ?_))
    simp only [Option.isSome_none, Bool.false_eq_true, if_false]
    refine wpAny_pure (hQ h₂ fun b o hb e => he₂ b o hb (hs₁.extBut b o hb (Heap.get?_push_of_some _ e)))
end DL
set_option Elab.async false
set_option linter.all false
set_option maxRecDepth 100000
namespace DL
open PySem PySem.Spec PyProof.Rows L2
def setV (σ : L2.St) : List Nat → List V → L2.St
  | i :: is, v :: vs => setV (σ.set i (some v)) is vs
  | _, _ => σ
def setAll (ρ : Ev) : List Nat → List D → Ev
  | i :: is, d :: ds => setAll (ρ.set i (.sh d)) is ds
  | _, _ => ρ
theorem SRx.putAll {K : PySem.W.Frag} {He H0e H₀ H : Hp} : ∀ {is : List Nat} {ds : List D} {vs : List V} {σ : L2.St} {ρ : Ev}, SRx K He H0e H₀ σ H ρ → Reps K H₀ ds vs → SRx K He H0e H₀ (setV σ is vs) H (setAll ρ is ds)
  | [], _, _, _, _, h, _ => by unfold setV setAll; exact h
  | _ :: _, [], _, _, _, h, r => by rw [Reps.nil_iff.mp r]; unfold setV setAll; exact h
  | i :: is, d :: ds, _, _, _, h, r => by
    obtain ⟨v, vs, rfl, h1, h2⟩ := Reps.cons_iff.mp r
    unfold setV setAll
    exact SRx.putAll (h.put h1) h2
section
variable {X : Cx} {E : XK} {He H0e : Hp} {e a b : Expr} {es : List Expr} {f g : Ev → Res D} {fa : Ev → Res (List D)} {pos : Pos} {is : List Nat}
def tVs (is : List Nat) : TGs := fun vs σ H Q => vs.length = is.length ∧ Q (setV σ is vs) H
theorem pgs_weak {t t' : TGs} (h : PGs X es t) (w : ∀ vs σ H Q, t' vs σ H Q → t vs σ H Q) : PGs X es t' := fun pins s σ H vs us Q I r q => h pins s σ H vs us Q I r (w vs σ H Q q)
theorem dgs_nil : PGs X [] (tVs []) := pgs_weak pgs_nil fun vs σ H Q ⟨h, q⟩ => by
  have e : vs = [] := List.length_eq_zero_iff.mp h
  subst e
  exact ⟨rfl, q⟩
theorem dgs_cons {i : Nat} {x : Str} {p : Pos} (hN : X.N.Nodup) (hi : X.N[i]? = some x) (hx : Loc X.env.scope x) (h : PGs X es (tVs is)) (hf : X.fn x = true ∨ X.env.scope.names.lookup x = some .local := by first | exact .inl rfl | exact .inr rfl | assumption)
    (hs : (assignEach (.Name x p :: es) X.env).map (·.2) = assign (.Name x p) X.env :: (assignEach es X.env).map (·.2) := by rfl) : PGs X (.Name x p :: es) (tVs (i :: is)) :=
  pgs_weak (pgs_cons (pg_name hN hi hx hf) h hs) fun vs σ H Q ⟨h, q⟩ => by
    cases vs with
    | nil => simp at h
    | cons v vs => exact ⟨v, vs, rfl, by simpa using h, q⟩
theorem pg_list {k : Nat} {t : TGs} {n : Nat} (hc : X.calm = true) (h : PGs X es t)
    (hn : (assignEach es X.env).length = n := by rfl) (hst : (assignEach es X.env).findIdx? (·.1) = none := by rfl) : PG X (.Tuple es k pos) (fun v σ H Q => ∃ a xs, v = .ref a ∧ SqL X.K H a xs ∧ xs.length = n ∧ t xs σ H Q) := by
  intro pins s σ H v u Q I r hw
  obtain ⟨a, xs, e1, hq, hl, hw⟩ := hw
  subst e1
  cases r
  obtain ⟨its, rv, ht, hz⟩ := I.list hq
  rw [assign_Tuple]
  refine wpAny_bind (wpAny_standAt ?_)
  unfold unpack
  rw [hn, hst]
  have hsz : n = its.toArray.size := by rw [List.size_toArray, ← rv.length, hl]
  rw [hsz]
  refine wpAny_bind (wpAny_holding (unpackItems_list (I.ok.hd hc) ht.isList fun h' hx => ?_))
  have I1 : Inv X pins σ H { s with heap := h' } := I.kept (t' := s.toks) fun b o e => hx b o (Nat.ne_of_lt (Heap.lt_size e)) e
  exact h pins _ σ H xs _ Q I1 (by simpa using rv) hw
theorem pg_or {tgt : Expr} {t t' : TG} (h : PG X tgt t) (h' : PG X tgt t') : PG X tgt (fun v σ H Q => t v σ H Q ∨ t' v σ H Q) := fun pins s σ H v u Q I r q => q.elim (h pins s σ H v u Q I r) (h' pins s σ H v u Q I r)
theorem pg_seq {k : Nat} (hc : X.calm = true) (h : PGs X es (tVs is)) (hn : (assignEach es X.env).length = is.length := by rfl) (hst : (assignEach es X.env).findIdx? (·.1) = none := by rfl) :
    PG X (.Tuple es k pos) (fun v σ H Q => ∃ a xs, v = .ref a ∧ (SqT X.K H a xs ∨ SqL X.K H a xs) ∧ xs.length = is.length ∧ Q (setV σ is xs) H) :=
  pg_weak (pg_or (pg_tup hc h hn hst) (pg_list hc h hn hst)) fun v σ H Q ⟨a, xs, e, hq, hl, q⟩ => hq.elim (fun z => .inl ⟨a, xs, e, z, hl, hl, q⟩) fun z => .inr ⟨a, xs, e, z, hl, hl, q⟩
def partsOf (n : Nat) (d : D) : Option (List D) := match d with
  | .tup ds => if ds.length = n then some ds else none
  | .lst ds => if ds.length = n then some ds else none
  | _ => none
theorem partsOf_rep {K : PySem.W.Frag} {H : Hp} {n : Nat} {d : D} {ds : List D} {v : V} (h : partsOf n d = some ds) (r : Rep K H d v) : ∃ a vs, v = .ref a ∧ (SqT K H a vs ∨ SqL K H a vs) ∧ vs.length = n ∧ Reps K H ds vs := by
  unfold partsOf at h
  cases d with
  | tup es =>
    by_cases c : es.length = n
    · simp only [if_pos c] at h; cases h
      obtain ⟨a, vs, rfl, h1, h2⟩ := Rep.tup_iff.mp r
      exact ⟨a, vs, rfl, .inl h1, by rw [← h2.length]; exact c, h2⟩
    · simp only [if_neg c] at h; cases h
  | lst es =>
    by_cases c : es.length = n
    · simp only [if_pos c] at h; cases h
      obtain ⟨a, vs, rfl, h1, h2⟩ := Rep.lst_iff.mp r
      exact ⟨a, vs, rfl, .inr h1, by rw [← h2.length]; exact c, h2⟩
    · simp only [if_neg c] at h; cases h
  | _ => cases h
theorem seq_mono {K : PySem.W.Frag} {H H' : Hp} {a : Addr} {vs : List V} (hs : Same H H') (h : SqT K H a vs ∨ SqL K H a vs) : SqT K H' a vs ∨ SqL K H' a vs := h.elim (fun z => .inl (Same.sqT hs z)) fun z => .inr (Same.sqL hs z)
def sUnp (is : List Nat) (f : Ev → Res D) : Ev → Res Fl := fun ρ => (f ρ).bind fun d => match partsOf is.length d with
  | some ds => .ok (.nx (setAll ρ is ds))
  | none => .stuck
theorem ds_unp {k : Nat} {tp : Pos} (hc : X.calm = true) (he : DE X E e f) (h : PGs X es (tVs is)) (hs : swapsWithSole [.Tuple es k tp] e pos.line X.env = pure false := by rfl) (hw : swappedStores [.Tuple es k tp] e X.env = pure none := by rfl)
    (h1 : (assignEach [.Tuple es k tp] X.env).map (·.2) = [assign (.Tuple es k tp) X.env] := by rfl) (hn : (assignEach es X.env).length = is.length := by rfl) (hst : (assignEach es X.env).findIdx? (·.1) = none := by rfl) :
    DS X E He H0e (.Assign [.Tuple es k tp] e pos) (sUnp is f) := by
  refine ⟨?_⟩
  refine ps_weak (ps_asg he.o (pg_seq hc h hn hst) hs hw h1) fun D σ H ⟨H₀, ρ, h, q⟩ => ⟨H₀, ρ, h.g.sub, h.rd, ?_⟩
  refine plain (k := fun d => match partsOf is.length d with
    | some ds => .ok (.nx (setAll ρ is ds))
    | none => .stuck) h q fun d v H' H₀' _ g rp q' => ?_
  cases e1 : partsOf is.length d with
  | none => rw [e1] at q'; exact q'.elim
  | some ds =>
    rw [e1] at q'
    obtain ⟨a, vs, rfl, k1, k2, k3⟩ := partsOf_rep e1 rp
    exact ⟨a, vs, rfl, seq_mono g.sub k1, k2, q' _ H' H₀' (Same.refl _) ((h.grow g).putAll k3)⟩
def sPar (i j : Nat) (fa : Ev → Res (List D)) : Ev → Res Fl := fun ρ => (fa ρ).bind fun ds => match ds with
  | [x, y] => .ok (.nx ((ρ.set i (.sh x)).set j (.sh y)))
  | _ => .stuck
theorem ds_par {i j : Nat} {x y : Str} {px py pt pt2 : Pos} {kt k2} (hc : X.calm = true) (hN : X.N.Nodup) (hi : X.N[i]? = some x) (hj : X.N[j]? = some y) (hij : i ≠ j)
    (hx : X.env.scope.names.lookup x = some .local) (hy : X.env.scope.names.lookup y = some .local) (ha : DA X E [a, b] fa)
    (hw : swappedStores [.Tuple [.Name x px, .Name y py] kt pt] (.Tuple [a, b] k2 pt2) X.env = pure (some [x, y]))
    (hs : swapsWithSole [.Tuple [.Name x px, .Name y py] kt pt] (.Tuple [a, b] k2 pt2) pos.line X.env = pure false := by rfl) :
    DS X E He H0e (.Assign [.Tuple [.Name x px, .Name y py] kt pt] (.Tuple [a, b] k2 pt2) pos) (sPar i j fa) := by
  refine ⟨?_⟩
  refine ps_weak (ps_par hc hN hi hj hij hx hy ha.o hw hs) fun D σ H ⟨H₀, ρ, h, q⟩ => ⟨H₀, ρ, h.g.sub, h.rd, ?_⟩
  unfold sPar at q
  cases e1 : fa ρ with
  | stuck => rw [e1] at q; exact q
  | exn x => rw [e1] at q; exact fun C ox H' H₀' g ex => q C ox H' H₀' (h.g.trans g) ex
  | ok ds =>
    rw [e1] at q
    intro vs H1 H01 g1 r1
    match ds, r1, q with
    | [x, y], r1, q =>
      obtain ⟨v, r', rfl, h1, h2⟩ := Reps.cons_iff.mp r1
      obtain ⟨u, r'', rfl, h3, h4⟩ := Reps.cons_iff.mp h2
      rw [Reps.nil_iff.mp h4]
      exact ⟨v, u, rfl, q _ H1 H01 g1.z (((h.grow g1).put h1).put h3)⟩
    | [], _, q => exact q.elim
    | [_], _, q => exact q.elim
    | _ :: _ :: _ :: _, _, q => exact q.elim
end
end DL
set_option Elab.async false
set_option linter.all false
set_option maxRecDepth 100000
namespace DL
open PySem PySem.Spec PyProof.Rows L2
theorem kit_ok_int {K : PySem.W.Frag} : KitOk K "int" := by
  intro S hS
  simp only [List.mem_cons, List.mem_nil_iff, or_false] at hS
  rcases hS with rfl | rfl | rfl | rfl | rfl | rfl | rfl <;> first | rfl | decide +kernel
theorem kit_ok_bool {K : PySem.W.Frag} : KitOk K "bool" := by
  intro S hS
  simp only [List.mem_cons, List.mem_nil_iff, or_false] at hS
  rcases hS with rfl | rfl | rfl | rfl | rfl | rfl | rfl <;> first | rfl | decide +kernel
theorem kit_ok_tuple {K : PySem.W.Frag} : KitOk K "tuple" := by
  intro S hS
  simp only [List.mem_cons, List.mem_nil_iff, or_false] at hS
  rcases hS with rfl | rfl | rfl | rfl | rfl | rfl | rfl <;> first | rfl | decide +kernel
section
variable {X : Cx} {E : XK} {He H0e : Hp} {e a b c : Expr} {f g h : Ev → Res D} {pos : Pos}
theorem dv (i : Nat) {x : Str} (hN : X.N[i]? = some x := by rfl) (hv : Vis X.env.scope x := by first | exact Or.inl rfl | exact Or.inr (Or.inl rfl) | exact Or.inr (Or.inr rfl)) (hd : (x == ("__debug__" : Str)) = false := by decide)
    (hcd : (x == ("__classdict__" : Str)) = false := by decide) : DE X E (.Name x pos) (dVar i) := de_var hN hv hd hcd
def dChain (op op' : D → D → Res D) (f g h : Ev → Res D) : Ev → Res D := fun ρ => (f ρ).bind fun x => (g ρ).bind fun y => (op x y).bind fun z => match z with
  | .bl true => (h ρ).bind fun w => op' y w
  | .bl false => .ok (.bl false)
  | _ => .stuck
end
end DL
namespace DL
open PySem PySem.Spec PyProof.Rows L2
def fuelInt (i : Nat) : Ev → Nat := fun ρ => match ρ[i]? with
  | some (.sh (.int j)) => j.natAbs + 1
  | _ => 0
section
variable {X : Cx} {E : XK} {a b : Expr} {f g : Ev → Res D} {pos : Pos}
def dMulL (x y : D) : Res D := match x, y with
  | .int i, .int j => if mulOk i j = true then .ok (.int (i * j)) else .stuck
  | _, _ => .stuck
theorem de_mul (ha : DE X E a f) (hb : DE X E b g) : DE X E (.BinOp a .Mult b pos) (bind2 f g dMulL) := de_op op_mulB (by
  intro x y v u H H₀ Q hs r1 r2 q
  unfold dMulL at q
  cases x with
  | int i =>
    cases y with
    | int j =>
      by_cases h : mulOk i j = true
      · simp only [if_pos h] at q
        exact ⟨i, j, Rep.int_iff.mp r1, Rep.int_iff.mp r2, mulOk.ok h, done_at hs q (ri _)⟩
      · simp only [if_neg h] at q; exact q.elim
    | _ => exact q.elim
  | _ => exact q.elim) ha hb
end
end DL
set_option Elab.async false
set_option linter.all false
set_option maxRecDepth 100000
namespace DL
open PySem PySem.Spec PyProof.Rows L2
end DL
set_option Elab.async false
set_option linter.all false
set_option maxRecDepth 100000
namespace DL
open PySem PySem.Spec PyProof.Rows L2
section
variable {X : Cx} {E : XK} {a b : Expr} {f g : Ev → Res D} {pos : Pos}
def dRep (x y : D) : Res D := match x, y with
  | .lst ds, .int k => if ds.length * k.toNat ≤ line ∧ -9223372036854775808 ≤ k ∧ k < 9223372036854775808 then .ok (.lst (List.replicate k.toNat ds).flatten) else .stuck
  | _, _ => .stuck
def repL (f g : Ev → Res D) : Ev → Res D := fun ρ => (f ρ).bind fun x => match x with
  | .lst ds => (g ρ).bind fun y => dRep (.lst ds) y
  | _ => .stuck
end
end DL
set_option Elab.async false
set_option linter.all false
set_option maxRecDepth 100000
namespace DL
open PySem PySem.Spec PyProof.Rows L2
def strsOf : List D → Option (List Str)
  | [] => some []
  | .str x :: r => (strsOf r).map (x :: ·)
  | _ => none
section
variable {X : Cx} {E : XK} {o e : Expr} {fo : Ev → Res D} {fa : Ev → Res (List D)}
def joinFit (z : Str) (ys : List Str) : Bool := decide (z.length ≤ 16) && decide ((ys.map (·.length)).sum + ys.length ≤ 1048576)
def joinD (z : Str) (xs : List D) : Res D := match xs with
  | [.lst ds] => match strsOf ds with
    | some ys => if joinFit z ys = true then .ok (.str (Txt.join z ys)) else .stuck
    | none => .stuck
  | _ => .stuck
def dJoin (fo : Ev → Res D) (fa : Ev → Res (List D)) : Ev → Res D := fun ρ => (fo ρ).bind fun x => match x with
  | .str z => (fa ρ).bind fun xs => joinD z xs
  | _ => .stuck
end
section
variable {X : Cx} {E : XK} {a : Expr} {f : Ev → Res D} {pos : Pos}
def rSlS : V → Option Int → Option Int → Hp → VK → Prop := fun x lo hi H Q => ∃ z, x = .str z ∧ z.length ≤ sizeLine ∧ Q (.str (Txt.slice z lo hi)) H
theorem sl_str : SlR X rSlS := by
  intro pins s σ H x v vl vu lo hi sl Q I rx hs pl pu h
  obtain ⟨z, rfl, hz, q⟩ := h
  obtain ⟨t, rfl⟩ := rx
  have fin : ∀ t' k, EP X pins σ Q (.str (Txt.slice z lo hi) t') { s with toks := k } := fun t' k => ⟨.str (Txt.slice z lo hi), H, I.tok _, ⟨_, rfl⟩, q⟩
  refine ⟨"str", _, PySem.F.slot_str_getitem.lookup, typeIs_str s z t, ?_⟩
  cases pl with
  | none =>
    cases pu with
    | none => exact wpAny_getItem_str_slice (l := none) (u := none) (st := none) hs rfl (post_val_or_str ⟨Nat.le_trans (Txt.slice_le z _ _) hz, fin⟩)
    | int j uj => exact wpAny_getItem_str_slice (l := none) (u := some (j, uj)) (st := none) hs rfl (post_val_or_str ⟨Nat.le_trans (Txt.slice_le z _ _) hz, fin⟩)
  | int i ui =>
    cases pu with
    | none => exact wpAny_getItem_str_slice (l := some (i, ui)) (u := none) (st := none) hs rfl (post_val_or_str ⟨Nat.le_trans (Txt.slice_le z _ _) hz, fin⟩)
    | int j uj => exact wpAny_getItem_str_slice (l := some (i, ui)) (u := some (j, uj)) (st := none) hs rfl (post_val_or_str ⟨Nat.le_trans (Txt.slice_le z _ _) hz, fin⟩)
def sliceD (x : D) (l h : Option Int) : Res D := match x with
  | .lst ds => .ok (.lst (cutD ds l h))
  | .str z => if z.length ≤ line then .ok (.str (Txt.slice z l h)) else .stuck
  | _ => .stuck
def dSlA (f : Ev → Res D) (lo hi : Ev → Res (Option Int)) : Ev → Res D := fun ρ => (f ρ).bind fun x => (lo ρ).bind fun l => (hi ρ).bind fun h => sliceD x l h
theorem de_sliceA {lo hi : Option Expr} {p2 : Pos} {fl fh : Ev → Res (Option Int)} (ha : DE X E a f) (hl : DO X E lo fl) (hh : DO X E hi fh) : DE X E (.Subscript a (.Slice lo hi none p2) pos) (dSlA f fl fh) :=
  ⟨pe_weak (pe_slice (SlR.or sl_list sl_str) ha.o hl.o hh.o) (slice_steps (m := sliceD) fun x v l h H H₀ Q hs r q => by
    cases x with
    | lst ds =>
      obtain ⟨p, vs, rfl, h1, h2⟩ := Rep.lst_iff.mp r
      exact .inl ⟨p, vs, rfl, Same.sqL hs h1, fun n hn => q _ _ _ (Grow.alloc hs hn) (Rep.lst_iff.mpr ⟨n, _, rfl, SqL.of upd_same, (h2.cut l h).mono (Grow.alloc hs hn).z⟩)⟩
    | str z =>
      unfold sliceD at q
      by_cases c : z.length ≤ line
      · simp only [if_pos c] at q
        exact .inr ⟨z, Rep.str_iff.mp r, line_le c, done_at hs q (Rep.str_iff.mpr rfl)⟩
      · simp only [if_neg c] at q; exact q.elim
    | _ => exact q.elim)⟩
end
end DL
set_option Elab.async false
set_option linter.all false
set_option maxRecDepth 100000
namespace DL
open PySem PySem.Spec PyProof.Rows L2
section
variable {X : Cx} {E : XK} {He H0e : Hp} {f : Ev → Res D} {s : Ev → Res Fl} {pos : Pos}
end
end DL
set_option Elab.async false
set_option linter.all false
set_option maxRecDepth 100000
namespace DL
open PySem PySem.Spec PyProof.Rows L2
section
variable {X : Cx} {E : XK}
end
end DL
set_option Elab.async false
set_option linter.all false
set_option maxRecDepth 100000
namespace DL
open PySem PySem.Spec PyProof.Rows L2
section
variable {X : Cx} {E : XK} {e : Expr} {f : Ev → Res D} {pos p1 : Pos}
def dOne (x : Str) (d : D) : Res D := .ok (.dic [x] [d])
end
end DL
set_option Elab.async false
set_option linter.all false
set_option maxRecDepth 100000
namespace DL
open PySem PySem.Spec PyProof.Rows L2
def blkSt (n : Nat) (fr : List Nat) (σ : L2.St) : L2.St := List.replicate n none ++ fr.map fun (i : Nat) => (σ[i]?).getD none
def FrOk (X : Cx) (N : List Str) (n : Nat) (fr : List Nat) (scope : Scope) : Prop :=
  N.length = n + fr.length ∧ ((N.drop n).zip fr).all (fun p => X.N[p.2]? == some p.1 && X.env.scope.names.lookup p.1 == some .cell && scope.names.lookup p.1 == some .free && (relabel scope X.env).names.lookup p.1 == some .cell) = true
theorem FrOk.at {X : Cx} {N : List Str} {n : Nat} {fr : List Nat} {scope : Scope} (h : FrOk X N n fr scope) {k : Nat} {x : Str} {v : V} {σ : L2.St} (hx : N[k]? = some x) (hv : (blkSt n fr σ)[k]? = some (some v)) :
    ∃ i : Nat, X.N[i]? = some x ∧ σ[i]? = some (some v) ∧ X.env.scope.names.lookup x = some .cell ∧ scope.names.lookup x = some .free ∧ (relabel scope X.env).names.lookup x = some .cell := by
  unfold blkSt at hv
  by_cases hk : k < n
  · rw [List.getElem?_append_left (by simpa using hk), List.getElem?_replicate, if_pos hk] at hv
    cases hv
  · rw [List.getElem?_append_right (by simpa using hk), List.length_replicate, List.getElem?_map] at hv
    cases hi : fr[k - n]? with
    | none => rw [hi] at hv; cases hv
    | some i =>
      rw [hi] at hv
      have hz : ((N.drop n).zip fr)[k - n]? = some (x, i) := by
        rw [List.getElem?_zip_eq_some]
        exact ⟨by rw [List.getElem?_drop, show n + (k - n) = k by omega]; exact hx, hi⟩
      have := List.all_eq_true.mp h.2 _ (List.mem_of_getElem? hz)
      simp only [Bool.and_eq_true, beq_iff_eq] at this
      refine ⟨i, this.1.1.1, ?_, this.1.1.2, this.1.2, this.2⟩
      simp only [Option.map_some, Option.some.injEq] at hv
      cases hs : σ[i]? with
      | none => rw [hs] at hv; cases hv
      | some u => rw [hs] at hv; exact congrArg some hv
def PIf (X : Cx) (ifs : List Expr) (t : TT) : Prop :=
  ∀ (pins : List (Addr × Obj)) (s : Shared) (σ : L2.St) (H : Hp) (Q : Bool → Hp → Prop), Inv X pins σ H s → t σ H Q →
    wpAny (model X.prog X.w) X.A (forIn ifs true fun c r => if r = true then do let ok ← isTrue c X.env (eval c X.env); pure (ForInStep.yield ok) else pure (ForInStep.yield r)) (TP X pins σ Q) X.xe s
end DL
set_option Elab.async false
set_option linter.all false
set_option maxRecDepth 100000
namespace DL
open PySem PySem.Spec PyProof.Rows L2
structure ItD (K : PySem.W.Frag) (ds : List D) (J : It) (H₀ : Hp) : Prop where
  go : ∀ (i : Nat) (H' H₀' : Hp), Same H₀ H₀' → Same H₀' H' → i < ds.length → J.go i H'
  yld : ∀ (i : Nat) (H' H₀' : Hp) (x : V) (H2 : Hp) (d : D), Same H₀ H₀' → Same H₀' H' → ds[i]? = some d → J.yld i H' x H2 → ∃ H₀2, Grow H' H₀' H2 H₀2 ∧ Rep K H₀2 d x
  stop : ∀ (i : Nat) (H' H₀' : Hp), Same H₀ H₀' → Same H₀' H' → ds.length ≤ i → J.stop i H'
theorem ItD.mono {K : PySem.W.Frag} {ds : List D} {J : It} {H H' : Hp} (h : ItD K ds J H) (s : Same H H') : ItD K ds J H' :=
  ⟨fun i H1 H01 a b c => h.go i H1 H01 (s.trans a) b c, fun i H1 H01 x H2 d a b c e => h.yld i H1 H01 x H2 d (s.trans a) b c e, fun i H1 H01 a b c => h.stop i H1 H01 (s.trans a) b c⟩
def tDI (K : PySem.W.Frag) (E : XK) (src : Ev → Res (List D)) : TI := fun σ H R => ∃ H₀ ρ, Same H₀ H ∧ Reads K H₀ σ ρ ∧ match src ρ with
  | .ok ds => ∀ J H' H₀', Grow H H₀ H' H₀' → ItD K ds J H₀' → R J H'
  | .exn x => ∀ C ox H' H₀', Grow H H₀ H' H₀' → ExR K H₀' x C ox → E C ox H'
  | .stuck => False
structure DI (X : Cx) (E : XK) (tg iter : Expr) (src : Ev → Res (List D)) : Prop where
  o : PI X tg iter (tDI X.K E src)
theorem pi_weak {X : Cx} {tg iter : Expr} {t t' : TI} (h : PI X tg iter t) (w : ∀ σ H R, t' σ H R → t σ H R) : PI X tg iter t' := fun pins s σ H R I q => h pins s σ H R I (w σ H R q)
section
variable {X : Cx} {E : XK} {tg e a b : Expr} {f g : Ev → Res D}
end
def sForI (src : Ev → Res (List D)) (tg : Ev → D → Res Ev) (s : Ev → Res Fl) : Ev → Res Fl := fun ρ => (src ρ).bind fun ds => forD tg s ds ρ
section
variable {X : Cx} {E : XK} {He H0e : Hp} {st : Stmt} {s : Ev → Res Fl} {pos : Pos}
theorem LoopI.step2 {K : PySem.W.Frag} {H₁ H₀ : Hp} {tg : Ev → D → Res Ev} {ds : List D} {D' : Ends} {i : Nat} {σ : L2.St} {H : Hp} {d : D} {v : V} {ρ : Ev} (z : Same H₁ H₀) (h : SRx K He H0e H₀ σ H ρ) (q : postS K E He H0e H₀ (forD tg s (ds.drop i) ρ) D') (hd : ds[i]? = some d) (rv : Rep K H₀ d v)
    (he : ∀ ρ, tg ρ d = .stuck ∨ ∃ ρ', tg ρ d = .ok ρ') :
    tG K He H0e tg v σ H fun σ2 H2 => tS K E He H0e s { D' with nx := LoopI K E He H0e H₁ tg s ds D' (i + 1), ct := LoopI K E He H0e H₁ tg s ds D' (i + 1), bk := D'.nx } σ2 H2 := by
  have hi : i < ds.length := (List.getElem?_eq_some_iff.mp hd).1
  have hdr : ds.drop i = d :: ds.drop (i + 1) := by
    rw [List.drop_eq_getElem_cons hi]
    rw [List.getElem?_eq_getElem hi] at hd
    cases hd; rfl
  rw [hdr] at q
  refine ⟨H₀, ρ, d, h, rv, ?_⟩
  unfold forD at q
  rcases he ρ with e1 | ⟨ρ1, e1⟩
  · rw [e1] at q; exact q.elim
  · rw [e1] at q ⊢
    intro σ' H' H₀' z' h'
    refine ⟨H₀', ρ1, h', ?_⟩
    replace q := postS.grow (r := (s ρ1).bind fun x => match x with
      | .nx ρ2 => forD tg s (ds.drop (i + 1)) ρ2
      | .ct ρ2 => forD tg s (ds.drop (i + 1)) ρ2
      | .bk ρ2 => .ok (.nx ρ2)
      | .rt d => .ok (.rt d)) q z'
    cases e2 : s ρ1 with
    | stuck => rw [e2] at q; exact q
    | exn x => rw [e2] at q; exact q
    | ok r =>
      rw [e2] at q
      cases r with
      | nx ρ2 => exact fun σ3 H3 H03 z3 h3 => ⟨H03, ρ2, (z.trans z').trans z3, h3, postS.grow (r := forD tg s (ds.drop (i + 1)) ρ2) q z3⟩
      | ct ρ2 => exact fun σ3 H3 H03 z3 h3 => ⟨H03, ρ2, (z.trans z').trans z3, h3, postS.grow (r := forD tg s (ds.drop (i + 1)) ρ2) q z3⟩
      | bk ρ2 => exact q
      | rt d => exact q
theorem ds_forI {tgt iter : Expr} {body : List Stmt} {tg : Ev → D → Res Ev} {src : Ev → Res (List D)} (hp : PassesOwn (model X.prog X.w) X.A X.env X.xe) (hc : X.calm = true) (hi : DI X E tgt iter src) (hg : DG X E He H0e tgt tg) (ht : Total tg) (hb : DSs X E He H0e body s)
    (hs : ∀ x, foldedSetIterable iter X.env x = pure x := by intro _; rfl) : DS X E He H0e (.For tgt iter body [] pos) (sForI src tg s) := by
  refine ⟨ps_weak (ps_for hp hc hi.o hg.o hb.o hs) fun D' σ H ⟨H₀, ρ, h, q⟩ => ⟨H₀, ρ, h.g.sub, h.rd, ?_⟩⟩
  unfold sForI at q
  cases e1 : src ρ with
  | stuck => rw [e1] at q; exact q
  | exn x => rw [e1] at q; exact fun C ox H' H₀' g r => q C ox H' H₀' (h.g.trans g) r
  | ok ds =>
    rw [e1] at q
    intro J H1 H01 g it
    have q1 : postS X.K E He H0e H01 (forD tg s ds ρ) D' := postS.grow (r := forD tg s ds ρ) q g.z
    refine ⟨fun i m σ' H' => m + i = ds.length ∧ LoopI X.K E He H0e H01 tg s ds D' i σ' H', ⟨ds.length, rfl, H01, ρ, Same.refl _, h.grow g, q1⟩, ?_⟩
    rintro i m σ' H' ⟨hm, H₀', ρ', z, h', hq⟩
    by_cases hlt : i < ds.length
    · refine .inr ⟨it.go i H' H₀' z h'.g.sub hlt, fun σ2 H2 => LoopI X.K E He H0e H01 tg s ds D' (i + 1) σ2 H2, fun σ2 H2 hl => ⟨m - 1, by omega, by omega, hl⟩, fun x H2 hy => ?_⟩
      obtain ⟨H₀2, g2, rp⟩ := it.yld i H' H₀' x H2 ds[i] z h'.g.sub (List.getElem?_eq_getElem hlt) hy
      exact LoopI.step2 (z.trans g2.z) (h'.grow g2) (postS.grow (r := forD tg s (ds.drop i) ρ') hq g2.z) (List.getElem?_eq_getElem hlt) rp fun ρ => ht ρ _
    · have e : i = ds.length := by omega
      refine .inl ⟨it.stop i H' H₀' z h'.g.sub (by omega), ?_⟩
      subst e
      exact LoopI.done ⟨H₀', ρ', z, h', hq⟩
end
end DL
set_option Elab.async false
set_option linter.all false
set_option maxRecDepth 100000
namespace DL
open PySem PySem.Spec PyProof.Rows L2
structure DIf (X : Cx) (E : XK) (ifs : List Expr) (f : Ev → Res D) : Prop where
  o : PIf X ifs (tDT X.K E f)
def mYes : Ev → Res D := fun _ => .ok (.bl true)
structure DCo (X : Cx) (E : XK) (e : Expr) (f : Ev → Res D) : Prop where
  ev : PE X e (tF X.K E f)
  st : ∀ {i : Nat} {x : Str} {pos' spos : Pos}, X.N.Nodup → X.N[i]? = some x → X.env.scope.names.lookup x = some .local → swapsWith e (some (.Name x pos')) spos.line X.env = pure true → PS X (.Assign [.Name x pos'] e spos) (tAsg (tF X.K E f) (gName i))
section
variable {X : Cx} {E : XK} {He H0e : Hp} {e : Expr} {f : Ev → Res D} {s : Ev → Res Fl} {pos : Pos} {st : Stmt}
def unown (i : Nat) (ρ : Ev) : Ev := match ρ[i]? with
  | some (.ow d) => ρ.set i (.sh d)
  | _ => ρ
def sFrz (i : Nat) (s : Ev → Res Fl) : Ev → Res Fl := fun ρ => s (unown i ρ)
theorem SRx.unown {K : PySem.W.Frag} {H₀ H : Hp} {σ : L2.St} {ρ : Ev} (h : SRx K He H0e H₀ σ H ρ) (i : Nat) : ∃ H₀', Same H₀ H₀' ∧ SRx K He H0e H₀' σ H (DL.unown i ρ) := by
  unfold DL.unown
  cases e : ρ[i]? with
  | none => exact ⟨H₀, Same.refl _, h⟩
  | some s =>
    cases s with
    | no => exact ⟨H₀, Same.refl _, h⟩
    | sh d => exact ⟨H₀, Same.refl _, h⟩
    | ow d =>
      obtain ⟨a, k1, k2, k3, k4⟩ := h.ow i d e
      cases d with
      | lst ds =>
        obtain ⟨vs, h5, h6⟩ := k4
        have z : Same H₀ (upd H₀ a (.lst vs)) := fun b o q => by rw [upd_ne (by intro z; subst z; rw [k3] at q; cases q)]; exact q
        have h' : SRx K He H0e (upd H₀ a (.lst vs)) σ H (ρ.set i .no) := by
          have nset : ∀ (j : Nat) (s : Sl), (ρ.set i .no)[j]? = some s → s ≠ .no → j ≠ i ∧ ρ[j]? = some s := fun j s q hs => by
            by_cases hj : i = j
            · subst hj
              rw [List.getElem?_set_self'] at q
              rw [e] at q; cases q; exact absurd rfl hs
            · rw [List.getElem?_set_ne hj] at q; exact ⟨fun z => hj z.symm, q⟩
          refine ⟨⟨h.g.s, h.g.z.trans z, fun b o q => ?_, fun b q1 q2 => ?_⟩, fun j d' q => ?_, fun j d' q => ?_, fun j k d1 d2 hn q1 q2 => ?_, by simp [h.ln]⟩
          · by_cases hb : b = a
            · subst hb; rw [upd_same] at q; cases q; exact h5
            · rw [upd_ne hb] at q; exact h.g.sub _ _ q
          · by_cases hb : b = a
            · subst hb; exact k2
            · rw [upd_ne hb] at q1; exact h.g.nw b q1 q2
          · obtain ⟨hj, q⟩ := nset j _ q (fun z => nomatch z)
            obtain ⟨v, q1, q2⟩ := h.rd j d' q
            exact ⟨v, q1, q2.mono z⟩
          · obtain ⟨hj, q⟩ := nset j _ q (fun z => nomatch z)
            obtain ⟨b, q1, q2, q3, q4⟩ := h.ow j d' q
            have hb : b ≠ a := by
              intro zz; subst zz
              exact h.ap j i d' (.lst ds) hj q e (by rw [q1, k1])
            refine ⟨b, q1, q2, by rw [upd_ne hb]; exact q3, ?_⟩
            cases d' with
            | lst ds' => obtain ⟨vs', h7, h8⟩ := q4; exact ⟨vs', h7, h8.mono z⟩
            | _ => exact q4.elim
          · obtain ⟨_, q1⟩ := nset j _ q1 (fun z => nomatch z)
            obtain ⟨_, q2⟩ := nset k _ q2 (fun z => nomatch z)
            exact h.ap j k d1 d2 hn q1 q2
        refine ⟨_, z, ?_⟩
        have hp := h'.put (i := i) (d := .lst ds) (v := .ref a) (Rep.lst_iff.mpr ⟨a, vs, rfl, SqL.of upd_same, h6.mono z⟩)
        rw [List.set_set] at hp
        have hσ : σ.set i (some (V.ref a)) = σ := by
          apply List.ext_getElem?
          intro k
          by_cases hk : i = k
          · subst hk
            obtain ⟨hil, _⟩ := List.getElem?_eq_some_iff.mp k1
            rw [List.getElem?_set_self hil, k1]
          · rw [List.getElem?_set_ne hk]
        rw [hσ] at hp
        exact hp
      | _ => exact k4.elim
end
end DL
set_option Elab.async false
set_option linter.all false
set_option maxRecDepth 100000
namespace DL
open PySem PySem.Spec PyProof.Rows L2
end DL
set_option Elab.async false
set_option linter.all false
set_option maxRecDepth 100000
namespace DL
open PySem PySem.Spec PyProof.Rows L2
theorem ObjOk.there {P : Program} {w : World} {H : Hp} {h : Heap} {a : Addr} {o : HO} (x : ObjOk P w H h a o) : ∃ u, h.get? a = some u := by
  cases o with
  | lst xs => obtain ⟨_, _, _, _, e⟩ := x; exact ⟨_, e⟩
  | tup xs => obtain ⟨_, _, _, ob, e, _⟩ := x; exact ⟨_, e⟩
  | dK kvs => obtain ⟨_, _, _, _, o, _, _, e, _⟩ := x; exact ⟨_, e⟩
  | dT kvs => obtain ⟨_, _, _, _, o, _, _, e, _⟩ := x; exact ⟨_, e⟩
  | set S n => obtain ⟨o, _, _, _, e, _⟩ := x; exact ⟨_, e⟩
  | ins C dx fs => obtain ⟨_, _, _, e, _⟩ := x; exact ⟨_, e⟩
  | own y => obtain ⟨_, e⟩ := x; exact ⟨_, e⟩
  | xd fs => obtain ⟨_, ⟨_, _, _, e, _⟩, _⟩ := x; exact ⟨_, e⟩
  | rng lo hi => obtain ⟨_, _, _, e⟩ := x; exact ⟨_, e⟩
  | frz ob u => obtain ⟨e, _⟩ := x; exact ⟨_, e⟩
  | tbl ps => exact ⟨_, show h.get? a = some _ from x⟩
  | met f y => exact ⟨_, show h.get? a = some _ from x⟩
  | ext φ => obtain ⟨_, ⟨_, e⟩, _⟩ := x; exact ⟨_, e⟩
def CXE (P : Program) (w : World) : CXT := fun outer H s E e s' => ∃ (ea C : Addr) (a0 : Value) (B : Heap) (H' : Hp), e = .ref ea ∧ s'.os = s.os ∧ AllBare s'.gens ∧ Un (frs outer) [] H H' s.heap s'.heap ∧ HOk P w H' s'.heap ∧ H' ea = none ∧
  Heap.FlyingW B outer ea (.ref C) a0 s'.heap ∧ (∀ b, b ∉ frs outer → (H' b ≠ none ∨ ∃ o, s.heap.get? b = some o) → ∃ o, B.get? b = some o) ∧ E (.ref C) none H'
theorem frs_mem {l : List PySem.Env} : ∀ env ∈ l, ∀ a, env.frame = some a → a ∈ frs l := fun env he a hf => List.mem_filterMap.mpr ⟨env, he, hf⟩
section
variable {P : Program} {w : World} {K : PySem.W.Frag} {mg : Str → Option Value} {base : Heap} {N : List Str} {qual : Str} {scope : Scope} {f : Addr} {cd : Value} {A : Around} {outer : List PySem.Env} {s0 : Shared} {H0 : Hp} {E : XK}
  {pins : List (Addr × Obj)} {σ : L2.St} {H : Hp} {s : Shared}
theorem stays_all {B h h' : Heap} (k : B.StaysIn h) (k' : B.StaysIn h') {b : Addr} {o : Obj} (hb : ∃ u, B.get? b = some u) (e : h.get? b = some o) : h'.get? b = some o := by
  obtain ⟨u, q⟩ := hb
  have := k b u q
  rw [e] at this; cases this
  exact k' b o q
theorem flown {X : Cx} (hX : X = cxOf (CXE P w) P w K mg base N qual scope f cd A outer s0 H0 E) (I : Inv X pins σ H s) {s1 : Shared} {H1 : Hp} {ea C : Addr} {a0 : Value} {B h' : Heap} (os : s1.os = s.os) (bare : AllBare s1.gens)
    (un : Un (frs X.stack) [] H H1 s.heap s1.heap) (hok : HOk P w H1 s1.heap) (hne : H1 ea = none) (hst : B.StaysIn s1.heap) (hfr : s1.heap.FunFrames B X.stack)
    (hB : ∀ b, b ∉ frs X.stack → (H1 b ≠ none ∨ ∃ o, s.heap.get? b = some o) → ∃ o, B.get? b = some o) (fl : Heap.FlyingW B outer ea (.ref C) a0 h') (up : s1.heap.UpToSlots h') (hE : E (.ref C) none H1) :
    CXE P w outer H0 s0 E (.ref ea) { s1 with heap := h' } := by
  subst hX
  have hL : (envOfC qual scope s0.heap.objs.size f cd).frame = some (envOfC qual scope s0.heap.objs.size f cd).locals := rfl
  have hstk : ∀ b, b ∈ frs (envOfC qual scope s0.heap.objs.size f cd :: outer) → b = (envOfC qual scope s0.heap.objs.size f cd).locals ∨ b ∈ frs outer := fun b hb => by
    unfold frs at hb; rw [List.filterMap_cons, hL] at hb; exact List.mem_cons.mp hb
  have hsub : ∀ b, b ∈ frs outer → b ∈ frs (envOfC qual scope s0.heap.objs.size f cd :: outer) := fun b hb => by
    unfold frs; rw [List.filterMap_cons, hL]; exact List.mem_cons_of_mem _ hb
  have old : ∀ b o, s0.heap.get? b = some o → b ≠ (envOfC qual scope s0.heap.objs.size f cd).locals := fun b o e => Nat.ne_of_lt (Nat.lt_of_lt_of_le (Heap.lt_size e) I.ok.above)
  have nofr : ∀ b o, s0.heap.get? b = some o → b ∉ frs outer → b ∉ frs (envOfC qual scope s0.heap.objs.size f cd :: outer) := fun b o e hb hm => (hstk b hm).elim (old b o e) hb
  have thr : ∀ b o, s0.heap.get? b = some o → ∃ o', s.heap.get? b = some o' := fun b o e => I.base.there b o e (by intro z; exact nomatch z)
  have fst : ∀ b, b ∈ frs outer → ∀ o, s1.heap.get? b = some o → ∃ sl, h'.get? b = some { o with slots := sl } := fun b hb o e => by
    obtain ⟨_, o', ho', hd⟩ := hfr.mem (hsub b hb)
    rw [e] at ho'; cases ho'
    exact up b o e hd
  have free1 : ∀ b ∈ frs (envOfC qual scope s0.heap.objs.size f cd :: outer), H1 b = none := fun b hb => by
    obtain ⟨_, o, ho, _⟩ := I.stack.mem hb
    exact un.free b o ho (I.stkFree b hb) (by simp)
  have B0 : ∀ b o, s0.heap.get? b = some o → b ∉ frs outer → ∃ u, B.get? b = some u := fun b o e hb => hB b (nofr b o e hb) (.inr (thr b o e))
  refine ⟨ea, C, a0, B, H1, rfl, os.trans I.os, bare, ⟨fun b o e n hb hx => ?_, fun b o e n hb hx => ?_, fun b o e n hx => ?_, fun b o e hx => ?_, fun b xs e => un.tups b xs (I.base.tups b xs e), fun b o u e => un.frzs b o u (I.base.frzs b o u e), fun b ps e => ?_⟩, fun a o e => ?_, hne, fl, fun b hb h => ?_, hE⟩
  · have e1 := I.base.keep b o e n hb (by intro z; exact nomatch z)
    have n1 := I.base.free b o e n (by intro z; exact nomatch z)
    have e2 := un.keep b o e1 n1 (nofr b o e hb) (by simp)
    exact stays_all hst fl.1 (B0 b o e hb) e2
  · obtain ⟨sl, e1⟩ := I.base.slot b o e n hb (by intro z; exact nomatch z)
    have n1 := I.base.free b o e n (by intro z; exact nomatch z)
    obtain ⟨sl2, e2⟩ := un.any e1 n1 (by simp)
    obtain ⟨sl3, e3⟩ := fst b hb _ e2
    exact ⟨sl3, e3⟩
  · obtain ⟨o', e1⟩ := thr b o e
    exact un.free b o' e1 (I.base.free b o e n (by intro z; exact nomatch z)) (by simp)
  · obtain ⟨o', e1⟩ := thr b o e
    obtain ⟨o2, e2⟩ := un.there b o' e1 (by simp)
    by_cases hb : b ∈ frs outer
    · obtain ⟨sl, e3⟩ := fst b hb _ e2
      exact ⟨_, e3⟩
    · exact ⟨_, stays_all hst fl.1 (B0 b o e hb) e2⟩
  · obtain ⟨m1, e1⟩ := I.base.tbls b ps e
    obtain ⟨m2, e2⟩ := un.tbls b _ e1
    exact ⟨m1 ++ m2, by rw [e2, Array.append_assoc]⟩
  · refine (hok a o e).stay (fun b u hb q => ?_) (fun _ q => q) fun _ _ q => q
    have hn : H1 b ≠ none := by
      rcases hb with rfl | hb
      · rw [e]; simp
      · rw [hb]; simp
    exact stays_all hst fl.1 (hB b (fun hm => hn (free1 b hm)) (.inl hn)) q
  · by_cases hm : b ∈ frs (envOfC qual scope s0.heap.objs.size f cd :: outer)
    · rcases hstk b hm with z | z
      · rcases h with h | ⟨o, h⟩
        · exact absurd (free1 b hm) h
        · exact absurd z (old b o h)
      · exact absurd z hb
    · exact hB b hm (h.elim .inl fun ⟨o, h⟩ => .inr (thr b o h))
theorem raise_leaves (I : Inv (cxOf (CXE P w) P w K mg base N qual scope f cd A outer s0 H0 E) pins σ H s) {h1 : Heap} {e C : Addr} {vs : List Value} (hx : Heap.MadeExcOf s.heap h1 e (.ref C) vs) (hE : E (.ref C) none H) :
    (cxOf (CXE P w) P w K mg base N qual scope f cd A outer s0 H0 E).xe (.ref e) { s with heap := h1 } := by
  have hin := frs_mem (l := envOfC qual scope s0.heap.objs.size f cd :: outer)
  have hl : s.heap.FunFrames (PySem.W.hideAll s.heap (frs (envOfC qual scope s0.heap.objs.size f cd :: outer))) (envOfC qual scope s0.heap.objs.size f cd :: outer) := PySem.W.funFrames_hide I.stack hin
  have hn : H e = none := by
    cases q : H e with
    | none => rfl
    | some o => obtain ⟨u, hu⟩ := ObjOk.there (I.hok e o q); rw [hx.new] at hu; cases hu
  refine wpAny_leaves_madeW (h := s.heap) (base := PySem.W.hideAll s.heap (frs (envOfC qual scope s0.heap.objs.size f cd :: outer))) (cls := .ref C) (args := vs) I.ok.frames rfl (fun b o q => PySem.W.of_hideAll _ q) hl hx fun h' t fl tup _ up => ?_
  refine flown rfl I (s1 := { s with heap := h1 }) (H1 := H) rfl I.bare (Un.kept hx.keeps) (I.hok.kept hx.keeps) hn (fun b o q => hx.keeps b o (PySem.W.of_hideAll _ q)) (hl.of_keeps fun b o hb _ => ⟨o, hx.keeps b o hb, rfl⟩) (fun b hb h => ?_) fl up hE
  have : ∃ o, s.heap.get? b = some o := by
    rcases h with h | h
    · cases q : H b with
      | none => exact absurd q h
      | some o => exact ObjOk.there (I.hok b o q)
    · exact h
  obtain ⟨o, q⟩ := this
  exact ⟨o, PySem.W.hideAll_get _ q hb⟩
theorem passesE : Passes (CXE P w) (cxOf (CXE P w) P w K mg base N qual scope f cd A outer s0 H0 E) E := by
  intro pins σ H s e s' I h
  obtain ⟨ea, C, a0, B, H', rfl, os, bare, un, hok, hne, fl, hB, hE⟩ := h
  refine wpAny_leaves_onW I.ok.frames rfl fl fun h' fl' up => ?_
  exact flown rfl I os bare un hok hne fl.1 fl.2.2.1 hB fl' up hE
end
end DL
set_option Elab.async false
set_option linter.all false
set_option maxRecDepth 100000
namespace DL
open PySem PySem.Spec PyProof.Rows L2
theorem pass0E {X : Cx} {E : XK} : Passes CX0 X E := fun _ _ _ _ _ _ _ h => h.elim
theorem fn_mirrorE {P : Program} {w : World} {K : PySem.W.Frag} {mg : Str → Option Value} {base : Heap} {x qual : Str} {st : Stmt} {f : Addr} {fd : FuncData} {N ps : List Str} {k : Nat} {s : Ev → Res Fl} (F : Fun K x qual st f fd) (S : FnScope N ps (defScope st))
    (hbody : ∀ (cdv : Value) (A : Around) (outer : List PySem.Env) (s0 : Shared) (H H₀ : Hp) (E : XK), Room k (A.deeper (envOfC qual (defScope st) s0.heap.objs.size f cdv)) →
      DSs (cxOf (CXE P w) P w K mg base N qual (defScope st) f cdv A outer s0 H E) E H H₀ (defBody st) s) : FnOk P w K mg base (CXE P w) (k + 1) f fd ps (spD K ps.length (runD N.length s)) := by
  have hpl : ps.length ≤ N.length := by have := congrArg List.length S.pre; rw [List.length_take] at this; omega
  obtain ⟨oc, od, kV, doc, pm, an, cdv, ct, osl, rfl, lk, hcd⟩ := F.ex
  refine fn_of lk hcd S (fun vs H Q E h => h.1) fun A outer s0 H vs Q E hr h => ?_
  obtain ⟨hn, H₀, ds, hs, hv, q⟩ := h
  refine ⟨_, (hbody cdv A outer s0 H H₀ E hr).o, H₀, ds.map Sl.sh ++ List.replicate (N.length - ds.length) .no, ?_, ?_⟩
  · refine ⟨Grow.refl hs, start_reads hv, fun i d e => ?_, fun i j d d' hij e => ?_, ?_⟩
    · by_cases hi : i < ds.length
      · rw [List.getElem?_append_left (by simpa using hi), List.getElem?_map] at e
        cases q : ds[i]? with
        | none => rw [q] at e; cases e
        | some d' => rw [q] at e; cases e
      · rw [List.getElem?_append_right (by simpa using hi), List.getElem?_replicate] at e
        split at e <;> cases e
    · by_cases hi : i < ds.length
      · rw [List.getElem?_append_left (by simpa using hi), List.getElem?_map] at e
        cases q : ds[i]? with
        | none => rw [q] at e; cases e
        | some d' => rw [q] at e; cases e
      · rw [List.getElem?_append_right (by simpa using hi), List.getElem?_replicate] at e
        split at e <;> cases e
    · unfold L2.start
      have := hv.length
      simp only [List.length_append, List.length_map, List.length_replicate]
      omega
  · unfold runD at q
    cases e1 : s (ds.map Sl.sh ++ List.replicate (N.length - ds.length) .no) with
    | stuck => rw [e1] at q; exact q
    | exn x => rw [e1] at q; exact q
    | ok r =>
      rw [e1] at q
      cases r with
      | nx ρ' => exact fun σ' H' H₀' _ h' => q .non H' H₀' h'.g (Rep.non_iff.mpr rfl)
      | rt d => exact fun v H' H₀' g rp => q v H' H₀' g rp
      | bk ρ' => exact q.elim
      | ct ρ' => exact q.elim
def noX (m : List D → Res D) (ds : List D) : Res D := match m ds with
  | .exn _ => .stuck
  | r => r
theorem noX_ok {m : List D → Res D} {ds : List D} {d : D} (h : m ds = .ok d) : noX m ds = .ok d := by unfold noX; rw [h]
theorem spD_noX {K : PySem.W.Frag} {n : Nat} {m : List D → Res D} {vs : List V} {H : Hp} {Q : VK} {E E' : XK} (h : spD K n (noX m) vs H Q E) : spD K n m vs H Q E' := by
  obtain ⟨hn, H₀, ds, hs, hv, q⟩ := h
  refine ⟨hn, H₀, ds, hs, hv, ?_⟩
  unfold noX at q
  cases e : m ds with
  | stuck => rw [e] at q; exact q
  | exn x => rw [e] at q; exact q.elim
  | ok d => rw [e] at q; exact q
theorem FnOk.noX {P : Program} {w : World} {K : PySem.W.Frag} {mg : Str → Option Value} {base : Heap} {k n : Nat} {f : Addr} {fd : FuncData} {ps : List Str} {m : List D → Res D} (F : FnOk P w K mg base (CXE P w) k f fd ps (spD K n m)) :
    FnOk P w K mg base CX0 k f fd ps (spD K n (DL.noX m)) :=
  ⟨fun vs H Q E h => F.len vs H Q E0 (spD_noX h), fun A outer s H args us vs Q E hr he hb hv h => codeAny_mono (F.run A outer s H args us vs Q E0 hr he hb hv (spD_noX h)) fun r s' q => by
    cases r with
    | ok fl => cases fl <;> exact q
    | error e => obtain ⟨_, _, _, _, _, _, _, _, _, _, _, _, _, hE⟩ := q; exact hE.elim⟩
structure XCls (K : PySem.W.Frag) (x : Str) (C : Addr) : Prop where
  xc : XC K x C
  ex : PySem.W.excIn K C [.type "ValueError", .type "Exception", .type "BaseException", .type "object"] "ValueError.__new__" = true
theorem XCls.obj {K : PySem.W.Frag} {x : Str} {C : Addr} (c : XCls K x C) {h : Heap} (X : K.In h) : ∃ bm N nm q bs hdct sn sub ab col dd k0 k1 k2 k3 k5 mN, h.get? C = some (excClassObj nm q C N bs bm hdct sn sub ab col dd k0 k1 k2 k3 k5 "ValueError.__new__") ∧ h.Ns N mN ∧ mN "__init__" = none ∧
    OwnTail h [.type "ValueError", .type "Exception", .type "BaseException", .type "object"] bm := by
  have q := c.ex
  unfold PySem.W.excIn at q
  split at q
  · rename_i dd cd sl ho
    split at q
    · rename_i C' bm k0 k1 k2 k3 n k5 hm hs
      simp only [Bool.and_eq_true, beq_iff_eq, Bool.not_eq_true'] at q
      obtain ⟨⟨⟨⟨⟨rfl, rfl⟩, hdel⟩, ht⟩, hok⟩, hni⟩ := q
      obtain ⟨nm, bs, mro, ns, qn, hd, sn, sub, ab, col, del⟩ := cd
      dsimp only at hm hdel hok hni
      subst hm hdel
      have hsl : sl = #[k0, k1, k2, k3, some (.builtin "ValueError.__new__"), k5] := by
        obtain ⟨l⟩ := sl
        simp only at hs
        rw [hs]
      subst hsl
      exact ⟨bm, ns, nm, qn, bs, hd, sn, sub, ab, col, dd, k0, k1, k2, k3, k5, _, X _ _ ho, .of_isNs (PySem.W.isNs_of_in X hok), PySem.W.nsMap_none_of_in X hok hni, PySem.W.tail_of_in X ht⟩
    · cases q
  · cases q
def sRaise (x : Str) (fa : Ev → Res (List D)) : Ev → Res Fl := fun ρ => (fa (shr ρ)).bind fun ds => if ds.length ≤ line then .exn ⟨x, []⟩ else .stuck
section
variable {P : Program} {w : World} {K : PySem.W.Frag} {mg : Str → Option Value} {base : Heap} {N : List Str} {qual : Str} {scope : Scope} {f : Addr} {cd : Value} {A : Around} {outer : List PySem.Env} {s0 : Shared} {H0 : Hp} {E : XK} {He H0e : Hp}
theorem ds_raise {x : Str} {C : Addr} {np cpos pos : Pos} {e : Expr} {es : List Expr} {fa : Ev → Res (List D)} (c : XCls K x C) (hm : mg x = some (.ref C)) (hh : A.handled = none)
    (hg : Gl (cxOf (CXE P w) P w K mg base N qual scope f cd A outer s0 H0 E) x) (ha : DA (cxOf (CXE P w) P w K mg base N qual scope f cd A outer s0 H0 E) E (e :: es) fa)
    (hdb : (x == ("__debug__" : Str)) = false := by decide) (he : starEach (e :: es) (cxOf (CXE P w) P w K mg base N qual scope f cd A outer s0 H0 E).env = (false, eval e (cxOf (CXE P w) P w K mg base N qual scope f cd A outer s0 H0 E).env) :: starEach es (cxOf (CXE P w) P w K mg base N qual scope f cd A outer s0 H0 E).env := by exact star_cons rfl)
    (hpl : (backTo cpos (starEach es (cxOf (CXE P w) P w K mg base N qual scope f cd A outer s0 H0 E).env)).any (·.1) = false := by exact any_star rfl) :
    DS (cxOf (CXE P w) P w K mg base N qual scope f cd A outer s0 H0 E) E He H0e (.Raise (some (.Call (.Name x np) (e :: es) [] cpos)) none pos) (sRaise x fa) := by
  refine ⟨?_⟩
  intro pins s σ H D I ⟨H₀, ρ, hr, q⟩
  obtain ⟨bm, Nn, nm, qn, bs, hdct, sn, sub, ab, col, dd, k0, k1, k2, k3, k5, mN, hC, hN, hni, T⟩ := c.obj I.ok.mod.kin
  refine wpAny_Raise_call_subT (C := C) (nm := nm) (q := qn) (N := Nn) (bs := bs) (bm := bm) (hdct := hdct) (sn := sn) (sub := sub) (ab := ab) (col := col) (dd := dd) (k0 := k0) (k1 := k1) (k2 := k2) (k3 := k3) (k5 := k5)
    PySem.F.excBase_ValueError (mN := mN) (T.hasType PySem.F.excBase_ValueError.hasBase) hh (by rw [he]; show (false || (backTo cpos (starEach es (cxOf (CXE P w) P w K mg base N qual scope f cd A outer s0 H0 E).env)).any (·.1)) = false; rw [hpl]; rfl) hni (ld_glob I hg hm ⟨rfl, ?_⟩ hdb)
  have hq : posts K E H (frz He H₀ H) (fa (shr ρ)) (fun vs H1 => vs.length ≤ sizeLine ∧ E (.ref C) none H1) := by
    unfold sRaise at q
    cases e1 : fa (shr ρ) with
    | stuck => rw [e1] at q; exact q
    | exn z => rw [e1] at q; exact fun C ox H' H₀' g ex => q C ox H' H₀' (hr.frz_grow.trans g) ex
    | ok ds =>
      rw [e1] at q
      intro vs H1 H01 g rp
      have q : postS K E He H0e H₀ (if ds.length ≤ line then Res.exn ⟨x, []⟩ else .stuck) D := q
      by_cases hl : ds.length ≤ line
      · rw [if_pos hl] at q
        exact ⟨by rw [← rp.length]; exact line_le hl, q (.ref C) none H1 H01 (hr.frz_grow.trans g) ⟨⟨C, rfl, c.xc⟩, rfl⟩⟩
      · rw [if_neg hl] at q; exact q.elim
  have h1 := ha.o cpos pins s σ H _ I ⟨frz He H₀ H, shr ρ, hr.frz_le, hr.looks, hq⟩
  rw [he] at h1 ⊢
  refine Calls.evalArgs_plain (wpAny_mono h1 (fun vs s2 h2 => ?_) fun _ _ y => y)
  obtain ⟨vs', H1, I1, rv, hl, hE⟩ := h2
  exact ⟨rfl, by rw [← rv.length]; exact hl, I1.bk _ _ hC, hN.keeps I1.bk, T.keeps I1.bk, fun h' ee hx => raise_leaves I1 hx hE⟩
end
end DL
set_option Elab.async false
set_option linter.all false
set_option maxRecDepth 100000
namespace DL
open PySem PySem.Spec PyProof.Rows L2
section
variable {P : Program} {w : World} {st : List PySem.Env} {H H' : Hp} {h g g' B : Heap}
theorem Un.fly (un : Un (frs st) [] H H' h g) (k : B.StaysIn g) (hfr : g.FunFrames B st) (hB : ∀ b, b ∉ frs st → (H' b ≠ none ∨ ∃ o, h.get? b = some o) → ∃ o, B.get? b = some o) (k' : B.StaysIn g') (up : g.UpToSlots g') : Un (frs st) [] H H' h g' := by
  have fst : ∀ b, b ∈ frs st → ∀ o, g.get? b = some o → ∃ sl, g'.get? b = some { o with slots := sl } := fun b hb o e => by
    obtain ⟨_, o', ho', hd⟩ := hfr.mem hb
    rw [e] at ho'; cases ho'
    exact up b o e hd
  refine ⟨fun b o e n hb hx => ?_, fun b o e n hb hx => ?_, un.free, fun b o e hx => ?_, un.tups, un.frzs, un.tbls⟩
  · exact stays_all k k' (hB b hb (.inr ⟨o, e⟩)) (un.keep b o e n hb hx)
  · obtain ⟨sl, e1⟩ := un.slot b o e n hb hx
    obtain ⟨sl2, e2⟩ := fst b hb _ e1
    exact ⟨sl2, e2⟩
  · obtain ⟨o', e1⟩ := un.there b o e hx
    by_cases hb : b ∈ frs st
    · obtain ⟨sl, e2⟩ := fst b hb _ e1
      exact ⟨_, e2⟩
    · exact ⟨_, stays_all k k' (hB b hb (.inr ⟨o, e⟩)) e1⟩
theorem HOk.fly (ok : HOk P w H' g) (hf : ∀ b ∈ frs st, H' b = none) (k : B.StaysIn g) (hB : ∀ b, b ∉ frs st → (H' b ≠ none ∨ ∃ o, h.get? b = some o) → ∃ o, B.get? b = some o) (k' : B.StaysIn g') : HOk P w H' g' := fun a o e => by
  refine (ok a o e).stay (fun b u hb q => ?_) (fun _ q => q) fun _ _ q => q
  have hn : H' b ≠ none := by
    rcases hb with rfl | hb
    · rw [e]; simp
    · rw [hb]; simp
  exact stays_all k k' (hB b (fun hm => hn (hf b hm)) (.inl hn)) q
theorem HOk.ext (ok : HOk P w H g) {a : Addr} {φ : Heap → Prop} (hn : H a = none) (p : φ g) (ht : ∃ o, g.get? a = some o) (hm : ∀ h1 h2 : Heap, φ h1 → (∀ o, h1.get? a = some o → h2.get? a = some o) → φ h2) : HOk P w (upd H a (.ext φ)) g := fun b u e => by
  by_cases hb : b = a
  · subst hb; rw [upd_same] at e; cases e; exact ⟨p, ht, hm⟩
  · rw [upd_ne hb] at e
    exact (ok b u e).stay (fun c v _ q => q) (fun c q => by rw [upd_ne (ne_of_none q hn)]; exact q) fun c xs q => by rw [upd_ne (ne_of_none q hn)]; exact q
theorem Un.ext {fs : List Addr} (un : Un fs [] H H' h g) {a : Addr} {o : HO} (hn : H' a = none) (ha : h.get? a = none) : Un fs [] H (upd H' a o) h g :=
  ⟨un.keep, un.slot, fun b ob e n hx => by rw [upd_ne (fun z => by subst z; rw [ha] at e; cases e)]; exact un.free b ob e n hx, un.there, fun b xs q => by rw [upd_ne (ne_of_none (un.tups b xs q) hn)]; exact un.tups b xs q,
    fun b ob u q => by rw [upd_ne (ne_of_none (un.frzs b ob u q) hn)]; exact un.frzs b ob u q, fun b ps q => by
      obtain ⟨m, e⟩ := un.tbls b ps q
      exact ⟨m, by rw [upd_ne (ne_of_none e hn)]; exact e⟩⟩
theorem exAt_keep {a C : Addr} : ∀ h1 h2 : Heap, ExAt a C h1 → (∀ o, h1.get? a = some o → h2.get? a = some o) → ExAt a C h2 := fun h1 h2 ⟨o, vs, e, c, d⟩ k => ⟨o, vs, k o e, c, d⟩
end
def hand (X : Cx) (e : Addr) : Cx := { X with A := X.A.mark (some (.ref e)), calm := false, xe := fun _ _ => False }
section
variable {X : Cx} {pins : List (Addr × Obj)} {σ : L2.St} {H : Hp} {s : Shared} {e : Addr}
theorem hand_ok (ok : X.Ok) : (hand X e).Ok :=
  ⟨ok.mod, ok.kind, ok.glob, ok.blt, ok.above, ok.inj, ok.has, ok.cab, fun z => Bool.noConfusion z, ok.frames, ok.stk, ok.exf, ok.bs, ok.bsz, ok.noex, ok.exfs, ok.funs, ok.frf⟩
theorem Inv.hand (I : Inv X pins σ H s) : Inv (DL.hand X e) pins σ H s := ⟨hand_ok I.ok, I.os, I.bare, I.base, I.loc, I.cell, I.free, I.freeC, I.pin, I.hok, I.len⟩
theorem Inv.unhand (ok : X.Ok) (I : Inv (DL.hand X e) pins σ H s) : Inv X pins σ H s := ⟨ok, I.os, I.bare, I.base, I.loc, I.cell, I.free, I.freeC, I.pin, I.hok, I.len⟩
theorem SP.unhand (ok : X.Ok) {D : Ends} {f : Flow} {s' : Shared} (h : SP (DL.hand X e) pins D f s') : SP X pins D f s' := by
  cases f with
  | next => obtain ⟨σ', H', I, q⟩ := h; exact ⟨σ', H', Inv.unhand ok I, q⟩
  | brk => obtain ⟨σ', H', I, q⟩ := h; exact ⟨σ', H', Inv.unhand ok I, q⟩
  | cont => obtain ⟨σ', H', I, q⟩ := h; exact ⟨σ', H', Inv.unhand ok I, q⟩
  | ret u => obtain ⟨v, σ', H', I, r, q⟩ := h; exact ⟨v, σ', H', Inv.unhand ok I, r, q⟩
theorem Inv.gone {i : Nat} {x : Str} {m : Str → Option Value} {v : Option Value} {h' : Heap} {t' : Nat} (I : Inv X pins σ H s) (hN : X.N.Nodup) (hi : X.N[i]? = some x)
    (hm : ∀ (j : Nat) (y : Str) (v : V), X.N[j]? = some y → σ[j]? = some (some v) → Vis X.env.scope y → ∃ u, RelV v u ∧ Look X.env s.heap m y u) (hn : h'.Ns X.env.locals (fun y => if y = x then v else m y)) (hs : Heap.SameBut X.env.locals s.heap h') :
    Inv X pins (σ.set i none) H { s with heap := h', toks := t' } := by
  have cne := I.cne
  obtain ⟨m0, ⟨oL, _, _, hoL, _⟩, _⟩ := id I.loc
  have tracked : HOk X.prog X.w H h' := fun b ob e => by
    refine (I.hok b ob e).stay (fun c w' hc q => (hs.2 c ?_).trans q) (fun _ q => q) fun _ _ q => q
    rintro rfl
    have hfree := I.free
    rcases hc with rfl | hc
    · rw [hfree] at e; cases e
    · rw [hfree] at hc; cases hc
  refine ⟨I.ok, I.os, I.bare, ⟨fun b o e n hb hx => ?_, fun b o e n hb hx => ?_, I.base.free, fun b o e hx => ?_, I.base.tups, I.base.frzs, I.base.tbls⟩, ⟨_, hn, fun j y v' e1 e2 e3 => ?_⟩, fun y c e => ?_, I.free, I.freeC, fun p hp => ?_, tracked, by simpa using I.len⟩
  · exact (hs.2 b (Nat.ne_of_lt (Nat.lt_of_lt_of_le (Heap.lt_size e) I.ok.above))).trans (I.base.keep b o e n hb hx)
  · obtain ⟨sl, e1⟩ := I.base.slot b o e n hb hx
    exact ⟨sl, (hs.2 b (Nat.ne_of_lt (Nat.lt_of_lt_of_le (Heap.lt_size e) I.ok.above))).trans e1⟩
  · obtain ⟨o', e1⟩ := I.base.there b o e hx
    exact ⟨o', (hs.2 b (Nat.ne_of_lt (Nat.lt_of_lt_of_le (Heap.lt_size e) I.ok.above))).trans e1⟩
  · by_cases hj : j = i
    · subst hj
      have hiσ : j < σ.length := by rw [I.len]; exact (List.getElem?_eq_some_iff.mp hi).1
      rw [List.getElem?_set_self hiσ] at e2; cases e2
    · rw [List.getElem?_set_ne (Ne.symm hj)] at e2
      obtain ⟨u', r', q⟩ := hm j y v' e1 e2 e3
      refine ⟨u', r', ?_⟩
      rcases q with ⟨k, e⟩ | ⟨k, c, e, z⟩
      · refine .inl ⟨k, ?_⟩
        have : y ≠ x := fun e => hj (nodup_ix hN e1 (e ▸ hi))
        simp [this, e]
      · exact .inr ⟨k, c, e, z.sameBut hs (cne y c e)⟩
  · obtain ⟨w', z⟩ := I.cell y c e
    exact ⟨w', z.sameBut hs (cne y c e)⟩
  · obtain ⟨e, n, ne, nf, d⟩ := I.pin p hp
    exact ⟨(hs.2 p.1 ne).trans e, n, ne, nf, d⟩
theorem caught {H1 : Hp} {s1 s' : Shared} {Ex : XK} {ev : Value} {c n : Str} {np hpos : Pos} {b₀ : Stmt} {suite : List Stmt} {rest : List ExceptHandler} {cv : Value} {ni : Nat} {D : Ends} (hstk : X.stack = X.env :: X.outer ∧ X.env.frame = some X.env.locals) (I : Inv X pins σ H1 s1)
    (h : CXE X.prog X.w X.stack H1 s1 Ex ev s') (hg : Gl X c) (hm : X.mg c = some cv) (hx : ∀ C H', Ex (.ref C) none H' → PySem.W.exmOne X.K (.ref C) cv = some true)
    (hN : X.N.Nodup) (hi : X.N[ni]? = some n) (hlo : X.env.scope.names.lookup n = some .local)
    (hs : ∀ ea C H' s2, Ex (.ref C) none H' → H' ea = none → Inv (DL.hand X ea) pins (σ.set ni (some (.ref ea))) (upd H' ea (.ext (ExAt ea C))) s2 →
      wpAny (model X.prog X.w) (X.A.mark (some (.ref ea))) (execs (b₀ :: suite) X.env) (SP (DL.hand X ea) pins { nx := fun σ' H => D.nx (σ'.set ni none) H, rt := D.rt, bk := fun σ' H => D.bk (σ'.set ni none) H, ct := fun σ' H => D.ct (σ'.set ni none) H }) (fun _ _ => False) s2)
    (hdb : (c == ("__debug__" : Str)) = false := by decide) :
    wpAny (model X.prog X.w) X.A (noteFrame ev X.env) (fun _ s₂ => wpAny (model X.prog X.w) X.A (setFlight ev none) (fun _ s₃ =>
      wpAny (model X.prog X.w) X.A (handleBy ev X.env (.ExceptHandler (some (.Name c np)) (some n) (b₀ :: suite) hpos :: rest)) (SP X pins D) X.xe s₃) X.xe s₂) X.xe s' := by
  obtain ⟨ea, C, a0, B, H', rfl, os, bare, un, hok, hne, fl, hB, hE⟩ := h
  have hA : X.A.frames = some (X.env :: X.outer) := by rw [← hstk.1]; exact I.ok.frames
  have fl0 := fl
  rw [hstk.1] at fl
  have hf1 : ∀ b ∈ frs X.stack, H' b = none := fun b hb => by
    obtain ⟨_, o, ho, _⟩ := I.stack.mem hb
    exact un.free b o ho (I.stkFree b hb) (by simp)
  have hnew : s1.heap.get? ea = none := by
    cases q : s1.heap.get? ea with
    | none => rfl
    | some o =>
      by_cases hb : ea ∈ frs X.stack
      · obtain ⟨_, o', ho', hd⟩ := fl0.2.2.1.mem hb
        obtain ⟨oe, vs, he, _, hd', _⟩ := fl0.first
        rw [ho'] at he; cases he
        exact absurd hd' (hd vs)
      · obtain ⟨u, hu⟩ := hB ea hb (.inr ⟨o, q⟩)
        rw [fl.2.1] at hu; cases hu
  have inv : ∀ g, B.StaysIn g → s'.heap.UpToSlots g → Inv X pins σ H' { s' with heap := g } := fun g k up =>
    I.call' (ch := []) os (Un.fly un fl0.1 fl0.2.2.1 hB k up) (HOk.fly hok hf1 fl0.1 hB k) bare (fun _ z => nomatch z)
  have invx : ∀ g, B.StaysIn g → s'.heap.UpToSlots g → ExAt ea C g → Inv X pins σ (upd H' ea (.ext (ExAt ea C))) { s' with heap := g } := fun g k up p =>
    I.call' (ch := []) os (Un.ext (Un.fly un fl0.1 fl0.2.2.1 hB k up) hne hnew) (HOk.ext (HOk.fly hok hf1 fl0.1 hB k) hne p (let ⟨o, _, e, _⟩ := p; ⟨o, e⟩) exAt_keep) bare (fun _ z => nomatch z)
  refine wpAny_looks_onW hA hstk.2 fl fun h4 held4 up4 => ?_
  refine wpAny_landsW held4 fun h5 fl5 up5 => ?_
  have I5 : Inv (DL.hand X ea) pins σ H' { s' with heap := h5 } := Inv.hand (inv h5 fl5.1 (up4.trans up5))
  refine wpAny_handleBy_cons (codeAny_handlers_test ?_) (by intro q; cases q)
  refine ld_glob I5 hg hm ?_ hdb
  obtain ⟨ob, hob, hoc⟩ := fl5.there
  have LT : PySem.W.Looks (model X.prog X.w) h5 (typeOf (.ref ea)) (.ref C) := hoc ▸ (PySem.W.Looks.ld hob).andThen .now
  refine (PySem.W.exm_one I5.kIn LT (hx C H' hE)).here ?_
  refine codeAny_handlers_suite_as ?_
  refine lands_againW fl5 fun h6 fl6 up6 => ?_
  obtain ⟨oe, vs, he, hc, hd, _⟩ := fl6.first
  have I6 : Inv (DL.hand X ea) pins σ (upd H' ea (.ext (ExAt ea C))) { s' with heap := h6 } := Inv.hand (invx h6 fl6.1 ((up4.trans up5).trans up6) ⟨oe, vs, he, hc, hd⟩)
  refine store_ok (X := DL.hand X ea) (v := .ref ea) I6 hN hi (.inl hlo) rfl (fun s7 I7 => ?_) (.inr hlo)
  refine wpAny_mono (hs ea C H' s7 hE hne I7) (fun f s8 h8 => ?_) fun _ _ z => z.elim
  have hcls : (X.env.scope.kind == .class || (X.env.scope.kind == .module && X.env.locals != X.env.globals)) = false := by rw [I.ok.kind]; rfl
  have fin : ∀ {σ' : L2.St} {H2 : Hp} {Q : Unit → Shared → Prop}, Inv (DL.hand X ea) pins σ' H2 s8 → (∀ s9, Inv X pins (σ'.set ni none) H2 s9 → Q () s9) →
      wpAny (model X.prog X.w) X.A (do bindName X.env n .none; unbindBehindTheSuite X.env n hpos) Q X.xe s8 := fun {σ' H2 Q} J q => by
    have J' := Inv.unhand I.ok J
    obtain ⟨m, hn, hl⟩ := id J'.loc
    exact wpAny_nameGoes_keeps hlo hn hcls fun h' v hn' hs' => q _ (Inv.gone J' hN hi hl hn' hs')
  cases f with
  | next => obtain ⟨σ', H2, J, q⟩ := h8; exact fin J fun s9 J9 => ⟨_, H2, J9, q⟩
  | brk => obtain ⟨σ', H2, J, q⟩ := h8; exact fin J fun s9 J9 => ⟨_, H2, J9, q⟩
  | cont => obtain ⟨σ', H2, J, q⟩ := h8; exact fin J fun s9 J9 => ⟨_, H2, J9, q⟩
  | ret u => obtain ⟨v, σ', H2, J, r, q⟩ := h8; exact fin J fun s9 J9 => ⟨v, _, H2, J9, r, q⟩
end
end DL
set_option Elab.async false
set_option linter.all false
set_option maxRecDepth 100000
namespace DL
open PySem PySem.Spec PyProof.Rows L2
theorem PA.nox {X : Cx} {es : List Expr} {t : TA} (h : PA X.nox es t) : PA X es t := fun pos pins s σ H Q I hw =>
  wpAny_mono (h pos pins s σ H Q (I.wish _) hw) (fun _ _ ⟨v, H', I', r, q⟩ => ⟨v, H', I'.unwish, r, q⟩) fun _ _ z => False.elim z
section
variable {X : Cx} {pins : List (Addr × Obj)} {σ : L2.St} {H : Hp} {s : Shared} {CX : CXT} {k : Nat} {f : Addr} {fd : FuncData} {ps : List Str} {sp : Sp} {Ex : XK} {x : Str} {p pos : Pos} {e : Expr} {es : List Expr} {t : TA}
theorem call_at {Q : VK} {XE : Value → Shared → Prop} (F : FnOk X.prog X.w X.K X.mg X.base CX k f fd ps sp) (hr : Room k X.A) (hg : Gl X x) (hm : X.mg x = some (.ref f)) (hk : PySem.W.keepIn X.K (.ref f) = true) (hb : Binds X.K fd ps []) (ha : PA X.nox (e :: es) t)
    (I : Inv X pins σ H s) (h : t σ H fun vs H1 => sp vs H1 Q Ex) (hx : ∀ H1 s1 e s', Inv X pins σ H1 s1 → CX X.stack H1 s1 Ex e s' → XE e s')
    (hdb : (x == ("__debug__" : Str)) = false := by decide) (he : starEach (e :: es) X.env = (false, eval e X.env) :: starEach es X.env := by exact star_cons rfl) (hpl : (backTo pos (starEach es X.env)).any (·.1) = false := by exact any_star rfl) :
    wpAny (model X.prog X.w) X.A (eval (.Call (.Name x p) (e :: es) [] pos) X.env) (EP X pins σ Q) XE s := by
  refine wpAny_Call_Name_kw (ld_glob I hg hm ?_ hdb)
  have ha' : PA (X.wish XE) (e :: es) t := PA.nox (X := X.wish XE) ha
  refine PySem.W.callWith_K (h₀ := X.base) I.ok.mod.kin hk (thn (ha' pos pins s σ H _ (I.wish XE) h) fun us s1 ⟨vs, H1, I1, r, q⟩ => ⟨I1.unwish.kIn, ?_⟩) he hpl
  have I1 := I1.unwish
  have hl : us.length = ps.length := by rw [← r.length]; exact F.len _ _ _ _ q
  have hb1 := hb s1 us I1.kIn (by simpa using hl)
  rw [List.append_nil] at hb1
  refine wpAny_call (codeAny_mono (F.run X.A X.stack s1 H1 ⟨us, []⟩ us vs Q Ex hr I1.env0 hb1 r q) fun r s' hq => ?_)
  cases r with
  | error e => exact hx H1 s1 e s' I1 hq
  | ok fl =>
    cases fl with
    | ret u => exact I1.after hq
    | next => exact False.elim hq
    | brk => exact False.elim hq
    | cont => exact False.elim hq
end
def tbPost (K : PySem.W.Frag) (He H0e H₀ : Hp) (r : Res Fl) (D : Ends) : Prop := match r with
  | .exn _ => True
  | r => postS K E0 He H0e H₀ r D
def tbEx (K : PySem.W.Frag) (He H0e H₀ : Hp) (σ : L2.St) (ρ : Ev) (r : Res Fl) : XK := fun C ox H' => ∃ x H₀', r = .exn x ∧ Same H₀ H₀' ∧ SRx K He H0e H₀' σ H' ρ ∧ ExR K H₀' x C ox
structure TB (X : Cx) (st : Stmt) (g : Ev → Res Fl) : Prop where
  o : ∀ (pins : List (Addr × Obj)) (s : Shared) (σ : L2.St) (H He H0e H₀ : Hp) (ρ : Ev) (D : Ends) (XE : Value → Shared → Prop), Inv X pins σ H s → SRx X.K He H0e H₀ σ H ρ → tbPost X.K He H0e H₀ (g ρ) D →
    (∀ H1 s1 e s', Inv X pins σ H1 s1 → CXE X.prog X.w X.stack H1 s1 (tbEx X.K He H0e H₀ σ ρ (g ρ)) e s' → XE e s') → wpAny (model X.prog X.w) X.A (exec st X.env) (SP X pins D) XE s
def sSetC (i : Nat) (fa : Ev → Res (List D)) (m : List D → Res D) : Ev → Res Fl := fun ρ => match fa ρ with
  | .ok ds => (m ds).bind fun d => .ok (.nx (ρ.set i (.sh d)))
  | _ => .stuck
section
variable {X : Cx} {E : XK} {e : Expr} {es : List Expr} {fa : Ev → Res (List D)} {pos : Pos}
theorem tb_set {i : Nat} {y : Str} {pos' : Pos} {k n : Nat} {fn : Addr} {fd : FuncData} {ps : List Str} {m : List D → Res D} {x : Str} {p cpos : Pos} (hN : X.N.Nodup) (hi : X.N[i]? = some y) (hy : Loc X.env.scope y)
    (F : FnOk X.prog X.w X.K X.mg X.base (CXE X.prog X.w) k fn fd ps (spD X.K n m)) (hr : Room k X.A) (hg : Gl X x) (hm : X.mg x = some (.ref fn))
    (hk : PySem.W.keepIn X.K (.ref fn) = true) (hb : Binds X.K fd ps []) (ha : DA X.nox E0 (e :: es) fa) (hn : (e :: es).length = n := by rfl) (hl : ∀ ρ ds, fa ρ = .ok ds → ds.length = (e :: es).length)
    (hdb : (x == ("__debug__" : Str)) = false := by decide) (he : starEach (e :: es) X.env = (false, eval e X.env) :: starEach es X.env := by exact star_cons rfl) (hpl : (backTo cpos (starEach es X.env)).any (·.1) = false := by exact any_star rfl)
    (hs : swapsWith (.Call (.Name x p) (e :: es) [] cpos) (some (.Name y pos')) pos.line X.env = pure false := by rfl)
    (hf : X.fn y = true ∨ X.env.scope.names.lookup y = some .local := by first | exact .inl rfl | exact .inr rfl | assumption) : TB X (.Assign [.Name y pos'] (.Call (.Name x p) (e :: es) [] cpos) pos) (sSetC i fa m) := by
  refine ⟨fun pins s σ H He H0e H₀ ρ D XE I h q hx => ?_⟩
  refine wpAny_Assign_Name (thn (call_at (Q := fun v H1 => D.nx (σ.set i (some v)) H1) F hr hg hm hk hb ha.o I ?_ hx hdb he hpl) fun v s1 ⟨y, H1, I1, r1, q1⟩ => ?_) hs
  · refine ⟨H₀, ρ, h.g.sub, h.rd, ?_⟩
    unfold sSetC at q ⊢
    cases e1 : fa ρ with
    | stuck => rw [e1] at q; exact q
    | exn x => rw [e1] at q; exact q.elim
    | ok ds =>
      rw [e1] at q
      intro vs H1 H01 g1 r1
      refine ⟨?_, H01, ds, g1.sub, r1, ?_⟩
      · have := r1.length
        have := hl ρ ds e1
        omega
      · show post _ _ _ _ (m ds) _
        cases e2 : m ds with
        | stuck => simp only [e2] at q; exact q
        | exn x => exact fun C ox H' H₀' g ex => ⟨x, H₀', by simp only [e2]; rfl, g1.z.trans g.z, h.grow (g1.trans g), ex⟩
        | ok d =>
          simp only [e2] at q
          exact fun v H' H₀' g rp => q _ H' H₀' (g1.z.trans g.z) ((h.grow (g1.trans g)).put rp)
  · exact store_ok I1 hN hi hy r1 (fun s2 I2 => ⟨_, H1, I2, q1⟩) hf
theorem SRx.drop {K : PySem.W.Frag} {He H0e H₀ H : Hp} {σ : L2.St} {ρ : Ev} (h : SRx K He H0e H₀ σ H ρ) {i : Nat} : SRx K He H0e H₀ (σ.set i none) H (ρ.set i .no) := by
  have key : ∀ (j : Nat) (s : Sl), (ρ.set i .no)[j]? = some s → s ≠ .no → j ≠ i ∧ ρ[j]? = some s := fun j s e hs => by
    by_cases hj : i = j
    · subst hj
      rw [List.getElem?_set_self'] at e
      cases q : ρ[i]? with
      | none => rw [q] at e; cases e
      | some s' => rw [q] at e; cases e; exact absurd rfl hs
    · rw [List.getElem?_set_ne hj] at e
      exact ⟨fun z => hj z.symm, e⟩
  refine ⟨h.g, fun j d' e => ?_, fun j d' e => ?_, fun j k d1 d2 hn e1 e2 => ?_, by simp [h.ln]⟩
  · obtain ⟨hj, e'⟩ := key j _ e (by simp)
    obtain ⟨v', h1, h2⟩ := h.rd j d' e'
    exact ⟨v', by rw [List.getElem?_set_ne (Ne.symm hj)]; exact h1, h2⟩
  · obtain ⟨hj, e'⟩ := key j _ e (by simp)
    obtain ⟨a, h1, h2⟩ := h.ow j d' e'
    exact ⟨a, by rw [List.getElem?_set_ne (Ne.symm hj)]; exact h1, h2⟩
  · obtain ⟨hj, e1'⟩ := key j _ e1 (by simp)
    obtain ⟨hk, e2'⟩ := key k _ e2 (by simp)
    rw [List.getElem?_set_ne (Ne.symm hj), List.getElem?_set_ne (Ne.symm hk)]
    exact h.ap j k d1 d2 hn e1' e2'
def outE (ni : Nat) (r : Fl) : Res Fl := match r with
  | .nx ρ => .ok (.nx (ρ.set ni .no))
  | .rt d => .ok (.rt d)
  | .bk ρ => .ok (.bk (ρ.set ni .no))
  | .ct ρ => .ok (.ct (ρ.set ni .no))
def sTry (g : Ev → Res Fl) (hit : Str → Bool) (ni : Nat) (sh : Ev → Res Fl) : Ev → Res Fl := fun ρ => match g ρ with
  | .exn x => if hit x.cls = true then (sh (ρ.set ni (.sh (.exc x.cls)))).bind (outE ni) else .stuck
  | r => r
theorem ds_try {He H0e : Hp} {st b₀ : Stmt} {suite : List Stmt} {g sh : Ev → Res Fl} {hit : Str → Bool} {ni : Nat} {c n : Str} {np hpos : Pos} {cv : Value} (hstk : X.stack = X.env :: X.outer ∧ X.env.frame = some X.env.locals) (hb : TB X st g)
    (hg : Gl X c) (hm : X.mg c = some cv) (hhit : ∀ x C, hit x = true → XC X.K x C → PySem.W.exmOne X.K (.ref C) cv = some true) (hN : X.N.Nodup) (hi : X.N[ni]? = some n) (hlo : X.env.scope.names.lookup n = some .local)
    (hh : ∀ ea, DSs (DL.hand X ea) E He H0e (b₀ :: suite) sh) (hdb : (c == ("__debug__" : Str)) = false := by decide) :
    DS X E He H0e (.Try [st] [.ExceptHandler (some (.Name c np)) (some n) (b₀ :: suite) hpos] [] [] pos) (sTry g hit ni sh) := by
  refine ⟨?_⟩
  intro pins s σ H D I ⟨H₀, ρ, h, q⟩
  have hq : tbPost X.K He H0e H₀ (g ρ) D := by
    unfold sTry at q
    cases e1 : g ρ with
    | exn x => trivial
    | stuck => rw [e1] at q; exact q
    | ok r => rw [e1] at q; cases r <;> exact q
  refine wpAny_Try_except (wpAny_execs_cons (thn (hb.o pins s σ H He H0e H₀ ρ D _ I h hq fun H1 s1 e s' I1 hc => ?_) fun f s1 hf => ?_))
  · have hit1 : ∀ x, g ρ = .exn x → hit x.cls = true := fun x e1 => by
      unfold sTry at q
      rw [e1] at q
      by_cases z : hit x.cls = true
      · exact z
      · simp only [if_neg z] at q; exact q.elim
    refine caught hstk I1 hc hg hm (fun C H' ⟨x, H₀', e1, _, _, ⟨⟨c', ec, xc⟩, _⟩⟩ => ?_) hN hi hlo (fun ea C H' s2 ⟨x, H₀', e1, sm, srx, ⟨⟨c', ec, xc⟩, _⟩⟩ hne I2 => ?_) hdb
    · cases ec; exact hhit _ _ (hit1 x e1) xc
    · cases ec
      refine (hh ea).o pins s2 _ _ _ I2 ⟨upd H₀' ea (.ext (ExAt ea C)), ρ.set ni (.sh (.exc x.cls)), (srx.grow (Grow.alloc srx.g.sub hne)).put (Rep.exc_iff.mpr ⟨ea, C, rfl, xc, .inl upd_same⟩), ?_⟩
      have sm2 : Same H₀ (upd H₀' ea (.ext (ExAt ea C))) := sm.trans (Grow.alloc srx.g.sub hne).z
      unfold sTry at q
      rw [e1] at q
      simp only [if_pos (hit1 x e1)] at q
      cases e2 : sh (ρ.set ni (.sh (.exc x.cls))) with
      | stuck => rw [e2] at q; exact q
      | exn z => rw [e2] at q; exact q
      | ok r =>
        rw [e2] at q
        cases r with
        | nx ρ' => exact fun σ' H2 H02 s2 h2 => q _ H2 H02 (sm2.trans s2) (SRx.drop h2)
        | rt d => exact q
        | bk ρ' => exact fun σ' H2 H02 s2 h2 => q _ H2 H02 (sm2.trans s2) (SRx.drop h2)
        | ct ρ' => exact fun σ' H2 H02 s2 h2 => q _ H2 H02 (sm2.trans s2) (SRx.drop h2)
  · cases f with
    | next => exact wpAny_execs_nil (wpAny_execs_nil hf)
    | brk => exact hf
    | cont => exact hf
    | ret u => exact hf
end
end DL
set_option Elab.async false
set_option linter.all false
set_option maxRecDepth 100000
namespace DL
open PySem PySem.Spec PyProof.Rows L2
structure RoomH (k : Nat) (A : Around) : Prop where
  dp : A.depth + 3 * k + 5 < recursionLimit
  un : A.units + 16 * k + 200 < cLine
theorem Room.h {k : Nat} {A : Around} (r : Room k A) : RoomH k A := ⟨r.dp, r.un⟩
theorem RoomH.mono {j k : Nat} {A : Around} (r : RoomH k A) (h : j ≤ k) : RoomH j A := ⟨by have := r.dp; omega, by have := r.un; omega⟩
theorem RoomH.deeper {k : Nat} {A : Around} (r : RoomH (k + 1) A) (env : PySem.Env) : RoomH k (A.deeper env) :=
  ⟨by have := r.dp; show A.depth + 1 + 3 * k + 5 < _; omega, by have := r.un; show A.units + 3 + 16 * k + 200 < _; omega⟩
theorem RoomH.hand {k : Nat} {X : Cx} {e : Addr} (r : Room k X.A) : RoomH k (DL.hand X e).A := ⟨r.dp, r.un⟩
structure FnH (P : Program) (w : World) (K : PySem.W.Frag) (mg : Str → Option Value) (base : Heap) (k : Nat) (f : Addr) (fd : FuncData) (ps : List Str) (sp : Sp) : Prop where
  len : ∀ vs H Q E, sp vs H Q E → vs.length = ps.length
  run : ∀ (A : Around) (outer : List PySem.Env) (s : Shared) (H : Hp) (args : Args) (us : List Value) (vs : List V) (Q : VK) (E : XK), RoomH k A → Env0 P w K mg base A outer s H → BindsTo s fd args (ps.zip us) → Vals vs us → sp vs H Q E →
    codeAny (model P w) A (.call (.ref f) args) (CR CX0 outer P w H s Q E) s
theorem FnH.mono {P : Program} {w : World} {K : PySem.W.Frag} {mg : Str → Option Value} {base : Heap} {j k : Nat} {f : Addr} {fd : FuncData} {ps : List Str} {sp : Sp} (F : FnH P w K mg base j f fd ps sp) (h : j ≤ k) : FnH P w K mg base k f fd ps sp :=
  ⟨F.len, fun A outer s H args us vs Q E hr => F.run A outer s H args us vs Q E (hr.mono h)⟩
theorem FnH.ok {P : Program} {w : World} {K : PySem.W.Frag} {mg : Str → Option Value} {base : Heap} {k : Nat} {f : Addr} {fd : FuncData} {ps : List Str} {sp : Sp} (F : FnH P w K mg base k f fd ps sp) : FnOk P w K mg base CX0 k f fd ps sp :=
  ⟨F.len, fun A outer s H args us vs Q E hr => F.run A outer s H args us vs Q E (Room.h hr)⟩
def cxOfH (P : Program) (w : World) (K : PySem.W.Frag) (mg : Str → Option Value) (base : Heap) (N : List Str) (qual : Str) (scope : Scope) (f : Addr) (cd : Value) (A : Around) (outer : List PySem.Env) (s : Shared) (H : Hp) : Cx :=
  { cxOf CX0 P w K mg base N qual scope f cd A outer s H E0 with calm := false, xe := fun _ _ => False }
theorem inv_startH {P : Program} {w : World} {K : PySem.W.Frag} {mg : Str → Option Value} {base : Heap} {N ps : List Str} {qual : Str} {scope : Scope} {f : Addr} {cd : Value} {A : Around} {outer : List PySem.Env} {s s1 : Shared} {H : Hp} {us : List Value} {vs : List V}
    (S : FnScope N ps scope) (e0 : Env0 P w K mg base A outer s H) (hl : vs.length = ps.length) (r : Vals vs us)
    (x : InCallC s s.heap.objs.size (bindL (envOfC qual scope s.heap.objs.size f cd).kindOf (ps.zip us) fun _ => none) (cellsFrom (s.heap.objs.size + 1) scope.names []) (bindC (envOfC qual scope s.heap.objs.size f cd).kindOf (ps.zip us) fun _ => none) s1) :
    Inv (cxOfH P w K mg base N qual scope f cd A outer s H) [] (start N vs) H s1 := by
  have e1 : Env0 P w K mg base { A with handled := none } outer s H := ⟨e0.frames, e0.mod, e0.bs, e0.bsz, e0.funs, e0.frf, e0.hok, e0.bare⟩
  have I : Inv (cxOf CX0 P w K mg base N qual scope f cd { A with handled := none } outer s H E0) [] (start N vs) H s1 := inv_start S rfl e1 hl r x
  have ok := I.ok
  exact ⟨⟨ok.mod, ok.kind, ok.glob, ok.blt, ok.above, ok.inj, ok.has, ok.cab, fun z => Bool.noConfusion z, Around.frames_deeper e0.frames, ok.stk, ok.exf, ok.bs, ok.bsz, ok.noex, ok.exfs, ok.funs, ok.frf⟩, I.os, I.bare, I.base, I.loc, I.cell, I.free, I.freeC, I.pin, I.hok, I.len⟩
theorem fn_ofH {P : Program} {w : World} {K : PySem.W.Frag} {mg : Str → Option Value} {base : Heap} {k : Nat} {f : Addr} {name qual : Str} {params : Arguments} {body : List Stmt} {scope : Scope} {dV kV doc pm cdv ct oc : Value} {an od : Option Addr}
    {osl : Array (Option Value)} {N ps : List Str} {sp : Sp} (lk : K.lookup f = some ⟨oc, od, .func (PySem.W.fnOf name qual params body scope dV kV doc pm an cdv ct), osl⟩) (hcd : PySem.W.codeIn K cdv qual = true) (S : FnScope N ps scope)
    (len : ∀ vs H Q E, sp vs H Q E → vs.length = ps.length)
    (hbody : ∀ (A : Around) (outer : List PySem.Env) (s : Shared) (H : Hp) (vs : List V) (Q : VK) (E : XK), RoomH k (A.deeper (envOfC qual scope s.heap.objs.size f cdv)) → sp vs H Q E →
      ∃ t, PSs (cxOfH P w K mg base N qual scope f cdv A outer s H) body t ∧ t { nx := fun _ H' => Q .non H', rt := Q } (start N vs) H) :
    FnH P w K mg base (k + 1) f (PySem.W.fnOf name qual params body scope dV kV doc pm an cdv ct) ps sp := by
  refine ⟨len, fun A outer s H args us vs Q E hr e0 hb r hsp => ?_⟩
  have hl := len _ _ _ _ hsp
  have KX : K.In s.heap := e0.mod.kin.keeps fun b o e => (e0.bs b o e).1
  have lim : s.heap.NoLimit := e0.mod.nolimit.keeps fun b o e => (e0.bs b o e).1
  have hkind : ∀ y ∈ ps.zip us, scope.names.lookup y.1 = some .local ∨ (scope.names.lookup y.1 = some .cell ∧ ((cellsFrom (s.heap.objs.size + 1) scope.names []).lookup y.1).isSome = true) := fun ⟨n, v⟩ hy => by
    rcases S.par n (List.of_mem_zip hy).1 with q | q
    · exact .inl q
    · exact .inr ⟨q, PySem.W.cellsFrom_some _ _ _ (.inl q)⟩
  refine codeAny_call_function (by have := hr.dp; omega) (KX _ _ lk) rfl S.co S.gen rfl (PySem.W.codeRec_of KX hcd) (hb _ _ _ _ ?_)
  refine wpAny_newFunctionEnv_cells S.kind hkind fun env he s1 x => ?_
  subst he
  refine ⟨lim.keeps x.toInCall.keep, codeAny_func ?_⟩
  obtain ⟨t, ht, hq⟩ := hbody A outer s H vs Q E (hr.deeper _) hsp
  have I : Inv (cxOfH P w K mg base N qual scope f cdv A outer s H) [] (start N vs) H s1 := inv_startH S e0 hl r x
  refine wpAny_mono (ht [] s1 (start N vs) H _ I hq) (fun fl s' hs => ?_) fun e s' hs => False.elim hs
  have fin : ∀ {σ' : L2.St} {H' : Hp} {v : V} {u : Value}, Inv (cxOfH P w K mg base N qual scope f cdv A outer s H) [] σ' H' s' → RelV v u → Q v H' → CE outer P w H s Q u s' :=
    fun {σ' H' v u} J rv q => ⟨v, H', J.os, J.bare, J.base, J.hok, rv, q⟩
  cases fl with
  | ret u =>
    obtain ⟨v, σ', H', J, rv, q⟩ := hs
    exact fin J rv q
  | next =>
    obtain ⟨σ', H', J, q⟩ := hs
    exact fin (v := V.non) (u := Value.none) J rfl q
  | brk =>
    obtain ⟨_, _, _, q⟩ := hs
    exact False.elim q
  | cont =>
    obtain ⟨_, _, _, q⟩ := hs
    exact False.elim q
theorem fn_mirrorH {P : Program} {w : World} {K : PySem.W.Frag} {mg : Str → Option Value} {base : Heap} {x qual : Str} {st : Stmt} {f : Addr} {fd : FuncData} {N ps : List Str} {k : Nat} {s : Ev → Res Fl} (F : Fun K x qual st f fd) (S : FnScope N ps (defScope st))
    (hbody : ∀ (cdv : Value) (A : Around) (outer : List PySem.Env) (s0 : Shared) (H H₀ : Hp) (E : XK), RoomH k (A.deeper (envOfC qual (defScope st) s0.heap.objs.size f cdv)) →
      DSs (cxOfH P w K mg base N qual (defScope st) f cdv A outer s0 H) E H H₀ (defBody st) s) : FnH P w K mg base (k + 1) f fd ps (spD K ps.length (runD N.length s)) := by
  have hpl : ps.length ≤ N.length := by have := congrArg List.length S.pre; rw [List.length_take] at this; omega
  obtain ⟨oc, od, kV, doc, pm, an, cdv, ct, osl, rfl, lk, hcd⟩ := F.ex
  refine fn_ofH lk hcd S (fun vs H Q E h => h.1) fun A outer s0 H vs Q E hr h => ?_
  obtain ⟨hn, H₀, ds, hs, hv, q⟩ := h
  refine ⟨_, (hbody cdv A outer s0 H H₀ E hr).o, H₀, ds.map Sl.sh ++ List.replicate (N.length - ds.length) .no, ?_, ?_⟩
  · refine ⟨Grow.refl hs, start_reads hv, fun i d e => ?_, fun i j d d' hij e => ?_, ?_⟩
    · by_cases hi : i < ds.length
      · rw [List.getElem?_append_left (by simpa using hi), List.getElem?_map] at e
        cases q : ds[i]? with
        | none => rw [q] at e; cases e
        | some d' => rw [q] at e; cases e
      · rw [List.getElem?_append_right (by simpa using hi), List.getElem?_replicate] at e
        split at e <;> cases e
    · by_cases hi : i < ds.length
      · rw [List.getElem?_append_left (by simpa using hi), List.getElem?_map] at e
        cases q : ds[i]? with
        | none => rw [q] at e; cases e
        | some d' => rw [q] at e; cases e
      · rw [List.getElem?_append_right (by simpa using hi), List.getElem?_replicate] at e
        split at e <;> cases e
    · unfold L2.start
      have := hv.length
      simp only [List.length_append, List.length_map, List.length_replicate]
      omega
  · unfold runD at q
    cases e1 : s (ds.map Sl.sh ++ List.replicate (N.length - ds.length) .no) with
    | stuck => rw [e1] at q; exact q
    | exn x => rw [e1] at q; exact q
    | ok r =>
      rw [e1] at q
      cases r with
      | nx ρ' => exact fun σ' H' H₀' _ h' => q .non H' H₀' h'.g (Rep.non_iff.mpr rfl)
      | rt d => exact fun v H' H₀' g rp => q v H' H₀' g rp
      | bk ρ' => exact q.elim
      | ct ρ' => exact q.elim
section
variable {X : Cx} {E : XK} {e a : Expr} {es : List Expr} {f : Ev → Res D} {fa : Ev → Res (List D)} {pos : Pos}
theorem de_callH {k n : Nat} {fn : Addr} {fd : FuncData} {ps : List Str} {m : List D → Res D} {x : Str} {p : Pos} (F : FnH X.prog X.w X.K X.mg X.base k fn fd ps (spD X.K n m)) (hr : RoomH k X.A) (hg : Gl X x) (hm : X.mg x = some (.ref fn))
    (hk : PySem.W.keepIn X.K (.ref fn) = true) (hb : Binds X.K fd ps []) (ha : DA X E (e :: es) fa) (hn : (e :: es).length = n := by rfl) (hl : ∀ ρ ds, fa ρ = .ok ds → ds.length = (e :: es).length)
    (hdb : (x == ("__debug__" : Str)) = false := by decide) (he : starEach (e :: es) X.env = (false, eval e X.env) :: starEach es X.env := by exact star_cons rfl) (hpl : (backTo pos (starEach es X.env)).any (·.1) = false := by exact any_star rfl) :
    DE X E (.Call (.Name x p) (e :: es) [] pos) (bindA fa m) := by
  refine ⟨?_⟩
  intro pins s σ H Q I ⟨H₀, ρ, hs, hrd, q⟩
  refine wpAny_Call_Name_kw (ld_glob I hg hm ?_ hdb)
  have h2 : tDA X.K E fa σ H (fun vs H1 => spD X.K n m vs H1 Q E) := by
    refine ⟨H₀, ρ, hs, hrd, ?_⟩
    unfold bindA at q
    cases e1 : fa ρ with
    | stuck => rw [e1] at q; exact q
    | exn x => rw [e1] at q; exact q
    | ok ds =>
      rw [e1] at q
      intro v H1 H01 g1 r1
      refine ⟨?_, H01, ds, g1.sub, r1, post.grow (r := m ds) q g1⟩
      have := r1.length
      have := hl ρ ds e1
      omega
  refine PySem.W.callWith_K (h₀ := X.base) I.ok.mod.kin hk (thn (ha.o pos pins s σ H _ I h2) fun us s1 ⟨vs, H1, I1, r, q⟩ => ⟨I1.kIn, ?_⟩) he hpl
  have hl2 : us.length = ps.length := by rw [← r.length]; exact F.len _ _ _ _ q
  have hb1 := hb s1 us I1.kIn (by simpa using hl2)
  rw [List.append_nil] at hb1
  refine wpAny_call (codeAny_mono (F.run X.A X.stack s1 H1 ⟨us, []⟩ us vs Q E hr I1.env0 hb1 r q) fun r s' hq => ?_)
  cases r with
  | error e => exact False.elim hq
  | ok fl =>
    cases fl with
    | ret u => exact I1.after hq
    | next => exact False.elim hq
    | brk => exact False.elim hq
    | cont => exact False.elim hq
end
end DL
set_option Elab.async false
set_option linter.all false
set_option maxRecDepth 100000
namespace DL
open PySem PySem.Spec PyProof.Rows L2
def dIsX (tab : Str → Option Bool) (x : D) : Res D := match x with
  | .exc c => (match tab c with
    | some b => .ok (.bl b)
    | none => .stuck)
  | _ => .stuck
def TabOk (K : PySem.W.Frag) (tab : Str → Option Bool) (cv : Value) : Prop := ∀ c C b, tab c = some b → XC K c C → PySem.W.kitOne K (.ref C) cv = some b
def TabsOk (K : PySem.W.Frag) (tab : Str → Option Bool) (cs : List Addr) : Prop := ∀ c C b, tab c = some b → XC K c C → PySem.W.kitAny K (.ref C) (cs.map Value.ref) = some b
section
variable {X : Cx} {E : XK} {e a : Expr} {es : List Expr} {f : Ev → Res D} {pos : Pos} {tab : Str → Option Bool}
theorem isX_one {cV : V} {cv : Value} (hrel : ∀ u, RelV cV u → u = cv) (ht : TabOk X.K tab cv) : CallR X (.builtin "isinstance") (fun vs H Q => ∃ c v b, vs = [v, cV] ∧ Rep X.K H (.exc c) v ∧ tab c = some b ∧ Q (.bl b) H) := by
  intro pins s σ H xs us Q I r h
  obtain ⟨c, v, b, rfl, h1, h2, q⟩ := h
  cases r with
  | cons r1 r2 =>
    cases r2 with
    | cons r3 r4 =>
      cases r4
      rename_i u1 u2
      obtain rfl := hrel _ r3
      obtain ⟨ad, C, rfl, hc, hr⟩ := Rep.exc_iff.mp h1
      cases (show u1 = Value.ref ad from r1)
      obtain ⟨p, _, _⟩ := hr.ok I.hok
      exact PySem.W.kia_one (kitx_exc hc.ek hc.ek.isCls) I.kIn p (ht c C b h2 hc) (fun z => nomatch z) fun tk => ⟨.bl b, H, I.tok _, rfl, q⟩
theorem isX_read {cV : V} {σ : L2.St} {H : Hp} {Q : VK} (h : tD X.K E (bind1 f (dIsX tab)) σ H Q) : tD X.K E f σ H fun v H1 => ∃ c v' b, [v, cV] = [v', cV] ∧ Rep X.K H1 (.exc c) v' ∧ tab c = some b ∧ Q (.bl b) H1 := by
  obtain ⟨H₀, ρ, hs, hr, q⟩ := h
  refine ⟨H₀, ρ, hs, hr, ?_⟩
  unfold bind1 at q
  cases e1 : f ρ with
  | stuck => rw [e1] at q; exact q
  | exn x => rw [e1] at q; exact q
  | ok d =>
    rw [e1] at q
    intro v H1 H01 g1 r1
    have q : post X.K E H H₀ (dIsX tab d) Q := q
    cases d with
    | exc c =>
      unfold dIsX at q
      cases e2 : tab c with
      | none => simp only [e2] at q; exact q.elim
      | some b => simp only [e2] at q; exact ⟨c, v, b, rfl, r1.mono g1.sub, e2, q _ H1 H01 g1 (rb _)⟩
    | _ => exact q.elim
theorem de_isX {x : Str} {p1 p2 : Pos} {cV : V} {cv : Value} (hrel : ∀ u, RelV cV u → u = cv) (ht : TabOk X.K tab cv) (hc : PE X (.Name x p2) (tC cV)) (hgi : Gl X "isinstance") (hmi : X.mg "isinstance" = none) (ha : DE X E a f)
    (he : starEach [a, .Name x p2] X.env = (false, eval a X.env) :: starEach [.Name x p2] X.env := by exact star_cons rfl) (he2 : starEach [.Name x p2] X.env = (false, eval (.Name x p2) X.env) :: starEach [] X.env := by exact star_cons rfl) (hpl : (backTo pos (starEach [.Name x p2] X.env)).any (·.1) = false := by exact any_star rfl) :
    DE X E (.Call (.Name "isinstance" p1) [a, .Name x p2] [] pos) (bind1 f (dIsX tab)) := by
  refine ⟨?_⟩
  exact pe_weak (pe_callB (isX_one hrel ht) hgi hmi PyProof.Rows.Boot.«isinstance» (pa_cons ha.o (pa_cons hc pa_nil he2) he) (by decide) (by decide) he hpl) fun σ H Q h => isX_read h
theorem de_isXown {x : Str} {p1 p2 : Pos} {C : Addr} (hg : Gl X x) (hm : X.mg x = some (.ref C)) (ht : TabOk X.K tab (.ref C)) (hgi : Gl X "isinstance") (hmi : X.mg "isinstance" = none) (ha : DE X E a f) (hdb : (x == ("__debug__" : Str)) = false := by decide)
    (he : starEach [a, .Name x p2] X.env = (false, eval a X.env) :: starEach [.Name x p2] X.env := by exact star_cons rfl) : DE X E (.Call (.Name "isinstance" p1) [a, .Name x p2] [] pos) (bind1 f (dIsX tab)) :=
  de_isX (cV := .ref C) (fun u h => h) ht (pe_glob hg hm rfl hdb) hgi hmi ha he
theorem de_isXblt {x : Str} {p1 p2 : Pos} {T : String} (hg : Gl X x) (hm : X.mg x = none) (hv : bootBuiltins x = some (.type T)) (ht : TabOk X.K tab (.type T)) (hgi : Gl X "isinstance") (hmi : X.mg "isinstance" = none) (ha : DE X E a f) (hn : x ≠ "__name__" := by decide) (hdb : (x == ("__debug__" : Str)) = false := by decide)
    (he : starEach [a, .Name x p2] X.env = (false, eval a X.env) :: starEach [.Name x p2] X.env := by exact star_cons rfl) : DE X E (.Call (.Name "isinstance" p1) [a, .Name x p2] [] pos) (bind1 f (dIsX tab)) :=
  de_isX (cV := .ty T) (fun u h => h) ht (pe_bltn hg hm hv rfl hn hdb) hgi hmi ha he
structure CN (X : Cx) (es : List Expr) (cs : List Addr) : Prop where
  o : PA X es (fun σ H Q => Q (cs.map V.ref) H)
theorem cn_nil : CN X [] [] := ⟨pa_nil⟩
theorem cn_cons {x : Str} {p : Pos} {C : Addr} {cs : List Addr} (hg : Gl X x) (hm : X.mg x = some (.ref C)) (h : CN X es cs) (hdb : (x == ("__debug__" : Str)) = false := by decide) : CN X (.Name x p :: es) (C :: cs) :=
  ⟨pa_cons (pe_glob (v := .ref C) hg hm rfl hdb) h.o (star_cons rfl)⟩
theorem vals_refs : ∀ {cs : List Addr} {us : List Value}, Vals (cs.map V.ref) us → us = cs.map Value.ref
  | [], _, .nil => rfl
  | c :: cs, _, .cons r t => by rw [vals_refs t]; obtain rfl : _ = Value.ref c := r; rfl
theorem isX_tup {cs : List Addr} (ht : TabsOk X.K tab cs) : CallR X (.builtin "isinstance") (fun vs H Q => ∃ c v b p, vs = [v, .ref p] ∧ H p = some (.tup (cs.map V.ref)) ∧ Rep X.K H (.exc c) v ∧ tab c = some b ∧ Q (.bl b) H) := by
  intro pins s σ H xs us Q I r h
  obtain ⟨c, v, b, p, rfl, hp, h1, h2, q⟩ := h
  cases r with
  | cons r1 r2 =>
    cases r2 with
    | cons r3 r4 =>
      cases r4
      rename_i u1 u2
      obtain rfl : u2 = Value.ref p := r3
      obtain ⟨ad, C, rfl, hc, hr⟩ := Rep.exc_iff.mp h1
      cases (show u1 = Value.ref ad from r1)
      obtain ⟨pe, _, _⟩ := hr.ok I.hok
      obtain ⟨_, its, rv, ob, k1, k2, n, k3⟩ := I.hok p _ hp
      obtain rfl := vals_refs rv
      obtain ⟨oc, od, odt, osl⟩ := ob
      cases k2; cases k3
      exact PySem.W.kia_tup (kitx_exc hc.ek hc.ek.isCls) I.kIn pe k1 (ht c C b h2 hc) (fun z => nomatch z) fun tk => ⟨.bl b, H, I.tok _, rfl, q⟩
theorem de_isXs {p1 p2 : Pos} {k2} {cs : List Addr} (ht : TabsOk X.K tab cs) (hc : CN X es cs) (hl : cs.length ≤ 30) (hgi : Gl X "isinstance") (hmi : X.mg "isinstance" = none) (ha : DE X E a f)
    (he : starEach [a, .Tuple es k2 p2] X.env = (false, eval a X.env) :: starEach [.Tuple es k2 p2] X.env := by exact star_cons rfl) (he2 : starEach [.Tuple es k2 p2] X.env = (false, eval (.Tuple es k2 p2) X.env) :: starEach [] X.env := by exact star_cons rfl) (hpl : (backTo pos (starEach [.Tuple es k2 p2] X.env)).any (·.1) = false := by exact any_star rfl) :
    DE X E (.Call (.Name "isinstance" p1) [a, .Tuple es k2 p2] [] pos) (bind1 f (dIsX tab)) := by
  refine ⟨?_⟩
  refine pe_weak (pe_callB (isX_tup ht) hgi hmi PyProof.Rows.Boot.«isinstance» (pa_cons ha.o (pa_cons (pe_tup hc.o) pa_nil he2) he) (by decide) (by decide) he hpl) fun σ H Q ⟨H₀, ρ, hs, hr, q⟩ => ⟨H₀, ρ, hs, hr, ?_⟩
  unfold bind1 at q
  cases e1 : f ρ with
  | stuck => rw [e1] at q; exact q
  | exn x => rw [e1] at q; exact q
  | ok d =>
    rw [e1] at q
    intro v H1 H01 g1 r1
    have q : post X.K E H H₀ (dIsX tab d) Q := q
    cases d with
    | exc c =>
      unfold dIsX at q
      cases e2 : tab c with
      | none => simp only [e2] at q; exact q.elim
      | some b =>
        simp only [e2] at q
        refine ⟨?_, fun p hp => ?_⟩
        · rw [List.length_map]; exact Nat.le_trans hl (by decide)
        · have ga := Grow.alloc (o := .tup (cs.map V.ref)) g1.sub hp
          exact ⟨c, v, b, p, rfl, upd_same, (r1.mono g1.sub).mono ga.s, e2, q _ _ _ (g1.trans ga) (rb _)⟩
    | _ => exact q.elim
end
end DL
set_option Elab.async false
set_option linter.all false
set_option maxRecDepth 100000
namespace DL
open PySem PySem.Spec PyProof.Rows L2 PySem.W
structure ClsI (K : Frag) (x : Str) (C : Addr) : Prop where
  ns : nsIn K mainGlobals x = some (some (.ref C))
  ty : typeIn K (.ref C) = some (.type "type")
  ob : mroIn K C (.type "object") = some true
  be : subIn K (.ref C) (.type "BaseException") = some true
theorem ClsI.isCls {K : Frag} {x : Str} {C : Addr} (Z : ClsI K x C) : (clsIn K C).isSome = true := by
  obtain ⟨cd, a, b⟩ := Option.bind_eq_some_iff.mp Z.ob
  rw [a]; rfl
theorem ClsI.kitCls {K : Frag} {x : Str} {C : Addr} (Z : ClsI K x C) {t : Value} : PySem.W.kitCls K t (.ref C) = subIn K t (.ref C) := by
  show (if ((clsIn K C).isSome && typeIn K (.ref C) == some (.type "type")) = true then subIn K t (.ref C) else none) = _
  rw [Z.isCls, Z.ty]; rfl
theorem ClsI.exm {K : Frag} {x : Str} {C : Addr} (Z : ClsI K x C) {t : Value} {b : Bool} (h : subIn K t (.ref C) = some b) : exmOne K t (.ref C) = some b := by
  unfold exmOne
  rw [Z.be, if_pos (by decide), Z.kitCls, h]
theorem ClsI.kit {K : Frag} {x : Str} {C R : Addr} (Z : ClsI K x C) {b : Bool} (hR : subIn K (.ref R) (.ref R) = some true) (h : subIn K (.ref R) (.ref C) = some b) : kitOne K (.ref R) (.ref C) = some b := by
  unfold kitOne
  by_cases e : (Value.ref R == Value.ref C) = true
  · rw [if_pos e]
    cases (Value.ref.inj (beq_iff_eq.mp e))
    rw [← hR, h]
  · rw [if_neg e, Z.kitCls, h]
theorem kit_ty {K : Frag} {C : Addr} {T : String} {b : Bool} (hm : kitMeta T = true) (h : subIn K (.ref C) (.type T) = some b) : kitOne K (.ref C) (.type T) = some b := by
  unfold kitOne
  rw [if_neg (by intro z; cases beq_iff_eq.mp z)]
  show (if kitMeta T = true then subIn K (.ref C) (.type T) else none) = _
  rw [if_pos hm, h]
theorem kitAny_nil {K : Frag} {t : Value} : kitAny K t [] = some false := rfl
theorem kitAny_f {K : Frag} {t c : Value} {r : List Value} {b : Bool} (h : kitOne K t c = some false) (h' : kitAny K t r = some b) : kitAny K t (c :: r) = some b := by unfold kitAny; rw [h]; exact h'
theorem kitMeta_all : ∀ T ∈ bltTys, kitMeta T = true := by decide +kernel
theorem kitMeta_ve : kitMeta "ValueError" = true := by decide +kernel
structure XClsI (K : Frag) (x : Str) (C : Addr) : Prop where
  i : ClsI K x C
  cls : findIn K (.ref C) "__class__" = some (some (.builtin "object.__class__"))
  ga : findIn K (.ref C) "__getattribute__" = some (some (.builtin "BaseException.__getattribute__"))
  gt : findIn K (.ref C) "__getattr__" = some none
  t1 : subIn K (.ref C) (.type "NoneType") = some false
  t2 : subIn K (.ref C) (.type "bool") = some false
  t3 : subIn K (.ref C) (.type "int") = some false
  t4 : subIn K (.ref C) (.type "str") = some false
  t5 : subIn K (.ref C) (.type "tuple") = some false
  t6 : subIn K (.ref C) (.type "list") = some false
  t7 : subIn K (.ref C) (.type "dict") = some false
  ve : subIn K (.ref C) (.type "ValueError") = some true
  self : subIn K (.ref C) (.ref C) = some true
  ex : excIn K C [.type "ValueError", .type "Exception", .type "BaseException", .type "object"] "ValueError.__new__" = true
theorem XClsI.xcls {K : Frag} {x : Str} {C : Addr} (Z : XClsI K x C) : XCls K x C where
  xc := ⟨Z.i.ns, ⟨Z.cls, Z.ga, Z.gt, Z.i.ob, Z.i.be⟩, fun T hT => by
    refine kit_ty (kitMeta_all T hT) ?_
    simp only [bltTys, List.mem_cons, List.not_mem_nil, or_false] at hT
    rcases hT with rfl | rfl | rfl | rfl | rfl | rfl | rfl
    · exact Z.t1
    · exact Z.t2
    · exact Z.t3
    · exact Z.t4
    · exact Z.t5
    · exact Z.t6
    · exact Z.t7⟩
  ex := Z.ex
theorem XC.inj {K : Frag} {x : Str} {C C' : Addr} (a : XC K x C) (b : XC K x C') : C = C' := by
  have := a.ns.symm.trans b.ns
  simpa using this
def tabOf : List (Str × Bool) → Str → Option Bool
  | [], _ => none
  | (x, b) :: r, c => if x = c then some b else tabOf r c
theorem tabOf_all {K : Frag} {p : Str → Addr → Bool → Prop} : ∀ {l : List (Str × Bool)}, (∀ q ∈ l, ∃ C, XC K q.1 C ∧ p q.1 C q.2) → ∀ c C b, tabOf l c = some b → XC K c C → p c C b
  | [], _, c, C, b, h, _ => by cases h
  | (x, v) :: r, H, c, C, b, h, xc => by
    unfold tabOf at h
    by_cases e : x = c
    · subst e
      rw [if_pos rfl] at h; cases h
      obtain ⟨C', xc', q⟩ := H _ List.mem_cons_self
      obtain rfl := XC.inj xc xc'
      exact q
    · rw [if_neg e] at h
      exact tabOf_all (fun q hq => H q (List.mem_cons_of_mem _ hq)) c C b h xc
def hitOf (l : List (Str × Bool)) (c : Str) : Bool := tabOf l c == some true
theorem hitOf_ok {K : Frag} {l : List (Str × Bool)} {cv : Value} (H : ∀ q ∈ l, ∃ C, XC K q.1 C ∧ exmOne K (.ref C) cv = some q.2) : ∀ x C, hitOf l x = true → XC K x C → exmOne K (.ref C) cv = some true := fun x C h xc =>
  tabOf_all (p := fun _ C b => exmOne K (.ref C) cv = some b) H x C true (by unfold hitOf at h; exact beq_iff_eq.mp h) xc
end DL
set_option Elab.async false
set_option linter.all false
set_option maxRecDepth 100000
namespace DL
open PySem PySem.Spec PyProof.Rows L2
def Itr2 (lo : Int) (n : Nat) : It := ⟨fun i _ => i < n, fun i H x H' => H' = H ∧ x = .int (lo + i * 2), fun i _ => n ≤ i⟩
theorem turn_range2 {P : Program} {w : World} {K : PySem.W.Frag} {tg : Expr} (it : Addr) (lo : Int) (n : Nat) : Turn P w K tg (Itr2 lo n) [it] it (fun i h => IsRangeIter h it (lo + (i : Nat) * 2) ((n : Int) - (i : Nat)) 2) where
  mem := by simp
  obj := fun i h st b hb => by
    have e : b = it := by simpa using hb
    subst e
    exact ⟨_, st, fun v z => by
      have z' : Data.fields _ = Data.cell v := z
      cases z'⟩
  keep := fun i h h' st k => k it (by simp) _ st
  item := by
    intro X hP hw hK hc i pins s σ H E I hf st hg
    subst hP hw hK
    obtain ⟨f0, f1, f2, f3, f4, f5⟩ := hf it (by simp)
    have W := Walks.range (prog := X.prog) (w := X.w) (I.ok.hd hc) it lo 2 n
    refine W.item i s _ _ hg st fun v h' tk hv st' kk => ?_
    obtain ⟨t, rfl⟩ := hv
    have I1 : Inv X pins σ H { s with heap := h', toks := tk } := I.turned (fun b o hb e => kk b o (by simpa using hb) e) f0 f1 f3 f4 f5
    exact ⟨_, rfl, go_of (s := { s with heap := h', toks := tk }) (n := "range_iterator") st' rfl rfl (by decide) ⟨.int (lo + i * 2), H, I1, ⟨t, rfl⟩, ⟨rfl, rfl⟩, st', fun b hb => (hf b hb).1⟩⟩
  done := by
    intro X hP hw hK hc i pins s σ H E I hf st hg
    subst hP hw hK
    obtain ⟨f0, f1, f2, f3, f4, f5⟩ := hf it (by simp)
    exact wpAny_pyNext_range_end (I.ok.hd hc) st (by have : n ≤ i := hg; omega) fun h' eb => ⟨rfl, I.turned (t' := s.toks) (fun b o hb e => eb b o hb e) f0 f1 f3 f4 f5⟩
  self := fun _ _ _ _ _ st h => wpAny_pyIter_rangeiter st h
def n2 (lo hi : Int) : Nat := if lo < hi then ((hi - lo - 1) / 2 + 1).toNat else 0
theorem size2 {lo hi : Int} : Builtin.Range.rangeSize lo hi 2 = (n2 lo hi : Int) := by
  unfold Builtin.Range.rangeSize n2
  rw [if_pos (by decide)]
  split <;> omega
theorem small_two {a b : Int} (ha : 0 ≤ a) (ha' : a ≤ 1000000) (hb : 0 ≤ b) (hb' : b ≤ 1000000) : Builtin.Range.small a b 2 = true := by
  unfold Builtin.Range.small
  rw [size2]
  unfold n2
  simp only [Builtin.Range.rangeFitsLong, Bool.and_eq_true, Bool.or_eq_true, decide_eq_true_eq, beq_iff_eq, show (2 : Int) > 0 by decide, if_true]
  split <;> omega
section
variable {X : Cx} {E : XK} {tg a b c : Expr} {f g : Ev → Res D}
theorem range_it2 {pins : List (Addr × Obj)} {σ : L2.St} {H : Hp} {s : Shared} {R : It → Hp → Prop} {E : Value → Shared → Prop} {lo hi : Int} {t u v : Tok} {tk : Nat} (I : Inv X pins σ H s) (h1 : 0 ≤ lo) (h2 : lo ≤ 1000000) (h3 : 0 ≤ hi) (h4 : hi ≤ 1000000)
    (q : R (Itr2 lo (n2 lo hi)) H) : wpAny (model X.prog X.w) X.A (pyIter (.ref s.heap.objs.size)) (PIE X pins σ tg R) E { s with heap := s.heap.push { cls := .type "range", data := .fields #[.int lo t, .int hi u, .int 2 v] }, toks := tk } := by
  refine wpAny_pyIter_range (IsRange.new ..) (small_two h1 h2 h3 h4) ?_
  have I1 : Inv X pins σ H { s with heap := s.heap.push { cls := .type "range", data := .fields #[.int lo t, .int hi u, .int 2 v] }, toks := tk } := I.kept fun b o e => Heap.get?_push_of_some _ e
  refine ⟨(s.heap.push { cls := .type "range", data := .fields #[.int lo t, .int hi u, .int 2 v] }).objs.size, [(s.heap.push { cls := .type "range", data := .fields #[.int lo t, .int hi u, .int 2 v] }).objs.size], _, _, H, rfl,
    I1.kept (t' := tk) fun b o e => Heap.get?_push_of_some _ e, turn_range2 _ lo (n2 lo hi), ?_, fun b hb => ?_, q⟩
  · have e1 : lo + ((0 : Nat) : Int) * 2 = lo := by simp
    have e2 : ((n2 lo hi : Nat) : Int) - ((0 : Nat) : Int) = Builtin.Range.rangeSize lo hi 2 := by rw [size2]; simp
    show IsRangeIter _ _ (lo + ((0 : Nat) : Int) * 2) (((n2 lo hi : Nat) : Int) - ((0 : Nat) : Int)) 2
    rw [e1, e2]
    exact Heap.get?_push_size _ rfl
  · have e : b = (s.heap.push { cls := .type "range", data := .fields #[.int lo t, .int hi u, .int 2 v] }).objs.size := by simpa using hb
    subst e
    exact I1.fpOk (Nat.le_refl _) (I1.hok.fresh (Nat.le_refl _))
def iRng3 (ta : TA) : TI := fun σ H R => ta σ H fun vs H1 => ∃ i j : Int, vs = [.int i, .int j, .int 2] ∧ (0 ≤ i ∧ i ≤ 1000000 ∧ 0 ≤ j ∧ j ≤ 1000000) ∧ R (Itr2 i (n2 i j)) H1
theorem pi_range3 {ta : TA} {p pos : Pos} (hg : Gl X "range") (hm : X.mg "range" = none) (ha : PA X [a, b, c] ta) (hs : starEach [a, b, c] X.env = (false, eval a X.env) :: starEach [b, c] X.env) (hs2 : (backTo pos (starEach [b, c] X.env)).any (·.1) = false) :
    PI X tg (.Call (.Name "range" p) [a, b, c] [] pos) (iRng3 ta) := by
  intro pins s σ H R I h
  refine Call_ (ld_blt I hg hm boot_range (PyProof.Rows.callWith_type1 (thn (ha pos pins s σ H _ I h) fun us s1 ⟨vs, H1, I1, r1, q1⟩ => ?_) hs hs2))
  obtain ⟨i, j, e, ⟨q1, q2, q3, q4⟩, q⟩ := q1
  subst e
  cases r1 with
  | cons r rr =>
    cases rr with
    | cons r' rr =>
      cases rr with
      | cons r2 rr =>
        cases rr
        obtain ⟨t, rfl⟩ := r
        obtain ⟨t', rfl⟩ := r'
        obtain ⟨t2, rfl⟩ := r2
        exact call_range_3 (by decide) (range_it2 I1 q1 q2 q3 q4 q) (Or.inl (PyProof.noPylong_small (by omega)))
def evensFrom (lo : Int) (n : Nat) : List D := (List.range n).map fun k : Nat => .int (lo + (k : Int) * 2)
theorem itD_range2 {K : PySem.W.Frag} {lo : Int} {n : Nat} {H : Hp} : ItD K (evensFrom lo n) (Itr2 lo n) H := by
  have hl : (evensFrom lo n).length = n := by unfold evensFrom; simp
  refine ⟨fun i H' H₀' _ _ hi => ?_, fun i H' H₀' x H2 d s1 s2 hd hy => ?_, fun i H' H₀' _ _ hi => ?_⟩
  · rw [hl] at hi; exact hi
  · obtain ⟨rfl, rfl⟩ := hy
    have : d = .int (lo + i * 2) := by
      unfold evensFrom at hd
      rw [List.getElem?_map] at hd
      cases e : (List.range n)[i]? with
      | none => rw [e] at hd; cases hd
      | some k =>
        rw [e] at hd
        have hk : k = i := by
          obtain ⟨h1, h2⟩ := List.getElem?_eq_some_iff.mp e
          simpa using h2.symm
        subst hk; cases hd; rfl
    subst this
    exact ⟨H₀', Grow.refl s2, Rep.int_iff.mpr rfl⟩
  · rw [hl] at hi; exact hi
def r3 (d e c : D) : Res (List D) := match d, e, c with
  | .int i, .int j, .int k => if k = 2 ∧ (0 ≤ i ∧ i ≤ 1000000) ∧ 0 ≤ j ∧ j ≤ 1000000 then .ok (evensFrom i (n2 i j)) else .stuck
  | _, _, _ => .stuck
def r3L (ds : List D) : Res (List D) := match ds with
  | [d, e, c] => r3 d e c
  | _ => .stuck
def srcR3 (f g h : Ev → Res D) : Ev → Res (List D) := fun ρ => (aCons f (aCons g (aCons h aNil)) ρ).bind r3L
theorem di_range3 {h : Ev → Res D} {p pos : Pos} (hg : Gl X "range") (hm : X.mg "range" = none) (h1 : DE X E a f) (h2 : DE X E b g) (h3 : DE X E c h) (hn : nst a = true := by exact rfl) (hn2 : nst b = true := by exact rfl) (hn3 : nst c = true := by exact rfl) : DI X E tg (.Call (.Name "range" p) [a, b, c] [] pos) (srcR3 f g h) := by
  refine ⟨pi_weak (pi_range3 hg hm (da_cons h1 (da_cons h2 (da_cons h3 da_nil (hs := star_cons hn3)) (hs := star_cons hn2)) (hs := star_cons hn)).o (star_cons hn) (any_star (by simp [hn2, hn3]))) fun σ H R ⟨H₀, ρ, hs, hr, q⟩ => ⟨H₀, ρ, hs, hr, ?_⟩⟩
  unfold srcR3 at q
  cases e1 : aCons f (aCons g (aCons h aNil)) ρ with
  | stuck => rw [e1] at q; exact q
  | exn x => rw [e1] at q; exact q
  | ok ds =>
    rw [e1] at q
    intro vs H1 H01 g1 r1
    match ds, r1, q with
    | [], _, q => exact q.elim
    | [_], _, q => exact q.elim
    | [_, _], _, q => exact q.elim
    | _ :: _ :: _ :: _ :: _, _, q => exact q.elim
    | [x, y, z], r1, q =>
      have q : match r3 x y z with
            | .ok ds => ∀ J H' H₀', Grow H H₀ H' H₀' → ItD X.K ds J H₀' → R J H'
            | .exn x => ∀ C ox H' H₀', Grow H H₀ H' H₀' → ExR X.K H₀' x C ox → E C ox H'
            | .stuck => False := q
      cases x with
      | int i =>
        cases y with
        | int j =>
          cases z with
          | int k =>
            obtain ⟨v1, r, rfl, e1, r1⟩ := Reps.cons_iff.mp r1
            obtain ⟨v2, r, rfl, e2, r1⟩ := Reps.cons_iff.mp r1
            obtain ⟨v3, r, rfl, e3, r1⟩ := Reps.cons_iff.mp r1
            rw [Reps.nil_iff.mp r1, Rep.int_iff.mp e1, Rep.int_iff.mp e2, Rep.int_iff.mp e3]
            have q2 : match (if k = 2 ∧ (0 ≤ i ∧ i ≤ 1000000) ∧ 0 ≤ j ∧ j ≤ 1000000 then Res.ok (evensFrom i (n2 i j)) else .stuck) with
                | .ok ds => ∀ J H' H₀', Grow H H₀ H' H₀' → ItD X.K ds J H₀' → R J H'
                | .exn x => ∀ C ox H' H₀', Grow H H₀ H' H₀' → ExR X.K H₀' x C ox → E C ox H'
                | .stuck => False := q
            by_cases hj : k = 2 ∧ (0 ≤ i ∧ i ≤ 1000000) ∧ 0 ≤ j ∧ j ≤ 1000000
            · rw [if_pos hj] at q2
              have hk : k = 2 := hj.1
              have hj := hj.2
              rw [hk]
              exact ⟨i, j, rfl, ⟨hj.1.1, hj.1.2, hj.2.1, hj.2.2⟩, q2 _ H1 H01 g1 itD_range2⟩
            · rw [if_neg hj] at q2; exact q2.elim
          | _ => exact q.elim
        | _ => exact q.elim
      | _ => exact q.elim
end
end DL
set_option Elab.async false
set_option linter.all false
set_option maxRecDepth 100000
namespace Com
open PySem L2 DL
def b__law_draws : Ev → Res Fl :=
  (sSeq (sSet 2 (bindA (aCons (dVar 0) (aCons (bind2 (bind1 (dC (.int 1)) dNeg) (dVar 0) dSub) aNil)) (m2 dMax)))
  (sSeq (sSet 3 (dVar 2))
  (sSeq (sOwn 4 (bindA aNil mLst))
  (sSeq (sForR (bindA (aCons (dVar 1) aNil) (m1 dLen)) (gSet 5)
  (sSeq (sIf (dAnd (bind2 (dVar 2) (bind2 (dC (.int 10)) (dC (.int 18)) dPow) dGe) (bind2 (dVar 3) (dC (.int 0)) dGt))
  (sSeq (sAppend 4 (bind2 (dVar 3) (bind2 (dVar 1) (dVar 5) dIx) dMod))
  (sSeq (sSet 3 (bind2 (dVar 3) (bind2 (dVar 1) (dVar 5) dIx) dDiv))
  sNext))
  (sSeq (sSet 6 (bind2 (bind2 (bind2 (bind2 (bind2 (bind2 (dVar 2) (dC (.int 2147483647)) dMod) (bind2 (bind2 (dC (.int 1009)) (dVar 5) dMulL) (dVar 5) dMulL) dAdd) (bind2 (dC (.int 31)) (dVar 5) dMulL) dAdd) (dC (.int 7)) dAdd) (dC (.int 48271)) dMulL) (dC (.int 2147483629)) dMod))
  (sSeq (sSet 6 (bind2 (bind2 (bind2 (bind2 (bind2 (dVar 6) (dVar 6) dMulL) (dC (.int 2147483647)) dMod) (dVar 5) dAdd) (dC (.int 39373)) dMulL) (dC (.int 2147483587)) dMod))
  (sSeq (sAppend 4 (bind2 (bind2 (dVar 6) (dC (.int 8)) dDiv) (bind2 (dVar 1) (dVar 5) dIx) dMod))
  sNext))))
  sNext))
  (sSeq (sRet (dVar 4))
  sNext)))))
def m__law_draws : List D → Res D := runD 7 b__law_draws
def b__law_divisor : Ev → Res Fl :=
  (sSeq (sWhile (fuelInt 1) (bind2 (dVar 1) (dC (.int 0)) dNe)
  (sSeq (sPar 0 1 (aCons (dVar 1) (aCons (bind2 (dVar 0) (dVar 1) dMod) aNil)))
  sNext))
  (sSeq (sRet (bindA (aCons (dVar 0) aNil) (m1 dAbs)))
  sNext))
def m__law_divisor : List D → Res D := runD 2 b__law_divisor
def b__law_lowest : Ev → Res Fl :=
  (sSeq (sSet 2 (bindA (aCons (dVar 0) (aCons (dVar 1) aNil)) m__law_divisor))
  (sSeq (sRet (bindA (aCons (bind2 (dVar 0) (dVar 2) dDiv) (aCons (bind2 (dVar 1) (dVar 2) dDiv) aNil)) mTup))
  sNext))
def m__law_lowest : List D → Res D := runD 3 b__law_lowest
def b__law_whole : Ev → Res Fl :=
  (sSeq (sRet (dAnd (bind1 (dVar 0) (dIsI "int")) (dNot (bind1 (dVar 0) (dIsI "bool")))))
  sNext)
def m__law_whole : List D → Res D := runD 1 b__law_whole
def b_is_whole : Ev → Res Fl :=
  (sSeq (sRet (dAnd (bind1 (dVar 0) (dIsI "int")) (dNot (bind1 (dVar 0) (dIsI "bool")))))
  sNext)
def m_is_whole : List D → Res D := runD 1 b_is_whole
def b_common_divisor : Ev → Res Fl :=
  (sSeq (sSet 2 (bindA (aCons (dVar 0) aNil) (m1 dAbs)))
  (sSeq (sSet 3 (bindA (aCons (dVar 1) aNil) (m1 dAbs)))
  (sSeq (sWhile (fuelInt 3) (bind2 (dVar 3) (dC (.int 0)) dNe)
  (sSeq (sSet 4 (bind2 (dVar 2) (dVar 3) dMod))
  (sSeq (sSet 2 (dVar 3))
  (sSeq (sSet 3 (dVar 4))
  sNext))))
  (sSeq (sRet (dVar 2))
  sNext))))
def m_common_divisor : List D → Res D := runD 5 b_common_divisor
def b_ratio : Ev → Res Fl :=
  (sSeq (sIf (dOr (dNot (bindA (aCons (dVar 0) aNil) m_is_whole)) (dNot (bindA (aCons (dVar 1) aNil) m_is_whole)))
  (sSeq sStuck
  sNext)
  sNext)
  (sSeq (sIf (bind2 (dVar 1) (dC (.int 0)) dEq)
  (sSeq sStuck
  sNext)
  sNext)
  (sSeq (sSet 2 (bindA (aCons (dVar 0) (aCons (dVar 1) aNil)) m_common_divisor))
  (sSeq (sIf (bind2 (dVar 1) (dC (.int 0)) dLt)
  (sSeq (sSet 2 (bind1 (dVar 2) dNeg))
  sNext)
  sNext)
  (sSeq (sRet (bindA (aCons (bind2 (dVar 0) (dVar 2) dDiv) (aCons (bind2 (dVar 1) (dVar 2) dDiv) aNil)) mTup))
  sNext)))))
def m_ratio : List D → Res D := runD 3 b_ratio
def b_plus : Ev → Res Fl :=
  (sSeq (sRet (bindA (aCons (bind2 (bind2 (bind2 (dVar 0) (dC (.int 0)) dIx) (bind2 (dVar 1) (dC (.int 1)) dIx) dMulL) (bind2 (bind2 (dVar 1) (dC (.int 0)) dIx) (bind2 (dVar 0) (dC (.int 1)) dIx) dMulL) dAdd) (aCons (bind2 (bind2 (dVar 0) (dC (.int 1)) dIx) (bind2 (dVar 1) (dC (.int 1)) dIx) dMulL) aNil)) m_ratio))
  sNext)
def m_plus : List D → Res D := runD 2 b_plus
theorem bok {α β : Type} {a : α} {f : α → Res β} : (Res.ok a).bind f = f a := rfl
theorem seq_nx {s t : Ev → Res Fl} {ρ ρ' : Ev} (h : s ρ = .ok (.nx ρ')) : sSeq s t ρ = t ρ' := by unfold sSeq; rw [h]; rfl
theorem seq_rt {s t : Ev → Res Fl} {ρ : Ev} {d : D} (h : s ρ = .ok (.rt d)) : sSeq s t ρ = .ok (.rt d) := by unfold sSeq; rw [h]; rfl
theorem seq_next {s : Ev → Res Fl} {ρ ρ' : Ev} (h : s ρ = .ok (.nx ρ')) : sSeq s sNext ρ = .ok (.nx ρ') := by unfold sSeq; rw [h]; rfl
theorem set_ok {i : Nat} {f : Ev → Res D} {ρ : Ev} {d : D} (h : f ρ = .ok d) : sSet i f ρ = .ok (.nx (ρ.set i (.sh d))) := by unfold sSet; rw [h]; rfl
theorem ret_ok {f : Ev → Res D} {ρ : Ev} {d : D} (h : f (shr ρ) = .ok d) : sRet f ρ = .ok (.rt d) := by unfold sRet; rw [h]; rfl
theorem if_t {c : Ev → Res D} {s t : Ev → Res Fl} {ρ : Ev} (h : c (shr ρ) = .ok (.bl true)) : sIf c s t ρ = s ρ := by unfold sIf; rw [h]; rfl
theorem if_f {c : Ev → Res D} {s t : Ev → Res Fl} {ρ : Ev} (h : c (shr ρ) = .ok (.bl false)) : sIf c s t ρ = t ρ := by unfold sIf; rw [h]; rfl
theorem ne_int {i j : Int} : dNe (.int i) (.int j) = .ok (.bl (!(i == j))) := by unfold dNe; rw [if_pos ⟨rfl, rfl⟩, eqD]
theorem eq_int {i j : Int} : dEq (.int i) (.int j) = .ok (.bl (i == j)) := by unfold dEq; rw [if_pos ⟨rfl, rfl⟩, eqD]
theorem run_rt {n : Nat} {s : Ev → Res Fl} {ds : List D} {d : D} (h : s (ds.map Sl.sh ++ List.replicate (n - ds.length) .no) = .ok (.rt d)) : runD n s ds = .ok d := by unfold runD; rw [h]; rfl
theorem acons_ok {f : Ev → Res D} {fa : Ev → Res (List D)} {ρ : Ev} {x : D} {xs : List D} (h : f ρ = .ok x) (h' : fa ρ = .ok xs) : aCons f fa ρ = .ok (x :: xs) := by unfold aCons; rw [h, bok, h']; rfl
theorem bind2_ok {f g : Ev → Res D} {op : D → D → Res D} {ρ : Ev} {x y : D} (h : f ρ = .ok x) (h' : g ρ = .ok y) : bind2 f g op ρ = op x y := by unfold bind2; rw [h, bok, h']; rfl
theorem bindA_ok {fa : Ev → Res (List D)} {m : List D → Res D} {ρ : Ev} {xs : List D} (h : fa ρ = .ok xs) : bindA fa m ρ = m xs := by unfold bindA; rw [h]; rfl
theorem mod_ok {a b : Int} (h : b ≠ 0) : dMod (.int a) (.int b) = .ok (.int (a.fmod b)) := by
  show (if decide (b ≠ 0) = true then Res.ok (D.int (a.fmod b)) else .stuck) = _
  rw [if_pos (decide_eq_true h)]
theorem div_ok {a b : Int} (h : divOk a b = true) : dDiv (.int a) (.int b) = .ok (.int (a.fdiv b)) := by
  show (if divOk a b = true then Res.ok (D.int (a.fdiv b)) else .stuck) = _
  rw [if_pos h]
theorem mul_ok {a b : Int} (h : mulOk a b = true) : dMulL (.int a) (.int b) = .ok (.int (a * b)) := by
  show (if mulOk a b = true then Res.ok (D.int (a * b)) else .stuck) = _
  rw [if_pos h]
theorem gcd_step (a b : Int) : Int.gcd b (a.fmod b) = Int.gcd a b := by
  rw [Int.fmod_def, Int.gcd_sub_mul_left_right, Int.gcd_comm]
theorem fmod_lt {a b : Int} (h : b ≠ 0) : (a.fmod b).natAbs < b.natAbs := by
  rcases Int.lt_or_gt_of_ne h with hb | hb
  · have h1 := Int.fmod_lt_of_pos (-a) (show 0 < -b by omega)
    have h2 := Int.fmod_nonneg_of_pos (-a) (show 0 < -b by omega)
    rw [Int.neg_fmod_neg] at h1 h2
    omega
  · have h1 := Int.fmod_lt_of_pos a hb
    have h2 := Int.fmod_nonneg_of_pos a hb
    omega
theorem divisor_loop : ∀ (n : Nat) (a b : Int), b.natAbs < n → ∃ g : Int, g.natAbs = Int.gcd a b ∧
    whileD (bind2 (dVar 1) (dC (.int 0)) dNe) (sSeq (sPar 0 1 (aCons (dVar 1) (aCons (bind2 (dVar 0) (dVar 1) dMod) aNil))) sNext) n [.sh (.int a), .sh (.int b)] = .ok (.nx [.sh (.int g), .sh (.int 0)])
  | 0, a, b, h => absurd h (Nat.not_lt_zero _)
  | n + 1, a, b, h => by
    unfold whileD
    have c : (bind2 (dVar 1) (dC (.int 0)) dNe) (shr [.sh (.int a), .sh (.int b)]) = .ok (.bl (!(b == 0))) := ne_int
    rw [c]
    by_cases hb : b = 0
    · subst hb
      exact ⟨a, by simp, rfl⟩
    · have e : (!(b == 0)) = true := by simp [hb]
      obtain ⟨g, h1, h2⟩ := divisor_loop n b (a.fmod b) (by have := fmod_lt (a := a) hb; omega)
      refine ⟨g, by rw [h1, gcd_step], ?_⟩
      rw [← h2]
      rw [e]
      have st : (sSeq (sPar 0 1 (aCons (dVar 1) (aCons (bind2 (dVar 0) (dVar 1) dMod) aNil))) sNext) [.sh (.int a), .sh (.int b)] = .ok (.nx [.sh (.int b), .sh (.int (a.fmod b))]) := by
        refine seq_next ?_
        unfold sPar
        have : (aCons (dVar 1) (aCons (bind2 (dVar 0) (dVar 1) dMod) aNil)) [.sh (.int a), .sh (.int b)] = .ok [.int b, .int (a.fmod b)] := by
          exact acons_ok rfl (acons_ok (mod_ok hb) rfl)
        rw [this]
        rfl
      show (Res.bind _ _) = _
      rw [st]
      rfl
theorem divisor_eq (a b : Int) : m__law_divisor [.int a, .int b] = .ok (.int (Int.gcd a b)) := by
  obtain ⟨g, h1, h2⟩ := divisor_loop (b.natAbs + 1) a b (Nat.lt_succ_self _)
  have w : sWhile (fuelInt 1) (bind2 (dVar 1) (dC (.int 0)) dNe) (sSeq (sPar 0 1 (aCons (dVar 1) (aCons (bind2 (dVar 0) (dVar 1) dMod) aNil))) sNext) [.sh (.int a), .sh (.int b)] = .ok (.nx [.sh (.int g), .sh (.int 0)]) := h2
  have r : b__law_divisor [.sh (.int a), .sh (.int b)] = .ok (.rt (.int (if g < 0 then -g else g))) := by
    unfold b__law_divisor
    rw [seq_nx w]
    exact seq_rt (ret_ok rfl)
  show (b__law_divisor [.sh (.int a), .sh (.int b)]).bind _ = _
  rw [r]
  show Res.ok (D.int (if g < 0 then -g else g)) = _
  congr 2
  rw [← h1]
  split <;> omega
theorem common_loop : ∀ (n : Nat) (x y : D) (a b : Int) (r : Sl), 0 ≤ a → 0 ≤ b → b.natAbs < n → ∃ r',
    whileD (bind2 (dVar 3) (dC (.int 0)) dNe) (sSeq (sSet 4 (bind2 (dVar 2) (dVar 3) dMod)) (sSeq (sSet 2 (dVar 3)) (sSeq (sSet 3 (dVar 4)) sNext))) n [.sh x, .sh y, .sh (.int a), .sh (.int b), r] = .ok (.nx [.sh x, .sh y, .sh (.int (Int.gcd a b)), .sh (.int 0), r'])
  | 0, _, _, a, b, _, _, _, h => absurd h (Nat.not_lt_zero _)
  | n + 1, x, y, a, b, r, ha, hb0, h => by
    unfold whileD
    have c : ∀ r, (bind2 (dVar 3) (dC (.int 0)) dNe) (shr [.sh x, .sh y, .sh (.int a), .sh (.int b), r]) = .ok (.bl (!(b == 0))) := fun r => ne_int
    rw [c]
    by_cases hb : b = 0
    · subst hb
      refine ⟨r, ?_⟩
      have e : ((Int.gcd a 0 : Nat) : Int) = a := by simp; omega
      rw [e]
      rfl
    · have e : (!(b == 0)) = true := by simp [hb]
      have hp : 0 < b := by omega
      obtain ⟨r', h2⟩ := common_loop n x y b (a.fmod b) (.sh (.int (a.fmod b))) hb0 (Int.fmod_nonneg_of_pos a hp) (by have := fmod_lt (a := a) hb; omega)
      refine ⟨r', ?_⟩
      rw [gcd_step] at h2
      rw [← h2, e]
      have st : (sSeq (sSet 4 (bind2 (dVar 2) (dVar 3) dMod)) (sSeq (sSet 2 (dVar 3)) (sSeq (sSet 3 (dVar 4)) sNext))) [.sh x, .sh y, .sh (.int a), .sh (.int b), r] = .ok (.nx [.sh x, .sh y, .sh (.int b), .sh (.int (a.fmod b)), .sh (.int (a.fmod b))]) := by
        have m : (bind2 (dVar 2) (dVar 3) dMod) [.sh x, .sh y, .sh (.int a), .sh (.int b), r] = .ok (.int (a.fmod b)) := by
          exact mod_ok hb
        rw [seq_nx (set_ok m)]
        rfl
      show (Res.bind _ _) = _
      rw [st]
      rfl
theorem common_eq (a b : Int) : m_common_divisor [.int a, .int b] = .ok (.int (Int.gcd a b)) := by
  have e : ∀ i : Int, (if i < 0 then -i else i) = (i.natAbs : Int) := fun i => by split <;> omega
  obtain ⟨r', h⟩ := common_loop ((b.natAbs : Int).natAbs + 1) (.int a) (.int b) a.natAbs b.natAbs .no (Int.natCast_nonneg _) (Int.natCast_nonneg _) (Nat.lt_succ_self _)
  have hg : Int.gcd (a.natAbs : Int) (b.natAbs : Int) = Int.gcd a b := by simp [Int.gcd]
  rw [hg] at h
  have r : b_common_divisor [.sh (.int a), .sh (.int b), .no, .no, .no] = .ok (.rt (.int (Int.gcd a b))) := by
    unfold b_common_divisor
    rw [seq_nx (ρ' := [.sh (.int a), .sh (.int b), .sh (.int (a.natAbs : Int)), .no, .no]) (by rw [← e a]; rfl)]
    rw [seq_nx (ρ' := [.sh (.int a), .sh (.int b), .sh (.int (a.natAbs : Int)), .sh (.int (b.natAbs : Int)), .no]) (by rw [← e b]; rfl)]
    have w : sWhile (fuelInt 3) (bind2 (dVar 3) (dC (.int 0)) dNe) (sSeq (sSet 4 (bind2 (dVar 2) (dVar 3) dMod)) (sSeq (sSet 2 (dVar 3)) (sSeq (sSet 3 (dVar 4)) sNext))) [.sh (.int a), .sh (.int b), .sh (.int (a.natAbs : Int)), .sh (.int (b.natAbs : Int)), .no] = .ok (.nx [.sh (.int a), .sh (.int b), .sh (.int (Int.gcd a b)), .sh (.int 0), r']) := h
    rw [seq_nx w]
    exact seq_rt (ret_ok rfl)
  show (b_common_divisor [.sh (.int a), .sh (.int b), .no, .no, .no]).bind _ = _
  rw [r]
  rfl
theorem and_ok {f g : Ev → Res D} {ρ : Ev} {b c : Bool} (h : f ρ = .ok (.bl b)) (h' : g ρ = .ok (.bl c)) : dAnd f g ρ = .ok (.bl (b && c)) := by
  unfold dAnd; rw [h, bok]; cases b
  · rfl
  · exact h'
theorem pow_lt_B60 : (2 : Nat) ^ 64 ≤ B60 := by rw [B60_eq]; exact Nat.pow_le_pow_right (by decide) (by decide)
theorem lt60 {i : Int} (h : i.natAbs < 18446744073709551616) : i.natAbs < B60 := Nat.lt_of_lt_of_le h pow_lt_B60
theorem mulSmall {i j : Int} (h : i.natAbs < 18446744073709551616) (h' : j.natAbs < 18446744073709551616) : mulOk i j = true := by
  unfold mulOk
  rw [Bool.and_eq_true]
  exact ⟨decide_eq_true (lt60 h), decide_eq_true (lt60 h')⟩
theorem mulBig {i j : Int} (h : i.natAbs < B60) (h' : j.natAbs < B60) : mulOk i j = true := by
  unfold mulOk
  rw [Bool.and_eq_true]
  exact ⟨decide_eq_true h, decide_eq_true h'⟩
theorem divB9 {i j : Int} (h0 : j ≠ 0) (h : j.natAbs < B9) : divOk i j = true := by
  unfold divOk
  rw [Bool.and_eq_true, Bool.or_eq_true]
  exact ⟨decide_eq_true h0, .inl (decide_eq_true h)⟩
theorem divB13 {i j : Int} (h0 : j ≠ 0) (h : i.natAbs < B13) : divOk i j = true := by
  unfold divOk
  rw [Bool.and_eq_true, Bool.or_eq_true]
  exact ⟨decide_eq_true h0, .inr (decide_eq_true h)⟩
theorem pow_lt_B9 : (2 : Nat) ^ 64 ≤ B9 := by rw [B9_eq]; exact Nat.pow_le_pow_right (by decide) (by decide)
theorem lt9 {i : Int} (h : i.natAbs < 18446744073709551616) : i.natAbs < B9 := Nat.lt_of_lt_of_le h pow_lt_B9
theorem ix_lst {ds : List D} {k : Nat} {d : D} (h : ds[k]? = some d) : dIx (.lst ds) (.int (k : Int)) = .ok d := by
  unfold dIx
  simp only [atI_nat h]
theorem ix_tup {ds : List D} {k : Nat} {d : D} (h : ds[k]? = some d) : dIx (.tup ds) (.int (k : Int)) = .ok d := by
  unfold dIx
  simp only [atI_nat h]
def digits_body : Ev → Res Fl :=
  (sSeq (sIf (dAnd (bind2 (dVar 2) (bind2 (dC (.int 10)) (dC (.int 18)) dPow) dGe) (bind2 (dVar 3) (dC (.int 0)) dGt))
  (sSeq (sAppend 4 (bind2 (dVar 3) (bind2 (dVar 1) (dVar 5) dIx) dMod))
  (sSeq (sSet 3 (bind2 (dVar 3) (bind2 (dVar 1) (dVar 5) dIx) dDiv))
  sNext))
  (sSeq (sSet 6 (bind2 (bind2 (bind2 (bind2 (bind2 (bind2 (dVar 2) (dC (.int 2147483647)) dMod) (bind2 (bind2 (dC (.int 1009)) (dVar 5) dMulL) (dVar 5) dMulL) dAdd) (bind2 (dC (.int 31)) (dVar 5) dMulL) dAdd) (dC (.int 7)) dAdd) (dC (.int 48271)) dMulL) (dC (.int 2147483629)) dMod))
  (sSeq (sSet 6 (bind2 (bind2 (bind2 (bind2 (bind2 (dVar 6) (dVar 6) dMulL) (dC (.int 2147483647)) dMod) (dVar 5) dAdd) (dC (.int 39373)) dMulL) (dC (.int 2147483587)) dMod))
  (sSeq (sAppend 4 (bind2 (bind2 (dVar 6) (dC (.int 8)) dDiv) (bind2 (dVar 1) (dVar 5) dIx) dMod))
  sNext))))
  sNext)
theorem app_ok {i : Nat} {f : Ev → Res D} {ρ : Ev} {d : D} {ds : List D} (hi : ρ[i]? = some (.ow (.lst ds))) (h : f ρ = .ok d) (hl : ds.length < line) : sAppend i f ρ = .ok (.nx (ρ.set i (.ow (.lst (ds ++ [d]))))) := by
  unfold sAppend ownAt
  rw [hi]
  show (f ρ).bind _ = _
  rw [h, bok, if_pos hl]
theorem fmodr {a b : Int} (hb : 0 < b) : 0 ≤ a.fmod b ∧ a.fmod b < b := ⟨Int.fmod_nonneg_of_pos a hb, Int.fmod_lt_of_pos a hb⟩
theorem digit_step {c : D} {sz : List Int} {num left : Int} {F : List D} {k : Nat} {one : Sl} {s : Int} (hk : sz[k]? = some s) (hs : 0 < s) (h9 : s.natAbs < B9) (hk2 : k < 1000) (hl : F.length < line) (h0 : 0 ≤ left) :
    ∃ v left' one', 0 ≤ v ∧ v < s ∧ 0 ≤ left' ∧ digits_body [.sh c, .sh (.lst (sz.map D.int)), .sh (.int num), .sh (.int left), .ow (.lst F), .sh (.int (k : Int)), one] =
      .ok (.nx [.sh c, .sh (.lst (sz.map D.int)), .sh (.int num), .sh (.int left'), .ow (.lst (F ++ [.int v])), .sh (.int (k : Int)), one']) := by
  have hix : dIx (.lst (sz.map D.int)) (.int (k : Int)) = .ok (.int s) := ix_lst (by rw [List.getElem?_map, hk]; rfl)
  have hc : (dAnd (bind2 (dVar 2) (bind2 (dC (.int 10)) (dC (.int 18)) dPow) dGe) (bind2 (dVar 3) (dC (.int 0)) dGt)) (shr [.sh c, .sh (.lst (sz.map D.int)), .sh (.int num), .sh (.int left), .ow (.lst F), .sh (.int (k : Int)), one]) = .ok (.bl (decide ((10 : Int) ^ (18 : Int).toNat ≤ num) && decide (0 < left))) := by
    refine and_ok ?_ ?_
    · exact (bind2_ok (x := .int num) (y := .int ((10 : Int) ^ (18 : Int).toNat)) rfl rfl).trans rfl
    · exact (bind2_ok (x := .int left) (y := .int 0) rfl rfl).trans rfl
  have hm := fmodr (a := left) hs
  unfold digits_body
  cases hb : (decide ((10 : Int) ^ (18 : Int).toNat ≤ num) && decide (0 < left)) with
  | true =>
    rw [hb] at hc
    refine ⟨left.fmod s, left.fdiv s, one, hm.1, hm.2, Int.fdiv_nonneg h0 (by omega), ?_⟩
    refine seq_next ?_
    rw [if_t hc]
    rw [seq_nx (app_ok (ds := F) (d := .int (left.fmod s)) rfl ((bind2_ok (x := .int left) (y := .int s) rfl ((bind2_ok (x := .lst (sz.map D.int)) (y := .int (k : Int)) rfl rfl).trans hix)).trans (mod_ok (by omega))) hl)]
    exact seq_next (set_ok (d := .int (left.fdiv s)) ((bind2_ok (x := .int left) (y := .int s) rfl ((bind2_ok (x := .lst (sz.map D.int)) (y := .int (k : Int)) rfl rfl).trans hix)).trans (div_ok (divB9 (by omega) h9))))
  | false =>
    rw [hb] at hc
    have hkk : (k : Int) * (k : Int) < 1000000 := by
      have : k * k < 1000 * 1000 := Nat.mul_lt_mul'' hk2 hk2
      omega
    have hkn : (0 : Int) ≤ (k : Int) * (k : Int) := Int.mul_nonneg (by omega) (by omega)
    have a1 := fmodr (a := num) (b := 2147483647) (by decide)
    have hone1 : ((num.fmod 2147483647 + 1009 * (k : Int) * (k : Int) + 31 * (k : Int) + 7) * 48271).fmod 2147483629 = ((num.fmod 2147483647 + 1009 * (k : Int) * (k : Int) + 31 * (k : Int) + 7) * 48271).fmod 2147483629 := rfl
    generalize ho : ((num.fmod 2147483647 + 1009 * (k : Int) * (k : Int) + 31 * (k : Int) + 7) * 48271).fmod 2147483629 = o1
    have a2 : 0 ≤ o1 ∧ o1 < 2147483629 := by rw [← ho]; exact fmodr (by decide)
    have hoo : o1 * o1 < 4611686018427387904 := by
      have h1 : o1 * o1 ≤ 2147483628 * 2147483628 := Int.mul_le_mul (by omega) (by omega) a2.1 (by decide)
      omega
    have hoo0 : 0 ≤ o1 * o1 := Int.mul_nonneg a2.1 a2.1
    generalize ho2 : (((o1 * o1).fmod 2147483647 + (k : Int)) * 39373).fmod 2147483587 = o2
    have a3 : 0 ≤ o2 ∧ o2 < 2147483587 := by rw [← ho2]; exact fmodr (by decide)
    have hm2 := fmodr (a := o2.fdiv 8) hs
    refine ⟨(o2.fdiv 8).fmod s, left, .sh (.int o2), hm2.1, hm2.2, h0, ?_⟩
    refine seq_next ?_
    rw [if_f hc]
    have ea : (1009 : Int) * (k : Int) * (k : Int) = 1009 * ((k : Int) * (k : Int)) := Int.mul_assoc _ _ _
    have e1 : (bind2 (bind2 (bind2 (bind2 (bind2 (bind2 (dVar 2) (dC (.int 2147483647)) dMod) (bind2 (bind2 (dC (.int 1009)) (dVar 5) dMulL) (dVar 5) dMulL) dAdd) (bind2 (dC (.int 31)) (dVar 5) dMulL) dAdd) (dC (.int 7)) dAdd) (dC (.int 48271)) dMulL) (dC (.int 2147483629)) dMod)
        [.sh c, .sh (.lst (sz.map D.int)), .sh (.int num), .sh (.int left), .ow (.lst F), .sh (.int (k : Int)), one] = .ok (.int o1) := by
      rw [← ho]
      refine (bind2_ok (x := .int ((num.fmod 2147483647 + 1009 * (k : Int) * (k : Int) + 31 * (k : Int) + 7) * 48271)) (y := .int 2147483629) ?_ rfl).trans (mod_ok (by decide))
      refine (bind2_ok (x := .int (num.fmod 2147483647 + 1009 * (k : Int) * (k : Int) + 31 * (k : Int) + 7)) (y := .int 48271) ?_ rfl).trans (mul_ok (mulSmall (by omega) (by decide)))
      refine (bind2_ok (x := .int (num.fmod 2147483647 + 1009 * (k : Int) * (k : Int) + 31 * (k : Int))) (y := .int 7) ?_ rfl).trans rfl
      refine (bind2_ok (x := .int (num.fmod 2147483647 + 1009 * (k : Int) * (k : Int))) (y := .int (31 * (k : Int))) ?_ ?_).trans rfl
      · refine (bind2_ok (x := .int (num.fmod 2147483647)) (y := .int (1009 * (k : Int) * (k : Int))) ?_ ?_).trans rfl
        · exact (bind2_ok (x := .int num) (y := .int 2147483647) rfl rfl).trans (mod_ok (by decide))
        · refine (bind2_ok (x := .int (1009 * (k : Int))) (y := .int (k : Int)) ?_ rfl).trans (mul_ok (mulSmall (by omega) (by omega)))
          exact (bind2_ok (x := .int 1009) (y := .int (k : Int)) rfl rfl).trans (mul_ok (mulSmall (by decide) (by omega)))
      · exact (bind2_ok (x := .int 31) (y := .int (k : Int)) rfl rfl).trans (mul_ok (mulSmall (by decide) (by omega)))
    rw [seq_nx (set_ok e1)]
    have a4 := fmodr (a := o1 * o1) (b := 2147483647) (by decide)
    have e2 : (bind2 (bind2 (bind2 (bind2 (bind2 (dVar 6) (dVar 6) dMulL) (dC (.int 2147483647)) dMod) (dVar 5) dAdd) (dC (.int 39373)) dMulL) (dC (.int 2147483587)) dMod)
        [.sh c, .sh (.lst (sz.map D.int)), .sh (.int num), .sh (.int left), .ow (.lst F), .sh (.int (k : Int)), .sh (.int o1)] = .ok (.int o2) := by
      rw [← ho2]
      refine (bind2_ok (x := .int (((o1 * o1).fmod 2147483647 + (k : Int)) * 39373)) (y := .int 2147483587) ?_ rfl).trans (mod_ok (by decide))
      refine (bind2_ok (x := .int ((o1 * o1).fmod 2147483647 + (k : Int))) (y := .int 39373) ?_ rfl).trans (mul_ok (mulSmall (by omega) (by decide)))
      refine (bind2_ok (x := .int ((o1 * o1).fmod 2147483647)) (y := .int (k : Int)) ?_ rfl).trans rfl
      refine (bind2_ok (x := .int (o1 * o1)) (y := .int 2147483647) ?_ rfl).trans (mod_ok (by decide))
      exact (bind2_ok (x := .int o1) (y := .int o1) rfl rfl).trans (mul_ok (mulSmall (by omega) (by omega)))
    refine (seq_nx (set_ok e2)).trans ?_
    refine seq_next (app_ok (ds := F) (d := .int ((o2.fdiv 8).fmod s)) rfl ?_ hl)
    refine (bind2_ok (x := .int (o2.fdiv 8)) (y := .int s) ?_ ((bind2_ok (x := .lst (sz.map D.int)) (y := .int (k : Int)) rfl rfl).trans hix)).trans (mod_ok (by omega))
    exact (bind2_ok (x := .int o2) (y := .int 8) rfl rfl).trans (div_ok (divB9 (by decide) (lt9 (by decide))))
theorem ints_drop {n k : Nat} (h : k < n) : (DL.intsFrom 0 n).drop k = .int (k : Int) :: (DL.intsFrom 0 n).drop (k + 1) := by
  have hl : (DL.intsFrom 0 n).length = n := by unfold DL.intsFrom; simp
  rw [List.drop_eq_getElem_cons (by rw [hl]; exact h)]
  congr 1
  unfold DL.intsFrom
  simp
theorem ints_end {n : Nat} : (DL.intsFrom 0 n).drop n = [] := by
  have hl : (DL.intsFrom 0 n).length = n := by unfold DL.intsFrom; simp
  exact List.drop_eq_nil_of_le (by omega)
theorem forD_nx {tg : Ev → D → Res Ev} {s : Ev → Res Fl} {d : D} {r : List D} {ρ ρ1 ρ2 : Ev} (h1 : tg ρ d = .ok ρ1) (h2 : s ρ1 = .ok (.nx ρ2)) : forD tg s (d :: r) ρ = forD tg s r ρ2 := by
  rw [forD, h1, bok, h2, bok]
theorem digits_loop {c : D} {sz : List Int} {num : Int} (hz : ∀ s ∈ sz, 0 < s ∧ s.natAbs < B9) (hn : sz.length ≤ 1000) : ∀ (j k : Nat), k + j = sz.length → ∀ (left : Int) (F : List Int) (x one : Sl), 0 ≤ left → F.length = k → (∀ (i : Nat) (v s : Int), F[i]? = some v → sz[i]? = some s → 0 ≤ v ∧ v < s) →
    ∃ (left' : Int) (F' : List Int) (x' one' : Sl), F'.length = sz.length ∧ (∀ (i : Nat) (v s : Int), F'[i]? = some v → sz[i]? = some s → 0 ≤ v ∧ v < s) ∧
      forD (gSet 5) digits_body ((DL.intsFrom 0 sz.length).drop k) [.sh c, .sh (.lst (sz.map D.int)), .sh (.int num), .sh (.int left), .ow (.lst (F.map D.int)), x, one] =
        .ok (.nx [.sh c, .sh (.lst (sz.map D.int)), .sh (.int num), .sh (.int left'), .ow (.lst (F'.map D.int)), x', one'])
  | 0, k, hk, left, F, x, one, h0, hF, hb => by
    refine ⟨left, F, x, one, by omega, hb, ?_⟩
    have : k = sz.length := by omega
    rw [this, ints_end]
    rfl
  | j + 1, k, hk, left, F, x, one, h0, hF, hb => by
    have hlt : k < sz.length := by omega
    have hs := hz _ (List.getElem_mem hlt)
    obtain ⟨v, left', one', v0, v1, l0, e⟩ := digit_step (c := c) (num := num) (F := F.map D.int) (one := one) (List.getElem?_eq_getElem hlt) hs.1 hs.2 (by omega) (by rw [List.length_map, hF]; exact Nat.lt_of_lt_of_le hlt (Nat.le_trans hn (by decide))) h0
    have hb' : ∀ (i : Nat) (v' s : Int), (F ++ [v])[i]? = some v' → sz[i]? = some s → 0 ≤ v' ∧ v' < s := by
      intro i v' s h1 h2
      by_cases hi : i < F.length
      · rw [List.getElem?_append_left hi] at h1
        exact hb i v' s h1 h2
      · rw [List.getElem?_append_right (by omega)] at h1
        have hi2 : i - F.length = 0 := by
          cases hq : i - F.length with
          | zero => rfl
          | succ m => rw [hq] at h1; simp at h1
        rw [hi2] at h1
        have hik : i = k := by omega
        subst hik
        rw [List.getElem?_eq_getElem hlt] at h2
        cases h1; cases h2
        exact ⟨v0, v1⟩
    obtain ⟨left2, F2, x2, one2, p1, p2, p3⟩ := digits_loop hz hn j (k + 1) (by omega) left' (F ++ [v]) (.sh (.int (k : Int))) one' l0 (by simp [hF]) hb'
    refine ⟨left2, F2, x2, one2, p1, p2, ?_⟩
    rw [ints_drop hlt, forD_nx (ρ1 := [.sh c, .sh (.lst (sz.map D.int)), .sh (.int num), .sh (.int left), .ow (.lst (F.map D.int)), .sh (.int (k : Int)), one]) rfl e]
    rw [← p3, List.map_append]
    rfl
theorem draws_eq (c : Int) (sz : List Int) (hz : ∀ s ∈ sz, 0 < s ∧ s.natAbs < B9) (hn : sz.length ≤ 1000) :
    ∃ vs : List Int, vs.length = sz.length ∧ (∀ (i : Nat) (v s : Int), vs[i]? = some v → sz[i]? = some s → 0 ≤ v ∧ v < s) ∧ m__law_draws [.int c, .lst (sz.map D.int)] = .ok (.lst (vs.map D.int)) := by
  generalize hnum : (if -1 - c > c then -1 - c else c) = num
  have hn0 : 0 ≤ num := by rw [← hnum]; split <;> omega
  obtain ⟨left', F', x', one', p1, p2, p3⟩ := digits_loop (c := .int c) (num := num) hz hn sz.length 0 (by omega) num [] .no .no hn0 rfl (fun i v s h => by simp at h)
  refine ⟨F', p1, p2, ?_⟩
  have r : b__law_draws [.sh (.int c), .sh (.lst (sz.map D.int)), .no, .no, .no, .no, .no] = .ok (.rt (.lst (F'.map D.int))) := by
    unfold b__law_draws
    rw [seq_nx (ρ' := [.sh (.int c), .sh (.lst (sz.map D.int)), .sh (.int num), .no, .no, .no, .no]) (by rw [← hnum]; rfl)]
    rw [seq_nx (ρ' := [.sh (.int c), .sh (.lst (sz.map D.int)), .sh (.int num), .sh (.int num), .no, .no, .no]) rfl]
    rw [seq_nx (ρ' := [.sh (.int c), .sh (.lst (sz.map D.int)), .sh (.int num), .sh (.int num), .ow (.lst []), .no, .no]) rfl]
    have w : (sForR (bindA (aCons (dVar 1) aNil) (m1 dLen)) (gSet 5) digits_body) [.sh (.int c), .sh (.lst (sz.map D.int)), .sh (.int num), .sh (.int num), .ow (.lst []), .no, .no] =
        .ok (.nx [.sh (.int c), .sh (.lst (sz.map D.int)), .sh (.int num), .sh (.int left'), .ow (.lst (F'.map D.int)), x', one']) := by
      unfold sForR
      have hlen : (bindA (aCons (dVar 1) aNil) (m1 dLen)) (shr [.sh (.int c), .sh (.lst (sz.map D.int)), .sh (.int num), .sh (.int num), .ow (.lst []), .no, .no]) = .ok (.int (sz.length : Int)) := by
        show Res.ok (D.int ((sz.map D.int).length : Int)) = _
        rw [List.length_map]
      rw [hlen, bok]
      show (if _ then _ else _) = _
      rw [if_pos (by omega)]
      rw [← p3]
      rfl
    exact (seq_nx w).trans (seq_rt (ret_ok rfl))
  exact run_rt (n := 7) (ds := [.int c, .lst (sz.map D.int)]) r
def isI : D → Bool
  | .int _ => true
  | _ => false
theorem whole_eq (d : D) : m__law_whole [d] = .ok (.bl (isI d)) := by cases d <;> rfl
theorem is_whole_eq (d : D) : m_is_whole [d] = .ok (.bl (isI d)) := by cases d <;> rfl
theorem fdiv_dvd {a g : Int} (hg : 0 < g) : a.fdiv g = a / g := Int.fdiv_eq_ediv_of_nonneg a (by omega)
theorem gcd_pos {a b : Int} (h : b ≠ 0) : 0 < (Int.gcd a b : Int) := by
  have := Int.gcd_pos_of_ne_zero_right a h
  omega
theorem lowest_eq {a b : Int} (hb : 0 < b) (h1 : a.natAbs < B13) (h2 : b.natAbs < B13) : m__law_lowest [.int a, .int b] = .ok (.tup [.int (a / Int.gcd a b), .int (b / Int.gcd a b)]) := by
  have hg := gcd_pos (a := a) (b := b) (by omega)
  have r : b__law_lowest [.sh (.int a), .sh (.int b), .no] = .ok (.rt (.tup [.int (a / Int.gcd a b), .int (b / Int.gcd a b)])) := by
    unfold b__law_lowest
    rw [seq_nx (ρ' := [.sh (.int a), .sh (.int b), .sh (.int (Int.gcd a b))]) (set_ok ((bindA_ok (xs := [.int a, .int b]) rfl).trans (divisor_eq a b)))]
    refine seq_rt (ret_ok ?_)
    refine (bindA_ok (xs := [.int (a / Int.gcd a b), .int (b / Int.gcd a b)]) (acons_ok ?_ (acons_ok ?_ rfl))).trans rfl
    · rw [← fdiv_dvd hg]
      exact (bind2_ok (x := .int a) (y := .int (Int.gcd a b)) rfl rfl).trans (div_ok (divB13 (by omega) h1))
    · rw [← fdiv_dvd hg]
      exact (bind2_ok (x := .int b) (y := .int (Int.gcd a b)) rfl rfl).trans (div_ok (divB13 (by omega) h2))
  show (b__law_lowest [.sh (.int a), .sh (.int b), .no]).bind _ = _
  rw [r]
  rfl
def frac (p q : Int) : D := .tup [.int p, .int q]
end Com
set_option Elab.async false
set_option linter.all false
set_option maxRecDepth 100000
namespace Com
open PySem L2 DL
abbrev Fra := Int × Int
def fr (x : Fra) : D := frac x.1 x.2
def N60 : Nat := 1000000000000000000000000000000000000000000000000000000000000
theorem B13_B60 : B13 ≤ B60 := by rw [B13_eq, B60_eq]; exact Nat.pow_le_pow_right (by decide) (by decide)
structure Low (x : Fra) : Prop where
  q1 : 1 ≤ x.2
  g1 : Int.gcd x.1 x.2 = 1
structure Fin60 (x : Fra) : Prop extends Low x where
  pN : x.1.natAbs < N60
  qN : x.2.natAbs < N60
def low (a b : Int) : Fra := (a / Int.gcd a b, b / Int.gcd a b)
theorem low_low {a b : Int} (hb : 0 < b) : Low (low a b) := by
  have hg := gcd_pos (a := a) (b := b) (by omega)
  refine ⟨?_, Int.gcd_ediv_gcd_ediv_gcd (by omega)⟩
  have := Int.ediv_gcd_ne_zero_if_ne_zero_right a (show b ≠ 0 by omega)
  have h2 : 0 ≤ b / (Int.gcd a b : Int) := Int.ediv_nonneg (by omega) (by omega)
  show 1 ≤ b / (Int.gcd a b : Int)
  omega
theorem low_rel {a b : Int} : (low a b).1 * b = a * (low a b).2 := by
  unfold low
  obtain ⟨x, hx⟩ := Int.gcd_dvd_left a b
  obtain ⟨y, hy⟩ := Int.gcd_dvd_right a b
  by_cases hg : (Int.gcd a b : Int) = 0
  · simp only [hg, Int.ediv_zero, Int.zero_mul, Int.mul_zero]
  · generalize hG : (Int.gcd a b : Int) = G at *
    have e1 : a / G = x := by rw [hx]; exact Int.mul_ediv_cancel_left x hg
    have e2 : b / G = y := by rw [hy]; exact Int.mul_ediv_cancel_left y hg
    show a / G * b = a * (b / G)
    rw [e1, e2]
    calc x * b = x * (G * y) := by rw [← hy]
      _ = G * x * y := by grind
      _ = a * y := by rw [← hx]
theorem low_le1 {a b : Int} : (low a b).1.natAbs ≤ a.natAbs := Int.natAbs_ediv_le_natAbs _ _
theorem low_le2 {a b : Int} : (low a b).2.natAbs ≤ b.natAbs := Int.natAbs_ediv_le_natAbs _ _
def flt (x y : Fra) : Bool := decide (x.1 * y.2 < y.1 * x.2)
end Com
set_option Elab.async false
set_option linter.all false
set_option maxRecDepth 100000
namespace Com
open PySem L2 DL
theorem for_inv {tg : Ev → D → Res Ev} {body : Ev → Res Fl} (P : Ev → Prop) : ∀ {ds : List D}, (∀ d ∈ ds, ∀ ρ, P ρ → ∃ ρ1 ρ2, tg ρ d = .ok ρ1 ∧ body ρ1 = .ok (.nx ρ2) ∧ P ρ2) → ∀ ρ, P ρ → ∃ ρ', forD tg body ds ρ = .ok (.nx ρ') ∧ P ρ'
  | [], _, ρ, h => ⟨ρ, rfl, h⟩
  | d :: r, hs, ρ, h => by
    obtain ⟨ρ1, ρ2, h1, h2, h3⟩ := hs d List.mem_cons_self ρ h
    obtain ⟨ρ', h4, h5⟩ := for_inv P (fun e he => hs e (List.mem_cons_of_mem _ he)) ρ2 h3
    exact ⟨ρ', by rw [forD_nx h1 h2]; exact h4, h5⟩
theorem forI_ok {src : Ev → Res (List D)} {tg : Ev → D → Res Ev} {s : Ev → Res Fl} {ρ : Ev} {ds : List D} (h : src ρ = .ok ds) : sForI src tg s ρ = forD tg s ds ρ := by unfold sForI; rw [h]; rfl
theorem at_mem {α : Type} {xs : List α} {k : Int} (h0 : 0 ≤ k) (h1 : k < xs.length) : ∃ x ∈ xs, atI xs k = some x := by
  obtain ⟨n, rfl⟩ := Int.eq_ofNat_of_zero_le h0
  have hn : n < xs.length := by omega
  exact ⟨xs[n], List.getElem_mem hn, atI_nat (List.getElem?_eq_getElem hn)⟩
theorem ix_mem {ds : List D} {k : Int} (h0 : 0 ≤ k) (h1 : k < ds.length) : ∃ d ∈ ds, dIx (.lst ds) (.int k) = .ok d := by
  obtain ⟨d, hd, e⟩ := at_mem h0 h1
  exact ⟨d, hd, by unfold dIx; simp only [e]⟩
end Com
set_option Elab.async false
set_option linter.all false
set_option maxRecDepth 100000
namespace Com
open PySem L2 DL
theorem nrfl {α : Type} {a b : α} (h : a = b) : a = b := h
def seqK (t : Ev → Res Fl) (r : Fl) : Res Fl := match r with
  | .nx ρ' => t ρ'
  | r => .ok r
def setK (i : Nat) (ρ : Ev) (d : D) : Res Fl := .ok (.nx (ρ.set i (.sh d)))
def retK (d : D) : Res Fl := .ok (.rt d)
def dropK (ρ : Ev) (_ : D) : Res Fl := .ok (.nx ρ)
def ifK (s t : Ev → Res Fl) (ρ : Ev) (x : D) : Res Fl := match x with
  | .bl b => if b = true then s ρ else t ρ
  | _ => .stuck
def ownK (i : Nat) (ρ : Ev) (d : D) : Res Fl := match d with
  | .lst ds => .ok (.nx (ρ.set i (.ow (.lst ds))))
  | _ => .stuck
def ownS (s : Option Sl) (k : List D → Res Fl) : Res Fl := match s with
  | some (.ow (.lst ds)) => k ds
  | _ => .stuck
def appK (i : Nat) (ρ : Ev) (ds : List D) (d : D) : Res Fl := if ds.length < line then .ok (.nx (ρ.set i (.ow (.lst (ds ++ [d]))))) else .stuck
def appLK (i : Nat) (ρ : Ev) (ds : List D) (d : D) : Res Fl := if flat d = true ∧ ds.length < line then .ok (.nx (ρ.set i (.ow (.lst (ds ++ [d]))))) else .stuck
def putK (i : Nat) (ρ : Ev) (k : Ev → Res D) (ds : List D) (d : D) : Res Fl := (k ρ).bind (DL.putAt ρ i ds d)
def putLK2 (i : Nat) (ρ : Ev) (ds : List D) (d j : D) : Res Fl := if flat d = true then DL.putAt ρ i ds d j else .stuck
def putLK (i : Nat) (ρ : Ev) (k : Ev → Res D) (ds : List D) (d : D) : Res Fl := (k (shr ρ)).bind (putLK2 i ρ ds d)
def unpK (is : List Nat) (ρ : Ev) (d : D) : Res Fl := match partsOf is.length d with
  | some ds => .ok (.nx (setAll ρ is ds))
  | none => .stuck
def parK (i j : Nat) (ρ : Ev) (ds : List D) : Res Fl := match ds with
  | [x, y] => .ok (.nx ((ρ.set i (.sh x)).set j (.sh y)))
  | _ => .stuck
def k2 (g : Ev → Res D) (op : D → D → Res D) (ρ : Ev) (x : D) : Res D := (g ρ).bind (op x)
def consK2 (x : D) (xs : List D) : Res (List D) := .ok (x :: xs)
def consK (fa : Ev → Res (List D)) (ρ : Ev) (x : D) : Res (List D) := (fa ρ).bind (consK2 x)
def andK (g : Ev → Res D) (ρ : Ev) (x : D) : Res D := match x with
  | .bl true => g ρ
  | .bl false => .ok (.bl false)
  | _ => .stuck
def orK (g : Ev → Res D) (ρ : Ev) (x : D) : Res D := match x with
  | .bl true => .ok (.bl true)
  | .bl false => g ρ
  | _ => .stuck
def notK (x : D) : Res D := match x with
  | .bl b => .ok (.bl (!b))
  | _ => .stuck
def ifxK (f g : Ev → Res D) (ρ : Ev) (x : D) : Res D := match x with
  | .bl true => f ρ
  | .bl false => g ρ
  | _ => .stuck
def varK (s : Option Sl) : Res D := match s with
  | some (.sh d) => .ok d
  | _ => .stuck
def shr1 (s : Sl) : Sl := match s with
  | .ow d => .sh d
  | x => x
def runK (r : Fl) : Res D := match r with
  | .nx _ => .ok .non
  | .rt d => .ok d
  | _ => .stuck
def osK (x : D) : Res (Option Int) := match x with
  | .int i => .ok (some i)
  | _ => .stuck
def slK2 (x : D) (l : Option Int) (h : Option Int) : Res D := sliceD x l h
def slK (hi : Ev → Res (Option Int)) (ρ : Ev) (x : D) (l : Option Int) : Res D := (hi ρ).bind (slK2 x l)
def slK0 (lo hi : Ev → Res (Option Int)) (ρ : Ev) (x : D) : Res D := (lo ρ).bind (slK hi ρ x)
def forK (tg : Ev → D → Res Ev) (s : Ev → Res Fl) (ρ : Ev) (d : D) : Res Fl := match d with
  | .lst ds => forD tg s ds ρ
  | _ => .stuck
def chK2 (op' : D → D → Res D) (h : Ev → Res D) (ρ : Ev) (y z : D) : Res D := match z with
  | .bl true => (h ρ).bind (op' y)
  | .bl false => .ok (.bl false)
  | _ => .stuck
def chK1 (op op' : D → D → Res D) (h : Ev → Res D) (ρ : Ev) (x y : D) : Res D := (op x y).bind (chK2 op' h ρ y)
def chK (op op' : D → D → Res D) (g h : Ev → Res D) (ρ : Ev) (x : D) : Res D := (g ρ).bind (chK1 op op' h ρ x)
section
variable {s t : Ev → Res Fl} {f g h : Ev → Res D} {fa : Ev → Res (List D)} {ρ r : Ev} {i j : Nat} {d x y : D} {ds xs : List D} {op op' : D → D → Res D} {a b : Int}
theorem ev_ok {α β : Type} {a : α} {k : α → Res β} : (Res.ok a).bind k = k a := nrfl rfl
theorem ev_seq : sSeq s t ρ = (s ρ).bind (seqK t) := nrfl rfl
theorem ev_seq1 : seqK t (.nx ρ) = t ρ := nrfl rfl
theorem ev_seq2 : seqK t (.rt d) = .ok (.rt d) := nrfl rfl
theorem ev_seq3 : seqK t (.bk ρ) = .ok (.bk ρ) := nrfl rfl
theorem ev_seq4 : seqK t (.ct ρ) = .ok (.ct ρ) := nrfl rfl
theorem ev_next : sNext ρ = .ok (.nx ρ) := nrfl rfl
theorem ev_set : sSet i f ρ = (f ρ).bind (setK i ρ) := nrfl rfl
theorem ev_set1 : setK i ρ d = .ok (.nx (ρ.set i (.sh d))) := nrfl rfl
theorem ev_ret : sRet f ρ = (f (shr ρ)).bind retK := nrfl rfl
theorem ev_ret1 : retK d = .ok (.rt d) := nrfl rfl
theorem ev_retN : sRetN ρ = .ok (.rt .non) := nrfl rfl
theorem ev_drop : sDrop f ρ = (f (shr ρ)).bind (dropK ρ) := nrfl rfl
theorem ev_drop1 : dropK ρ d = .ok (.nx ρ) := nrfl rfl
theorem ev_if : sIf f s t ρ = (f (shr ρ)).bind (ifK s t ρ) := nrfl rfl
theorem ev_if1 : ifK s t ρ (.bl true) = s ρ := nrfl rfl
theorem ev_if2 : ifK s t ρ (.bl false) = t ρ := nrfl rfl
theorem ev_own : sOwn i f ρ = (f ρ).bind (ownK i ρ) := nrfl rfl
theorem ev_own1 : ownK i ρ (.lst ds) = .ok (.nx (ρ.set i (.ow (.lst ds)))) := nrfl rfl
theorem ev_app : sAppend i f ρ = ownS ρ[i]? fun ds => (f ρ).bind (appK i ρ ds) := nrfl rfl
theorem ev_ownS {k : List D → Res Fl} : ownS (some (.ow (.lst ds))) k = k ds := nrfl rfl
theorem ev_app1 (h : decide (ds.length ≤ 999) = true) : appK i ρ ds d = .ok (.nx (ρ.set i (.ow (.lst (ds ++ [d]))))) := if_pos (Nat.lt_of_le_of_lt (of_decide_eq_true h) (by decide))
theorem ev_appL : sAppendL i f ρ = ownS ρ[i]? fun ds => (f (shr ρ)).bind (appLK i ρ ds) := nrfl rfl
theorem ev_appL1 (hf : flat d = true) (h : decide (ds.length ≤ 999) = true) : appLK i ρ ds d = .ok (.nx (ρ.set i (.ow (.lst (ds ++ [d]))))) := if_pos ⟨hf, Nat.lt_of_le_of_lt (of_decide_eq_true h) (by decide)⟩
theorem ev_put : sPut i f g ρ = ownS ρ[i]? fun ds => (f ρ).bind (putK i ρ g ds) := nrfl rfl
theorem ev_put1 : putK i ρ g ds d = (g ρ).bind (DL.putAt ρ i ds d) := nrfl rfl
theorem ev_putL : sPutL i f g ρ = ownS ρ[i]? fun ds => (f (shr ρ)).bind (putLK i ρ g ds) := nrfl rfl
theorem ev_putL1 : putLK i ρ g ds d = (g (shr ρ)).bind (putLK2 i ρ ds d) := nrfl rfl
theorem ev_frz : sFrz i s ρ = s (unown i ρ) := nrfl rfl
theorem ev_unp {is : List Nat} : sUnp is f ρ = (f ρ).bind (unpK is ρ) := nrfl rfl
theorem ev_par : sPar i j fa ρ = (fa ρ).bind (parK i j ρ) := nrfl rfl
theorem ev_par1 : parK i j ρ [x, y] = .ok (.nx ((ρ.set i (.sh x)).set j (.sh y))) := nrfl rfl
theorem ev_b1 {o : D → Res D} : bind1 f o ρ = (f ρ).bind o := nrfl rfl
theorem ev_b2 : bind2 f g op ρ = (f ρ).bind (k2 g op ρ) := nrfl rfl
theorem ev_b21 : k2 g op ρ x = (g ρ).bind (op x) := nrfl rfl
theorem ev_bA {m : List D → Res D} : bindA fa m ρ = (fa ρ).bind m := nrfl rfl
theorem ev_nil : aNil ρ = .ok [] := nrfl rfl
theorem ev_cons : aCons f fa ρ = (f ρ).bind (consK fa ρ) := nrfl rfl
theorem ev_cons1 : consK fa ρ x = (fa ρ).bind (consK2 x) := nrfl rfl
theorem ev_cons2 : consK2 x xs = .ok (x :: xs) := nrfl rfl
theorem ev_and : dAnd f g ρ = (f ρ).bind (andK g ρ) := nrfl rfl
theorem ev_and1 : andK g ρ (.bl true) = g ρ := nrfl rfl
theorem ev_and2 : andK g ρ (.bl false) = .ok (.bl false) := nrfl rfl
theorem ev_or : dOr f g ρ = (f ρ).bind (orK g ρ) := nrfl rfl
theorem ev_or1 : orK g ρ (.bl true) = .ok (.bl true) := nrfl rfl
theorem ev_or2 : orK g ρ (.bl false) = g ρ := nrfl rfl
theorem ev_not : dNot f ρ = (f ρ).bind notK := nrfl rfl
theorem ev_not1 {c : Bool} : notK (.bl c) = .ok (.bl (!c)) := nrfl rfl
theorem ev_ifx : dIf h f g ρ = (h ρ).bind (ifxK f g ρ) := nrfl rfl
theorem ev_ifx1 : ifxK f g ρ (.bl true) = f ρ := nrfl rfl
theorem ev_ifx2 : ifxK f g ρ (.bl false) = g ρ := nrfl rfl
theorem ev_var : dVar i ρ = varK ρ[i]? := nrfl rfl
theorem ev_var1 : varK (some (.sh d)) = .ok d := nrfl rfl
theorem ev_C : dC d ρ = .ok d := nrfl rfl
theorem ev_shr0 : shr [] = [] := nrfl rfl
theorem ev_shr {c : Sl} : shr (c :: r) = shr1 c :: shr r := nrfl rfl
theorem ev_shr1 : shr1 (.ow d) = .sh d := nrfl rfl
theorem ev_shr2 : shr1 (.sh d) = .sh d := nrfl rfl
theorem ev_shr3 : shr1 .no = .no := nrfl rfl
theorem ev_run {n : Nat} : runD n s ds = (s (ds.map Sl.sh ++ List.replicate (n - ds.length) .no)).bind runK := nrfl rfl
theorem ev_run1 : runK (.rt d) = .ok d := nrfl rfl
theorem ev_run2 : runK (.nx ρ) = .ok .non := nrfl rfl
theorem ev_os : oSome f ρ = (f ρ).bind osK := nrfl rfl
theorem ev_os1 : osK (.int a) = .ok (some a) := nrfl rfl
theorem ev_on : oNone ρ = .ok none := nrfl rfl
theorem ev_sl {lo hi : Ev → Res (Option Int)} : dSlA f lo hi ρ = (f ρ).bind (slK0 lo hi ρ) := nrfl rfl
theorem ev_sl0 {lo hi : Ev → Res (Option Int)} : slK0 lo hi ρ x = (lo ρ).bind (slK hi ρ x) := nrfl rfl
theorem ev_sl1 {hi : Ev → Res (Option Int)} {l : Option Int} : slK hi ρ x l = (hi ρ).bind (slK2 x l) := nrfl rfl
theorem ev_sl2 {l l' : Option Int} : slK2 (.lst ds) l l' = .ok (.lst (cutD ds l l')) := nrfl rfl
theorem ev_for {tg : Ev → D → Res Ev} : sFor f tg s ρ = (f ρ).bind (forK tg s ρ) := nrfl rfl
theorem ev_for1 {tg : Ev → D → Res Ev} : forK tg s ρ (.lst ds) = forD tg s ds ρ := nrfl rfl
theorem ev_chain : dChain op op' f g h ρ = (f ρ).bind (chK op op' g h ρ) := nrfl rfl
theorem ev_ch : chK op op' g h ρ x = (g ρ).bind (chK1 op op' h ρ x) := nrfl rfl
theorem ev_ch1 : chK1 op op' h ρ x y = (op x y).bind (chK2 op' h ρ y) := nrfl rfl
theorem ev_ch2 : chK2 op' h ρ y (.bl true) = (h ρ).bind (op' y) := nrfl rfl
theorem ev_ch3 : chK2 op' h ρ y (.bl false) = .ok (.bl false) := nrfl rfl
theorem ev_iop {o : Int → Int → D} : iop (fun _ _ => true) o (.int a) (.int b) = .ok (o a b) := nrfl rfl
theorem ev_add : dAdd (.int a) (.int b) = .ok (.int (a + b)) := nrfl rfl
theorem ev_addL {es : List D} (h : decide (ds.length + es.length ≤ 1000) = true) : dAdd (.lst ds) (.lst es) = .ok (.lst (ds ++ es)) := if_pos (Nat.le_trans (of_decide_eq_true h) (by decide))
theorem ev_neg : dNeg (.int a) = .ok (.int (-a)) := nrfl rfl
theorem ev_m1 {m : D → Res D} : m1 m [x] = m x := nrfl rfl
theorem ev_m2 {m : D → D → Res D} : m2 m [x, y] = m x y := nrfl rfl
theorem ev_lenL : dLen (.lst ds) = .ok (.int ds.length) := nrfl rfl
theorem ev_lenT : dLen (.tup ds) = .ok (.int ds.length) := nrfl rfl
theorem ev_tup (h : decide (ds.length ≤ 1000) = true) : mTup ds = .ok (.tup ds) := if_pos (Nat.le_trans (of_decide_eq_true h) (by decide))
theorem ev_lst (h : decide (ds.length ≤ 1000) = true) : mLst ds = .ok (.lst ds) := if_pos (Nat.le_trans (of_decide_eq_true h) (by decide))
theorem ev_is_bool_non : dIsI "bool" (.non) = .ok (.bl false) := nrfl rfl
theorem ev_is_bool_bl {c : Bool} : dIsI "bool" (.bl c) = .ok (.bl true) := nrfl rfl
theorem ev_is_bool_int : dIsI "bool" (.int a) = .ok (.bl false) := nrfl rfl
theorem ev_is_bool_str {z : Str} : dIsI "bool" (.str z) = .ok (.bl false) := nrfl rfl
theorem ev_is_bool_tup : dIsI "bool" (.tup ds) = .ok (.bl false) := nrfl rfl
theorem ev_is_bool_lst : dIsI "bool" (.lst ds) = .ok (.bl false) := nrfl rfl
theorem ev_is_bool_dic {ks : List Str} : dIsI "bool" (.dic ks ds) = .ok (.bl false) := nrfl rfl
theorem ev_is_int_non : dIsI "int" (.non) = .ok (.bl false) := nrfl rfl
theorem ev_is_int_bl {c : Bool} : dIsI "int" (.bl c) = .ok (.bl true) := nrfl rfl
theorem ev_is_int_int : dIsI "int" (.int a) = .ok (.bl true) := nrfl rfl
theorem ev_is_int_str {z : Str} : dIsI "int" (.str z) = .ok (.bl false) := nrfl rfl
theorem ev_is_int_tup : dIsI "int" (.tup ds) = .ok (.bl false) := nrfl rfl
theorem ev_is_int_lst : dIsI "int" (.lst ds) = .ok (.bl false) := nrfl rfl
theorem ev_is_int_dic {ks : List Str} : dIsI "int" (.dic ks ds) = .ok (.bl false) := nrfl rfl
theorem ev_is_str_non : dIsI "str" (.non) = .ok (.bl false) := nrfl rfl
theorem ev_is_str_bl {c : Bool} : dIsI "str" (.bl c) = .ok (.bl false) := nrfl rfl
theorem ev_is_str_int : dIsI "str" (.int a) = .ok (.bl false) := nrfl rfl
theorem ev_is_str_str {z : Str} : dIsI "str" (.str z) = .ok (.bl true) := nrfl rfl
theorem ev_is_str_tup : dIsI "str" (.tup ds) = .ok (.bl false) := nrfl rfl
theorem ev_is_str_lst : dIsI "str" (.lst ds) = .ok (.bl false) := nrfl rfl
theorem ev_is_str_dic {ks : List Str} : dIsI "str" (.dic ks ds) = .ok (.bl false) := nrfl rfl
theorem ev_is_tuple_non : dIsI "tuple" (.non) = .ok (.bl false) := nrfl rfl
theorem ev_is_tuple_bl {c : Bool} : dIsI "tuple" (.bl c) = .ok (.bl false) := nrfl rfl
theorem ev_is_tuple_int : dIsI "tuple" (.int a) = .ok (.bl false) := nrfl rfl
theorem ev_is_tuple_str {z : Str} : dIsI "tuple" (.str z) = .ok (.bl false) := nrfl rfl
theorem ev_is_tuple_tup : dIsI "tuple" (.tup ds) = .ok (.bl true) := nrfl rfl
theorem ev_is_tuple_lst : dIsI "tuple" (.lst ds) = .ok (.bl false) := nrfl rfl
theorem ev_is_tuple_dic {ks : List Str} : dIsI "tuple" (.dic ks ds) = .ok (.bl false) := nrfl rfl
theorem ev_is_list_non : dIsI "list" (.non) = .ok (.bl false) := nrfl rfl
theorem ev_is_list_bl {c : Bool} : dIsI "list" (.bl c) = .ok (.bl false) := nrfl rfl
theorem ev_is_list_int : dIsI "list" (.int a) = .ok (.bl false) := nrfl rfl
theorem ev_is_list_str {z : Str} : dIsI "list" (.str z) = .ok (.bl false) := nrfl rfl
theorem ev_is_list_tup : dIsI "list" (.tup ds) = .ok (.bl false) := nrfl rfl
theorem ev_is_list_lst : dIsI "list" (.lst ds) = .ok (.bl true) := nrfl rfl
theorem ev_is_list_dic {ks : List Str} : dIsI "list" (.dic ks ds) = .ok (.bl false) := nrfl rfl
theorem ev_is_dict_non : dIsI "dict" (.non) = .ok (.bl false) := nrfl rfl
theorem ev_is_dict_bl {c : Bool} : dIsI "dict" (.bl c) = .ok (.bl false) := nrfl rfl
theorem ev_is_dict_int : dIsI "dict" (.int a) = .ok (.bl false) := nrfl rfl
theorem ev_is_dict_str {z : Str} : dIsI "dict" (.str z) = .ok (.bl false) := nrfl rfl
theorem ev_is_dict_tup : dIsI "dict" (.tup ds) = .ok (.bl false) := nrfl rfl
theorem ev_is_dict_lst : dIsI "dict" (.lst ds) = .ok (.bl false) := nrfl rfl
theorem ev_is_dict_dic {ks : List Str} : dIsI "dict" (.dic ks ds) = .ok (.bl true) := nrfl rfl
theorem ev_isN_non : dIsN (.non) .non = .ok (.bl true) := nrfl rfl
theorem ev_notN_non : dNotN (.non) .non = .ok (.bl false) := nrfl rfl
theorem ev_isN_bl {c : Bool} : dIsN (.bl c) .non = .ok (.bl false) := nrfl rfl
theorem ev_notN_bl {c : Bool} : dNotN (.bl c) .non = .ok (.bl true) := nrfl rfl
theorem ev_isN_int : dIsN (.int a) .non = .ok (.bl false) := nrfl rfl
theorem ev_notN_int : dNotN (.int a) .non = .ok (.bl true) := nrfl rfl
theorem ev_isN_str {z : Str} : dIsN (.str z) .non = .ok (.bl false) := nrfl rfl
theorem ev_notN_str {z : Str} : dNotN (.str z) .non = .ok (.bl true) := nrfl rfl
theorem ev_isN_tup : dIsN (.tup ds) .non = .ok (.bl false) := nrfl rfl
theorem ev_notN_tup : dNotN (.tup ds) .non = .ok (.bl true) := nrfl rfl
theorem ev_isN_lst : dIsN (.lst ds) .non = .ok (.bl false) := nrfl rfl
theorem ev_notN_lst : dNotN (.lst ds) .non = .ok (.bl true) := nrfl rfl
theorem ev_isN_dic {ks : List Str} : dIsN (.dic ks ds) .non = .ok (.bl false) := nrfl rfl
theorem ev_notN_dic {ks : List Str} : dNotN (.dic ks ds) .non = .ok (.bl true) := nrfl rfl
theorem ev_mul (h : mulOk a b = true) : dMulL (.int a) (.int b) = .ok (.int (a * b)) := if_pos h
theorem ev_mod (h : (b == 0) = false) : dMod (.int a) (.int b) = .ok (.int (a.fmod b)) := mod_ok (fun z => by rw [z] at h; cases h)
theorem ev_div (h : divOk a b = true) : dDiv (.int a) (.int b) = .ok (.int (a.fdiv b)) := if_pos h
theorem ev_unpL {is : List Nat} (h : (ds.length == is.length) = true) : unpK is ρ (.lst ds) = .ok (.nx (setAll ρ is ds)) := by
  unfold unpK partsOf
  simp only [if_pos (eq_of_beq h)]
theorem ev_unpT {is : List Nat} (h : (ds.length == is.length) = true) : unpK is ρ (.tup ds) = .ok (.nx (setAll ρ is ds)) := by
  unfold unpK partsOf
  simp only [if_pos (eq_of_beq h)]
theorem ev_sa {is : List Nat} : setAll ρ (i :: is) (d :: ds) = setAll (ρ.set i (.sh d)) is ds := nrfl rfl
theorem ev_sa0 : setAll ρ [] ds = ρ := nrfl rfl
def unK (i : Nat) (ρ : Ev) (s : Option Sl) : Ev := match s with
  | some (.ow d) => ρ.set i (.sh d)
  | _ => ρ
theorem ev_un : unown i ρ = unK i ρ ρ[i]? := nrfl rfl
theorem ev_un1 : unK i ρ (some (.ow d)) = ρ.set i (.sh d) := nrfl rfl
theorem ev_un2 : unK i ρ (some (.sh d)) = ρ := nrfl rfl
theorem ev_un3 : unK i ρ (some .no) = ρ := nrfl rfl
theorem ev_putAt {n : Nat} {j : Int} (h : ixN ds.length j = some n) : DL.putAt ρ i ds d (.int j) = .ok (.nx (ρ.set i (.ow (.lst (ds.set n d))))) := by
  unfold DL.putAt
  simp only [h]
theorem ev_ixL0 {x0 : D} : dIx (.lst (x0 :: xs)) (.int 0) = .ok x0 := by
  unfold dIx
  simp only [show atI (x0 :: xs) 0 = some x0 from atI_nat (j := 0) rfl]
theorem ev_ixT0 {x0 : D} : dIx (.tup (x0 :: xs)) (.int 0) = .ok x0 := by
  unfold dIx
  simp only [show atI (x0 :: xs) 0 = some x0 from atI_nat (j := 0) rfl]
theorem ev_ixL1 {x0 x1 : D} : dIx (.lst (x0 :: x1 :: xs)) (.int 1) = .ok x1 := by
  unfold dIx
  simp only [show atI (x0 :: x1 :: xs) 1 = some x1 from atI_nat (j := 1) rfl]
theorem ev_ixT1 {x0 x1 : D} : dIx (.tup (x0 :: x1 :: xs)) (.int 1) = .ok x1 := by
  unfold dIx
  simp only [show atI (x0 :: x1 :: xs) 1 = some x1 from atI_nat (j := 1) rfl]
theorem ev_ixL2 {x0 x1 x2 : D} : dIx (.lst (x0 :: x1 :: x2 :: xs)) (.int 2) = .ok x2 := by
  unfold dIx
  simp only [show atI (x0 :: x1 :: x2 :: xs) 2 = some x2 from atI_nat (j := 2) rfl]
theorem ev_ixT2 {x0 x1 x2 : D} : dIx (.tup (x0 :: x1 :: x2 :: xs)) (.int 2) = .ok x2 := by
  unfold dIx
  simp only [show atI (x0 :: x1 :: x2 :: xs) 2 = some x2 from atI_nat (j := 2) rfl]
theorem ev_ixL3 {x0 x1 x2 x3 : D} : dIx (.lst (x0 :: x1 :: x2 :: x3 :: xs)) (.int 3) = .ok x3 := by
  unfold dIx
  simp only [show atI (x0 :: x1 :: x2 :: x3 :: xs) 3 = some x3 from atI_nat (j := 3) rfl]
theorem ev_ixT3 {x0 x1 x2 x3 : D} : dIx (.tup (x0 :: x1 :: x2 :: x3 :: xs)) (.int 3) = .ok x3 := by
  unfold dIx
  simp only [show atI (x0 :: x1 :: x2 :: x3 :: xs) 3 = some x3 from atI_nat (j := 3) rfl]
theorem ev_ixL4 {x0 x1 x2 x3 x4 : D} : dIx (.lst (x0 :: x1 :: x2 :: x3 :: x4 :: xs)) (.int 4) = .ok x4 := by
  unfold dIx
  simp only [show atI (x0 :: x1 :: x2 :: x3 :: x4 :: xs) 4 = some x4 from atI_nat (j := 4) rfl]
theorem ev_ixT4 {x0 x1 x2 x3 x4 : D} : dIx (.tup (x0 :: x1 :: x2 :: x3 :: x4 :: xs)) (.int 4) = .ok x4 := by
  unfold dIx
  simp only [show atI (x0 :: x1 :: x2 :: x3 :: x4 :: xs) 4 = some x4 from atI_nat (j := 4) rfl]
theorem ev_ixL5 {x0 x1 x2 x3 x4 x5 : D} : dIx (.lst (x0 :: x1 :: x2 :: x3 :: x4 :: x5 :: xs)) (.int 5) = .ok x5 := by
  unfold dIx
  simp only [show atI (x0 :: x1 :: x2 :: x3 :: x4 :: x5 :: xs) 5 = some x5 from atI_nat (j := 5) rfl]
theorem ev_ixT5 {x0 x1 x2 x3 x4 x5 : D} : dIx (.tup (x0 :: x1 :: x2 :: x3 :: x4 :: x5 :: xs)) (.int 5) = .ok x5 := by
  unfold dIx
  simp only [show atI (x0 :: x1 :: x2 :: x3 :: x4 :: x5 :: xs) 5 = some x5 from atI_nat (j := 5) rfl]
theorem ev_ixL6 {x0 x1 x2 x3 x4 x5 x6 : D} : dIx (.lst (x0 :: x1 :: x2 :: x3 :: x4 :: x5 :: x6 :: xs)) (.int 6) = .ok x6 := by
  unfold dIx
  simp only [show atI (x0 :: x1 :: x2 :: x3 :: x4 :: x5 :: x6 :: xs) 6 = some x6 from atI_nat (j := 6) rfl]
theorem ev_ixL7 {x0 x1 x2 x3 x4 x5 x6 x7 : D} : dIx (.lst (x0 :: x1 :: x2 :: x3 :: x4 :: x5 :: x6 :: x7 :: xs)) (.int 7) = .ok x7 := by
  unfold dIx
  simp only [show atI (x0 :: x1 :: x2 :: x3 :: x4 :: x5 :: x6 :: x7 :: xs) 7 = some x7 from atI_nat (j := 7) rfl]
theorem ev_ixL8 {x0 x1 x2 x3 x4 x5 x6 x7 x8 : D} : dIx (.lst (x0 :: x1 :: x2 :: x3 :: x4 :: x5 :: x6 :: x7 :: x8 :: xs)) (.int 8) = .ok x8 := by
  unfold dIx
  simp only [show atI (x0 :: x1 :: x2 :: x3 :: x4 :: x5 :: x6 :: x7 :: x8 :: xs) 8 = some x8 from atI_nat (j := 8) rfl]
theorem ev_ixL9 {x0 x1 x2 x3 x4 x5 x6 x7 x8 x9 : D} : dIx (.lst (x0 :: x1 :: x2 :: x3 :: x4 :: x5 :: x6 :: x7 :: x8 :: x9 :: xs)) (.int 9) = .ok x9 := by
  unfold dIx
  simp only [show atI (x0 :: x1 :: x2 :: x3 :: x4 :: x5 :: x6 :: x7 :: x8 :: x9 :: xs) 9 = some x9 from atI_nat (j := 9) rfl]
theorem ev_ixL10 {x0 x1 x2 x3 x4 x5 x6 x7 x8 x9 x10 : D} : dIx (.lst (x0 :: x1 :: x2 :: x3 :: x4 :: x5 :: x6 :: x7 :: x8 :: x9 :: x10 :: xs)) (.int 10) = .ok x10 := by
  unfold dIx
  simp only [show atI (x0 :: x1 :: x2 :: x3 :: x4 :: x5 :: x6 :: x7 :: x8 :: x9 :: x10 :: xs) 10 = some x10 from atI_nat (j := 10) rfl]
theorem ev_ixL11 {x0 x1 x2 x3 x4 x5 x6 x7 x8 x9 x10 x11 : D} : dIx (.lst (x0 :: x1 :: x2 :: x3 :: x4 :: x5 :: x6 :: x7 :: x8 :: x9 :: x10 :: x11 :: xs)) (.int 11) = .ok x11 := by
  unfold dIx
  simp only [show atI (x0 :: x1 :: x2 :: x3 :: x4 :: x5 :: x6 :: x7 :: x8 :: x9 :: x10 :: x11 :: xs) 11 = some x11 from atI_nat (j := 11) rfl]
theorem ev_ixL12 {x0 x1 x2 x3 x4 x5 x6 x7 x8 x9 x10 x11 x12 : D} : dIx (.lst (x0 :: x1 :: x2 :: x3 :: x4 :: x5 :: x6 :: x7 :: x8 :: x9 :: x10 :: x11 :: x12 :: xs)) (.int 12) = .ok x12 := by
  unfold dIx
  simp only [show atI (x0 :: x1 :: x2 :: x3 :: x4 :: x5 :: x6 :: x7 :: x8 :: x9 :: x10 :: x11 :: x12 :: xs) 12 = some x12 from atI_nat (j := 12) rfl]
theorem ev_ixL13 {x0 x1 x2 x3 x4 x5 x6 x7 x8 x9 x10 x11 x12 x13 : D} : dIx (.lst (x0 :: x1 :: x2 :: x3 :: x4 :: x5 :: x6 :: x7 :: x8 :: x9 :: x10 :: x11 :: x12 :: x13 :: xs)) (.int 13) = .ok x13 := by
  unfold dIx
  simp only [show atI (x0 :: x1 :: x2 :: x3 :: x4 :: x5 :: x6 :: x7 :: x8 :: x9 :: x10 :: x11 :: x12 :: x13 :: xs) 13 = some x13 from atI_nat (j := 13) rfl]
theorem ev_c0 : ((0 : Nat) : Int) = 0 := nrfl rfl
theorem ev_c1 : ((1 : Nat) : Int) = 1 := nrfl rfl
theorem ev_c2 : ((2 : Nat) : Int) = 2 := nrfl rfl
theorem ev_c3 : ((3 : Nat) : Int) = 3 := nrfl rfl
theorem ev_c4 : ((4 : Nat) : Int) = 4 := nrfl rfl
theorem ev_c5 : ((5 : Nat) : Int) = 5 := nrfl rfl
theorem ev_c6 : ((6 : Nat) : Int) = 6 := nrfl rfl
theorem ev_c7 : ((7 : Nat) : Int) = 7 := nrfl rfl
theorem ev_c8 : ((8 : Nat) : Int) = 8 := nrfl rfl
theorem ev_c9 : ((9 : Nat) : Int) = 9 := nrfl rfl
theorem ev_c10 : ((10 : Nat) : Int) = 10 := nrfl rfl
theorem ev_c11 : ((11 : Nat) : Int) = 11 := nrfl rfl
theorem ev_pt0 {x0 : D} : DL.putAt ρ i (x0 :: xs) d (.int 0) = .ok (.nx (ρ.set i (.ow (.lst (d :: xs))))) := by
  refine (ev_putAt (n := 0) ?_).trans rfl
  unfold ixN
  rw [if_pos (by decide), if_pos (by simp only [List.length_cons]; omega)]
  rfl
theorem ev_pt1 {x0 x1 : D} : DL.putAt ρ i (x0 :: x1 :: xs) d (.int 1) = .ok (.nx (ρ.set i (.ow (.lst (x0 :: d :: xs))))) := by
  refine (ev_putAt (n := 1) ?_).trans rfl
  unfold ixN
  rw [if_pos (by decide), if_pos (by simp only [List.length_cons]; omega)]
  rfl
theorem ev_pt2 {x0 x1 x2 : D} : DL.putAt ρ i (x0 :: x1 :: x2 :: xs) d (.int 2) = .ok (.nx (ρ.set i (.ow (.lst (x0 :: x1 :: d :: xs))))) := by
  refine (ev_putAt (n := 2) ?_).trans rfl
  unfold ixN
  rw [if_pos (by decide), if_pos (by simp only [List.length_cons]; omega)]
  rfl
theorem ev_pt3 {x0 x1 x2 x3 : D} : DL.putAt ρ i (x0 :: x1 :: x2 :: x3 :: xs) d (.int 3) = .ok (.nx (ρ.set i (.ow (.lst (x0 :: x1 :: x2 :: d :: xs))))) := by
  refine (ev_putAt (n := 3) ?_).trans rfl
  unfold ixN
  rw [if_pos (by decide), if_pos (by simp only [List.length_cons]; omega)]
  rfl
theorem ev_pt4 {x0 x1 x2 x3 x4 : D} : DL.putAt ρ i (x0 :: x1 :: x2 :: x3 :: x4 :: xs) d (.int 4) = .ok (.nx (ρ.set i (.ow (.lst (x0 :: x1 :: x2 :: x3 :: d :: xs))))) := by
  refine (ev_putAt (n := 4) ?_).trans rfl
  unfold ixN
  rw [if_pos (by decide), if_pos (by simp only [List.length_cons]; omega)]
  rfl
theorem ev_p60 : dPow (.int 10) (.int 60) = .ok (.int (N60 : Int)) := by
  have e : (10 : Int) ^ (60 : Int).toNat = (N60 : Int) := by decide
  rw [← e]
  rfl
end
def joinK (fa : Ev → Res (List D)) (ρ : Ev) (x : D) : Res D := match x with
  | .str z => (fa ρ).bind (joinD z)
  | _ => .stuck
theorem ev_join {f : Ev → Res D} {fa : Ev → Res (List D)} {ρ : Ev} : dJoin f fa ρ = (f ρ).bind (joinK fa ρ) := nrfl rfl
theorem ev_join1 {fa : Ev → Res (List D)} {ρ : Ev} {z : Str} : joinK fa ρ (.str z) = (fa ρ).bind (joinD z) := nrfl rfl
def repK (g : Ev → Res D) (ρ : Ev) (x : D) : Res D := match x with
  | .lst ds => (g ρ).bind (dRep (.lst ds))
  | _ => .stuck
theorem ev_rep {f g : Ev → Res D} {ρ : Ev} : repL f g ρ = (f ρ).bind (repK g ρ) := nrfl rfl
theorem ev_rep1 {g : Ev → Res D} {ρ : Ev} {ds : List D} : repK g ρ (.lst ds) = (g ρ).bind (dRep (.lst ds)) := nrfl rfl
theorem flat_rep {α : Type} {x : α} : ∀ {n : Nat}, (List.replicate n [x]).flatten = List.replicate n x
  | 0 => rfl
  | n + 1 => by rw [List.replicate_succ, List.flatten_cons, flat_rep, List.replicate_succ]; rfl
theorem ev_rep2 {x : D} {k : Int} (h : (decide (0 ≤ k) && decide (k ≤ 1000)) = true) : dRep (.lst [x]) (.int k) = .ok (.lst (List.replicate k.toNat x)) := by
  simp only [Bool.and_eq_true, decide_eq_true_eq] at h
  unfold dRep
  have : ([x] : List D).length * k.toNat ≤ line ∧ -9223372036854775808 ≤ k ∧ k < 9223372036854775808 := ⟨by
    have h2 : k.toNat ≤ 1000 := by omega
    show 1 * k.toNat ≤ line
    have : (1000 : Nat) ≤ line := by decide
    omega, by omega, by omega⟩
  simp only [if_pos this, flat_rep]
end Com
set_option Elab.async false
set_option linter.all false
set_option maxRecDepth 100000
namespace Com
open PySem L2 DL
end Com
set_option Elab.async false
set_option linter.all false
set_option maxRecDepth 100000
namespace Com
open PySem L2 DL
theorem sz_ok {sz : List Int} (h : (sz.all fun s => decide (0 < s) && decide (s ≤ (N60 : Int))) = true) : ∀ s ∈ sz, 0 < s ∧ s.natAbs < B9 := fun s hs => by
  have := List.all_eq_true.mp h s hs
  simp only [Bool.and_eq_true, decide_eq_true_eq] at this
  refine ⟨this.1, Nat.lt_of_le_of_lt (show s.natAbs ≤ N60 by omega) ?_⟩
  exact Nat.lt_of_lt_of_le (show N60 < 2 ^ 200 by decide) (by rw [B9_eq]; exact Nat.pow_le_pow_right (by decide) (by decide))
theorem cut_sub {α : Type} {F : α → D} {xs : List α} {lo hi : Option Int} : cutD (xs.map F) lo hi = ((xs.drop (HT.sIx xs.length 0 lo)).take (HT.sIx xs.length xs.length hi - HT.sIx xs.length 0 lo)).map F := by
  unfold cutD
  rw [List.length_map, ← List.map_drop, ← List.map_take]
theorem sIx_pos {n d : Nat} {v : Int} (hv : 0 ≤ v) : HT.sIx n d (some v) = min v.toNat n := by
  show (if v < 0 then _ else _) = _
  rw [if_neg (by omega)]
end Com
set_option Elab.async false
set_option linter.all false
set_option maxRecDepth 100000
namespace Com
open PySem L2 DL
section
variable {α β : Type}
theorem ev_exn {x : Exn} {f : α → Res β} : (Res.exn x : Res α).bind f = .exn x := nrfl rfl
end
def tryK (hit : Str → Bool) (ni : Nat) (sh : Ev → Res Fl) (ρ : Ev) (r : Res Fl) : Res Fl := match r with
  | .exn x => if hit x.cls = true then (sh (ρ.set ni (.sh (.exc x.cls)))).bind (outE ni) else .stuck
  | r => r
theorem ev_try {g : Ev → Res Fl} {hit : Str → Bool} {ni : Nat} {sh : Ev → Res Fl} {ρ : Ev} : sTry g hit ni sh ρ = tryK hit ni sh ρ (g ρ) := nrfl rfl
theorem ev_try1 {hit : Str → Bool} {ni : Nat} {sh : Ev → Res Fl} {ρ : Ev} {r : Fl} : tryK hit ni sh ρ (.ok r) = .ok r := nrfl rfl
theorem ev_try2 {hit : Str → Bool} {ni : Nat} {sh : Ev → Res Fl} {ρ : Ev} {c : Str} (h : hit c = true) : tryK hit ni sh ρ (.exn ⟨c, []⟩) = (sh (ρ.set ni (.sh (.exc c)))).bind (outE ni) := if_pos h
theorem ev_out {ni : Nat} {ρ : Ev} : outE ni (.nx ρ) = .ok (.nx (ρ.set ni .no)) := nrfl rfl
def setCK (i : Nat) (m : List D → Res D) (ρ : Ev) (r : Res (List D)) : Res Fl := match r with
  | .ok ds => (m ds).bind (setK i ρ)
  | _ => .stuck
theorem ev_setC {i : Nat} {fa : Ev → Res (List D)} {m : List D → Res D} {ρ : Ev} : sSetC i fa m ρ = setCK i m ρ (fa ρ) := nrfl rfl
theorem ev_setC1 {i : Nat} {m : List D → Res D} {ρ : Ev} {ds : List D} : setCK i m ρ (.ok ds) = (m ds).bind (setK i ρ) := nrfl rfl
def raiseK (x : Str) (ds : List D) : Res Fl := if ds.length ≤ line then .exn ⟨x, []⟩ else .stuck
theorem ev_raise {x : Str} {fa : Ev → Res (List D)} {ρ : Ev} : sRaise x fa ρ = (fa (shr ρ)).bind (raiseK x) := nrfl rfl
theorem ev_raise1 {x : Str} {d : D} : raiseK x [d] = .exn ⟨x, []⟩ := if_pos (show 1 ≤ line by decide)
theorem ev_isX {tab : Str → Option Bool} {c : Str} {b : Bool} (h : tab c = some b) : dIsX tab (.exc c) = .ok (.bl b) := by unfold dIsX; simp only [h]
def b_ratioX : Ev → Res Fl :=
  (sSeq (sIf (dOr (dNot (bindA (aCons (dVar 0) aNil) m_is_whole)) (dNot (bindA (aCons (dVar 1) aNil) m_is_whole)))
  (sSeq (sRaise "NoNumber" (aCons (dC (.str "a fraction is made of two whole numbers")) aNil))
  sNext)
  sNext)
  (sSeq (sIf (bind2 (dVar 1) (dC (.int 0)) dEq)
  (sSeq (sRaise "NoNumber" (aCons (dC (.str "a fraction's second number is not 0")) aNil))
  sNext)
  sNext)
  (sSeq (sSet 2 (bindA (aCons (dVar 0) (aCons (dVar 1) aNil)) m_common_divisor))
  (sSeq (sIf (bind2 (dVar 1) (dC (.int 0)) dLt)
  (sSeq (sSet 2 (bind1 (dVar 2) dNeg))
  sNext)
  sNext)
  (sSeq (sRet (bindA (aCons (bind2 (dVar 0) (dVar 2) dDiv) (aCons (bind2 (dVar 1) (dVar 2) dDiv) aNil)) mTup))
  sNext)))))
def m_ratioX : List D → Res D := runD 3 b_ratioX
theorem ratio_zero {a : Int} : m_ratioX [.int a, .int 0] = .exn ⟨"NoNumber", []⟩ := by
  simp only [m_ratioX, b_ratioX, ev_ok, ev_seq, ev_seq1, ev_seq2, ev_seq3, ev_seq4, ev_next, ev_set, ev_set1, ev_ret, ev_ret1, ev_retN, ev_drop, ev_drop1, ev_if, ev_if1, ev_if2, ev_own, ev_own1, ev_app, ev_ownS, ev_appL, ev_put, ev_put1, ev_putL, ev_putL1, ev_frz, ev_unp, ev_par, ev_par1, ev_b1, ev_b2, ev_b21, ev_bA, ev_nil, ev_cons, ev_cons1, ev_cons2, ev_and, ev_and1, ev_and2, ev_or, ev_or1, ev_or2, ev_not, ev_not1, ev_ifx, ev_ifx1, ev_ifx2, ev_var, ev_var1, ev_C, ev_shr0, ev_shr, ev_shr1, ev_shr2, ev_shr3, ev_run, ev_run1, ev_run2, ev_os, ev_os1, ev_on, ev_sl, ev_sl0, ev_sl1, ev_sl2, ev_for, ev_for1, ev_chain, ev_ch, ev_ch1, ev_ch2, ev_ch3, ev_iop, ev_add, ev_neg, ev_m1, ev_m2, ev_lenL, ev_lenT, ev_p60, eq_int, ne_int, List.map_cons, List.map_nil, List.length_cons, List.length_nil, List.replicate_succ, List.replicate_zero, List.nil_append, List.cons_append, List.getElem?_cons_zero, List.getElem?_cons_succ, List.set_cons_zero, List.set_cons_succ, Nat.sub_zero, Nat.reduceSub, Nat.reduceAdd, Nat.add_zero, Nat.zero_add, Bool.not_true, Bool.not_false, ev_tup, ev_lst, ev_addL, ev_app1, ev_appL1, ev_mod, ev_unpL, ev_unpT, ev_sa, ev_sa0, ev_un, ev_un1, ev_un2, ev_un3, ev_ixL0, ev_ixL1, ev_ixL2, ev_ixL3, ev_ixL4, ev_ixL5, ev_ixL6, ev_ixL7, ev_ixL8, ev_ixL9, ev_ixL10, ev_ixL11, ev_ixL12, ev_ixL13, ev_ixT0, ev_ixT1, ev_ixT2, ev_ixT3, ev_ixT4, ev_ixT5, decide_true, decide_false, Nat.reduceLeDiff, Nat.reduceBEq, Int.reduceBEq, beq_self_eq_true, dOne, mYes, ev_is_bool_non, ev_is_bool_bl, ev_is_bool_int, ev_is_bool_str, ev_is_bool_tup, ev_is_bool_lst, ev_is_bool_dic, ev_is_int_non, ev_is_int_bl, ev_is_int_int, ev_is_int_str, ev_is_int_tup, ev_is_int_lst, ev_is_int_dic, ev_is_str_non, ev_is_str_bl, ev_is_str_int, ev_is_str_str, ev_is_str_tup, ev_is_str_lst, ev_is_str_dic, ev_is_tuple_non, ev_is_tuple_bl, ev_is_tuple_int, ev_is_tuple_str, ev_is_tuple_tup, ev_is_tuple_lst, ev_is_tuple_dic, ev_is_list_non, ev_is_list_bl, ev_is_list_int, ev_is_list_str, ev_is_list_tup, ev_is_list_lst, ev_is_list_dic, ev_is_dict_non, ev_is_dict_bl, ev_is_dict_int, ev_is_dict_str, ev_is_dict_tup, ev_is_dict_lst, ev_is_dict_dic, ev_isN_non, ev_notN_non, ev_isN_bl, ev_notN_bl, ev_isN_int, ev_notN_int, ev_isN_str, ev_notN_str, ev_isN_tup, ev_notN_tup, ev_isN_lst, ev_notN_lst, ev_isN_dic, ev_notN_dic, ev_c0, ev_c1, ev_c2, ev_c3, ev_c4, ev_c5, ev_c6, ev_c7, ev_c8, ev_c9, ev_c10, ev_c11, Int.reduceLT, Int.reduceLE, Int.reduceSub, Int.reduceAdd, Int.reduceMul, Int.reduceNeg, ev_join, ev_join1, ev_pt0, ev_pt1, ev_pt2, ev_pt3, ev_pt4, ev_rep, ev_rep1, ev_rep2, Int.reduceToNat, Bool.and_self, is_whole_eq, isI, ev_raise, ev_raise1, ev_exn]
def lowS (a b : Int) : Fra := if b < 0 then low (-a) (-b) else low a b
theorem fdiv_negG {a g : Int} (hg : 0 < g) (hd : g ∣ a) : a.fdiv (-g) = (-a) / g := by
  obtain ⟨k, rfl⟩ := hd
  have e1 : (g * k).fdiv (-g) = -k := by
    rw [show g * k = (-g) * (-k) by rw [Int.neg_mul_neg]]
    exact Int.mul_fdiv_cancel_left (-k) (by omega)
  have e2 : (-(g * k)) / g = -k := by
    rw [show -(g * k) = g * (-k) by rw [Int.mul_neg]]
    exact Int.mul_ediv_cancel_left (-k) (by omega)
  rw [e1, e2]
theorem ratio_okX {a b : Int} (hb : b ≠ 0) (h1 : a.natAbs < B13) (h2 : b.natAbs < B13) : m_ratioX [.int a, .int b] = .ok (fr (lowS a b)) := by
  have hg := gcd_pos (a := a) (b := b) hb
  have hz : (b == 0) = false := beq_eq_false_iff_ne.mpr hb
  have d1 : divOk a (Int.gcd a b : Int) = true := divB13 (by omega) h1
  have d2 : divOk b (Int.gcd a b : Int) = true := divB13 (by omega) h2
  have d3 : divOk a (-(Int.gcd a b : Int)) = true := divB13 (by omega) h1
  have d4 : divOk b (-(Int.gcd a b : Int)) = true := divB13 (by omega) h2
  by_cases hn : b < 0
  · simp only [m_ratioX, b_ratioX, ev_ok, ev_seq, ev_seq1, ev_seq2, ev_seq3, ev_seq4, ev_next, ev_set, ev_set1, ev_ret, ev_ret1, ev_retN, ev_drop, ev_drop1, ev_if, ev_if1, ev_if2, ev_own, ev_own1, ev_app, ev_ownS, ev_appL, ev_put, ev_put1, ev_putL, ev_putL1, ev_frz, ev_unp, ev_par, ev_par1, ev_b1, ev_b2, ev_b21, ev_bA, ev_nil, ev_cons, ev_cons1, ev_cons2, ev_and, ev_and1, ev_and2, ev_or, ev_or1, ev_or2, ev_not, ev_not1, ev_ifx, ev_ifx1, ev_ifx2, ev_var, ev_var1, ev_C, ev_shr0, ev_shr, ev_shr1, ev_shr2, ev_shr3, ev_run, ev_run1, ev_run2, ev_os, ev_os1, ev_on, ev_sl, ev_sl0, ev_sl1, ev_sl2, ev_for, ev_for1, ev_chain, ev_ch, ev_ch1, ev_ch2, ev_ch3, ev_iop, ev_add, ev_neg, ev_m1, ev_m2, ev_lenL, ev_lenT, ev_p60, eq_int, ne_int, List.map_cons, List.map_nil, List.length_cons, List.length_nil, List.replicate_succ, List.replicate_zero, List.nil_append, List.cons_append, List.getElem?_cons_zero, List.getElem?_cons_succ, List.set_cons_zero, List.set_cons_succ, Nat.sub_zero, Nat.reduceSub, Nat.reduceAdd, Nat.add_zero, Nat.zero_add, Bool.not_true, Bool.not_false, ev_tup, ev_lst, ev_addL, ev_app1, ev_appL1, ev_mod, ev_unpL, ev_unpT, ev_sa, ev_sa0, ev_un, ev_un1, ev_un2, ev_un3, ev_ixL0, ev_ixL1, ev_ixL2, ev_ixL3, ev_ixL4, ev_ixL5, ev_ixL6, ev_ixL7, ev_ixL8, ev_ixL9, ev_ixL10, ev_ixL11, ev_ixL12, ev_ixL13, ev_ixT0, ev_ixT1, ev_ixT2, ev_ixT3, ev_ixT4, ev_ixT5, decide_true, decide_false, Nat.reduceLeDiff, Nat.reduceBEq, Int.reduceBEq, beq_self_eq_true, dOne, mYes, ev_is_bool_non, ev_is_bool_bl, ev_is_bool_int, ev_is_bool_str, ev_is_bool_tup, ev_is_bool_lst, ev_is_bool_dic, ev_is_int_non, ev_is_int_bl, ev_is_int_int, ev_is_int_str, ev_is_int_tup, ev_is_int_lst, ev_is_int_dic, ev_is_str_non, ev_is_str_bl, ev_is_str_int, ev_is_str_str, ev_is_str_tup, ev_is_str_lst, ev_is_str_dic, ev_is_tuple_non, ev_is_tuple_bl, ev_is_tuple_int, ev_is_tuple_str, ev_is_tuple_tup, ev_is_tuple_lst, ev_is_tuple_dic, ev_is_list_non, ev_is_list_bl, ev_is_list_int, ev_is_list_str, ev_is_list_tup, ev_is_list_lst, ev_is_list_dic, ev_is_dict_non, ev_is_dict_bl, ev_is_dict_int, ev_is_dict_str, ev_is_dict_tup, ev_is_dict_lst, ev_is_dict_dic, ev_isN_non, ev_notN_non, ev_isN_bl, ev_notN_bl, ev_isN_int, ev_notN_int, ev_isN_str, ev_notN_str, ev_isN_tup, ev_notN_tup, ev_isN_lst, ev_notN_lst, ev_isN_dic, ev_notN_dic, ev_c0, ev_c1, ev_c2, ev_c3, ev_c4, ev_c5, ev_c6, ev_c7, ev_c8, ev_c9, ev_c10, ev_c11, Int.reduceLT, Int.reduceLE, Int.reduceSub, Int.reduceAdd, Int.reduceMul, Int.reduceNeg, ev_join, ev_join1, ev_pt0, ev_pt1, ev_pt2, ev_pt3, ev_pt4, ev_rep, ev_rep1, ev_rep2, Int.reduceToNat, Bool.and_self, is_whole_eq, isI, hz, common_eq, decide_eq_true hn, ev_div d3, ev_div d4]
    rw [fdiv_negG hg (Int.gcd_dvd_left a b), fdiv_negG hg (Int.gcd_dvd_right a b)]
    unfold lowS low fr frac
    rw [if_pos hn, Int.gcd_neg, Int.neg_gcd]
  · simp only [m_ratioX, b_ratioX, ev_ok, ev_seq, ev_seq1, ev_seq2, ev_seq3, ev_seq4, ev_next, ev_set, ev_set1, ev_ret, ev_ret1, ev_retN, ev_drop, ev_drop1, ev_if, ev_if1, ev_if2, ev_own, ev_own1, ev_app, ev_ownS, ev_appL, ev_put, ev_put1, ev_putL, ev_putL1, ev_frz, ev_unp, ev_par, ev_par1, ev_b1, ev_b2, ev_b21, ev_bA, ev_nil, ev_cons, ev_cons1, ev_cons2, ev_and, ev_and1, ev_and2, ev_or, ev_or1, ev_or2, ev_not, ev_not1, ev_ifx, ev_ifx1, ev_ifx2, ev_var, ev_var1, ev_C, ev_shr0, ev_shr, ev_shr1, ev_shr2, ev_shr3, ev_run, ev_run1, ev_run2, ev_os, ev_os1, ev_on, ev_sl, ev_sl0, ev_sl1, ev_sl2, ev_for, ev_for1, ev_chain, ev_ch, ev_ch1, ev_ch2, ev_ch3, ev_iop, ev_add, ev_neg, ev_m1, ev_m2, ev_lenL, ev_lenT, ev_p60, eq_int, ne_int, List.map_cons, List.map_nil, List.length_cons, List.length_nil, List.replicate_succ, List.replicate_zero, List.nil_append, List.cons_append, List.getElem?_cons_zero, List.getElem?_cons_succ, List.set_cons_zero, List.set_cons_succ, Nat.sub_zero, Nat.reduceSub, Nat.reduceAdd, Nat.add_zero, Nat.zero_add, Bool.not_true, Bool.not_false, ev_tup, ev_lst, ev_addL, ev_app1, ev_appL1, ev_mod, ev_unpL, ev_unpT, ev_sa, ev_sa0, ev_un, ev_un1, ev_un2, ev_un3, ev_ixL0, ev_ixL1, ev_ixL2, ev_ixL3, ev_ixL4, ev_ixL5, ev_ixL6, ev_ixL7, ev_ixL8, ev_ixL9, ev_ixL10, ev_ixL11, ev_ixL12, ev_ixL13, ev_ixT0, ev_ixT1, ev_ixT2, ev_ixT3, ev_ixT4, ev_ixT5, decide_true, decide_false, Nat.reduceLeDiff, Nat.reduceBEq, Int.reduceBEq, beq_self_eq_true, dOne, mYes, ev_is_bool_non, ev_is_bool_bl, ev_is_bool_int, ev_is_bool_str, ev_is_bool_tup, ev_is_bool_lst, ev_is_bool_dic, ev_is_int_non, ev_is_int_bl, ev_is_int_int, ev_is_int_str, ev_is_int_tup, ev_is_int_lst, ev_is_int_dic, ev_is_str_non, ev_is_str_bl, ev_is_str_int, ev_is_str_str, ev_is_str_tup, ev_is_str_lst, ev_is_str_dic, ev_is_tuple_non, ev_is_tuple_bl, ev_is_tuple_int, ev_is_tuple_str, ev_is_tuple_tup, ev_is_tuple_lst, ev_is_tuple_dic, ev_is_list_non, ev_is_list_bl, ev_is_list_int, ev_is_list_str, ev_is_list_tup, ev_is_list_lst, ev_is_list_dic, ev_is_dict_non, ev_is_dict_bl, ev_is_dict_int, ev_is_dict_str, ev_is_dict_tup, ev_is_dict_lst, ev_is_dict_dic, ev_isN_non, ev_notN_non, ev_isN_bl, ev_notN_bl, ev_isN_int, ev_notN_int, ev_isN_str, ev_notN_str, ev_isN_tup, ev_notN_tup, ev_isN_lst, ev_notN_lst, ev_isN_dic, ev_notN_dic, ev_c0, ev_c1, ev_c2, ev_c3, ev_c4, ev_c5, ev_c6, ev_c7, ev_c8, ev_c9, ev_c10, ev_c11, Int.reduceLT, Int.reduceLE, Int.reduceSub, Int.reduceAdd, Int.reduceMul, Int.reduceNeg, ev_join, ev_join1, ev_pt0, ev_pt1, ev_pt2, ev_pt3, ev_pt4, ev_rep, ev_rep1, ev_rep2, Int.reduceToNat, Bool.and_self, is_whole_eq, isI, hz, common_eq, decide_eq_false hn, ev_div d1, ev_div d2]
    rw [fdiv_dvd hg, fdiv_dvd hg]
    unfold lowS low fr frac
    rw [if_neg hn]
theorem lowS_low {a b : Int} (hb : b ≠ 0) : Low (lowS a b) := by
  unfold lowS
  by_cases hn : b < 0
  · rw [if_pos hn]; exact low_low (by omega)
  · rw [if_neg hn]; exact low_low (by omega)
theorem lowS_rel {a b : Int} : (lowS a b).1 * b = a * (lowS a b).2 := by
  unfold lowS
  by_cases hn : b < 0
  · rw [if_pos hn]
    have := low_rel (a := -a) (b := -b)
    rw [Int.mul_neg, Int.neg_mul] at this
    omega
  · rw [if_neg hn]; exact low_rel
theorem lowS_le1 {a b : Int} : (lowS a b).1.natAbs ≤ a.natAbs := by
  unfold lowS
  by_cases hn : b < 0
  · rw [if_pos hn]; exact Nat.le_trans low_le1 (by rw [Int.natAbs_neg]; exact Nat.le_refl _)
  · rw [if_neg hn]; exact low_le1
theorem lowS_le2 {a b : Int} : (lowS a b).2.natAbs ≤ b.natAbs := by
  unfold lowS
  by_cases hn : b < 0
  · rw [if_pos hn]; exact Nat.le_trans low_le2 (by rw [Int.natAbs_neg]; exact Nat.le_refl _)
  · rw [if_neg hn]; exact low_le2
end Com
set_option Elab.async false
set_option linter.all false
set_option maxRecDepth 100000
namespace K02
open PySem L2 DL
def l_CutError : List (Str × Bool) := [("NoNumber", true)]
def tab_1 : Str → Option Bool := tabOf [("NoNumber", false)]
def tab_2 : Str → Option Bool := tabOf [("NoNumber", false)]
def tab_3 : Str → Option Bool := tabOf [("NoNumber", false)]
def tab_4 : Str → Option Bool := tabOf [("NoNumber", false)]
def tab_5 : Str → Option Bool := tabOf [("NoNumber", true)]
def tab_6 : Str → Option Bool := tabOf [("NoNumber", true)]
def b__law_draws : Ev → Res Fl :=
  (sSeq (sSet 2 (bindA (aCons (dVar 0) (aCons (bind2 (bind1 (dC (.int 1)) dNeg) (dVar 0) dSub) aNil)) (m2 dMax)))
  (sSeq (sSet 3 (dVar 2))
  (sSeq (sOwn 4 (bindA aNil mLst))
  (sSeq (sForR (bindA (aCons (dVar 1) aNil) (m1 dLen)) (gSet 5)
  (sSeq (sIf (dAnd (bind2 (dVar 2) (bind2 (dC (.int 10)) (dC (.int 18)) dPow) dGe) (bind2 (dVar 3) (dC (.int 0)) dGt))
  (sSeq (sAppend 4 (bind2 (dVar 3) (bind2 (dVar 1) (dVar 5) dIx) dMod))
  (sSeq (sSet 3 (bind2 (dVar 3) (bind2 (dVar 1) (dVar 5) dIx) dDiv))
  sNext))
  (sSeq (sSet 6 (bind2 (bind2 (bind2 (bind2 (bind2 (bind2 (dVar 2) (dC (.int 2147483647)) dMod) (bind2 (bind2 (dC (.int 1009)) (dVar 5) dMulL) (dVar 5) dMulL) dAdd) (bind2 (dC (.int 31)) (dVar 5) dMulL) dAdd) (dC (.int 7)) dAdd) (dC (.int 48271)) dMulL) (dC (.int 2147483629)) dMod))
  (sSeq (sSet 6 (bind2 (bind2 (bind2 (bind2 (bind2 (dVar 6) (dVar 6) dMulL) (dC (.int 2147483647)) dMod) (dVar 5) dAdd) (dC (.int 39373)) dMulL) (dC (.int 2147483587)) dMod))
  (sSeq (sAppend 4 (bind2 (bind2 (dVar 6) (dC (.int 8)) dDiv) (bind2 (dVar 1) (dVar 5) dIx) dMod))
  sNext))))
  sNext))
  (sSeq (sRet (dVar 4))
  sNext)))))
def m__law_draws : List D → Res D := runD 7 b__law_draws
def b__law_divisor : Ev → Res Fl :=
  (sSeq (sWhile (fuelInt 1) (bind2 (dVar 1) (dC (.int 0)) dNe)
  (sSeq (sPar 0 1 (aCons (dVar 1) (aCons (bind2 (dVar 0) (dVar 1) dMod) aNil)))
  sNext))
  (sSeq (sRet (bindA (aCons (dVar 0) aNil) (m1 dAbs)))
  sNext))
def m__law_divisor : List D → Res D := runD 2 b__law_divisor
def b__law_lowest : Ev → Res Fl :=
  (sSeq (sSet 2 (bindA (aCons (dVar 0) (aCons (dVar 1) aNil)) m__law_divisor))
  (sSeq (sRet (bindA (aCons (bind2 (dVar 0) (dVar 2) dDiv) (aCons (bind2 (dVar 1) (dVar 2) dDiv) aNil)) mTup))
  sNext))
def m__law_lowest : List D → Res D := runD 3 b__law_lowest
def b__law_drawn : Ev → Res Fl :=
  (sSeq (sUnp [1, 2, 3, 4, 5] (bindA (aCons (dVar 0) (aCons (bindA (aCons (dC (.int 4)) (aCons (dC (.int 2)) (aCons (dC (.int 16)) (aCons (bind2 (dC (.int 10)) (dC (.int 60)) dPow) (aCons (bind2 (bind2 (dC (.int 10)) (dC (.int 60)) dPow) (dC (.int 1)) dSub) aNil))))) mLst) aNil)) m__law_draws))
  (sSeq (sIf (bind2 (dVar 1) (dC (.int 1)) dEq)
  (sSeq (sSet 4 (bind2 (dVar 4) (dC (.int 7)) dMod))
  (sSeq (sSet 5 (bind2 (dVar 5) (dC (.int 6)) dMod))
  sNext))
  sNext)
  (sSeq (sSet 6 (bindA (aCons (dVar 4) (aCons (bind2 (dC (.int 1)) (dVar 5) dAdd) aNil)) m__law_lowest))
  (sSeq (sIf (bind2 (dVar 2) (dC (.int 1)) dEq)
  (sSeq (sSet 6 (bindA (aCons (bind2 (dC (.int 0)) (bind2 (dVar 6) (dC (.int 0)) dIx) dSub) (aCons (bind2 (dVar 6) (dC (.int 1)) dIx) aNil)) mTup))
  sNext)
  sNext)
  (sSeq (sRet (bindA (aCons (dVar 6) (aCons (dVar 3) aNil)) mTup))
  sNext)))))
def m__law_drawn : List D → Res D := runD 7 b__law_drawn
def b__law_second : Ev → Res Fl :=
  (sSeq (sIf (bind2 (dVar 2) (dC (.int 1)) dEq)
  (sSeq (sRet (dVar 0))
  sNext)
  sNext)
  (sSeq (sIf (bind2 (dVar 2) (dC (.int 2)) dEq)
  (sSeq (sRet (bindA (aCons (bind2 (dC (.int 0)) (bind2 (dVar 0) (dC (.int 0)) dIx) dSub) (aCons (bind2 (dVar 0) (dC (.int 1)) dIx) aNil)) mTup))
  sNext)
  sNext)
  (sSeq (sIf (dAnd (bind2 (dVar 2) (dC (.int 3)) dEq) (bind2 (bind2 (dVar 0) (dC (.int 0)) dIx) (dC (.int 0)) dGt))
  (sSeq (sRet (bindA (aCons (bind2 (dVar 0) (dC (.int 1)) dIx) (aCons (bind2 (dVar 0) (dC (.int 0)) dIx) aNil)) mTup))
  sNext)
  sNext)
  (sSeq (sIf (bind2 (dVar 2) (dC (.int 4)) dEq)
  (sSeq (sRet (bindA (aCons (dC (.int 0)) (aCons (dC (.int 1)) aNil)) mTup))
  sNext)
  sNext)
  (sSeq (sRet (dVar 1))
  sNext)))))
def m__law_second : List D → Res D := runD 3 b__law_second
def b__law_whole : Ev → Res Fl :=
  (sSeq (sRet (dAnd (bind1 (dVar 0) (dIsI "int")) (dNot (bind1 (dVar 0) (dIsI "bool")))))
  sNext)
def m__law_whole : List D → Res D := runD 1 b__law_whole
def b__law_made : Ev → Res Fl :=
  (sSeq (sIf (dOr (dNot (bind1 (dVar 0) (dIsI "tuple"))) (bind2 (bindA (aCons (dVar 0) aNil) (m1 dLen)) (dC (.int 2)) dNe))
  (sSeq (sRet (dC (.bl false)))
  sNext)
  sNext)
  (sSeq (sIf (dOr (dNot (bindA (aCons (bind2 (dVar 0) (dC (.int 0)) dIx) aNil) m__law_whole)) (dOr (dNot (bindA (aCons (bind2 (dVar 0) (dC (.int 1)) dIx) aNil) m__law_whole)) (bind2 (bind2 (dVar 0) (dC (.int 1)) dIx) (dC (.int 1)) dLt)))
  (sSeq (sRet (dC (.bl false)))
  sNext)
  sNext)
  (sSeq (sRet (dAnd (bind2 (bindA (aCons (bind2 (dVar 0) (dC (.int 0)) dIx) (aCons (bind2 (dVar 0) (dC (.int 1)) dIx) aNil)) m__law_divisor) (dC (.int 1)) dEq) (bind2 (bind2 (bind2 (dVar 0) (dC (.int 0)) dIx) (dVar 2) dMulL) (bind2 (dVar 1) (bind2 (dVar 0) (dC (.int 1)) dIx) dMulL) dEq)))
  sNext)))
def m__law_made : List D → Res D := runD 3 b__law_made
def b_is_whole : Ev → Res Fl :=
  (sSeq (sRet (dAnd (bind1 (dVar 0) (dIsI "int")) (dNot (bind1 (dVar 0) (dIsI "bool")))))
  sNext)
def m_is_whole : List D → Res D := runD 1 b_is_whole
def b_common_divisor : Ev → Res Fl :=
  (sSeq (sSet 2 (bindA (aCons (dVar 0) aNil) (m1 dAbs)))
  (sSeq (sSet 3 (bindA (aCons (dVar 1) aNil) (m1 dAbs)))
  (sSeq (sWhile (fuelInt 3) (bind2 (dVar 3) (dC (.int 0)) dNe)
  (sSeq (sSet 4 (bind2 (dVar 2) (dVar 3) dMod))
  (sSeq (sSet 2 (dVar 3))
  (sSeq (sSet 3 (dVar 4))
  sNext))))
  (sSeq (sRet (dVar 2))
  sNext))))
def m_common_divisor : List D → Res D := runD 5 b_common_divisor
def b_ratio : Ev → Res Fl :=
  (sSeq (sIf (dOr (dNot (bindA (aCons (dVar 0) aNil) m_is_whole)) (dNot (bindA (aCons (dVar 1) aNil) m_is_whole)))
  (sSeq (sRaise "NoNumber" (aCons (dC (.str "a fraction is made of two whole numbers")) aNil))
  sNext)
  sNext)
  (sSeq (sIf (bind2 (dVar 1) (dC (.int 0)) dEq)
  (sSeq (sRaise "NoNumber" (aCons (dC (.str "a fraction's second number is not 0")) aNil))
  sNext)
  sNext)
  (sSeq (sSet 2 (bindA (aCons (dVar 0) (aCons (dVar 1) aNil)) m_common_divisor))
  (sSeq (sIf (bind2 (dVar 1) (dC (.int 0)) dLt)
  (sSeq (sSet 2 (bind1 (dVar 2) dNeg))
  sNext)
  sNext)
  (sSeq (sRet (bindA (aCons (bind2 (dVar 0) (dVar 2) dDiv) (aCons (bind2 (dVar 1) (dVar 2) dDiv) aNil)) mTup))
  sNext)))))
def m_ratio : List D → Res D := runD 3 b_ratio
def b_plus : Ev → Res Fl :=
  (sSeq (sRet (bindA (aCons (bind2 (bind2 (bind2 (dVar 0) (dC (.int 0)) dIx) (bind2 (dVar 1) (dC (.int 1)) dIx) dMulL) (bind2 (bind2 (dVar 1) (dC (.int 0)) dIx) (bind2 (dVar 0) (dC (.int 1)) dIx) dMulL) dAdd) (aCons (bind2 (bind2 (dVar 0) (dC (.int 1)) dIx) (bind2 (dVar 1) (dC (.int 1)) dIx) dMulL) aNil)) m_ratio))
  sNext)
def m_plus : List D → Res D := runD 2 b_plus
def b_minus : Ev → Res Fl :=
  (sSeq (sRet (bindA (aCons (bind2 (bind2 (bind2 (dVar 0) (dC (.int 0)) dIx) (bind2 (dVar 1) (dC (.int 1)) dIx) dMulL) (bind2 (bind2 (dVar 1) (dC (.int 0)) dIx) (bind2 (dVar 0) (dC (.int 1)) dIx) dMulL) dSub) (aCons (bind2 (bind2 (dVar 0) (dC (.int 1)) dIx) (bind2 (dVar 1) (dC (.int 1)) dIx) dMulL) aNil)) m_ratio))
  sNext)
def m_minus : List D → Res D := runD 2 b_minus
def b_times : Ev → Res Fl :=
  (sSeq (sRet (bindA (aCons (bind2 (bind2 (dVar 0) (dC (.int 0)) dIx) (bind2 (dVar 1) (dC (.int 0)) dIx) dMulL) (aCons (bind2 (bind2 (dVar 0) (dC (.int 1)) dIx) (bind2 (dVar 1) (dC (.int 1)) dIx) dMulL) aNil)) m_ratio))
  sNext)
def m_times : List D → Res D := runD 2 b_times
def b_over : Ev → Res Fl :=
  (sSeq (sRet (bindA (aCons (bind2 (bind2 (dVar 0) (dC (.int 0)) dIx) (bind2 (dVar 1) (dC (.int 1)) dIx) dMulL) (aCons (bind2 (bind2 (dVar 0) (dC (.int 1)) dIx) (bind2 (dVar 1) (dC (.int 0)) dIx) dMulL) aNil)) m_ratio))
  sNext)
def m_over : List D → Res D := runD 2 b_over
def b__law_other : Ev → Res Fl :=
  (sSeq (sIf (bind1 (dVar 0) (dIsX tab_1))
  (sSeq (sRet (dC (.bl true)))
  sNext)
  sNext)
  (sSeq (sIf (bind1 (dVar 0) (dIsX tab_2))
  (sSeq (sRet (dC (.bl true)))
  sNext)
  sNext)
  (sSeq (sIf (bind1 (dVar 0) (dIsX tab_3))
  (sSeq (sRet (dC (.bl true)))
  sNext)
  sNext)
  (sSeq (sRet (bind1 (dVar 0) (dIsX tab_4)))
  sNext))))
def m__law_other : List D → Res D := runD 1 b__law_other
def b__law_over : Ev → Res Fl :=
  (sSeq (sSet 2 (dC (.non)))
  (sSeq (sSet 3 (dC (.bl false)))
  (sSeq (sSet 4 (dC (.bl true)))
  (sSeq (sTry (sSetC 2 (aCons (dVar 0) (aCons (dVar 1) aNil)) m_over) (hitOf l_CutError) 5
  (sSeq (sSet 3 (dC (.bl true)))
  (sSeq (sSet 4 (dAnd (bind1 (dVar 5) (dIsX tab_5)) (dAnd (bind1 (dVar 5) (dIsX tab_6)) (dNot (bindA (aCons (dVar 5) aNil) m__law_other)))))
  sNext)))
  (sSeq (sIf (bind2 (bind2 (dVar 1) (dC (.int 0)) dIx) (dC (.int 0)) dEq)
  (sSeq (sRet (dAnd (dVar 3) (dVar 4)))
  sNext)
  sNext)
  (sSeq (sRet (dAnd (dNot (dVar 3)) (bindA (aCons (dVar 2) (aCons (bind2 (bind2 (dVar 0) (dC (.int 0)) dIx) (bind2 (dVar 1) (dC (.int 1)) dIx) dMulL) (aCons (bind2 (bind2 (dVar 0) (dC (.int 1)) dIx) (bind2 (dVar 1) (dC (.int 0)) dIx) dMulL) aNil))) m__law_made)))
  sNext))))))
def m__law_over : List D → Res D := runD 6 b__law_over
def b__law_right : Ev → Res Fl :=
  (sSeq (sSet 2 (bind2 (bind2 (dVar 0) (dC (.int 1)) dIx) (bind2 (dVar 1) (dC (.int 1)) dIx) dMulL))
  (sSeq (sIf (dNot (bindA (aCons (bindA (aCons (dVar 0) (aCons (dVar 1) aNil)) (noX m_plus)) (aCons (bind2 (bind2 (bind2 (dVar 0) (dC (.int 0)) dIx) (bind2 (dVar 1) (dC (.int 1)) dIx) dMulL) (bind2 (bind2 (dVar 1) (dC (.int 0)) dIx) (bind2 (dVar 0) (dC (.int 1)) dIx) dMulL) dAdd) (aCons (dVar 2) aNil))) m__law_made))
  (sSeq (sRet (dC (.bl false)))
  sNext)
  sNext)
  (sSeq (sIf (dNot (bindA (aCons (bindA (aCons (dVar 0) (aCons (dVar 1) aNil)) (noX m_minus)) (aCons (bind2 (bind2 (bind2 (dVar 0) (dC (.int 0)) dIx) (bind2 (dVar 1) (dC (.int 1)) dIx) dMulL) (bind2 (bind2 (dVar 1) (dC (.int 0)) dIx) (bind2 (dVar 0) (dC (.int 1)) dIx) dMulL) dSub) (aCons (dVar 2) aNil))) m__law_made))
  (sSeq (sRet (dC (.bl false)))
  sNext)
  sNext)
  (sSeq (sRet (dAnd (bindA (aCons (bindA (aCons (dVar 0) (aCons (dVar 1) aNil)) (noX m_times)) (aCons (bind2 (bind2 (dVar 0) (dC (.int 0)) dIx) (bind2 (dVar 1) (dC (.int 0)) dIx) dMulL) (aCons (dVar 2) aNil))) m__law_made) (bindA (aCons (dVar 0) (aCons (dVar 1) aNil)) m__law_over)))
  sNext))))
def m__law_right : List D → Res D := runD 3 b__law_right
def b_law : Ev → Res Fl :=
  (sSeq (sSet 1 (bind2 (dSlA (dVar 0) oNone (oSome (dC (.int 62)))) (bindA (aCons (dC (.int 0)) (aCons (dC (.int 0)) aNil)) mLst) dAdd))
  (sSeq (sForI (srcR3 (dC (.int 0)) (bind2 (bindA (aCons (dVar 1) aNil) (m1 dLen)) (dC (.int 1)) dSub) (dC (.int 2))) (gSet 2)
  (sSeq (sSet 3 (bind2 (bindA (aCons (bind2 (dVar 1) (dVar 2) dIx) aNil) m__law_drawn) (dC (.int 0)) dIx))
  (sSeq (sUnp [4, 5] (bindA (aCons (bind2 (dVar 1) (bind2 (dVar 2) (dC (.int 1)) dAdd) dIx) aNil) m__law_drawn))
  (sSeq (sSet 4 (bindA (aCons (dVar 3) (aCons (dVar 4) (aCons (dVar 5) aNil))) m__law_second))
  (sSeq (sIf (dOr (dNot (bindA (aCons (dVar 3) (aCons (dVar 4) aNil)) m__law_right)) (dNot (bindA (aCons (dVar 4) (aCons (dVar 3) aNil)) m__law_right)))
  (sSeq (sRet (dC (.bl false)))
  sNext)
  sNext)
  sNext)))))
  (sSeq (sRet (dC (.bl true)))
  sNext)))
def m_law : List D → Res D := runD 6 b_law
end K02
set_option Elab.async false
set_option linter.all false
set_option maxRecDepth 100000
namespace K02
open PySem L2 DL Com
theorem e_draws : K02.m__law_draws = Com.m__law_draws := rfl
theorem e_divisor : K02.m__law_divisor = Com.m__law_divisor := rfl
theorem e_whole : K02.m__law_whole = Com.m__law_whole := rfl
theorem e_ratio : K02.m_ratio = Com.m_ratioX := rfl
theorem e_lowest : K02.m__law_lowest = Com.m__law_lowest := rfl
structure F2 (p q : Int) : Prop where
  q1 : 1 ≤ q
  pN : p.natAbs ≤ N60
  qN : q.natAbs ≤ N60
abbrev fp (p q : Int) : D := .tup [.int p, .int q]
theorem sq13 : 2 * (N60 * N60) < B13 := by rw [B13_eq]; exact Nat.lt_of_lt_of_le (show 2 * (N60 * N60) < 2 ^ 500 by decide) (Nat.pow_le_pow_right (by decide) (by decide))
theorem n13 : N60 < B13 := Nat.lt_of_le_of_lt (show N60 ≤ 2 * (N60 * N60) by decide) sq13
theorem mulN {x y : Int} (h : x.natAbs ≤ N60) (h' : y.natAbs ≤ N60) : mulOk x y = true := mulBig (Nat.lt_of_le_of_lt h (Nat.lt_of_lt_of_le n13 B13_B60)) (Nat.lt_of_le_of_lt h' (Nat.lt_of_lt_of_le n13 B13_B60))
theorem absmul {x y : Int} (h : x.natAbs ≤ N60) (h' : y.natAbs ≤ N60) : (x * y).natAbs ≤ N60 * N60 := by rw [Int.natAbs_mul]; exact Nat.mul_le_mul h h'
theorem abs13 {x y : Int} (h : x.natAbs ≤ N60) (h' : y.natAbs ≤ N60) : (x * y).natAbs < B13 := Nat.lt_of_le_of_lt (absmul h h') (Nat.lt_of_le_of_lt (by omega) sq13)
theorem made_ok {a b : Int} (hb : b ≠ 0) (h1 : a.natAbs < B13) (h2 : b.natAbs < B13) : m__law_made [fr (lowS a b), .int a, .int b] = .ok (.bl true) := by
  have hL := lowS_low (a := a) hb
  have hrel := lowS_rel (a := a) (b := b)
  have l1 := lowS_le1 (a := a) (b := b)
  have l2 := lowS_le2 (a := a) (b := b)
  unfold fr frac
  generalize lowS a b = x at hL hrel l1 l2
  obtain ⟨p, q⟩ := x
  dsimp only at hrel l1 l2 ⊢
  have hq : decide (q < 1) = false := decide_eq_false (by have : (1 : Int) ≤ q := hL.q1; omega)
  have hg : ((Int.gcd p q : Int) == 1) = true := by have : Int.gcd p q = 1 := hL.g1; rw [this]; rfl
  have hm : (p * b == a * q) = true := beq_iff_eq.mpr hrel
  have k1 : mulOk p b = true := mulBig (Nat.lt_of_le_of_lt l1 (Nat.lt_of_lt_of_le h1 B13_B60)) (Nat.lt_of_lt_of_le h2 B13_B60)
  have k2 : mulOk a q = true := mulBig (Nat.lt_of_lt_of_le h1 B13_B60) (Nat.lt_of_le_of_lt l2 (Nat.lt_of_lt_of_le h2 B13_B60))
  simp only [m__law_made, b__law_made, ev_ok, ev_seq, ev_seq1, ev_seq2, ev_seq3, ev_seq4, ev_next, ev_set, ev_set1, ev_ret, ev_ret1, ev_retN, ev_drop, ev_drop1, ev_if, ev_if1, ev_if2, ev_own, ev_own1, ev_app, ev_ownS, ev_appL, ev_put, ev_put1, ev_putL, ev_putL1, ev_frz, ev_unp, ev_par, ev_par1, ev_b1, ev_b2, ev_b21, ev_bA, ev_nil, ev_cons, ev_cons1, ev_cons2, ev_and, ev_and1, ev_and2, ev_or, ev_or1, ev_or2, ev_not, ev_not1, ev_ifx, ev_ifx1, ev_ifx2, ev_var, ev_var1, ev_C, ev_shr0, ev_shr, ev_shr1, ev_shr2, ev_shr3, ev_run, ev_run1, ev_run2, ev_os, ev_os1, ev_on, ev_sl, ev_sl0, ev_sl1, ev_sl2, ev_for, ev_for1, ev_chain, ev_ch, ev_ch1, ev_ch2, ev_ch3, ev_iop, ev_add, ev_neg, ev_m1, ev_m2, ev_lenL, ev_lenT, ev_p60, eq_int, ne_int, List.map_cons, List.map_nil, List.length_cons, List.length_nil, List.replicate_succ, List.replicate_zero, List.nil_append, List.cons_append, List.getElem?_cons_zero, List.getElem?_cons_succ, List.set_cons_zero, List.set_cons_succ, Nat.sub_zero, Nat.reduceSub, Nat.reduceAdd, Nat.add_zero, Nat.zero_add, Bool.not_true, Bool.not_false, ev_tup, ev_lst, ev_addL, ev_app1, ev_appL1, ev_mod, ev_unpL, ev_unpT, ev_sa, ev_sa0, ev_un, ev_un1, ev_un2, ev_un3, ev_ixL0, ev_ixL1, ev_ixL2, ev_ixL3, ev_ixL4, ev_ixL5, ev_ixL6, ev_ixL7, ev_ixL8, ev_ixL9, ev_ixL10, ev_ixL11, ev_ixL12, ev_ixL13, ev_ixT0, ev_ixT1, ev_ixT2, ev_ixT3, ev_ixT4, ev_ixT5, decide_true, decide_false, Nat.reduceLeDiff, Nat.reduceBEq, Int.reduceBEq, beq_self_eq_true, dOne, mYes, ev_is_bool_non, ev_is_bool_bl, ev_is_bool_int, ev_is_bool_str, ev_is_bool_tup, ev_is_bool_lst, ev_is_bool_dic, ev_is_int_non, ev_is_int_bl, ev_is_int_int, ev_is_int_str, ev_is_int_tup, ev_is_int_lst, ev_is_int_dic, ev_is_str_non, ev_is_str_bl, ev_is_str_int, ev_is_str_str, ev_is_str_tup, ev_is_str_lst, ev_is_str_dic, ev_is_tuple_non, ev_is_tuple_bl, ev_is_tuple_int, ev_is_tuple_str, ev_is_tuple_tup, ev_is_tuple_lst, ev_is_tuple_dic, ev_is_list_non, ev_is_list_bl, ev_is_list_int, ev_is_list_str, ev_is_list_tup, ev_is_list_lst, ev_is_list_dic, ev_is_dict_non, ev_is_dict_bl, ev_is_dict_int, ev_is_dict_str, ev_is_dict_tup, ev_is_dict_lst, ev_is_dict_dic, ev_isN_non, ev_notN_non, ev_isN_bl, ev_notN_bl, ev_isN_int, ev_notN_int, ev_isN_str, ev_notN_str, ev_isN_tup, ev_notN_tup, ev_isN_lst, ev_notN_lst, ev_isN_dic, ev_notN_dic, ev_c0, ev_c1, ev_c2, ev_c3, ev_c4, ev_c5, ev_c6, ev_c7, ev_c8, ev_c9, ev_c10, ev_c11, Int.reduceLT, Int.reduceLE, Int.reduceSub, Int.reduceAdd, Int.reduceMul, Int.reduceNeg, ev_join, ev_join1, ev_pt0, ev_pt1, ev_pt2, ev_pt3, ev_pt4, ev_rep, ev_rep1, ev_rep2, Int.reduceToNat, Bool.and_self, e_whole, whole_eq, isI, e_divisor, divisor_eq, hq, hg, hm, ev_mul k1, ev_mul k2]
theorem tb5 : tab_5 "NoNumber" = some true := by decide
theorem tb6 : tab_6 "NoNumber" = some true := by decide
theorem tb1 : tab_1 "NoNumber" = some false := by decide
theorem tb2 : tab_2 "NoNumber" = some false := by decide
theorem tb3 : tab_3 "NoNumber" = some false := by decide
theorem tb4 : tab_4 "NoNumber" = some false := by decide
theorem hitC : hitOf l_CutError "NoNumber" = true := by decide
theorem other_no : m__law_other [.exc "NoNumber"] = .ok (.bl false) := by
  simp only [m__law_other, b__law_other, ev_ok, ev_seq, ev_seq1, ev_seq2, ev_seq3, ev_seq4, ev_next, ev_set, ev_set1, ev_ret, ev_ret1, ev_retN, ev_drop, ev_drop1, ev_if, ev_if1, ev_if2, ev_own, ev_own1, ev_app, ev_ownS, ev_appL, ev_put, ev_put1, ev_putL, ev_putL1, ev_frz, ev_unp, ev_par, ev_par1, ev_b1, ev_b2, ev_b21, ev_bA, ev_nil, ev_cons, ev_cons1, ev_cons2, ev_and, ev_and1, ev_and2, ev_or, ev_or1, ev_or2, ev_not, ev_not1, ev_ifx, ev_ifx1, ev_ifx2, ev_var, ev_var1, ev_C, ev_shr0, ev_shr, ev_shr1, ev_shr2, ev_shr3, ev_run, ev_run1, ev_run2, ev_os, ev_os1, ev_on, ev_sl, ev_sl0, ev_sl1, ev_sl2, ev_for, ev_for1, ev_chain, ev_ch, ev_ch1, ev_ch2, ev_ch3, ev_iop, ev_add, ev_neg, ev_m1, ev_m2, ev_lenL, ev_lenT, ev_p60, eq_int, ne_int, List.map_cons, List.map_nil, List.length_cons, List.length_nil, List.replicate_succ, List.replicate_zero, List.nil_append, List.cons_append, List.getElem?_cons_zero, List.getElem?_cons_succ, List.set_cons_zero, List.set_cons_succ, Nat.sub_zero, Nat.reduceSub, Nat.reduceAdd, Nat.add_zero, Nat.zero_add, Bool.not_true, Bool.not_false, ev_tup, ev_lst, ev_addL, ev_app1, ev_appL1, ev_mod, ev_unpL, ev_unpT, ev_sa, ev_sa0, ev_un, ev_un1, ev_un2, ev_un3, ev_ixL0, ev_ixL1, ev_ixL2, ev_ixL3, ev_ixL4, ev_ixL5, ev_ixL6, ev_ixL7, ev_ixL8, ev_ixL9, ev_ixL10, ev_ixL11, ev_ixL12, ev_ixL13, ev_ixT0, ev_ixT1, ev_ixT2, ev_ixT3, ev_ixT4, ev_ixT5, decide_true, decide_false, Nat.reduceLeDiff, Nat.reduceBEq, Int.reduceBEq, beq_self_eq_true, dOne, mYes, ev_is_bool_non, ev_is_bool_bl, ev_is_bool_int, ev_is_bool_str, ev_is_bool_tup, ev_is_bool_lst, ev_is_bool_dic, ev_is_int_non, ev_is_int_bl, ev_is_int_int, ev_is_int_str, ev_is_int_tup, ev_is_int_lst, ev_is_int_dic, ev_is_str_non, ev_is_str_bl, ev_is_str_int, ev_is_str_str, ev_is_str_tup, ev_is_str_lst, ev_is_str_dic, ev_is_tuple_non, ev_is_tuple_bl, ev_is_tuple_int, ev_is_tuple_str, ev_is_tuple_tup, ev_is_tuple_lst, ev_is_tuple_dic, ev_is_list_non, ev_is_list_bl, ev_is_list_int, ev_is_list_str, ev_is_list_tup, ev_is_list_lst, ev_is_list_dic, ev_is_dict_non, ev_is_dict_bl, ev_is_dict_int, ev_is_dict_str, ev_is_dict_tup, ev_is_dict_lst, ev_is_dict_dic, ev_isN_non, ev_notN_non, ev_isN_bl, ev_notN_bl, ev_isN_int, ev_notN_int, ev_isN_str, ev_notN_str, ev_isN_tup, ev_notN_tup, ev_isN_lst, ev_notN_lst, ev_isN_dic, ev_notN_dic, ev_c0, ev_c1, ev_c2, ev_c3, ev_c4, ev_c5, ev_c6, ev_c7, ev_c8, ev_c9, ev_c10, ev_c11, Int.reduceLT, Int.reduceLE, Int.reduceSub, Int.reduceAdd, Int.reduceMul, Int.reduceNeg, ev_join, ev_join1, ev_pt0, ev_pt1, ev_pt2, ev_pt3, ev_pt4, ev_rep, ev_rep1, ev_rep2, Int.reduceToNat, Bool.and_self, ev_isX tb1, ev_isX tb2, ev_isX tb3, ev_isX tb4]
section
variable {p q r s : Int} (hx : F2 p q) (hy : F2 r s)
include hx hy
theorem qs_ne : q * s ≠ 0 := Int.mul_ne_zero (by have := hx.q1; omega) (by have := hy.q1; omega)
theorem sum13 : (p * s + r * q).natAbs < B13 := by
  have h1 := absmul hx.pN hy.qN
  have h2 := absmul hy.pN hx.qN
  exact Nat.lt_of_le_of_lt (show (p * s + r * q).natAbs ≤ 2 * (N60 * N60) by omega) sq13
theorem dif13 : (p * s - r * q).natAbs < B13 := by
  have h1 := absmul hx.pN hy.qN
  have h2 := absmul hy.pN hx.qN
  exact Nat.lt_of_le_of_lt (show (p * s - r * q).natAbs ≤ 2 * (N60 * N60) by omega) sq13
theorem plus_eq : m_plus [fp p q, fp r s] = .ok (fr (lowS (p * s + r * q) (q * s))) := by
  simp only [fp, m_plus, b_plus, ev_ok, ev_seq, ev_seq1, ev_seq2, ev_seq3, ev_seq4, ev_next, ev_set, ev_set1, ev_ret, ev_ret1, ev_retN, ev_drop, ev_drop1, ev_if, ev_if1, ev_if2, ev_own, ev_own1, ev_app, ev_ownS, ev_appL, ev_put, ev_put1, ev_putL, ev_putL1, ev_frz, ev_unp, ev_par, ev_par1, ev_b1, ev_b2, ev_b21, ev_bA, ev_nil, ev_cons, ev_cons1, ev_cons2, ev_and, ev_and1, ev_and2, ev_or, ev_or1, ev_or2, ev_not, ev_not1, ev_ifx, ev_ifx1, ev_ifx2, ev_var, ev_var1, ev_C, ev_shr0, ev_shr, ev_shr1, ev_shr2, ev_shr3, ev_run, ev_run1, ev_run2, ev_os, ev_os1, ev_on, ev_sl, ev_sl0, ev_sl1, ev_sl2, ev_for, ev_for1, ev_chain, ev_ch, ev_ch1, ev_ch2, ev_ch3, ev_iop, ev_add, ev_neg, ev_m1, ev_m2, ev_lenL, ev_lenT, ev_p60, eq_int, ne_int, List.map_cons, List.map_nil, List.length_cons, List.length_nil, List.replicate_succ, List.replicate_zero, List.nil_append, List.cons_append, List.getElem?_cons_zero, List.getElem?_cons_succ, List.set_cons_zero, List.set_cons_succ, Nat.sub_zero, Nat.reduceSub, Nat.reduceAdd, Nat.add_zero, Nat.zero_add, Bool.not_true, Bool.not_false, ev_tup, ev_lst, ev_addL, ev_app1, ev_appL1, ev_mod, ev_unpL, ev_unpT, ev_sa, ev_sa0, ev_un, ev_un1, ev_un2, ev_un3, ev_ixL0, ev_ixL1, ev_ixL2, ev_ixL3, ev_ixL4, ev_ixL5, ev_ixL6, ev_ixL7, ev_ixL8, ev_ixL9, ev_ixL10, ev_ixL11, ev_ixL12, ev_ixL13, ev_ixT0, ev_ixT1, ev_ixT2, ev_ixT3, ev_ixT4, ev_ixT5, decide_true, decide_false, Nat.reduceLeDiff, Nat.reduceBEq, Int.reduceBEq, beq_self_eq_true, dOne, mYes, ev_is_bool_non, ev_is_bool_bl, ev_is_bool_int, ev_is_bool_str, ev_is_bool_tup, ev_is_bool_lst, ev_is_bool_dic, ev_is_int_non, ev_is_int_bl, ev_is_int_int, ev_is_int_str, ev_is_int_tup, ev_is_int_lst, ev_is_int_dic, ev_is_str_non, ev_is_str_bl, ev_is_str_int, ev_is_str_str, ev_is_str_tup, ev_is_str_lst, ev_is_str_dic, ev_is_tuple_non, ev_is_tuple_bl, ev_is_tuple_int, ev_is_tuple_str, ev_is_tuple_tup, ev_is_tuple_lst, ev_is_tuple_dic, ev_is_list_non, ev_is_list_bl, ev_is_list_int, ev_is_list_str, ev_is_list_tup, ev_is_list_lst, ev_is_list_dic, ev_is_dict_non, ev_is_dict_bl, ev_is_dict_int, ev_is_dict_str, ev_is_dict_tup, ev_is_dict_lst, ev_is_dict_dic, ev_isN_non, ev_notN_non, ev_isN_bl, ev_notN_bl, ev_isN_int, ev_notN_int, ev_isN_str, ev_notN_str, ev_isN_tup, ev_notN_tup, ev_isN_lst, ev_notN_lst, ev_isN_dic, ev_notN_dic, ev_c0, ev_c1, ev_c2, ev_c3, ev_c4, ev_c5, ev_c6, ev_c7, ev_c8, ev_c9, ev_c10, ev_c11, Int.reduceLT, Int.reduceLE, Int.reduceSub, Int.reduceAdd, Int.reduceMul, Int.reduceNeg, ev_join, ev_join1, ev_pt0, ev_pt1, ev_pt2, ev_pt3, ev_pt4, ev_rep, ev_rep1, ev_rep2, Int.reduceToNat, Bool.and_self, ev_mul (mulN hx.pN hy.qN), ev_mul (mulN hy.pN hx.qN), ev_mul (mulN hx.qN hy.qN), e_ratio, ratio_okX (qs_ne hx hy) (sum13 hx hy) (abs13 hx.qN hy.qN)]
theorem minus_eq : m_minus [fp p q, fp r s] = .ok (fr (lowS (p * s - r * q) (q * s))) := by
  simp only [fp, m_minus, b_minus, ev_ok, ev_seq, ev_seq1, ev_seq2, ev_seq3, ev_seq4, ev_next, ev_set, ev_set1, ev_ret, ev_ret1, ev_retN, ev_drop, ev_drop1, ev_if, ev_if1, ev_if2, ev_own, ev_own1, ev_app, ev_ownS, ev_appL, ev_put, ev_put1, ev_putL, ev_putL1, ev_frz, ev_unp, ev_par, ev_par1, ev_b1, ev_b2, ev_b21, ev_bA, ev_nil, ev_cons, ev_cons1, ev_cons2, ev_and, ev_and1, ev_and2, ev_or, ev_or1, ev_or2, ev_not, ev_not1, ev_ifx, ev_ifx1, ev_ifx2, ev_var, ev_var1, ev_C, ev_shr0, ev_shr, ev_shr1, ev_shr2, ev_shr3, ev_run, ev_run1, ev_run2, ev_os, ev_os1, ev_on, ev_sl, ev_sl0, ev_sl1, ev_sl2, ev_for, ev_for1, ev_chain, ev_ch, ev_ch1, ev_ch2, ev_ch3, ev_iop, ev_add, ev_neg, ev_m1, ev_m2, ev_lenL, ev_lenT, ev_p60, eq_int, ne_int, List.map_cons, List.map_nil, List.length_cons, List.length_nil, List.replicate_succ, List.replicate_zero, List.nil_append, List.cons_append, List.getElem?_cons_zero, List.getElem?_cons_succ, List.set_cons_zero, List.set_cons_succ, Nat.sub_zero, Nat.reduceSub, Nat.reduceAdd, Nat.add_zero, Nat.zero_add, Bool.not_true, Bool.not_false, ev_tup, ev_lst, ev_addL, ev_app1, ev_appL1, ev_mod, ev_unpL, ev_unpT, ev_sa, ev_sa0, ev_un, ev_un1, ev_un2, ev_un3, ev_ixL0, ev_ixL1, ev_ixL2, ev_ixL3, ev_ixL4, ev_ixL5, ev_ixL6, ev_ixL7, ev_ixL8, ev_ixL9, ev_ixL10, ev_ixL11, ev_ixL12, ev_ixL13, ev_ixT0, ev_ixT1, ev_ixT2, ev_ixT3, ev_ixT4, ev_ixT5, decide_true, decide_false, Nat.reduceLeDiff, Nat.reduceBEq, Int.reduceBEq, beq_self_eq_true, dOne, mYes, ev_is_bool_non, ev_is_bool_bl, ev_is_bool_int, ev_is_bool_str, ev_is_bool_tup, ev_is_bool_lst, ev_is_bool_dic, ev_is_int_non, ev_is_int_bl, ev_is_int_int, ev_is_int_str, ev_is_int_tup, ev_is_int_lst, ev_is_int_dic, ev_is_str_non, ev_is_str_bl, ev_is_str_int, ev_is_str_str, ev_is_str_tup, ev_is_str_lst, ev_is_str_dic, ev_is_tuple_non, ev_is_tuple_bl, ev_is_tuple_int, ev_is_tuple_str, ev_is_tuple_tup, ev_is_tuple_lst, ev_is_tuple_dic, ev_is_list_non, ev_is_list_bl, ev_is_list_int, ev_is_list_str, ev_is_list_tup, ev_is_list_lst, ev_is_list_dic, ev_is_dict_non, ev_is_dict_bl, ev_is_dict_int, ev_is_dict_str, ev_is_dict_tup, ev_is_dict_lst, ev_is_dict_dic, ev_isN_non, ev_notN_non, ev_isN_bl, ev_notN_bl, ev_isN_int, ev_notN_int, ev_isN_str, ev_notN_str, ev_isN_tup, ev_notN_tup, ev_isN_lst, ev_notN_lst, ev_isN_dic, ev_notN_dic, ev_c0, ev_c1, ev_c2, ev_c3, ev_c4, ev_c5, ev_c6, ev_c7, ev_c8, ev_c9, ev_c10, ev_c11, Int.reduceLT, Int.reduceLE, Int.reduceSub, Int.reduceAdd, Int.reduceMul, Int.reduceNeg, ev_join, ev_join1, ev_pt0, ev_pt1, ev_pt2, ev_pt3, ev_pt4, ev_rep, ev_rep1, ev_rep2, Int.reduceToNat, Bool.and_self, ev_mul (mulN hx.pN hy.qN), ev_mul (mulN hy.pN hx.qN), ev_mul (mulN hx.qN hy.qN), e_ratio, ratio_okX (qs_ne hx hy) (dif13 hx hy) (abs13 hx.qN hy.qN)]
theorem times_eq : m_times [fp p q, fp r s] = .ok (fr (lowS (p * r) (q * s))) := by
  simp only [fp, m_times, b_times, ev_ok, ev_seq, ev_seq1, ev_seq2, ev_seq3, ev_seq4, ev_next, ev_set, ev_set1, ev_ret, ev_ret1, ev_retN, ev_drop, ev_drop1, ev_if, ev_if1, ev_if2, ev_own, ev_own1, ev_app, ev_ownS, ev_appL, ev_put, ev_put1, ev_putL, ev_putL1, ev_frz, ev_unp, ev_par, ev_par1, ev_b1, ev_b2, ev_b21, ev_bA, ev_nil, ev_cons, ev_cons1, ev_cons2, ev_and, ev_and1, ev_and2, ev_or, ev_or1, ev_or2, ev_not, ev_not1, ev_ifx, ev_ifx1, ev_ifx2, ev_var, ev_var1, ev_C, ev_shr0, ev_shr, ev_shr1, ev_shr2, ev_shr3, ev_run, ev_run1, ev_run2, ev_os, ev_os1, ev_on, ev_sl, ev_sl0, ev_sl1, ev_sl2, ev_for, ev_for1, ev_chain, ev_ch, ev_ch1, ev_ch2, ev_ch3, ev_iop, ev_add, ev_neg, ev_m1, ev_m2, ev_lenL, ev_lenT, ev_p60, eq_int, ne_int, List.map_cons, List.map_nil, List.length_cons, List.length_nil, List.replicate_succ, List.replicate_zero, List.nil_append, List.cons_append, List.getElem?_cons_zero, List.getElem?_cons_succ, List.set_cons_zero, List.set_cons_succ, Nat.sub_zero, Nat.reduceSub, Nat.reduceAdd, Nat.add_zero, Nat.zero_add, Bool.not_true, Bool.not_false, ev_tup, ev_lst, ev_addL, ev_app1, ev_appL1, ev_mod, ev_unpL, ev_unpT, ev_sa, ev_sa0, ev_un, ev_un1, ev_un2, ev_un3, ev_ixL0, ev_ixL1, ev_ixL2, ev_ixL3, ev_ixL4, ev_ixL5, ev_ixL6, ev_ixL7, ev_ixL8, ev_ixL9, ev_ixL10, ev_ixL11, ev_ixL12, ev_ixL13, ev_ixT0, ev_ixT1, ev_ixT2, ev_ixT3, ev_ixT4, ev_ixT5, decide_true, decide_false, Nat.reduceLeDiff, Nat.reduceBEq, Int.reduceBEq, beq_self_eq_true, dOne, mYes, ev_is_bool_non, ev_is_bool_bl, ev_is_bool_int, ev_is_bool_str, ev_is_bool_tup, ev_is_bool_lst, ev_is_bool_dic, ev_is_int_non, ev_is_int_bl, ev_is_int_int, ev_is_int_str, ev_is_int_tup, ev_is_int_lst, ev_is_int_dic, ev_is_str_non, ev_is_str_bl, ev_is_str_int, ev_is_str_str, ev_is_str_tup, ev_is_str_lst, ev_is_str_dic, ev_is_tuple_non, ev_is_tuple_bl, ev_is_tuple_int, ev_is_tuple_str, ev_is_tuple_tup, ev_is_tuple_lst, ev_is_tuple_dic, ev_is_list_non, ev_is_list_bl, ev_is_list_int, ev_is_list_str, ev_is_list_tup, ev_is_list_lst, ev_is_list_dic, ev_is_dict_non, ev_is_dict_bl, ev_is_dict_int, ev_is_dict_str, ev_is_dict_tup, ev_is_dict_lst, ev_is_dict_dic, ev_isN_non, ev_notN_non, ev_isN_bl, ev_notN_bl, ev_isN_int, ev_notN_int, ev_isN_str, ev_notN_str, ev_isN_tup, ev_notN_tup, ev_isN_lst, ev_notN_lst, ev_isN_dic, ev_notN_dic, ev_c0, ev_c1, ev_c2, ev_c3, ev_c4, ev_c5, ev_c6, ev_c7, ev_c8, ev_c9, ev_c10, ev_c11, Int.reduceLT, Int.reduceLE, Int.reduceSub, Int.reduceAdd, Int.reduceMul, Int.reduceNeg, ev_join, ev_join1, ev_pt0, ev_pt1, ev_pt2, ev_pt3, ev_pt4, ev_rep, ev_rep1, ev_rep2, Int.reduceToNat, Bool.and_self, ev_mul (mulN hx.pN hy.pN), ev_mul (mulN hx.qN hy.qN), e_ratio, ratio_okX (qs_ne hx hy) (abs13 hx.pN hy.pN) (abs13 hx.qN hy.qN)]
theorem over_ok : m__law_over [fp p q, fp r s] = .ok (.bl true) := by
  by_cases hr : r = 0
  · have h0 : m_over [fp p q, fp r s] = .exn ⟨"NoNumber", []⟩ := by
      have e : q * r = 0 := by rw [hr, Int.mul_zero]
      simp only [fp, m_over, b_over, ev_ok, ev_seq, ev_seq1, ev_seq2, ev_seq3, ev_seq4, ev_next, ev_set, ev_set1, ev_ret, ev_ret1, ev_retN, ev_drop, ev_drop1, ev_if, ev_if1, ev_if2, ev_own, ev_own1, ev_app, ev_ownS, ev_appL, ev_put, ev_put1, ev_putL, ev_putL1, ev_frz, ev_unp, ev_par, ev_par1, ev_b1, ev_b2, ev_b21, ev_bA, ev_nil, ev_cons, ev_cons1, ev_cons2, ev_and, ev_and1, ev_and2, ev_or, ev_or1, ev_or2, ev_not, ev_not1, ev_ifx, ev_ifx1, ev_ifx2, ev_var, ev_var1, ev_C, ev_shr0, ev_shr, ev_shr1, ev_shr2, ev_shr3, ev_run, ev_run1, ev_run2, ev_os, ev_os1, ev_on, ev_sl, ev_sl0, ev_sl1, ev_sl2, ev_for, ev_for1, ev_chain, ev_ch, ev_ch1, ev_ch2, ev_ch3, ev_iop, ev_add, ev_neg, ev_m1, ev_m2, ev_lenL, ev_lenT, ev_p60, eq_int, ne_int, List.map_cons, List.map_nil, List.length_cons, List.length_nil, List.replicate_succ, List.replicate_zero, List.nil_append, List.cons_append, List.getElem?_cons_zero, List.getElem?_cons_succ, List.set_cons_zero, List.set_cons_succ, Nat.sub_zero, Nat.reduceSub, Nat.reduceAdd, Nat.add_zero, Nat.zero_add, Bool.not_true, Bool.not_false, ev_tup, ev_lst, ev_addL, ev_app1, ev_appL1, ev_mod, ev_unpL, ev_unpT, ev_sa, ev_sa0, ev_un, ev_un1, ev_un2, ev_un3, ev_ixL0, ev_ixL1, ev_ixL2, ev_ixL3, ev_ixL4, ev_ixL5, ev_ixL6, ev_ixL7, ev_ixL8, ev_ixL9, ev_ixL10, ev_ixL11, ev_ixL12, ev_ixL13, ev_ixT0, ev_ixT1, ev_ixT2, ev_ixT3, ev_ixT4, ev_ixT5, decide_true, decide_false, Nat.reduceLeDiff, Nat.reduceBEq, Int.reduceBEq, beq_self_eq_true, dOne, mYes, ev_is_bool_non, ev_is_bool_bl, ev_is_bool_int, ev_is_bool_str, ev_is_bool_tup, ev_is_bool_lst, ev_is_bool_dic, ev_is_int_non, ev_is_int_bl, ev_is_int_int, ev_is_int_str, ev_is_int_tup, ev_is_int_lst, ev_is_int_dic, ev_is_str_non, ev_is_str_bl, ev_is_str_int, ev_is_str_str, ev_is_str_tup, ev_is_str_lst, ev_is_str_dic, ev_is_tuple_non, ev_is_tuple_bl, ev_is_tuple_int, ev_is_tuple_str, ev_is_tuple_tup, ev_is_tuple_lst, ev_is_tuple_dic, ev_is_list_non, ev_is_list_bl, ev_is_list_int, ev_is_list_str, ev_is_list_tup, ev_is_list_lst, ev_is_list_dic, ev_is_dict_non, ev_is_dict_bl, ev_is_dict_int, ev_is_dict_str, ev_is_dict_tup, ev_is_dict_lst, ev_is_dict_dic, ev_isN_non, ev_notN_non, ev_isN_bl, ev_notN_bl, ev_isN_int, ev_notN_int, ev_isN_str, ev_notN_str, ev_isN_tup, ev_notN_tup, ev_isN_lst, ev_notN_lst, ev_isN_dic, ev_notN_dic, ev_c0, ev_c1, ev_c2, ev_c3, ev_c4, ev_c5, ev_c6, ev_c7, ev_c8, ev_c9, ev_c10, ev_c11, Int.reduceLT, Int.reduceLE, Int.reduceSub, Int.reduceAdd, Int.reduceMul, Int.reduceNeg, ev_join, ev_join1, ev_pt0, ev_pt1, ev_pt2, ev_pt3, ev_pt4, ev_rep, ev_rep1, ev_rep2, Int.reduceToNat, Bool.and_self, ev_mul (mulN hx.pN hy.qN), ev_mul (mulN hx.qN hy.pN), e_ratio, e, ratio_zero, ev_exn]
    have hz : (r == 0) = true := beq_iff_eq.mpr hr
    simp only [fp] at h0
    simp only [fp, m__law_over, b__law_over, ev_ok, ev_seq, ev_seq1, ev_seq2, ev_seq3, ev_seq4, ev_next, ev_set, ev_set1, ev_ret, ev_ret1, ev_retN, ev_drop, ev_drop1, ev_if, ev_if1, ev_if2, ev_own, ev_own1, ev_app, ev_ownS, ev_appL, ev_put, ev_put1, ev_putL, ev_putL1, ev_frz, ev_unp, ev_par, ev_par1, ev_b1, ev_b2, ev_b21, ev_bA, ev_nil, ev_cons, ev_cons1, ev_cons2, ev_and, ev_and1, ev_and2, ev_or, ev_or1, ev_or2, ev_not, ev_not1, ev_ifx, ev_ifx1, ev_ifx2, ev_var, ev_var1, ev_C, ev_shr0, ev_shr, ev_shr1, ev_shr2, ev_shr3, ev_run, ev_run1, ev_run2, ev_os, ev_os1, ev_on, ev_sl, ev_sl0, ev_sl1, ev_sl2, ev_for, ev_for1, ev_chain, ev_ch, ev_ch1, ev_ch2, ev_ch3, ev_iop, ev_add, ev_neg, ev_m1, ev_m2, ev_lenL, ev_lenT, ev_p60, eq_int, ne_int, List.map_cons, List.map_nil, List.length_cons, List.length_nil, List.replicate_succ, List.replicate_zero, List.nil_append, List.cons_append, List.getElem?_cons_zero, List.getElem?_cons_succ, List.set_cons_zero, List.set_cons_succ, Nat.sub_zero, Nat.reduceSub, Nat.reduceAdd, Nat.add_zero, Nat.zero_add, Bool.not_true, Bool.not_false, ev_tup, ev_lst, ev_addL, ev_app1, ev_appL1, ev_mod, ev_unpL, ev_unpT, ev_sa, ev_sa0, ev_un, ev_un1, ev_un2, ev_un3, ev_ixL0, ev_ixL1, ev_ixL2, ev_ixL3, ev_ixL4, ev_ixL5, ev_ixL6, ev_ixL7, ev_ixL8, ev_ixL9, ev_ixL10, ev_ixL11, ev_ixL12, ev_ixL13, ev_ixT0, ev_ixT1, ev_ixT2, ev_ixT3, ev_ixT4, ev_ixT5, decide_true, decide_false, Nat.reduceLeDiff, Nat.reduceBEq, Int.reduceBEq, beq_self_eq_true, dOne, mYes, ev_is_bool_non, ev_is_bool_bl, ev_is_bool_int, ev_is_bool_str, ev_is_bool_tup, ev_is_bool_lst, ev_is_bool_dic, ev_is_int_non, ev_is_int_bl, ev_is_int_int, ev_is_int_str, ev_is_int_tup, ev_is_int_lst, ev_is_int_dic, ev_is_str_non, ev_is_str_bl, ev_is_str_int, ev_is_str_str, ev_is_str_tup, ev_is_str_lst, ev_is_str_dic, ev_is_tuple_non, ev_is_tuple_bl, ev_is_tuple_int, ev_is_tuple_str, ev_is_tuple_tup, ev_is_tuple_lst, ev_is_tuple_dic, ev_is_list_non, ev_is_list_bl, ev_is_list_int, ev_is_list_str, ev_is_list_tup, ev_is_list_lst, ev_is_list_dic, ev_is_dict_non, ev_is_dict_bl, ev_is_dict_int, ev_is_dict_str, ev_is_dict_tup, ev_is_dict_lst, ev_is_dict_dic, ev_isN_non, ev_notN_non, ev_isN_bl, ev_notN_bl, ev_isN_int, ev_notN_int, ev_isN_str, ev_notN_str, ev_isN_tup, ev_notN_tup, ev_isN_lst, ev_notN_lst, ev_isN_dic, ev_notN_dic, ev_c0, ev_c1, ev_c2, ev_c3, ev_c4, ev_c5, ev_c6, ev_c7, ev_c8, ev_c9, ev_c10, ev_c11, Int.reduceLT, Int.reduceLE, Int.reduceSub, Int.reduceAdd, Int.reduceMul, Int.reduceNeg, ev_join, ev_join1, ev_pt0, ev_pt1, ev_pt2, ev_pt3, ev_pt4, ev_rep, ev_rep1, ev_rep2, Int.reduceToNat, Bool.and_self, ev_try, ev_setC, ev_setC1, h0, ev_exn, ev_try2 hitC, ev_out, ev_isX tb5, ev_isX tb6, other_no, hz]
  · have hq0 : q * r ≠ 0 := Int.mul_ne_zero (by have := hx.q1; omega) hr
    have h0 : m_over [fp p q, fp r s] = .ok (fr (lowS (p * s) (q * r))) := by
      simp only [fp, m_over, b_over, ev_ok, ev_seq, ev_seq1, ev_seq2, ev_seq3, ev_seq4, ev_next, ev_set, ev_set1, ev_ret, ev_ret1, ev_retN, ev_drop, ev_drop1, ev_if, ev_if1, ev_if2, ev_own, ev_own1, ev_app, ev_ownS, ev_appL, ev_put, ev_put1, ev_putL, ev_putL1, ev_frz, ev_unp, ev_par, ev_par1, ev_b1, ev_b2, ev_b21, ev_bA, ev_nil, ev_cons, ev_cons1, ev_cons2, ev_and, ev_and1, ev_and2, ev_or, ev_or1, ev_or2, ev_not, ev_not1, ev_ifx, ev_ifx1, ev_ifx2, ev_var, ev_var1, ev_C, ev_shr0, ev_shr, ev_shr1, ev_shr2, ev_shr3, ev_run, ev_run1, ev_run2, ev_os, ev_os1, ev_on, ev_sl, ev_sl0, ev_sl1, ev_sl2, ev_for, ev_for1, ev_chain, ev_ch, ev_ch1, ev_ch2, ev_ch3, ev_iop, ev_add, ev_neg, ev_m1, ev_m2, ev_lenL, ev_lenT, ev_p60, eq_int, ne_int, List.map_cons, List.map_nil, List.length_cons, List.length_nil, List.replicate_succ, List.replicate_zero, List.nil_append, List.cons_append, List.getElem?_cons_zero, List.getElem?_cons_succ, List.set_cons_zero, List.set_cons_succ, Nat.sub_zero, Nat.reduceSub, Nat.reduceAdd, Nat.add_zero, Nat.zero_add, Bool.not_true, Bool.not_false, ev_tup, ev_lst, ev_addL, ev_app1, ev_appL1, ev_mod, ev_unpL, ev_unpT, ev_sa, ev_sa0, ev_un, ev_un1, ev_un2, ev_un3, ev_ixL0, ev_ixL1, ev_ixL2, ev_ixL3, ev_ixL4, ev_ixL5, ev_ixL6, ev_ixL7, ev_ixL8, ev_ixL9, ev_ixL10, ev_ixL11, ev_ixL12, ev_ixL13, ev_ixT0, ev_ixT1, ev_ixT2, ev_ixT3, ev_ixT4, ev_ixT5, decide_true, decide_false, Nat.reduceLeDiff, Nat.reduceBEq, Int.reduceBEq, beq_self_eq_true, dOne, mYes, ev_is_bool_non, ev_is_bool_bl, ev_is_bool_int, ev_is_bool_str, ev_is_bool_tup, ev_is_bool_lst, ev_is_bool_dic, ev_is_int_non, ev_is_int_bl, ev_is_int_int, ev_is_int_str, ev_is_int_tup, ev_is_int_lst, ev_is_int_dic, ev_is_str_non, ev_is_str_bl, ev_is_str_int, ev_is_str_str, ev_is_str_tup, ev_is_str_lst, ev_is_str_dic, ev_is_tuple_non, ev_is_tuple_bl, ev_is_tuple_int, ev_is_tuple_str, ev_is_tuple_tup, ev_is_tuple_lst, ev_is_tuple_dic, ev_is_list_non, ev_is_list_bl, ev_is_list_int, ev_is_list_str, ev_is_list_tup, ev_is_list_lst, ev_is_list_dic, ev_is_dict_non, ev_is_dict_bl, ev_is_dict_int, ev_is_dict_str, ev_is_dict_tup, ev_is_dict_lst, ev_is_dict_dic, ev_isN_non, ev_notN_non, ev_isN_bl, ev_notN_bl, ev_isN_int, ev_notN_int, ev_isN_str, ev_notN_str, ev_isN_tup, ev_notN_tup, ev_isN_lst, ev_notN_lst, ev_isN_dic, ev_notN_dic, ev_c0, ev_c1, ev_c2, ev_c3, ev_c4, ev_c5, ev_c6, ev_c7, ev_c8, ev_c9, ev_c10, ev_c11, Int.reduceLT, Int.reduceLE, Int.reduceSub, Int.reduceAdd, Int.reduceMul, Int.reduceNeg, ev_join, ev_join1, ev_pt0, ev_pt1, ev_pt2, ev_pt3, ev_pt4, ev_rep, ev_rep1, ev_rep2, Int.reduceToNat, Bool.and_self, ev_mul (mulN hx.pN hy.qN), ev_mul (mulN hx.qN hy.pN), e_ratio, ratio_okX hq0 (abs13 hx.pN hy.qN) (abs13 hx.qN hy.pN)]
    have hz : (r == 0) = false := beq_eq_false_iff_ne.mpr hr
    have hm := made_ok hq0 (abs13 hx.pN hy.qN) (abs13 hx.qN hy.pN)
    simp only [fp] at h0
    generalize fr (lowS (p * s) (q * r)) = z at h0 hm
    simp only [fp, m__law_over, b__law_over, ev_ok, ev_seq, ev_seq1, ev_seq2, ev_seq3, ev_seq4, ev_next, ev_set, ev_set1, ev_ret, ev_ret1, ev_retN, ev_drop, ev_drop1, ev_if, ev_if1, ev_if2, ev_own, ev_own1, ev_app, ev_ownS, ev_appL, ev_put, ev_put1, ev_putL, ev_putL1, ev_frz, ev_unp, ev_par, ev_par1, ev_b1, ev_b2, ev_b21, ev_bA, ev_nil, ev_cons, ev_cons1, ev_cons2, ev_and, ev_and1, ev_and2, ev_or, ev_or1, ev_or2, ev_not, ev_not1, ev_ifx, ev_ifx1, ev_ifx2, ev_var, ev_var1, ev_C, ev_shr0, ev_shr, ev_shr1, ev_shr2, ev_shr3, ev_run, ev_run1, ev_run2, ev_os, ev_os1, ev_on, ev_sl, ev_sl0, ev_sl1, ev_sl2, ev_for, ev_for1, ev_chain, ev_ch, ev_ch1, ev_ch2, ev_ch3, ev_iop, ev_add, ev_neg, ev_m1, ev_m2, ev_lenL, ev_lenT, ev_p60, eq_int, ne_int, List.map_cons, List.map_nil, List.length_cons, List.length_nil, List.replicate_succ, List.replicate_zero, List.nil_append, List.cons_append, List.getElem?_cons_zero, List.getElem?_cons_succ, List.set_cons_zero, List.set_cons_succ, Nat.sub_zero, Nat.reduceSub, Nat.reduceAdd, Nat.add_zero, Nat.zero_add, Bool.not_true, Bool.not_false, ev_tup, ev_lst, ev_addL, ev_app1, ev_appL1, ev_mod, ev_unpL, ev_unpT, ev_sa, ev_sa0, ev_un, ev_un1, ev_un2, ev_un3, ev_ixL0, ev_ixL1, ev_ixL2, ev_ixL3, ev_ixL4, ev_ixL5, ev_ixL6, ev_ixL7, ev_ixL8, ev_ixL9, ev_ixL10, ev_ixL11, ev_ixL12, ev_ixL13, ev_ixT0, ev_ixT1, ev_ixT2, ev_ixT3, ev_ixT4, ev_ixT5, decide_true, decide_false, Nat.reduceLeDiff, Nat.reduceBEq, Int.reduceBEq, beq_self_eq_true, dOne, mYes, ev_is_bool_non, ev_is_bool_bl, ev_is_bool_int, ev_is_bool_str, ev_is_bool_tup, ev_is_bool_lst, ev_is_bool_dic, ev_is_int_non, ev_is_int_bl, ev_is_int_int, ev_is_int_str, ev_is_int_tup, ev_is_int_lst, ev_is_int_dic, ev_is_str_non, ev_is_str_bl, ev_is_str_int, ev_is_str_str, ev_is_str_tup, ev_is_str_lst, ev_is_str_dic, ev_is_tuple_non, ev_is_tuple_bl, ev_is_tuple_int, ev_is_tuple_str, ev_is_tuple_tup, ev_is_tuple_lst, ev_is_tuple_dic, ev_is_list_non, ev_is_list_bl, ev_is_list_int, ev_is_list_str, ev_is_list_tup, ev_is_list_lst, ev_is_list_dic, ev_is_dict_non, ev_is_dict_bl, ev_is_dict_int, ev_is_dict_str, ev_is_dict_tup, ev_is_dict_lst, ev_is_dict_dic, ev_isN_non, ev_notN_non, ev_isN_bl, ev_notN_bl, ev_isN_int, ev_notN_int, ev_isN_str, ev_notN_str, ev_isN_tup, ev_notN_tup, ev_isN_lst, ev_notN_lst, ev_isN_dic, ev_notN_dic, ev_c0, ev_c1, ev_c2, ev_c3, ev_c4, ev_c5, ev_c6, ev_c7, ev_c8, ev_c9, ev_c10, ev_c11, Int.reduceLT, Int.reduceLE, Int.reduceSub, Int.reduceAdd, Int.reduceMul, Int.reduceNeg, ev_join, ev_join1, ev_pt0, ev_pt1, ev_pt2, ev_pt3, ev_pt4, ev_rep, ev_rep1, ev_rep2, Int.reduceToNat, Bool.and_self, ev_try, ev_setC, ev_setC1, h0, ev_try1, hz, ev_mul (mulN hx.pN hy.qN), ev_mul (mulN hx.qN hy.pN), hm]
theorem right_ok : m__law_right [fp p q, fp r s] = .ok (.bl true) := by
  have h1 := noX_ok (plus_eq hx hy)
  have h2 := noX_ok (minus_eq hx hy)
  have h3 := noX_ok (times_eq hx hy)
  have k1 := made_ok (qs_ne hx hy) (sum13 hx hy) (abs13 hx.qN hy.qN)
  have k2 := made_ok (qs_ne hx hy) (dif13 hx hy) (abs13 hx.qN hy.qN)
  have k3 := made_ok (qs_ne hx hy) (abs13 hx.pN hy.pN) (abs13 hx.qN hy.qN)
  have ho := over_ok hx hy
  simp only [fp] at h1 h2 h3 ho
  generalize fr (lowS (p * s + r * q) (q * s)) = z1 at h1 k1
  generalize fr (lowS (p * s - r * q) (q * s)) = z2 at h2 k2
  generalize fr (lowS (p * r) (q * s)) = z3 at h3 k3
  simp only [fp, m__law_right, b__law_right, ev_ok, ev_seq, ev_seq1, ev_seq2, ev_seq3, ev_seq4, ev_next, ev_set, ev_set1, ev_ret, ev_ret1, ev_retN, ev_drop, ev_drop1, ev_if, ev_if1, ev_if2, ev_own, ev_own1, ev_app, ev_ownS, ev_appL, ev_put, ev_put1, ev_putL, ev_putL1, ev_frz, ev_unp, ev_par, ev_par1, ev_b1, ev_b2, ev_b21, ev_bA, ev_nil, ev_cons, ev_cons1, ev_cons2, ev_and, ev_and1, ev_and2, ev_or, ev_or1, ev_or2, ev_not, ev_not1, ev_ifx, ev_ifx1, ev_ifx2, ev_var, ev_var1, ev_C, ev_shr0, ev_shr, ev_shr1, ev_shr2, ev_shr3, ev_run, ev_run1, ev_run2, ev_os, ev_os1, ev_on, ev_sl, ev_sl0, ev_sl1, ev_sl2, ev_for, ev_for1, ev_chain, ev_ch, ev_ch1, ev_ch2, ev_ch3, ev_iop, ev_add, ev_neg, ev_m1, ev_m2, ev_lenL, ev_lenT, ev_p60, eq_int, ne_int, List.map_cons, List.map_nil, List.length_cons, List.length_nil, List.replicate_succ, List.replicate_zero, List.nil_append, List.cons_append, List.getElem?_cons_zero, List.getElem?_cons_succ, List.set_cons_zero, List.set_cons_succ, Nat.sub_zero, Nat.reduceSub, Nat.reduceAdd, Nat.add_zero, Nat.zero_add, Bool.not_true, Bool.not_false, ev_tup, ev_lst, ev_addL, ev_app1, ev_appL1, ev_mod, ev_unpL, ev_unpT, ev_sa, ev_sa0, ev_un, ev_un1, ev_un2, ev_un3, ev_ixL0, ev_ixL1, ev_ixL2, ev_ixL3, ev_ixL4, ev_ixL5, ev_ixL6, ev_ixL7, ev_ixL8, ev_ixL9, ev_ixL10, ev_ixL11, ev_ixL12, ev_ixL13, ev_ixT0, ev_ixT1, ev_ixT2, ev_ixT3, ev_ixT4, ev_ixT5, decide_true, decide_false, Nat.reduceLeDiff, Nat.reduceBEq, Int.reduceBEq, beq_self_eq_true, dOne, mYes, ev_is_bool_non, ev_is_bool_bl, ev_is_bool_int, ev_is_bool_str, ev_is_bool_tup, ev_is_bool_lst, ev_is_bool_dic, ev_is_int_non, ev_is_int_bl, ev_is_int_int, ev_is_int_str, ev_is_int_tup, ev_is_int_lst, ev_is_int_dic, ev_is_str_non, ev_is_str_bl, ev_is_str_int, ev_is_str_str, ev_is_str_tup, ev_is_str_lst, ev_is_str_dic, ev_is_tuple_non, ev_is_tuple_bl, ev_is_tuple_int, ev_is_tuple_str, ev_is_tuple_tup, ev_is_tuple_lst, ev_is_tuple_dic, ev_is_list_non, ev_is_list_bl, ev_is_list_int, ev_is_list_str, ev_is_list_tup, ev_is_list_lst, ev_is_list_dic, ev_is_dict_non, ev_is_dict_bl, ev_is_dict_int, ev_is_dict_str, ev_is_dict_tup, ev_is_dict_lst, ev_is_dict_dic, ev_isN_non, ev_notN_non, ev_isN_bl, ev_notN_bl, ev_isN_int, ev_notN_int, ev_isN_str, ev_notN_str, ev_isN_tup, ev_notN_tup, ev_isN_lst, ev_notN_lst, ev_isN_dic, ev_notN_dic, ev_c0, ev_c1, ev_c2, ev_c3, ev_c4, ev_c5, ev_c6, ev_c7, ev_c8, ev_c9, ev_c10, ev_c11, Int.reduceLT, Int.reduceLE, Int.reduceSub, Int.reduceAdd, Int.reduceMul, Int.reduceNeg, ev_join, ev_join1, ev_pt0, ev_pt1, ev_pt2, ev_pt3, ev_pt4, ev_rep, ev_rep1, ev_rep2, Int.reduceToNat, Bool.and_self, ev_mul (mulN hx.qN hy.qN), ev_mul (mulN hx.pN hy.qN), ev_mul (mulN hy.pN hx.qN), ev_mul (mulN hx.pN hy.pN), h1, h2, h3, k1, k2, k3, ho]
end
theorem F2_low {a b : Int} (hb : 0 < b) (ha : a.natAbs ≤ N60) (hbN : b.natAbs ≤ N60) : F2 (a / Int.gcd a b) (b / Int.gcd a b) :=
  ⟨(low_low (a := a) hb).q1, Nat.le_trans (low_le1 (a := a) (b := b)) ha, Nat.le_trans (low_le2 (a := a) (b := b)) hbN⟩
theorem F2_neg {p q : Int} (h : F2 p q) : F2 (0 - p) q := ⟨h.q1, by have := h.pN; omega, h.qN⟩
theorem drawn_ok (c : Int) : ∃ p q w, m__law_drawn [.int c] = .ok (.tup [fp p q, .int w]) ∧ F2 p q := by
  obtain ⟨vs, hl, hv, hd⟩ := draws_eq c [4, 2, 16, (N60 : Int), (N60 : Int) - 1] (sz_ok (by decide)) (by decide)
  match vs, hl with
  | [sm, sg, w, ab, be], _ =>
    simp only [List.map_cons, List.map_nil] at hd
    have hab := hv 3 ab (N60 : Int) rfl rfl
    have hbe := hv 4 be ((N60 : Int) - 1) rfl rfl
    have hN : (100 : Int) ≤ (N60 : Int) := by decide
    have f7 := fmodr (a := ab) (b := 7) (by decide)
    have f6 := fmodr (a := be) (b := 6) (by decide)
    have n13 := n13
    have l1 := lowest_eq (a := ab) (b := 1 + be) (by omega) (by omega) (by omega)
    have l2 := lowest_eq (a := ab.fmod 7) (b := 1 + be.fmod 6) (by omega) (by omega) (by omega)
    have g1 : F2 (ab / Int.gcd ab (1 + be)) ((1 + be) / Int.gcd ab (1 + be)) := F2_low (by omega) (by omega) (by omega)
    have g2 : F2 (ab.fmod 7 / Int.gcd (ab.fmod 7) (1 + be.fmod 6)) ((1 + be.fmod 6) / Int.gcd (ab.fmod 7) (1 + be.fmod 6)) := F2_low (by omega) (by omega) (by omega)
    generalize ab / (Int.gcd ab (1 + be) : Int) = p1 at l1 g1
    generalize (1 + be) / (Int.gcd ab (1 + be) : Int) = q1 at l1 g1
    generalize ab.fmod 7 / (Int.gcd (ab.fmod 7) (1 + be.fmod 6) : Int) = p2 at l2 g2
    generalize (1 + be.fmod 6) / (Int.gcd (ab.fmod 7) (1 + be.fmod 6) : Int) = q2 at l2 g2
    cases hs : (sm == 1) <;> cases hg : (sg == 1)
    · simp only [m__law_drawn, b__law_drawn, ev_ok, ev_seq, ev_seq1, ev_seq2, ev_seq3, ev_seq4, ev_next, ev_set, ev_set1, ev_ret, ev_ret1, ev_retN, ev_drop, ev_drop1, ev_if, ev_if1, ev_if2, ev_own, ev_own1, ev_app, ev_ownS, ev_appL, ev_put, ev_put1, ev_putL, ev_putL1, ev_frz, ev_unp, ev_par, ev_par1, ev_b1, ev_b2, ev_b21, ev_bA, ev_nil, ev_cons, ev_cons1, ev_cons2, ev_and, ev_and1, ev_and2, ev_or, ev_or1, ev_or2, ev_not, ev_not1, ev_ifx, ev_ifx1, ev_ifx2, ev_var, ev_var1, ev_C, ev_shr0, ev_shr, ev_shr1, ev_shr2, ev_shr3, ev_run, ev_run1, ev_run2, ev_os, ev_os1, ev_on, ev_sl, ev_sl0, ev_sl1, ev_sl2, ev_for, ev_for1, ev_chain, ev_ch, ev_ch1, ev_ch2, ev_ch3, ev_iop, ev_add, ev_neg, ev_m1, ev_m2, ev_lenL, ev_lenT, ev_p60, eq_int, ne_int, List.map_cons, List.map_nil, List.length_cons, List.length_nil, List.replicate_succ, List.replicate_zero, List.nil_append, List.cons_append, List.getElem?_cons_zero, List.getElem?_cons_succ, List.set_cons_zero, List.set_cons_succ, Nat.sub_zero, Nat.reduceSub, Nat.reduceAdd, Nat.add_zero, Nat.zero_add, Bool.not_true, Bool.not_false, ev_tup, ev_lst, ev_addL, ev_app1, ev_appL1, ev_mod, ev_unpL, ev_unpT, ev_sa, ev_sa0, ev_un, ev_un1, ev_un2, ev_un3, ev_ixL0, ev_ixL1, ev_ixL2, ev_ixL3, ev_ixL4, ev_ixL5, ev_ixL6, ev_ixL7, ev_ixL8, ev_ixL9, ev_ixL10, ev_ixL11, ev_ixL12, ev_ixL13, ev_ixT0, ev_ixT1, ev_ixT2, ev_ixT3, ev_ixT4, ev_ixT5, decide_true, decide_false, Nat.reduceLeDiff, Nat.reduceBEq, Int.reduceBEq, beq_self_eq_true, dOne, mYes, ev_is_bool_non, ev_is_bool_bl, ev_is_bool_int, ev_is_bool_str, ev_is_bool_tup, ev_is_bool_lst, ev_is_bool_dic, ev_is_int_non, ev_is_int_bl, ev_is_int_int, ev_is_int_str, ev_is_int_tup, ev_is_int_lst, ev_is_int_dic, ev_is_str_non, ev_is_str_bl, ev_is_str_int, ev_is_str_str, ev_is_str_tup, ev_is_str_lst, ev_is_str_dic, ev_is_tuple_non, ev_is_tuple_bl, ev_is_tuple_int, ev_is_tuple_str, ev_is_tuple_tup, ev_is_tuple_lst, ev_is_tuple_dic, ev_is_list_non, ev_is_list_bl, ev_is_list_int, ev_is_list_str, ev_is_list_tup, ev_is_list_lst, ev_is_list_dic, ev_is_dict_non, ev_is_dict_bl, ev_is_dict_int, ev_is_dict_str, ev_is_dict_tup, ev_is_dict_lst, ev_is_dict_dic, ev_isN_non, ev_notN_non, ev_isN_bl, ev_notN_bl, ev_isN_int, ev_notN_int, ev_isN_str, ev_notN_str, ev_isN_tup, ev_notN_tup, ev_isN_lst, ev_notN_lst, ev_isN_dic, ev_notN_dic, ev_c0, ev_c1, ev_c2, ev_c3, ev_c4, ev_c5, ev_c6, ev_c7, ev_c8, ev_c9, ev_c10, ev_c11, Int.reduceLT, Int.reduceLE, Int.reduceSub, Int.reduceAdd, Int.reduceMul, Int.reduceNeg, ev_join, ev_join1, ev_pt0, ev_pt1, ev_pt2, ev_pt3, ev_pt4, ev_rep, ev_rep1, ev_rep2, Int.reduceToNat, Bool.and_self, e_draws, hd, hs, hg, e_lowest, l1]
      exact ⟨_, _, _, rfl, g1⟩
    · simp only [m__law_drawn, b__law_drawn, ev_ok, ev_seq, ev_seq1, ev_seq2, ev_seq3, ev_seq4, ev_next, ev_set, ev_set1, ev_ret, ev_ret1, ev_retN, ev_drop, ev_drop1, ev_if, ev_if1, ev_if2, ev_own, ev_own1, ev_app, ev_ownS, ev_appL, ev_put, ev_put1, ev_putL, ev_putL1, ev_frz, ev_unp, ev_par, ev_par1, ev_b1, ev_b2, ev_b21, ev_bA, ev_nil, ev_cons, ev_cons1, ev_cons2, ev_and, ev_and1, ev_and2, ev_or, ev_or1, ev_or2, ev_not, ev_not1, ev_ifx, ev_ifx1, ev_ifx2, ev_var, ev_var1, ev_C, ev_shr0, ev_shr, ev_shr1, ev_shr2, ev_shr3, ev_run, ev_run1, ev_run2, ev_os, ev_os1, ev_on, ev_sl, ev_sl0, ev_sl1, ev_sl2, ev_for, ev_for1, ev_chain, ev_ch, ev_ch1, ev_ch2, ev_ch3, ev_iop, ev_add, ev_neg, ev_m1, ev_m2, ev_lenL, ev_lenT, ev_p60, eq_int, ne_int, List.map_cons, List.map_nil, List.length_cons, List.length_nil, List.replicate_succ, List.replicate_zero, List.nil_append, List.cons_append, List.getElem?_cons_zero, List.getElem?_cons_succ, List.set_cons_zero, List.set_cons_succ, Nat.sub_zero, Nat.reduceSub, Nat.reduceAdd, Nat.add_zero, Nat.zero_add, Bool.not_true, Bool.not_false, ev_tup, ev_lst, ev_addL, ev_app1, ev_appL1, ev_mod, ev_unpL, ev_unpT, ev_sa, ev_sa0, ev_un, ev_un1, ev_un2, ev_un3, ev_ixL0, ev_ixL1, ev_ixL2, ev_ixL3, ev_ixL4, ev_ixL5, ev_ixL6, ev_ixL7, ev_ixL8, ev_ixL9, ev_ixL10, ev_ixL11, ev_ixL12, ev_ixL13, ev_ixT0, ev_ixT1, ev_ixT2, ev_ixT3, ev_ixT4, ev_ixT5, decide_true, decide_false, Nat.reduceLeDiff, Nat.reduceBEq, Int.reduceBEq, beq_self_eq_true, dOne, mYes, ev_is_bool_non, ev_is_bool_bl, ev_is_bool_int, ev_is_bool_str, ev_is_bool_tup, ev_is_bool_lst, ev_is_bool_dic, ev_is_int_non, ev_is_int_bl, ev_is_int_int, ev_is_int_str, ev_is_int_tup, ev_is_int_lst, ev_is_int_dic, ev_is_str_non, ev_is_str_bl, ev_is_str_int, ev_is_str_str, ev_is_str_tup, ev_is_str_lst, ev_is_str_dic, ev_is_tuple_non, ev_is_tuple_bl, ev_is_tuple_int, ev_is_tuple_str, ev_is_tuple_tup, ev_is_tuple_lst, ev_is_tuple_dic, ev_is_list_non, ev_is_list_bl, ev_is_list_int, ev_is_list_str, ev_is_list_tup, ev_is_list_lst, ev_is_list_dic, ev_is_dict_non, ev_is_dict_bl, ev_is_dict_int, ev_is_dict_str, ev_is_dict_tup, ev_is_dict_lst, ev_is_dict_dic, ev_isN_non, ev_notN_non, ev_isN_bl, ev_notN_bl, ev_isN_int, ev_notN_int, ev_isN_str, ev_notN_str, ev_isN_tup, ev_notN_tup, ev_isN_lst, ev_notN_lst, ev_isN_dic, ev_notN_dic, ev_c0, ev_c1, ev_c2, ev_c3, ev_c4, ev_c5, ev_c6, ev_c7, ev_c8, ev_c9, ev_c10, ev_c11, Int.reduceLT, Int.reduceLE, Int.reduceSub, Int.reduceAdd, Int.reduceMul, Int.reduceNeg, ev_join, ev_join1, ev_pt0, ev_pt1, ev_pt2, ev_pt3, ev_pt4, ev_rep, ev_rep1, ev_rep2, Int.reduceToNat, Bool.and_self, e_draws, hd, hs, hg, e_lowest, l1]
      exact ⟨_, _, _, rfl, F2_neg g1⟩
    · simp only [m__law_drawn, b__law_drawn, ev_ok, ev_seq, ev_seq1, ev_seq2, ev_seq3, ev_seq4, ev_next, ev_set, ev_set1, ev_ret, ev_ret1, ev_retN, ev_drop, ev_drop1, ev_if, ev_if1, ev_if2, ev_own, ev_own1, ev_app, ev_ownS, ev_appL, ev_put, ev_put1, ev_putL, ev_putL1, ev_frz, ev_unp, ev_par, ev_par1, ev_b1, ev_b2, ev_b21, ev_bA, ev_nil, ev_cons, ev_cons1, ev_cons2, ev_and, ev_and1, ev_and2, ev_or, ev_or1, ev_or2, ev_not, ev_not1, ev_ifx, ev_ifx1, ev_ifx2, ev_var, ev_var1, ev_C, ev_shr0, ev_shr, ev_shr1, ev_shr2, ev_shr3, ev_run, ev_run1, ev_run2, ev_os, ev_os1, ev_on, ev_sl, ev_sl0, ev_sl1, ev_sl2, ev_for, ev_for1, ev_chain, ev_ch, ev_ch1, ev_ch2, ev_ch3, ev_iop, ev_add, ev_neg, ev_m1, ev_m2, ev_lenL, ev_lenT, ev_p60, eq_int, ne_int, List.map_cons, List.map_nil, List.length_cons, List.length_nil, List.replicate_succ, List.replicate_zero, List.nil_append, List.cons_append, List.getElem?_cons_zero, List.getElem?_cons_succ, List.set_cons_zero, List.set_cons_succ, Nat.sub_zero, Nat.reduceSub, Nat.reduceAdd, Nat.add_zero, Nat.zero_add, Bool.not_true, Bool.not_false, ev_tup, ev_lst, ev_addL, ev_app1, ev_appL1, ev_mod, ev_unpL, ev_unpT, ev_sa, ev_sa0, ev_un, ev_un1, ev_un2, ev_un3, ev_ixL0, ev_ixL1, ev_ixL2, ev_ixL3, ev_ixL4, ev_ixL5, ev_ixL6, ev_ixL7, ev_ixL8, ev_ixL9, ev_ixL10, ev_ixL11, ev_ixL12, ev_ixL13, ev_ixT0, ev_ixT1, ev_ixT2, ev_ixT3, ev_ixT4, ev_ixT5, decide_true, decide_false, Nat.reduceLeDiff, Nat.reduceBEq, Int.reduceBEq, beq_self_eq_true, dOne, mYes, ev_is_bool_non, ev_is_bool_bl, ev_is_bool_int, ev_is_bool_str, ev_is_bool_tup, ev_is_bool_lst, ev_is_bool_dic, ev_is_int_non, ev_is_int_bl, ev_is_int_int, ev_is_int_str, ev_is_int_tup, ev_is_int_lst, ev_is_int_dic, ev_is_str_non, ev_is_str_bl, ev_is_str_int, ev_is_str_str, ev_is_str_tup, ev_is_str_lst, ev_is_str_dic, ev_is_tuple_non, ev_is_tuple_bl, ev_is_tuple_int, ev_is_tuple_str, ev_is_tuple_tup, ev_is_tuple_lst, ev_is_tuple_dic, ev_is_list_non, ev_is_list_bl, ev_is_list_int, ev_is_list_str, ev_is_list_tup, ev_is_list_lst, ev_is_list_dic, ev_is_dict_non, ev_is_dict_bl, ev_is_dict_int, ev_is_dict_str, ev_is_dict_tup, ev_is_dict_lst, ev_is_dict_dic, ev_isN_non, ev_notN_non, ev_isN_bl, ev_notN_bl, ev_isN_int, ev_notN_int, ev_isN_str, ev_notN_str, ev_isN_tup, ev_notN_tup, ev_isN_lst, ev_notN_lst, ev_isN_dic, ev_notN_dic, ev_c0, ev_c1, ev_c2, ev_c3, ev_c4, ev_c5, ev_c6, ev_c7, ev_c8, ev_c9, ev_c10, ev_c11, Int.reduceLT, Int.reduceLE, Int.reduceSub, Int.reduceAdd, Int.reduceMul, Int.reduceNeg, ev_join, ev_join1, ev_pt0, ev_pt1, ev_pt2, ev_pt3, ev_pt4, ev_rep, ev_rep1, ev_rep2, Int.reduceToNat, Bool.and_self, e_draws, hd, hs, hg, e_lowest, l2]
      exact ⟨_, _, _, rfl, g2⟩
    · simp only [m__law_drawn, b__law_drawn, ev_ok, ev_seq, ev_seq1, ev_seq2, ev_seq3, ev_seq4, ev_next, ev_set, ev_set1, ev_ret, ev_ret1, ev_retN, ev_drop, ev_drop1, ev_if, ev_if1, ev_if2, ev_own, ev_own1, ev_app, ev_ownS, ev_appL, ev_put, ev_put1, ev_putL, ev_putL1, ev_frz, ev_unp, ev_par, ev_par1, ev_b1, ev_b2, ev_b21, ev_bA, ev_nil, ev_cons, ev_cons1, ev_cons2, ev_and, ev_and1, ev_and2, ev_or, ev_or1, ev_or2, ev_not, ev_not1, ev_ifx, ev_ifx1, ev_ifx2, ev_var, ev_var1, ev_C, ev_shr0, ev_shr, ev_shr1, ev_shr2, ev_shr3, ev_run, ev_run1, ev_run2, ev_os, ev_os1, ev_on, ev_sl, ev_sl0, ev_sl1, ev_sl2, ev_for, ev_for1, ev_chain, ev_ch, ev_ch1, ev_ch2, ev_ch3, ev_iop, ev_add, ev_neg, ev_m1, ev_m2, ev_lenL, ev_lenT, ev_p60, eq_int, ne_int, List.map_cons, List.map_nil, List.length_cons, List.length_nil, List.replicate_succ, List.replicate_zero, List.nil_append, List.cons_append, List.getElem?_cons_zero, List.getElem?_cons_succ, List.set_cons_zero, List.set_cons_succ, Nat.sub_zero, Nat.reduceSub, Nat.reduceAdd, Nat.add_zero, Nat.zero_add, Bool.not_true, Bool.not_false, ev_tup, ev_lst, ev_addL, ev_app1, ev_appL1, ev_mod, ev_unpL, ev_unpT, ev_sa, ev_sa0, ev_un, ev_un1, ev_un2, ev_un3, ev_ixL0, ev_ixL1, ev_ixL2, ev_ixL3, ev_ixL4, ev_ixL5, ev_ixL6, ev_ixL7, ev_ixL8, ev_ixL9, ev_ixL10, ev_ixL11, ev_ixL12, ev_ixL13, ev_ixT0, ev_ixT1, ev_ixT2, ev_ixT3, ev_ixT4, ev_ixT5, decide_true, decide_false, Nat.reduceLeDiff, Nat.reduceBEq, Int.reduceBEq, beq_self_eq_true, dOne, mYes, ev_is_bool_non, ev_is_bool_bl, ev_is_bool_int, ev_is_bool_str, ev_is_bool_tup, ev_is_bool_lst, ev_is_bool_dic, ev_is_int_non, ev_is_int_bl, ev_is_int_int, ev_is_int_str, ev_is_int_tup, ev_is_int_lst, ev_is_int_dic, ev_is_str_non, ev_is_str_bl, ev_is_str_int, ev_is_str_str, ev_is_str_tup, ev_is_str_lst, ev_is_str_dic, ev_is_tuple_non, ev_is_tuple_bl, ev_is_tuple_int, ev_is_tuple_str, ev_is_tuple_tup, ev_is_tuple_lst, ev_is_tuple_dic, ev_is_list_non, ev_is_list_bl, ev_is_list_int, ev_is_list_str, ev_is_list_tup, ev_is_list_lst, ev_is_list_dic, ev_is_dict_non, ev_is_dict_bl, ev_is_dict_int, ev_is_dict_str, ev_is_dict_tup, ev_is_dict_lst, ev_is_dict_dic, ev_isN_non, ev_notN_non, ev_isN_bl, ev_notN_bl, ev_isN_int, ev_notN_int, ev_isN_str, ev_notN_str, ev_isN_tup, ev_notN_tup, ev_isN_lst, ev_notN_lst, ev_isN_dic, ev_notN_dic, ev_c0, ev_c1, ev_c2, ev_c3, ev_c4, ev_c5, ev_c6, ev_c7, ev_c8, ev_c9, ev_c10, ev_c11, Int.reduceLT, Int.reduceLE, Int.reduceSub, Int.reduceAdd, Int.reduceMul, Int.reduceNeg, ev_join, ev_join1, ev_pt0, ev_pt1, ev_pt2, ev_pt3, ev_pt4, ev_rep, ev_rep1, ev_rep2, Int.reduceToNat, Bool.and_self, e_draws, hd, hs, hg, e_lowest, l2]
      exact ⟨_, _, _, rfl, F2_neg g2⟩
theorem second_ok {p q r s w : Int} (hx : F2 p q) (hy : F2 r s) : ∃ a b, m__law_second [fp p q, fp r s, .int w] = .ok (fp a b) ∧ F2 a b := by
  cases h1 : (w == 1)
  · cases h2 : (w == 2)
    · cases h4 : (w == 4)
      · cases h3 : (w == 3)
        · simp only [fp, m__law_second, b__law_second, ev_ok, ev_seq, ev_seq1, ev_seq2, ev_seq3, ev_seq4, ev_next, ev_set, ev_set1, ev_ret, ev_ret1, ev_retN, ev_drop, ev_drop1, ev_if, ev_if1, ev_if2, ev_own, ev_own1, ev_app, ev_ownS, ev_appL, ev_put, ev_put1, ev_putL, ev_putL1, ev_frz, ev_unp, ev_par, ev_par1, ev_b1, ev_b2, ev_b21, ev_bA, ev_nil, ev_cons, ev_cons1, ev_cons2, ev_and, ev_and1, ev_and2, ev_or, ev_or1, ev_or2, ev_not, ev_not1, ev_ifx, ev_ifx1, ev_ifx2, ev_var, ev_var1, ev_C, ev_shr0, ev_shr, ev_shr1, ev_shr2, ev_shr3, ev_run, ev_run1, ev_run2, ev_os, ev_os1, ev_on, ev_sl, ev_sl0, ev_sl1, ev_sl2, ev_for, ev_for1, ev_chain, ev_ch, ev_ch1, ev_ch2, ev_ch3, ev_iop, ev_add, ev_neg, ev_m1, ev_m2, ev_lenL, ev_lenT, ev_p60, eq_int, ne_int, List.map_cons, List.map_nil, List.length_cons, List.length_nil, List.replicate_succ, List.replicate_zero, List.nil_append, List.cons_append, List.getElem?_cons_zero, List.getElem?_cons_succ, List.set_cons_zero, List.set_cons_succ, Nat.sub_zero, Nat.reduceSub, Nat.reduceAdd, Nat.add_zero, Nat.zero_add, Bool.not_true, Bool.not_false, ev_tup, ev_lst, ev_addL, ev_app1, ev_appL1, ev_mod, ev_unpL, ev_unpT, ev_sa, ev_sa0, ev_un, ev_un1, ev_un2, ev_un3, ev_ixL0, ev_ixL1, ev_ixL2, ev_ixL3, ev_ixL4, ev_ixL5, ev_ixL6, ev_ixL7, ev_ixL8, ev_ixL9, ev_ixL10, ev_ixL11, ev_ixL12, ev_ixL13, ev_ixT0, ev_ixT1, ev_ixT2, ev_ixT3, ev_ixT4, ev_ixT5, decide_true, decide_false, Nat.reduceLeDiff, Nat.reduceBEq, Int.reduceBEq, beq_self_eq_true, dOne, mYes, ev_is_bool_non, ev_is_bool_bl, ev_is_bool_int, ev_is_bool_str, ev_is_bool_tup, ev_is_bool_lst, ev_is_bool_dic, ev_is_int_non, ev_is_int_bl, ev_is_int_int, ev_is_int_str, ev_is_int_tup, ev_is_int_lst, ev_is_int_dic, ev_is_str_non, ev_is_str_bl, ev_is_str_int, ev_is_str_str, ev_is_str_tup, ev_is_str_lst, ev_is_str_dic, ev_is_tuple_non, ev_is_tuple_bl, ev_is_tuple_int, ev_is_tuple_str, ev_is_tuple_tup, ev_is_tuple_lst, ev_is_tuple_dic, ev_is_list_non, ev_is_list_bl, ev_is_list_int, ev_is_list_str, ev_is_list_tup, ev_is_list_lst, ev_is_list_dic, ev_is_dict_non, ev_is_dict_bl, ev_is_dict_int, ev_is_dict_str, ev_is_dict_tup, ev_is_dict_lst, ev_is_dict_dic, ev_isN_non, ev_notN_non, ev_isN_bl, ev_notN_bl, ev_isN_int, ev_notN_int, ev_isN_str, ev_notN_str, ev_isN_tup, ev_notN_tup, ev_isN_lst, ev_notN_lst, ev_isN_dic, ev_notN_dic, ev_c0, ev_c1, ev_c2, ev_c3, ev_c4, ev_c5, ev_c6, ev_c7, ev_c8, ev_c9, ev_c10, ev_c11, Int.reduceLT, Int.reduceLE, Int.reduceSub, Int.reduceAdd, Int.reduceMul, Int.reduceNeg, ev_join, ev_join1, ev_pt0, ev_pt1, ev_pt2, ev_pt3, ev_pt4, ev_rep, ev_rep1, ev_rep2, Int.reduceToNat, Bool.and_self, h1, h2, h3, h4]
          exact ⟨_, _, rfl, hy⟩
        · cases h5 : decide (p > 0)
          · simp only [fp, m__law_second, b__law_second, ev_ok, ev_seq, ev_seq1, ev_seq2, ev_seq3, ev_seq4, ev_next, ev_set, ev_set1, ev_ret, ev_ret1, ev_retN, ev_drop, ev_drop1, ev_if, ev_if1, ev_if2, ev_own, ev_own1, ev_app, ev_ownS, ev_appL, ev_put, ev_put1, ev_putL, ev_putL1, ev_frz, ev_unp, ev_par, ev_par1, ev_b1, ev_b2, ev_b21, ev_bA, ev_nil, ev_cons, ev_cons1, ev_cons2, ev_and, ev_and1, ev_and2, ev_or, ev_or1, ev_or2, ev_not, ev_not1, ev_ifx, ev_ifx1, ev_ifx2, ev_var, ev_var1, ev_C, ev_shr0, ev_shr, ev_shr1, ev_shr2, ev_shr3, ev_run, ev_run1, ev_run2, ev_os, ev_os1, ev_on, ev_sl, ev_sl0, ev_sl1, ev_sl2, ev_for, ev_for1, ev_chain, ev_ch, ev_ch1, ev_ch2, ev_ch3, ev_iop, ev_add, ev_neg, ev_m1, ev_m2, ev_lenL, ev_lenT, ev_p60, eq_int, ne_int, List.map_cons, List.map_nil, List.length_cons, List.length_nil, List.replicate_succ, List.replicate_zero, List.nil_append, List.cons_append, List.getElem?_cons_zero, List.getElem?_cons_succ, List.set_cons_zero, List.set_cons_succ, Nat.sub_zero, Nat.reduceSub, Nat.reduceAdd, Nat.add_zero, Nat.zero_add, Bool.not_true, Bool.not_false, ev_tup, ev_lst, ev_addL, ev_app1, ev_appL1, ev_mod, ev_unpL, ev_unpT, ev_sa, ev_sa0, ev_un, ev_un1, ev_un2, ev_un3, ev_ixL0, ev_ixL1, ev_ixL2, ev_ixL3, ev_ixL4, ev_ixL5, ev_ixL6, ev_ixL7, ev_ixL8, ev_ixL9, ev_ixL10, ev_ixL11, ev_ixL12, ev_ixL13, ev_ixT0, ev_ixT1, ev_ixT2, ev_ixT3, ev_ixT4, ev_ixT5, decide_true, decide_false, Nat.reduceLeDiff, Nat.reduceBEq, Int.reduceBEq, beq_self_eq_true, dOne, mYes, ev_is_bool_non, ev_is_bool_bl, ev_is_bool_int, ev_is_bool_str, ev_is_bool_tup, ev_is_bool_lst, ev_is_bool_dic, ev_is_int_non, ev_is_int_bl, ev_is_int_int, ev_is_int_str, ev_is_int_tup, ev_is_int_lst, ev_is_int_dic, ev_is_str_non, ev_is_str_bl, ev_is_str_int, ev_is_str_str, ev_is_str_tup, ev_is_str_lst, ev_is_str_dic, ev_is_tuple_non, ev_is_tuple_bl, ev_is_tuple_int, ev_is_tuple_str, ev_is_tuple_tup, ev_is_tuple_lst, ev_is_tuple_dic, ev_is_list_non, ev_is_list_bl, ev_is_list_int, ev_is_list_str, ev_is_list_tup, ev_is_list_lst, ev_is_list_dic, ev_is_dict_non, ev_is_dict_bl, ev_is_dict_int, ev_is_dict_str, ev_is_dict_tup, ev_is_dict_lst, ev_is_dict_dic, ev_isN_non, ev_notN_non, ev_isN_bl, ev_notN_bl, ev_isN_int, ev_notN_int, ev_isN_str, ev_notN_str, ev_isN_tup, ev_notN_tup, ev_isN_lst, ev_notN_lst, ev_isN_dic, ev_notN_dic, ev_c0, ev_c1, ev_c2, ev_c3, ev_c4, ev_c5, ev_c6, ev_c7, ev_c8, ev_c9, ev_c10, ev_c11, Int.reduceLT, Int.reduceLE, Int.reduceSub, Int.reduceAdd, Int.reduceMul, Int.reduceNeg, ev_join, ev_join1, ev_pt0, ev_pt1, ev_pt2, ev_pt3, ev_pt4, ev_rep, ev_rep1, ev_rep2, Int.reduceToNat, Bool.and_self, h1, h2, h3, h4, h5]
            exact ⟨_, _, rfl, hy⟩
          · simp only [fp, m__law_second, b__law_second, ev_ok, ev_seq, ev_seq1, ev_seq2, ev_seq3, ev_seq4, ev_next, ev_set, ev_set1, ev_ret, ev_ret1, ev_retN, ev_drop, ev_drop1, ev_if, ev_if1, ev_if2, ev_own, ev_own1, ev_app, ev_ownS, ev_appL, ev_put, ev_put1, ev_putL, ev_putL1, ev_frz, ev_unp, ev_par, ev_par1, ev_b1, ev_b2, ev_b21, ev_bA, ev_nil, ev_cons, ev_cons1, ev_cons2, ev_and, ev_and1, ev_and2, ev_or, ev_or1, ev_or2, ev_not, ev_not1, ev_ifx, ev_ifx1, ev_ifx2, ev_var, ev_var1, ev_C, ev_shr0, ev_shr, ev_shr1, ev_shr2, ev_shr3, ev_run, ev_run1, ev_run2, ev_os, ev_os1, ev_on, ev_sl, ev_sl0, ev_sl1, ev_sl2, ev_for, ev_for1, ev_chain, ev_ch, ev_ch1, ev_ch2, ev_ch3, ev_iop, ev_add, ev_neg, ev_m1, ev_m2, ev_lenL, ev_lenT, ev_p60, eq_int, ne_int, List.map_cons, List.map_nil, List.length_cons, List.length_nil, List.replicate_succ, List.replicate_zero, List.nil_append, List.cons_append, List.getElem?_cons_zero, List.getElem?_cons_succ, List.set_cons_zero, List.set_cons_succ, Nat.sub_zero, Nat.reduceSub, Nat.reduceAdd, Nat.add_zero, Nat.zero_add, Bool.not_true, Bool.not_false, ev_tup, ev_lst, ev_addL, ev_app1, ev_appL1, ev_mod, ev_unpL, ev_unpT, ev_sa, ev_sa0, ev_un, ev_un1, ev_un2, ev_un3, ev_ixL0, ev_ixL1, ev_ixL2, ev_ixL3, ev_ixL4, ev_ixL5, ev_ixL6, ev_ixL7, ev_ixL8, ev_ixL9, ev_ixL10, ev_ixL11, ev_ixL12, ev_ixL13, ev_ixT0, ev_ixT1, ev_ixT2, ev_ixT3, ev_ixT4, ev_ixT5, decide_true, decide_false, Nat.reduceLeDiff, Nat.reduceBEq, Int.reduceBEq, beq_self_eq_true, dOne, mYes, ev_is_bool_non, ev_is_bool_bl, ev_is_bool_int, ev_is_bool_str, ev_is_bool_tup, ev_is_bool_lst, ev_is_bool_dic, ev_is_int_non, ev_is_int_bl, ev_is_int_int, ev_is_int_str, ev_is_int_tup, ev_is_int_lst, ev_is_int_dic, ev_is_str_non, ev_is_str_bl, ev_is_str_int, ev_is_str_str, ev_is_str_tup, ev_is_str_lst, ev_is_str_dic, ev_is_tuple_non, ev_is_tuple_bl, ev_is_tuple_int, ev_is_tuple_str, ev_is_tuple_tup, ev_is_tuple_lst, ev_is_tuple_dic, ev_is_list_non, ev_is_list_bl, ev_is_list_int, ev_is_list_str, ev_is_list_tup, ev_is_list_lst, ev_is_list_dic, ev_is_dict_non, ev_is_dict_bl, ev_is_dict_int, ev_is_dict_str, ev_is_dict_tup, ev_is_dict_lst, ev_is_dict_dic, ev_isN_non, ev_notN_non, ev_isN_bl, ev_notN_bl, ev_isN_int, ev_notN_int, ev_isN_str, ev_notN_str, ev_isN_tup, ev_notN_tup, ev_isN_lst, ev_notN_lst, ev_isN_dic, ev_notN_dic, ev_c0, ev_c1, ev_c2, ev_c3, ev_c4, ev_c5, ev_c6, ev_c7, ev_c8, ev_c9, ev_c10, ev_c11, Int.reduceLT, Int.reduceLE, Int.reduceSub, Int.reduceAdd, Int.reduceMul, Int.reduceNeg, ev_join, ev_join1, ev_pt0, ev_pt1, ev_pt2, ev_pt3, ev_pt4, ev_rep, ev_rep1, ev_rep2, Int.reduceToNat, Bool.and_self, h1, h2, h3, h4, h5]
            exact ⟨_, _, rfl, by have := of_decide_eq_true h5; omega, hx.qN, hx.pN⟩
      · have h3 : (w == 3) = false := by have := beq_iff_eq.mp h4; subst this; rfl
        simp only [fp, m__law_second, b__law_second, ev_ok, ev_seq, ev_seq1, ev_seq2, ev_seq3, ev_seq4, ev_next, ev_set, ev_set1, ev_ret, ev_ret1, ev_retN, ev_drop, ev_drop1, ev_if, ev_if1, ev_if2, ev_own, ev_own1, ev_app, ev_ownS, ev_appL, ev_put, ev_put1, ev_putL, ev_putL1, ev_frz, ev_unp, ev_par, ev_par1, ev_b1, ev_b2, ev_b21, ev_bA, ev_nil, ev_cons, ev_cons1, ev_cons2, ev_and, ev_and1, ev_and2, ev_or, ev_or1, ev_or2, ev_not, ev_not1, ev_ifx, ev_ifx1, ev_ifx2, ev_var, ev_var1, ev_C, ev_shr0, ev_shr, ev_shr1, ev_shr2, ev_shr3, ev_run, ev_run1, ev_run2, ev_os, ev_os1, ev_on, ev_sl, ev_sl0, ev_sl1, ev_sl2, ev_for, ev_for1, ev_chain, ev_ch, ev_ch1, ev_ch2, ev_ch3, ev_iop, ev_add, ev_neg, ev_m1, ev_m2, ev_lenL, ev_lenT, ev_p60, eq_int, ne_int, List.map_cons, List.map_nil, List.length_cons, List.length_nil, List.replicate_succ, List.replicate_zero, List.nil_append, List.cons_append, List.getElem?_cons_zero, List.getElem?_cons_succ, List.set_cons_zero, List.set_cons_succ, Nat.sub_zero, Nat.reduceSub, Nat.reduceAdd, Nat.add_zero, Nat.zero_add, Bool.not_true, Bool.not_false, ev_tup, ev_lst, ev_addL, ev_app1, ev_appL1, ev_mod, ev_unpL, ev_unpT, ev_sa, ev_sa0, ev_un, ev_un1, ev_un2, ev_un3, ev_ixL0, ev_ixL1, ev_ixL2, ev_ixL3, ev_ixL4, ev_ixL5, ev_ixL6, ev_ixL7, ev_ixL8, ev_ixL9, ev_ixL10, ev_ixL11, ev_ixL12, ev_ixL13, ev_ixT0, ev_ixT1, ev_ixT2, ev_ixT3, ev_ixT4, ev_ixT5, decide_true, decide_false, Nat.reduceLeDiff, Nat.reduceBEq, Int.reduceBEq, beq_self_eq_true, dOne, mYes, ev_is_bool_non, ev_is_bool_bl, ev_is_bool_int, ev_is_bool_str, ev_is_bool_tup, ev_is_bool_lst, ev_is_bool_dic, ev_is_int_non, ev_is_int_bl, ev_is_int_int, ev_is_int_str, ev_is_int_tup, ev_is_int_lst, ev_is_int_dic, ev_is_str_non, ev_is_str_bl, ev_is_str_int, ev_is_str_str, ev_is_str_tup, ev_is_str_lst, ev_is_str_dic, ev_is_tuple_non, ev_is_tuple_bl, ev_is_tuple_int, ev_is_tuple_str, ev_is_tuple_tup, ev_is_tuple_lst, ev_is_tuple_dic, ev_is_list_non, ev_is_list_bl, ev_is_list_int, ev_is_list_str, ev_is_list_tup, ev_is_list_lst, ev_is_list_dic, ev_is_dict_non, ev_is_dict_bl, ev_is_dict_int, ev_is_dict_str, ev_is_dict_tup, ev_is_dict_lst, ev_is_dict_dic, ev_isN_non, ev_notN_non, ev_isN_bl, ev_notN_bl, ev_isN_int, ev_notN_int, ev_isN_str, ev_notN_str, ev_isN_tup, ev_notN_tup, ev_isN_lst, ev_notN_lst, ev_isN_dic, ev_notN_dic, ev_c0, ev_c1, ev_c2, ev_c3, ev_c4, ev_c5, ev_c6, ev_c7, ev_c8, ev_c9, ev_c10, ev_c11, Int.reduceLT, Int.reduceLE, Int.reduceSub, Int.reduceAdd, Int.reduceMul, Int.reduceNeg, ev_join, ev_join1, ev_pt0, ev_pt1, ev_pt2, ev_pt3, ev_pt4, ev_rep, ev_rep1, ev_rep2, Int.reduceToNat, Bool.and_self, h1, h2, h3, h4]
        exact ⟨_, _, rfl, by decide, by decide, by decide⟩
    · simp only [fp, m__law_second, b__law_second, ev_ok, ev_seq, ev_seq1, ev_seq2, ev_seq3, ev_seq4, ev_next, ev_set, ev_set1, ev_ret, ev_ret1, ev_retN, ev_drop, ev_drop1, ev_if, ev_if1, ev_if2, ev_own, ev_own1, ev_app, ev_ownS, ev_appL, ev_put, ev_put1, ev_putL, ev_putL1, ev_frz, ev_unp, ev_par, ev_par1, ev_b1, ev_b2, ev_b21, ev_bA, ev_nil, ev_cons, ev_cons1, ev_cons2, ev_and, ev_and1, ev_and2, ev_or, ev_or1, ev_or2, ev_not, ev_not1, ev_ifx, ev_ifx1, ev_ifx2, ev_var, ev_var1, ev_C, ev_shr0, ev_shr, ev_shr1, ev_shr2, ev_shr3, ev_run, ev_run1, ev_run2, ev_os, ev_os1, ev_on, ev_sl, ev_sl0, ev_sl1, ev_sl2, ev_for, ev_for1, ev_chain, ev_ch, ev_ch1, ev_ch2, ev_ch3, ev_iop, ev_add, ev_neg, ev_m1, ev_m2, ev_lenL, ev_lenT, ev_p60, eq_int, ne_int, List.map_cons, List.map_nil, List.length_cons, List.length_nil, List.replicate_succ, List.replicate_zero, List.nil_append, List.cons_append, List.getElem?_cons_zero, List.getElem?_cons_succ, List.set_cons_zero, List.set_cons_succ, Nat.sub_zero, Nat.reduceSub, Nat.reduceAdd, Nat.add_zero, Nat.zero_add, Bool.not_true, Bool.not_false, ev_tup, ev_lst, ev_addL, ev_app1, ev_appL1, ev_mod, ev_unpL, ev_unpT, ev_sa, ev_sa0, ev_un, ev_un1, ev_un2, ev_un3, ev_ixL0, ev_ixL1, ev_ixL2, ev_ixL3, ev_ixL4, ev_ixL5, ev_ixL6, ev_ixL7, ev_ixL8, ev_ixL9, ev_ixL10, ev_ixL11, ev_ixL12, ev_ixL13, ev_ixT0, ev_ixT1, ev_ixT2, ev_ixT3, ev_ixT4, ev_ixT5, decide_true, decide_false, Nat.reduceLeDiff, Nat.reduceBEq, Int.reduceBEq, beq_self_eq_true, dOne, mYes, ev_is_bool_non, ev_is_bool_bl, ev_is_bool_int, ev_is_bool_str, ev_is_bool_tup, ev_is_bool_lst, ev_is_bool_dic, ev_is_int_non, ev_is_int_bl, ev_is_int_int, ev_is_int_str, ev_is_int_tup, ev_is_int_lst, ev_is_int_dic, ev_is_str_non, ev_is_str_bl, ev_is_str_int, ev_is_str_str, ev_is_str_tup, ev_is_str_lst, ev_is_str_dic, ev_is_tuple_non, ev_is_tuple_bl, ev_is_tuple_int, ev_is_tuple_str, ev_is_tuple_tup, ev_is_tuple_lst, ev_is_tuple_dic, ev_is_list_non, ev_is_list_bl, ev_is_list_int, ev_is_list_str, ev_is_list_tup, ev_is_list_lst, ev_is_list_dic, ev_is_dict_non, ev_is_dict_bl, ev_is_dict_int, ev_is_dict_str, ev_is_dict_tup, ev_is_dict_lst, ev_is_dict_dic, ev_isN_non, ev_notN_non, ev_isN_bl, ev_notN_bl, ev_isN_int, ev_notN_int, ev_isN_str, ev_notN_str, ev_isN_tup, ev_notN_tup, ev_isN_lst, ev_notN_lst, ev_isN_dic, ev_notN_dic, ev_c0, ev_c1, ev_c2, ev_c3, ev_c4, ev_c5, ev_c6, ev_c7, ev_c8, ev_c9, ev_c10, ev_c11, Int.reduceLT, Int.reduceLE, Int.reduceSub, Int.reduceAdd, Int.reduceMul, Int.reduceNeg, ev_join, ev_join1, ev_pt0, ev_pt1, ev_pt2, ev_pt3, ev_pt4, ev_rep, ev_rep1, ev_rep2, Int.reduceToNat, Bool.and_self, h1, h2]
      exact ⟨_, _, rfl, F2_neg hx⟩
  · simp only [fp, m__law_second, b__law_second, ev_ok, ev_seq, ev_seq1, ev_seq2, ev_seq3, ev_seq4, ev_next, ev_set, ev_set1, ev_ret, ev_ret1, ev_retN, ev_drop, ev_drop1, ev_if, ev_if1, ev_if2, ev_own, ev_own1, ev_app, ev_ownS, ev_appL, ev_put, ev_put1, ev_putL, ev_putL1, ev_frz, ev_unp, ev_par, ev_par1, ev_b1, ev_b2, ev_b21, ev_bA, ev_nil, ev_cons, ev_cons1, ev_cons2, ev_and, ev_and1, ev_and2, ev_or, ev_or1, ev_or2, ev_not, ev_not1, ev_ifx, ev_ifx1, ev_ifx2, ev_var, ev_var1, ev_C, ev_shr0, ev_shr, ev_shr1, ev_shr2, ev_shr3, ev_run, ev_run1, ev_run2, ev_os, ev_os1, ev_on, ev_sl, ev_sl0, ev_sl1, ev_sl2, ev_for, ev_for1, ev_chain, ev_ch, ev_ch1, ev_ch2, ev_ch3, ev_iop, ev_add, ev_neg, ev_m1, ev_m2, ev_lenL, ev_lenT, ev_p60, eq_int, ne_int, List.map_cons, List.map_nil, List.length_cons, List.length_nil, List.replicate_succ, List.replicate_zero, List.nil_append, List.cons_append, List.getElem?_cons_zero, List.getElem?_cons_succ, List.set_cons_zero, List.set_cons_succ, Nat.sub_zero, Nat.reduceSub, Nat.reduceAdd, Nat.add_zero, Nat.zero_add, Bool.not_true, Bool.not_false, ev_tup, ev_lst, ev_addL, ev_app1, ev_appL1, ev_mod, ev_unpL, ev_unpT, ev_sa, ev_sa0, ev_un, ev_un1, ev_un2, ev_un3, ev_ixL0, ev_ixL1, ev_ixL2, ev_ixL3, ev_ixL4, ev_ixL5, ev_ixL6, ev_ixL7, ev_ixL8, ev_ixL9, ev_ixL10, ev_ixL11, ev_ixL12, ev_ixL13, ev_ixT0, ev_ixT1, ev_ixT2, ev_ixT3, ev_ixT4, ev_ixT5, decide_true, decide_false, Nat.reduceLeDiff, Nat.reduceBEq, Int.reduceBEq, beq_self_eq_true, dOne, mYes, ev_is_bool_non, ev_is_bool_bl, ev_is_bool_int, ev_is_bool_str, ev_is_bool_tup, ev_is_bool_lst, ev_is_bool_dic, ev_is_int_non, ev_is_int_bl, ev_is_int_int, ev_is_int_str, ev_is_int_tup, ev_is_int_lst, ev_is_int_dic, ev_is_str_non, ev_is_str_bl, ev_is_str_int, ev_is_str_str, ev_is_str_tup, ev_is_str_lst, ev_is_str_dic, ev_is_tuple_non, ev_is_tuple_bl, ev_is_tuple_int, ev_is_tuple_str, ev_is_tuple_tup, ev_is_tuple_lst, ev_is_tuple_dic, ev_is_list_non, ev_is_list_bl, ev_is_list_int, ev_is_list_str, ev_is_list_tup, ev_is_list_lst, ev_is_list_dic, ev_is_dict_non, ev_is_dict_bl, ev_is_dict_int, ev_is_dict_str, ev_is_dict_tup, ev_is_dict_lst, ev_is_dict_dic, ev_isN_non, ev_notN_non, ev_isN_bl, ev_notN_bl, ev_isN_int, ev_notN_int, ev_isN_str, ev_notN_str, ev_isN_tup, ev_notN_tup, ev_isN_lst, ev_notN_lst, ev_isN_dic, ev_notN_dic, ev_c0, ev_c1, ev_c2, ev_c3, ev_c4, ev_c5, ev_c6, ev_c7, ev_c8, ev_c9, ev_c10, ev_c11, Int.reduceLT, Int.reduceLE, Int.reduceSub, Int.reduceAdd, Int.reduceMul, Int.reduceNeg, ev_join, ev_join1, ev_pt0, ev_pt1, ev_pt2, ev_pt3, ev_pt4, ev_rep, ev_rep1, ev_rep2, Int.reduceToNat, Bool.and_self, h1]
    exact ⟨_, _, rfl, hx⟩
theorem cut62 (ns : List Int) : cutD (ns.map D.int) none (some 62) = (ns.take 62).map D.int := by
  rw [cut_sub]
  have e1 : HT.sIx ns.length 0 none = 0 := rfl
  rw [e1, sIx_pos (by decide), List.drop_zero, Nat.sub_zero]
  congr 1
  show ns.take (min 62 ns.length) = _
  by_cases h : 62 ≤ ns.length
  · rw [Nat.min_eq_left h]
  · rw [Nat.min_eq_right (by omega), List.take_length, List.take_of_length_le (by omega)]
def turn : Ev → Res Fl :=
  (sSeq (sSet 3 (bind2 (bindA (aCons (bind2 (dVar 1) (dVar 2) dIx) aNil) m__law_drawn) (dC (.int 0)) dIx))
  (sSeq (sUnp [4, 5] (bindA (aCons (bind2 (dVar 1) (bind2 (dVar 2) (dC (.int 1)) dAdd) dIx) aNil) m__law_drawn))
  (sSeq (sSet 4 (bindA (aCons (dVar 3) (aCons (dVar 4) (aCons (dVar 5) aNil))) m__law_second))
  (sSeq (sIf (dOr (dNot (bindA (aCons (dVar 3) (aCons (dVar 4) aNil)) m__law_right)) (dNot (bindA (aCons (dVar 4) (aCons (dVar 3) aNil)) m__law_right)))
  (sSeq (sRet (dC (.bl false)))
  sNext)
  sNext)
  sNext))))
theorem turn_ok {sc : D} {L : List Int} {k : Int} {x3 x4 x5 : Sl} (h0 : 0 ≤ k) (h1 : k + 1 < L.length) : ∃ ρ2, turn [.sh sc, .sh (.lst (L.map D.int)), .sh (.int k), x3, x4, x5] = .ok (.nx ρ2) ∧ ∃ y2 y3 y4 y5, ρ2 = [.sh sc, .sh (.lst (L.map D.int)), y2, y3, y4, y5] := by
  obtain ⟨d1, m1, i1⟩ := ix_mem (ds := L.map D.int) (k := k) h0 (by rw [List.length_map]; omega)
  obtain ⟨d2, m2, i2⟩ := ix_mem (ds := L.map D.int) (k := k + 1) (by omega) (by rw [List.length_map]; omega)
  obtain ⟨c1, _, rfl⟩ := List.mem_map.mp m1
  obtain ⟨c2, _, rfl⟩ := List.mem_map.mp m2
  obtain ⟨p, q, w, hd1, hx⟩ := drawn_ok c1
  obtain ⟨r, s, w2, hd2, hy⟩ := drawn_ok c2
  obtain ⟨a, b, hs, hz⟩ := second_ok (w := w2) hx hy
  have r1 := right_ok hx hz
  have r2 := right_ok hz hx
  generalize hM : D.lst (L.map D.int) = M at i1 i2
  simp only [fp] at hd1 hd2 hs r1 r2
  simp only [turn, ev_ok, ev_seq, ev_seq1, ev_seq2, ev_seq3, ev_seq4, ev_next, ev_set, ev_set1, ev_ret, ev_ret1, ev_retN, ev_drop, ev_drop1, ev_if, ev_if1, ev_if2, ev_own, ev_own1, ev_app, ev_ownS, ev_appL, ev_put, ev_put1, ev_putL, ev_putL1, ev_frz, ev_unp, ev_par, ev_par1, ev_b1, ev_b2, ev_b21, ev_bA, ev_nil, ev_cons, ev_cons1, ev_cons2, ev_and, ev_and1, ev_and2, ev_or, ev_or1, ev_or2, ev_not, ev_not1, ev_ifx, ev_ifx1, ev_ifx2, ev_var, ev_var1, ev_C, ev_shr0, ev_shr, ev_shr1, ev_shr2, ev_shr3, ev_run, ev_run1, ev_run2, ev_os, ev_os1, ev_on, ev_sl, ev_sl0, ev_sl1, ev_sl2, ev_for, ev_for1, ev_chain, ev_ch, ev_ch1, ev_ch2, ev_ch3, ev_iop, ev_add, ev_neg, ev_m1, ev_m2, ev_lenL, ev_lenT, ev_p60, eq_int, ne_int, List.map_cons, List.map_nil, List.length_cons, List.length_nil, List.replicate_succ, List.replicate_zero, List.nil_append, List.cons_append, List.getElem?_cons_zero, List.getElem?_cons_succ, List.set_cons_zero, List.set_cons_succ, Nat.sub_zero, Nat.reduceSub, Nat.reduceAdd, Nat.add_zero, Nat.zero_add, Bool.not_true, Bool.not_false, ev_tup, ev_lst, ev_addL, ev_app1, ev_appL1, ev_mod, ev_unpL, ev_unpT, ev_sa, ev_sa0, ev_un, ev_un1, ev_un2, ev_un3, ev_ixL0, ev_ixL1, ev_ixL2, ev_ixL3, ev_ixL4, ev_ixL5, ev_ixL6, ev_ixL7, ev_ixL8, ev_ixL9, ev_ixL10, ev_ixL11, ev_ixL12, ev_ixL13, ev_ixT0, ev_ixT1, ev_ixT2, ev_ixT3, ev_ixT4, ev_ixT5, decide_true, decide_false, Nat.reduceLeDiff, Nat.reduceBEq, Int.reduceBEq, beq_self_eq_true, dOne, mYes, ev_is_bool_non, ev_is_bool_bl, ev_is_bool_int, ev_is_bool_str, ev_is_bool_tup, ev_is_bool_lst, ev_is_bool_dic, ev_is_int_non, ev_is_int_bl, ev_is_int_int, ev_is_int_str, ev_is_int_tup, ev_is_int_lst, ev_is_int_dic, ev_is_str_non, ev_is_str_bl, ev_is_str_int, ev_is_str_str, ev_is_str_tup, ev_is_str_lst, ev_is_str_dic, ev_is_tuple_non, ev_is_tuple_bl, ev_is_tuple_int, ev_is_tuple_str, ev_is_tuple_tup, ev_is_tuple_lst, ev_is_tuple_dic, ev_is_list_non, ev_is_list_bl, ev_is_list_int, ev_is_list_str, ev_is_list_tup, ev_is_list_lst, ev_is_list_dic, ev_is_dict_non, ev_is_dict_bl, ev_is_dict_int, ev_is_dict_str, ev_is_dict_tup, ev_is_dict_lst, ev_is_dict_dic, ev_isN_non, ev_notN_non, ev_isN_bl, ev_notN_bl, ev_isN_int, ev_notN_int, ev_isN_str, ev_notN_str, ev_isN_tup, ev_notN_tup, ev_isN_lst, ev_notN_lst, ev_isN_dic, ev_notN_dic, ev_c0, ev_c1, ev_c2, ev_c3, ev_c4, ev_c5, ev_c6, ev_c7, ev_c8, ev_c9, ev_c10, ev_c11, Int.reduceLT, Int.reduceLE, Int.reduceSub, Int.reduceAdd, Int.reduceMul, Int.reduceNeg, ev_join, ev_join1, ev_pt0, ev_pt1, ev_pt2, ev_pt3, ev_pt4, ev_rep, ev_rep1, ev_rep2, Int.reduceToNat, Bool.and_self, i1, i2, hd1, hd2, hs, r1, r2]
  exact ⟨_, rfl, _, _, _, _, rfl⟩
theorem law_true (ns : List Int) (_ : ns.length ≤ 63) : m_law [.lst (ns.map D.int)] = .ok (.bl true) := by
  generalize hL : ns.take 62 ++ [0, 0] = L
  have hlen : L.length ≤ 64 ∧ 2 ≤ L.length := by rw [← hL, List.length_append, List.length_take]; simp; omega
  have hsrc : (bind2 (dSlA (dVar 0) oNone (oSome (dC (.int 62)))) (bindA (aCons (dC (.int 0)) (aCons (dC (.int 0)) aNil)) mLst) dAdd) [.sh (.lst (ns.map D.int)), .no, .no, .no, .no, .no] = .ok (.lst (L.map D.int)) := by
    have hl : decide (((ns.take 62).map D.int).length + ([D.int 0, D.int 0] : List D).length ≤ 1000) = true := decide_eq_true (by rw [List.length_map, List.length_take]; simp; omega)
    simp only [ev_ok, ev_seq, ev_seq1, ev_seq2, ev_seq3, ev_seq4, ev_next, ev_set, ev_set1, ev_ret, ev_ret1, ev_retN, ev_drop, ev_drop1, ev_if, ev_if1, ev_if2, ev_own, ev_own1, ev_app, ev_ownS, ev_appL, ev_put, ev_put1, ev_putL, ev_putL1, ev_frz, ev_unp, ev_par, ev_par1, ev_b1, ev_b2, ev_b21, ev_bA, ev_nil, ev_cons, ev_cons1, ev_cons2, ev_and, ev_and1, ev_and2, ev_or, ev_or1, ev_or2, ev_not, ev_not1, ev_ifx, ev_ifx1, ev_ifx2, ev_var, ev_var1, ev_C, ev_shr0, ev_shr, ev_shr1, ev_shr2, ev_shr3, ev_run, ev_run1, ev_run2, ev_os, ev_os1, ev_on, ev_sl, ev_sl0, ev_sl1, ev_sl2, ev_for, ev_for1, ev_chain, ev_ch, ev_ch1, ev_ch2, ev_ch3, ev_iop, ev_add, ev_neg, ev_m1, ev_m2, ev_lenL, ev_lenT, ev_p60, eq_int, ne_int, List.map_cons, List.map_nil, List.length_cons, List.length_nil, List.replicate_succ, List.replicate_zero, List.nil_append, List.cons_append, List.getElem?_cons_zero, List.getElem?_cons_succ, List.set_cons_zero, List.set_cons_succ, Nat.sub_zero, Nat.reduceSub, Nat.reduceAdd, Nat.add_zero, Nat.zero_add, Bool.not_true, Bool.not_false, ev_tup, ev_lst, ev_addL, ev_app1, ev_appL1, ev_mod, ev_unpL, ev_unpT, ev_sa, ev_sa0, ev_un, ev_un1, ev_un2, ev_un3, ev_ixL0, ev_ixL1, ev_ixL2, ev_ixL3, ev_ixL4, ev_ixL5, ev_ixL6, ev_ixL7, ev_ixL8, ev_ixL9, ev_ixL10, ev_ixL11, ev_ixL12, ev_ixL13, ev_ixT0, ev_ixT1, ev_ixT2, ev_ixT3, ev_ixT4, ev_ixT5, decide_true, decide_false, Nat.reduceLeDiff, Nat.reduceBEq, Int.reduceBEq, beq_self_eq_true, dOne, mYes, ev_is_bool_non, ev_is_bool_bl, ev_is_bool_int, ev_is_bool_str, ev_is_bool_tup, ev_is_bool_lst, ev_is_bool_dic, ev_is_int_non, ev_is_int_bl, ev_is_int_int, ev_is_int_str, ev_is_int_tup, ev_is_int_lst, ev_is_int_dic, ev_is_str_non, ev_is_str_bl, ev_is_str_int, ev_is_str_str, ev_is_str_tup, ev_is_str_lst, ev_is_str_dic, ev_is_tuple_non, ev_is_tuple_bl, ev_is_tuple_int, ev_is_tuple_str, ev_is_tuple_tup, ev_is_tuple_lst, ev_is_tuple_dic, ev_is_list_non, ev_is_list_bl, ev_is_list_int, ev_is_list_str, ev_is_list_tup, ev_is_list_lst, ev_is_list_dic, ev_is_dict_non, ev_is_dict_bl, ev_is_dict_int, ev_is_dict_str, ev_is_dict_tup, ev_is_dict_lst, ev_is_dict_dic, ev_isN_non, ev_notN_non, ev_isN_bl, ev_notN_bl, ev_isN_int, ev_notN_int, ev_isN_str, ev_notN_str, ev_isN_tup, ev_notN_tup, ev_isN_lst, ev_notN_lst, ev_isN_dic, ev_notN_dic, ev_c0, ev_c1, ev_c2, ev_c3, ev_c4, ev_c5, ev_c6, ev_c7, ev_c8, ev_c9, ev_c10, ev_c11, Int.reduceLT, Int.reduceLE, Int.reduceSub, Int.reduceAdd, Int.reduceMul, Int.reduceNeg, ev_join, ev_join1, ev_pt0, ev_pt1, ev_pt2, ev_pt3, ev_pt4, ev_rep, ev_rep1, ev_rep2, Int.reduceToNat, Bool.and_self, cut62]
    rw [ev_addL hl, ← hL, List.map_append]
    rfl
  have hr3 : srcR3 (dC (.int 0)) (bind2 (bindA (aCons (dVar 1) aNil) (m1 dLen)) (dC (.int 1)) dSub) (dC (.int 2)) [.sh (.lst (ns.map D.int)), .sh (.lst (L.map D.int)), .no, .no, .no, .no] = .ok (evensFrom 0 (n2 0 ((L.length : Int) - 1))) := by
    have e : aCons (dC (.int 0)) (aCons (bind2 (bindA (aCons (dVar 1) aNil) (m1 dLen)) (dC (.int 1)) dSub) (aCons (dC (.int 2)) aNil)) [.sh (.lst (ns.map D.int)), .sh (.lst (L.map D.int)), .no, .no, .no, .no] = .ok [.int 0, .int (((L.map D.int).length : Int) - 1), .int 2] := by
      generalize L.map D.int = M
      simp only [ev_ok, ev_seq, ev_seq1, ev_seq2, ev_seq3, ev_seq4, ev_next, ev_set, ev_set1, ev_ret, ev_ret1, ev_retN, ev_drop, ev_drop1, ev_if, ev_if1, ev_if2, ev_own, ev_own1, ev_app, ev_ownS, ev_appL, ev_put, ev_put1, ev_putL, ev_putL1, ev_frz, ev_unp, ev_par, ev_par1, ev_b1, ev_b2, ev_b21, ev_bA, ev_nil, ev_cons, ev_cons1, ev_cons2, ev_and, ev_and1, ev_and2, ev_or, ev_or1, ev_or2, ev_not, ev_not1, ev_ifx, ev_ifx1, ev_ifx2, ev_var, ev_var1, ev_C, ev_shr0, ev_shr, ev_shr1, ev_shr2, ev_shr3, ev_run, ev_run1, ev_run2, ev_os, ev_os1, ev_on, ev_sl, ev_sl0, ev_sl1, ev_sl2, ev_for, ev_for1, ev_chain, ev_ch, ev_ch1, ev_ch2, ev_ch3, ev_iop, ev_add, ev_neg, ev_m1, ev_m2, ev_lenL, ev_lenT, ev_p60, eq_int, ne_int, List.map_cons, List.map_nil, List.length_cons, List.length_nil, List.replicate_succ, List.replicate_zero, List.nil_append, List.cons_append, List.getElem?_cons_zero, List.getElem?_cons_succ, List.set_cons_zero, List.set_cons_succ, Nat.sub_zero, Nat.reduceSub, Nat.reduceAdd, Nat.add_zero, Nat.zero_add, Bool.not_true, Bool.not_false, ev_tup, ev_lst, ev_addL, ev_app1, ev_appL1, ev_mod, ev_unpL, ev_unpT, ev_sa, ev_sa0, ev_un, ev_un1, ev_un2, ev_un3, ev_ixL0, ev_ixL1, ev_ixL2, ev_ixL3, ev_ixL4, ev_ixL5, ev_ixL6, ev_ixL7, ev_ixL8, ev_ixL9, ev_ixL10, ev_ixL11, ev_ixL12, ev_ixL13, ev_ixT0, ev_ixT1, ev_ixT2, ev_ixT3, ev_ixT4, ev_ixT5, decide_true, decide_false, Nat.reduceLeDiff, Nat.reduceBEq, Int.reduceBEq, beq_self_eq_true, dOne, mYes, ev_is_bool_non, ev_is_bool_bl, ev_is_bool_int, ev_is_bool_str, ev_is_bool_tup, ev_is_bool_lst, ev_is_bool_dic, ev_is_int_non, ev_is_int_bl, ev_is_int_int, ev_is_int_str, ev_is_int_tup, ev_is_int_lst, ev_is_int_dic, ev_is_str_non, ev_is_str_bl, ev_is_str_int, ev_is_str_str, ev_is_str_tup, ev_is_str_lst, ev_is_str_dic, ev_is_tuple_non, ev_is_tuple_bl, ev_is_tuple_int, ev_is_tuple_str, ev_is_tuple_tup, ev_is_tuple_lst, ev_is_tuple_dic, ev_is_list_non, ev_is_list_bl, ev_is_list_int, ev_is_list_str, ev_is_list_tup, ev_is_list_lst, ev_is_list_dic, ev_is_dict_non, ev_is_dict_bl, ev_is_dict_int, ev_is_dict_str, ev_is_dict_tup, ev_is_dict_lst, ev_is_dict_dic, ev_isN_non, ev_notN_non, ev_isN_bl, ev_notN_bl, ev_isN_int, ev_notN_int, ev_isN_str, ev_notN_str, ev_isN_tup, ev_notN_tup, ev_isN_lst, ev_notN_lst, ev_isN_dic, ev_notN_dic, ev_c0, ev_c1, ev_c2, ev_c3, ev_c4, ev_c5, ev_c6, ev_c7, ev_c8, ev_c9, ev_c10, ev_c11, Int.reduceLT, Int.reduceLE, Int.reduceSub, Int.reduceAdd, Int.reduceMul, Int.reduceNeg, ev_join, ev_join1, ev_pt0, ev_pt1, ev_pt2, ev_pt3, ev_pt4, ev_rep, ev_rep1, ev_rep2, Int.reduceToNat, Bool.and_self]
    unfold srcR3
    rw [e]
    show r3 (.int 0) (.int (((L.map D.int).length : Int) - 1)) (.int 2) = _
    rw [List.length_map]
    unfold r3
    exact if_pos ⟨rfl, ⟨by decide, by decide⟩, by omega, by omega⟩
  obtain ⟨ρ', hf, y2, y3, y4, y5, hP⟩ := for_inv (tg := gSet 2) (body := turn) (fun ρ => ∃ y2 y3 y4 y5, ρ = [.sh (.lst (ns.map D.int)), .sh (.lst (L.map D.int)), y2, y3, y4, y5]) (ds := evensFrom 0 (n2 0 ((L.length : Int) - 1))) (fun d hd ρ ⟨y2, y3, y4, y5, hρ⟩ => by
      subst hρ
      unfold evensFrom at hd
      obtain ⟨j, hj, rfl⟩ := List.mem_map.mp hd
      have hj := List.mem_range.mp hj
      have hk : (0 : Int) + (j : Int) * 2 + 1 < L.length := by
        unfold n2 at hj
        rw [if_pos (by omega)] at hj
        omega
      obtain ⟨ρ2, h1, h2⟩ := turn_ok (sc := .lst (ns.map D.int)) (L := L) (k := 0 + (j : Int) * 2) (x3 := y3) (x4 := y4) (x5 := y5) (by omega) hk
      exact ⟨_, ρ2, rfl, h1, h2⟩) [.sh (.lst (ns.map D.int)), .sh (.lst (L.map D.int)), .no, .no, .no, .no] ⟨_, _, _, _, rfl⟩
  subst hP
  have hb : b_law = sSeq (sSet 1 (bind2 (dSlA (dVar 0) oNone (oSome (dC (.int 62)))) (bindA (aCons (dC (.int 0)) (aCons (dC (.int 0)) aNil)) mLst) dAdd)) (sSeq (sForI (srcR3 (dC (.int 0)) (bind2 (bindA (aCons (dVar 1) aNil) (m1 dLen)) (dC (.int 1)) dSub) (dC (.int 2))) (gSet 2) turn) (sSeq (sRet (dC (.bl true))) sNext)) := rfl
  refine run_rt ?_
  show b_law [.sh (.lst (ns.map D.int)), .no, .no, .no, .no, .no] = _
  rw [hb, seq_nx (set_ok hsrc)]
  show sSeq (sForI _ _ turn) _ [.sh (.lst (ns.map D.int)), .sh (.lst (L.map D.int)), .no, .no, .no, .no] = _
  rw [seq_nx ((forI_ok hr3).trans hf)]
  exact seq_rt (ret_ok rfl)
end K02
set_option Elab.async false
set_option linter.all false
set_option maxRecDepth 100000
namespace K02
open PySem L2 DL
def top (i : Nat) : Stmt := PySem.Challenge.pw_farthestcut_k02_sums_of_fractions.main.body.getD i (.Pass ⟨0, 0, 0, 0⟩)
abbrev s__law_draws : Stmt := top 35
abbrev s__law_divisor : Stmt := top 37
abbrev s__law_lowest : Stmt := top 38
abbrev s__law_drawn : Stmt := top 39
abbrev s__law_second : Stmt := top 40
abbrev s__law_whole : Stmt := top 36
abbrev s__law_made : Stmt := top 41
abbrev s_is_whole : Stmt := top 27
abbrev s_common_divisor : Stmt := top 1
abbrev s_ratio : Stmt := top 29
abbrev s_plus : Stmt := top 30
abbrev s_minus : Stmt := top 31
abbrev s_times : Stmt := top 32
abbrev s_over : Stmt := top 33
abbrev s__law_other : Stmt := top 42
abbrev s__law_over : Stmt := top 43
abbrev s__law_right : Stmt := top 44
abbrev s_law : Stmt := top 45
theorem sc__law_draws : FnScope ["_law_cell", "_law_sizes", "_law_number", "_law_left", "_law_found", "_law_k", "_law_one"] ["_law_cell", "_law_sizes"] (defScope s__law_draws) := ⟨rfl, rfl, rfl, by decide +kernel, rfl, by decide +kernel, by decide +kernel⟩
theorem sc__law_divisor : FnScope ["_law_one", "_law_other_here"] ["_law_one", "_law_other_here"] (defScope s__law_divisor) := ⟨rfl, rfl, rfl, by decide +kernel, rfl, by decide +kernel, by decide +kernel⟩
theorem sc__law_lowest : FnScope ["_law_top", "_law_bottom", "_law_share"] ["_law_top", "_law_bottom"] (defScope s__law_lowest) := ⟨rfl, rfl, rfl, by decide +kernel, rfl, by decide +kernel, by decide +kernel⟩
theorem sc__law_drawn : FnScope ["_law_cell", "_law_small", "_law_sign", "_law_way", "_law_above", "_law_below", "_law_found"] ["_law_cell"] (defScope s__law_drawn) := ⟨rfl, rfl, rfl, by decide +kernel, rfl, by decide +kernel, by decide +kernel⟩
theorem sc__law_second : FnScope ["_law_one", "_law_other_here", "_law_way"] ["_law_one", "_law_other_here", "_law_way"] (defScope s__law_second) := ⟨rfl, rfl, rfl, by decide +kernel, rfl, by decide +kernel, by decide +kernel⟩
theorem sc__law_whole : FnScope ["_law_thing"] ["_law_thing"] (defScope s__law_whole) := ⟨rfl, rfl, rfl, by decide +kernel, rfl, by decide +kernel, by decide +kernel⟩
theorem sc__law_made : FnScope ["_law_found", "_law_top", "_law_bottom"] ["_law_found", "_law_top", "_law_bottom"] (defScope s__law_made) := ⟨rfl, rfl, rfl, by decide +kernel, rfl, by decide +kernel, by decide +kernel⟩
theorem sc_is_whole : FnScope ["thing"] ["thing"] (defScope s_is_whole) := ⟨rfl, rfl, rfl, by decide +kernel, rfl, by decide +kernel, by decide +kernel⟩
theorem sc_common_divisor : FnScope ["one", "other", "larger", "smaller", "rest"] ["one", "other"] (defScope s_common_divisor) := ⟨rfl, rfl, rfl, by decide +kernel, rfl, by decide +kernel, by decide +kernel⟩
theorem sc_ratio : FnScope ["top", "bottom", "divisor"] ["top", "bottom"] (defScope s_ratio) := ⟨rfl, rfl, rfl, by decide +kernel, rfl, by decide +kernel, by decide +kernel⟩
theorem sc_plus : FnScope ["one", "other"] ["one", "other"] (defScope s_plus) := ⟨rfl, rfl, rfl, by decide +kernel, rfl, by decide +kernel, by decide +kernel⟩
theorem sc_minus : FnScope ["one", "other"] ["one", "other"] (defScope s_minus) := ⟨rfl, rfl, rfl, by decide +kernel, rfl, by decide +kernel, by decide +kernel⟩
theorem sc_times : FnScope ["one", "other"] ["one", "other"] (defScope s_times) := ⟨rfl, rfl, rfl, by decide +kernel, rfl, by decide +kernel, by decide +kernel⟩
theorem sc_over : FnScope ["one", "other"] ["one", "other"] (defScope s_over) := ⟨rfl, rfl, rfl, by decide +kernel, rfl, by decide +kernel, by decide +kernel⟩
theorem sc__law_other : FnScope ["_law_e"] ["_law_e"] (defScope s__law_other) := ⟨rfl, rfl, rfl, by decide +kernel, rfl, by decide +kernel, by decide +kernel⟩
theorem sc__law_over : FnScope ["_law_one", "_law_other_here", "_law_found", "_law_refused", "_law_alone", "_law_e"] ["_law_one", "_law_other_here"] (defScope s__law_over) := ⟨rfl, rfl, rfl, by decide +kernel, rfl, by decide +kernel, by decide +kernel⟩
theorem sc__law_right : FnScope ["_law_one", "_law_other_here", "_law_bottom"] ["_law_one", "_law_other_here"] (defScope s__law_right) := ⟨rfl, rfl, rfl, by decide +kernel, rfl, by decide +kernel, by decide +kernel⟩
theorem sc_law : FnScope ["_law_script", "_law_cells", "_law_k", "_law_one", "_law_other_here", "_law_way"] ["_law_script"] (defScope s_law) := ⟨rfl, rfl, rfl, by decide +kernel, rfl, by decide +kernel, by decide +kernel⟩
structure Adr where
  k_CutError : Addr
  k_NoAdds : Addr
  k_NoCases : Addr
  k_NoChange : Addr
  k_NoDeed : Addr
  k_NoFlow : Addr
  k_NoJoin : Addr
  k_NoMix : Addr
  k_NoName : Addr
  k_NoNumber : Addr
  k_NoPurse : Addr
  k_NoRooms : Addr
  k_NoRow : Addr
  k_NoSide : Addr
  k_NoSpread : Addr
  k_NoTaking : Addr
  k_NoText : Addr
  k_NoTie : Addr
  k_NoTurn : Addr
  k_NoWay : Addr
  k_NoWeb : Addr
  k_TooMany : Addr
  k_Unbalanced : Addr
  a__law_draws : Addr
  d__law_draws : FuncData
  a__law_divisor : Addr
  d__law_divisor : FuncData
  a__law_lowest : Addr
  d__law_lowest : FuncData
  a__law_drawn : Addr
  d__law_drawn : FuncData
  a__law_second : Addr
  d__law_second : FuncData
  a__law_whole : Addr
  d__law_whole : FuncData
  a__law_made : Addr
  d__law_made : FuncData
  a_is_whole : Addr
  d_is_whole : FuncData
  a_common_divisor : Addr
  d_common_divisor : FuncData
  a_ratio : Addr
  d_ratio : FuncData
  a_plus : Addr
  d_plus : FuncData
  a_minus : Addr
  d_minus : FuncData
  a_times : Addr
  d_times : FuncData
  a_over : Addr
  d_over : FuncData
  a__law_other : Addr
  d__law_other : FuncData
  a__law_over : Addr
  d__law_over : FuncData
  a__law_right : Addr
  d__law_right : FuncData
  a_law : Addr
  d_law : FuncData
structure Txt (K : PySem.W.Frag) (mg : Str → Option Value) (t : Adr) : Prop where
  F__law_draws : Fun K "_law_draws" "_law_draws" s__law_draws t.a__law_draws t.d__law_draws
  b__law_draws : Binds K t.d__law_draws ["_law_cell", "_law_sizes"] []
  g__law_draws : mg "_law_draws" = some (.ref t.a__law_draws)
  F__law_divisor : Fun K "_law_divisor" "_law_divisor" s__law_divisor t.a__law_divisor t.d__law_divisor
  b__law_divisor : Binds K t.d__law_divisor ["_law_one", "_law_other_here"] []
  g__law_divisor : mg "_law_divisor" = some (.ref t.a__law_divisor)
  F__law_lowest : Fun K "_law_lowest" "_law_lowest" s__law_lowest t.a__law_lowest t.d__law_lowest
  b__law_lowest : Binds K t.d__law_lowest ["_law_top", "_law_bottom"] []
  g__law_lowest : mg "_law_lowest" = some (.ref t.a__law_lowest)
  F__law_drawn : Fun K "_law_drawn" "_law_drawn" s__law_drawn t.a__law_drawn t.d__law_drawn
  b__law_drawn : Binds K t.d__law_drawn ["_law_cell"] []
  g__law_drawn : mg "_law_drawn" = some (.ref t.a__law_drawn)
  F__law_second : Fun K "_law_second" "_law_second" s__law_second t.a__law_second t.d__law_second
  b__law_second : Binds K t.d__law_second ["_law_one", "_law_other_here", "_law_way"] []
  g__law_second : mg "_law_second" = some (.ref t.a__law_second)
  F__law_whole : Fun K "_law_whole" "_law_whole" s__law_whole t.a__law_whole t.d__law_whole
  b__law_whole : Binds K t.d__law_whole ["_law_thing"] []
  g__law_whole : mg "_law_whole" = some (.ref t.a__law_whole)
  F__law_made : Fun K "_law_made" "_law_made" s__law_made t.a__law_made t.d__law_made
  b__law_made : Binds K t.d__law_made ["_law_found", "_law_top", "_law_bottom"] []
  g__law_made : mg "_law_made" = some (.ref t.a__law_made)
  F_is_whole : Fun K "is_whole" "is_whole" s_is_whole t.a_is_whole t.d_is_whole
  b_is_whole : Binds K t.d_is_whole ["thing"] []
  g_is_whole : mg "is_whole" = some (.ref t.a_is_whole)
  F_common_divisor : Fun K "common_divisor" "common_divisor" s_common_divisor t.a_common_divisor t.d_common_divisor
  b_common_divisor : Binds K t.d_common_divisor ["one", "other"] []
  g_common_divisor : mg "common_divisor" = some (.ref t.a_common_divisor)
  F_ratio : Fun K "ratio" "ratio" s_ratio t.a_ratio t.d_ratio
  b_ratio : Binds K t.d_ratio ["top", "bottom"] []
  g_ratio : mg "ratio" = some (.ref t.a_ratio)
  F_plus : Fun K "plus" "plus" s_plus t.a_plus t.d_plus
  b_plus : Binds K t.d_plus ["one", "other"] []
  g_plus : mg "plus" = some (.ref t.a_plus)
  F_minus : Fun K "minus" "minus" s_minus t.a_minus t.d_minus
  b_minus : Binds K t.d_minus ["one", "other"] []
  g_minus : mg "minus" = some (.ref t.a_minus)
  F_times : Fun K "times" "times" s_times t.a_times t.d_times
  b_times : Binds K t.d_times ["one", "other"] []
  g_times : mg "times" = some (.ref t.a_times)
  F_over : Fun K "over" "over" s_over t.a_over t.d_over
  b_over : Binds K t.d_over ["one", "other"] []
  g_over : mg "over" = some (.ref t.a_over)
  F__law_other : Fun K "_law_other" "_law_other" s__law_other t.a__law_other t.d__law_other
  b__law_other : Binds K t.d__law_other ["_law_e"] []
  g__law_other : mg "_law_other" = some (.ref t.a__law_other)
  F__law_over : Fun K "_law_over" "_law_over" s__law_over t.a__law_over t.d__law_over
  b__law_over : Binds K t.d__law_over ["_law_one", "_law_other_here"] []
  g__law_over : mg "_law_over" = some (.ref t.a__law_over)
  F__law_right : Fun K "_law_right" "_law_right" s__law_right t.a__law_right t.d__law_right
  b__law_right : Binds K t.d__law_right ["_law_one", "_law_other_here"] []
  g__law_right : mg "_law_right" = some (.ref t.a__law_right)
  F_law : Fun K "law" "law" s_law t.a_law t.d_law
  b_law : Binds K t.d_law ["_law_script"] []
  g_law : mg "law" = some (.ref t.a_law)
  n_ValueError : mg "ValueError" = none
  n_abs : mg "abs" = none
  n_bool : mg "bool" = none
  n_int : mg "int" = none
  n_isinstance : mg "isinstance" = none
  n_len : mg "len" = none
  n_max : mg "max" = none
  n_range : mg "range" = none
  n_tuple : mg "tuple" = none
  g_CutError : mg "CutError" = some (.ref t.k_CutError)
  i_CutError : ClsI K "CutError" t.k_CutError
  g_NoAdds : mg "NoAdds" = some (.ref t.k_NoAdds)
  i_NoAdds : ClsI K "NoAdds" t.k_NoAdds
  g_NoCases : mg "NoCases" = some (.ref t.k_NoCases)
  i_NoCases : ClsI K "NoCases" t.k_NoCases
  g_NoChange : mg "NoChange" = some (.ref t.k_NoChange)
  i_NoChange : ClsI K "NoChange" t.k_NoChange
  g_NoDeed : mg "NoDeed" = some (.ref t.k_NoDeed)
  i_NoDeed : ClsI K "NoDeed" t.k_NoDeed
  g_NoFlow : mg "NoFlow" = some (.ref t.k_NoFlow)
  i_NoFlow : ClsI K "NoFlow" t.k_NoFlow
  g_NoJoin : mg "NoJoin" = some (.ref t.k_NoJoin)
  i_NoJoin : ClsI K "NoJoin" t.k_NoJoin
  g_NoMix : mg "NoMix" = some (.ref t.k_NoMix)
  i_NoMix : ClsI K "NoMix" t.k_NoMix
  g_NoName : mg "NoName" = some (.ref t.k_NoName)
  i_NoName : ClsI K "NoName" t.k_NoName
  g_NoNumber : mg "NoNumber" = some (.ref t.k_NoNumber)
  i_NoNumber : ClsI K "NoNumber" t.k_NoNumber
  g_NoPurse : mg "NoPurse" = some (.ref t.k_NoPurse)
  i_NoPurse : ClsI K "NoPurse" t.k_NoPurse
  g_NoRooms : mg "NoRooms" = some (.ref t.k_NoRooms)
  i_NoRooms : ClsI K "NoRooms" t.k_NoRooms
  g_NoRow : mg "NoRow" = some (.ref t.k_NoRow)
  i_NoRow : ClsI K "NoRow" t.k_NoRow
  g_NoSide : mg "NoSide" = some (.ref t.k_NoSide)
  i_NoSide : ClsI K "NoSide" t.k_NoSide
  g_NoSpread : mg "NoSpread" = some (.ref t.k_NoSpread)
  i_NoSpread : ClsI K "NoSpread" t.k_NoSpread
  g_NoTaking : mg "NoTaking" = some (.ref t.k_NoTaking)
  i_NoTaking : ClsI K "NoTaking" t.k_NoTaking
  g_NoText : mg "NoText" = some (.ref t.k_NoText)
  i_NoText : ClsI K "NoText" t.k_NoText
  g_NoTie : mg "NoTie" = some (.ref t.k_NoTie)
  i_NoTie : ClsI K "NoTie" t.k_NoTie
  g_NoTurn : mg "NoTurn" = some (.ref t.k_NoTurn)
  i_NoTurn : ClsI K "NoTurn" t.k_NoTurn
  g_NoWay : mg "NoWay" = some (.ref t.k_NoWay)
  i_NoWay : ClsI K "NoWay" t.k_NoWay
  g_NoWeb : mg "NoWeb" = some (.ref t.k_NoWeb)
  i_NoWeb : ClsI K "NoWeb" t.k_NoWeb
  g_TooMany : mg "TooMany" = some (.ref t.k_TooMany)
  i_TooMany : ClsI K "TooMany" t.k_TooMany
  g_Unbalanced : mg "Unbalanced" = some (.ref t.k_Unbalanced)
  i_Unbalanced : ClsI K "Unbalanced" t.k_Unbalanced
  x_NoNumber : XClsI K "NoNumber" t.k_NoNumber
  p_NoNumber_CutError : PySem.W.subIn K (.ref t.k_NoNumber) (.ref t.k_CutError) = some true
  p_NoNumber_NoAdds : PySem.W.subIn K (.ref t.k_NoNumber) (.ref t.k_NoAdds) = some false
  p_NoNumber_NoCases : PySem.W.subIn K (.ref t.k_NoNumber) (.ref t.k_NoCases) = some false
  p_NoNumber_NoChange : PySem.W.subIn K (.ref t.k_NoNumber) (.ref t.k_NoChange) = some false
  p_NoNumber_NoDeed : PySem.W.subIn K (.ref t.k_NoNumber) (.ref t.k_NoDeed) = some false
  p_NoNumber_NoFlow : PySem.W.subIn K (.ref t.k_NoNumber) (.ref t.k_NoFlow) = some false
  p_NoNumber_NoJoin : PySem.W.subIn K (.ref t.k_NoNumber) (.ref t.k_NoJoin) = some false
  p_NoNumber_NoMix : PySem.W.subIn K (.ref t.k_NoNumber) (.ref t.k_NoMix) = some false
  p_NoNumber_NoName : PySem.W.subIn K (.ref t.k_NoNumber) (.ref t.k_NoName) = some false
  p_NoNumber_NoNumber : PySem.W.subIn K (.ref t.k_NoNumber) (.ref t.k_NoNumber) = some true
  p_NoNumber_NoPurse : PySem.W.subIn K (.ref t.k_NoNumber) (.ref t.k_NoPurse) = some false
  p_NoNumber_NoRooms : PySem.W.subIn K (.ref t.k_NoNumber) (.ref t.k_NoRooms) = some false
  p_NoNumber_NoRow : PySem.W.subIn K (.ref t.k_NoNumber) (.ref t.k_NoRow) = some false
  p_NoNumber_NoSide : PySem.W.subIn K (.ref t.k_NoNumber) (.ref t.k_NoSide) = some false
  p_NoNumber_NoSpread : PySem.W.subIn K (.ref t.k_NoNumber) (.ref t.k_NoSpread) = some false
  p_NoNumber_NoTaking : PySem.W.subIn K (.ref t.k_NoNumber) (.ref t.k_NoTaking) = some false
  p_NoNumber_NoText : PySem.W.subIn K (.ref t.k_NoNumber) (.ref t.k_NoText) = some false
  p_NoNumber_NoTie : PySem.W.subIn K (.ref t.k_NoNumber) (.ref t.k_NoTie) = some false
  p_NoNumber_NoTurn : PySem.W.subIn K (.ref t.k_NoNumber) (.ref t.k_NoTurn) = some false
  p_NoNumber_NoWay : PySem.W.subIn K (.ref t.k_NoNumber) (.ref t.k_NoWay) = some false
  p_NoNumber_NoWeb : PySem.W.subIn K (.ref t.k_NoNumber) (.ref t.k_NoWeb) = some false
  p_NoNumber_TooMany : PySem.W.subIn K (.ref t.k_NoNumber) (.ref t.k_TooMany) = some false
  p_NoNumber_Unbalanced : PySem.W.subIn K (.ref t.k_NoNumber) (.ref t.k_Unbalanced) = some false
section
variable {P : Program} {w : World} {K : PySem.W.Frag} {mg : Str → Option Value} {base : Heap} {t : Adr}
theorem hit_CutError_ok (T : Txt K mg t) : ∀ x C, hitOf l_CutError x = true → XC K x C → PySem.W.exmOne K (.ref C) (.ref t.k_CutError) = some true :=
  hitOf_ok fun q hq => by
    unfold l_CutError at hq
    simp only [List.mem_cons, List.not_mem_nil, or_false] at hq
    rcases hq with rfl
    · exact ⟨t.k_NoNumber, T.x_NoNumber.xcls.xc, T.i_CutError.exm T.p_NoNumber_CutError⟩
theorem tab_1_ok (T : Txt K mg t) : TabsOk K tab_1 [t.k_NoAdds, t.k_NoCases, t.k_NoChange, t.k_NoDeed, t.k_NoFlow, t.k_NoJoin] :=
  tabOf_all (p := fun _ C b => PySem.W.kitAny K (.ref C) ([t.k_NoAdds, t.k_NoCases, t.k_NoChange, t.k_NoDeed, t.k_NoFlow, t.k_NoJoin].map Value.ref) = some b) fun q hq => by
    simp only [List.mem_cons, List.not_mem_nil, or_false] at hq
    rcases hq with rfl
    · exact ⟨t.k_NoNumber, T.x_NoNumber.xcls.xc, (kitAny_f (T.i_NoAdds.kit T.x_NoNumber.self T.p_NoNumber_NoAdds) (kitAny_f (T.i_NoCases.kit T.x_NoNumber.self T.p_NoNumber_NoCases) (kitAny_f (T.i_NoChange.kit T.x_NoNumber.self T.p_NoNumber_NoChange) (kitAny_f (T.i_NoDeed.kit T.x_NoNumber.self T.p_NoNumber_NoDeed) (kitAny_f (T.i_NoFlow.kit T.x_NoNumber.self T.p_NoNumber_NoFlow) (kitAny_f (T.i_NoJoin.kit T.x_NoNumber.self T.p_NoNumber_NoJoin) kitAny_nil))))))⟩
theorem tab_2_ok (T : Txt K mg t) : TabsOk K tab_2 [t.k_NoMix, t.k_NoName, t.k_NoPurse, t.k_NoRooms, t.k_NoRow] :=
  tabOf_all (p := fun _ C b => PySem.W.kitAny K (.ref C) ([t.k_NoMix, t.k_NoName, t.k_NoPurse, t.k_NoRooms, t.k_NoRow].map Value.ref) = some b) fun q hq => by
    simp only [List.mem_cons, List.not_mem_nil, or_false] at hq
    rcases hq with rfl
    · exact ⟨t.k_NoNumber, T.x_NoNumber.xcls.xc, (kitAny_f (T.i_NoMix.kit T.x_NoNumber.self T.p_NoNumber_NoMix) (kitAny_f (T.i_NoName.kit T.x_NoNumber.self T.p_NoNumber_NoName) (kitAny_f (T.i_NoPurse.kit T.x_NoNumber.self T.p_NoNumber_NoPurse) (kitAny_f (T.i_NoRooms.kit T.x_NoNumber.self T.p_NoNumber_NoRooms) (kitAny_f (T.i_NoRow.kit T.x_NoNumber.self T.p_NoNumber_NoRow) kitAny_nil)))))⟩
theorem tab_3_ok (T : Txt K mg t) : TabsOk K tab_3 [t.k_NoSide, t.k_NoSpread, t.k_NoTaking, t.k_NoText, t.k_NoTie, t.k_NoTurn, t.k_NoWay, t.k_NoWeb] :=
  tabOf_all (p := fun _ C b => PySem.W.kitAny K (.ref C) ([t.k_NoSide, t.k_NoSpread, t.k_NoTaking, t.k_NoText, t.k_NoTie, t.k_NoTurn, t.k_NoWay, t.k_NoWeb].map Value.ref) = some b) fun q hq => by
    simp only [List.mem_cons, List.not_mem_nil, or_false] at hq
    rcases hq with rfl
    · exact ⟨t.k_NoNumber, T.x_NoNumber.xcls.xc, (kitAny_f (T.i_NoSide.kit T.x_NoNumber.self T.p_NoNumber_NoSide) (kitAny_f (T.i_NoSpread.kit T.x_NoNumber.self T.p_NoNumber_NoSpread) (kitAny_f (T.i_NoTaking.kit T.x_NoNumber.self T.p_NoNumber_NoTaking) (kitAny_f (T.i_NoText.kit T.x_NoNumber.self T.p_NoNumber_NoText) (kitAny_f (T.i_NoTie.kit T.x_NoNumber.self T.p_NoNumber_NoTie) (kitAny_f (T.i_NoTurn.kit T.x_NoNumber.self T.p_NoNumber_NoTurn) (kitAny_f (T.i_NoWay.kit T.x_NoNumber.self T.p_NoNumber_NoWay) (kitAny_f (T.i_NoWeb.kit T.x_NoNumber.self T.p_NoNumber_NoWeb) kitAny_nil))))))))⟩
theorem tab_4_ok (T : Txt K mg t) : TabsOk K tab_4 [t.k_TooMany, t.k_Unbalanced] :=
  tabOf_all (p := fun _ C b => PySem.W.kitAny K (.ref C) ([t.k_TooMany, t.k_Unbalanced].map Value.ref) = some b) fun q hq => by
    simp only [List.mem_cons, List.not_mem_nil, or_false] at hq
    rcases hq with rfl
    · exact ⟨t.k_NoNumber, T.x_NoNumber.xcls.xc, (kitAny_f (T.i_TooMany.kit T.x_NoNumber.self T.p_NoNumber_TooMany) (kitAny_f (T.i_Unbalanced.kit T.x_NoNumber.self T.p_NoNumber_Unbalanced) kitAny_nil))⟩
theorem tab_5_ok (T : Txt K mg t) : TabOk K tab_5 (.ref t.k_NoNumber) :=
  tabOf_all (p := fun _ C b => PySem.W.kitOne K (.ref C) (.ref t.k_NoNumber) = some b) fun q hq => by
    simp only [List.mem_cons, List.not_mem_nil, or_false] at hq
    rcases hq with rfl
    · exact ⟨t.k_NoNumber, T.x_NoNumber.xcls.xc, T.i_NoNumber.kit T.x_NoNumber.self T.p_NoNumber_NoNumber⟩
theorem tab_6_ok (T : Txt K mg t) : TabOk K tab_6 (.type "ValueError") :=
  tabOf_all (p := fun _ C b => PySem.W.kitOne K (.ref C) (.type "ValueError") = some b) fun q hq => by
    simp only [List.mem_cons, List.not_mem_nil, or_false] at hq
    rcases hq with rfl
    · exact ⟨t.k_NoNumber, T.x_NoNumber.xcls.xc, kit_ty kitMeta_ve T.x_NoNumber.ve⟩
set_option maxHeartbeats 4000000 in
theorem ok__law_draws (T : Txt K mg t) : FnOk P w K mg base CX0 1 t.a__law_draws t.d__law_draws ["_law_cell", "_law_sizes"] (spD K 2 m__law_draws) :=
  fn_mirror T.F__law_draws sc__law_draws fun cdv A outer s0 H H₀ E hr => (
  (dss_cons (ds_set (i := 2) sc__law_draws.nd rfl (Or.inl rfl) (de_callB (call_max2 rfl) cd_max rfl T.n_max PyProof.Rows.Boot.«max» (da_cons (dv 0) (da_cons (de_sub (de_neg de_int) (dv 0)) da_nil))))
  (dss_cons (ds_set (i := 3) sc__law_draws.nd rfl (Or.inl rfl) (dv 2))
  (dss_cons (ds_own (i := 4) sc__law_draws.nd rfl (Or.inl rfl) (df_lst da_nil))
  (dss_cons (ds_forR PassesOwn.never rfl rfl T.n_range (de_callB call_len cd_len rfl T.n_len PyProof.Rows.Boot.«len» (da_cons (dv 1) da_nil)) (dg_name (i := 5) sc__law_draws.nd rfl (Or.inl rfl)) total_set
  (dss_cons (ds_if (DW.dt (dw_and (dt_cmp op_ge (od_iop0 fun _ _ _ _ => rb _) (dv 2) (de_pow de_int de_int) nm) (dw_one_and (dt_cmp op_gt (od_iop0 fun _ _ _ _ => rb _) (dv 3) de_int nm))))
  (dss_cons (ds_append (i := 4) rfl (Or.inl rfl) (de_mod (dv 3) (de_item (dv 1) (dv 5))))
  (dss_cons (ds_set (i := 3) sc__law_draws.nd rfl (Or.inl rfl) (de_div (dv 3) (de_item (dv 1) (dv 5))))
  dss_nil))
  (dss_cons (ds_set (i := 6) sc__law_draws.nd rfl (Or.inl rfl) (de_mod (de_mul (de_add (de_add (de_add (de_mod (dv 2) de_int) (de_mul (de_mul de_int (dv 5)) (dv 5))) (de_mul de_int (dv 5))) de_int) de_int) de_int))
  (dss_cons (ds_set (i := 6) sc__law_draws.nd rfl (Or.inl rfl) (de_mod (de_mul (de_add (de_mod (de_mul (dv 6) (dv 6)) de_int) (dv 5)) de_int) de_int))
  (dss_cons (ds_append (i := 4) rfl (Or.inl rfl) (de_mod (de_div (dv 6) de_int) (de_item (dv 1) (dv 5))))
  dss_nil))))
  dss_nil))
  (dss_cons (ds_ret (dv 4))
  dss_nil))))))
set_option maxHeartbeats 4000000 in
theorem ok__law_divisor (T : Txt K mg t) : FnOk P w K mg base CX0 1 t.a__law_divisor t.d__law_divisor ["_law_one", "_law_other_here"] (spD K 2 m__law_divisor) :=
  fn_mirror T.F__law_divisor sc__law_divisor fun cdv A outer s0 H H₀ E hr => (
  (dss_cons (ds_while _ PassesOwn.never (dt_cmp (op_neD hr.units) od_ne (dv 1) de_int nm)
  (dss_cons (ds_par (i := 0) (j := 1) rfl sc__law_divisor.nd rfl rfl (by decide) rfl rfl (da_cons (dv 1) (da_cons (de_mod (dv 0) (dv 1)) da_nil)) rfl)
  dss_nil))
  (dss_cons (ds_ret (de_callB call_abs cd_abs rfl T.n_abs PyProof.Rows.Boot.«abs» (da_cons (dv 0) da_nil)))
  dss_nil)))
set_option maxHeartbeats 4000000 in
theorem ok__law_lowest (T : Txt K mg t) : FnOk P w K mg base CX0 2 t.a__law_lowest t.d__law_lowest ["_law_top", "_law_bottom"] (spD K 2 m__law_lowest) :=
  fn_mirror T.F__law_lowest sc__law_lowest fun cdv A outer s0 H H₀ E hr => (
  (dss_cons (ds_set (i := 2) sc__law_lowest.nd rfl (Or.inl rfl) (de_call ((ok__law_divisor T).mono (by decide : 1 ≤ 1)) hr rfl T.g__law_divisor T.F__law_divisor.kp T.b__law_divisor pass0 (da_cons (dv 0) (da_cons (dv 1) da_nil)) rfl (fun ρ ds h => (fun _ h => aCons_len (fun _ h => aCons_len (fun _ h => aNil_len h) h) h) ds h)))
  (dss_cons (ds_ret (de_tup (da_cons (de_div (dv 0) (dv 2)) (da_cons (de_div (dv 1) (dv 2)) da_nil))))
  dss_nil)))
set_option maxHeartbeats 4000000 in
theorem ok__law_drawn (T : Txt K mg t) : FnOk P w K mg base CX0 3 t.a__law_drawn t.d__law_drawn ["_law_cell"] (spD K 1 m__law_drawn) :=
  fn_mirror T.F__law_drawn sc__law_drawn fun cdv A outer s0 H H₀ E hr => (
  (dss_cons (ds_unp rfl (de_call ((ok__law_draws T).mono (by decide : 1 ≤ 2)) hr rfl T.g__law_draws T.F__law_draws.kp T.b__law_draws pass0 (da_cons (dv 0) (da_cons (de_lst (da_cons de_int (da_cons de_int (da_cons de_int (da_cons (de_pow de_int de_int) (da_cons (de_sub (de_pow de_int de_int) de_int) da_nil)))))) da_nil)) rfl (fun ρ ds h => (fun _ h => aCons_len (fun _ h => aCons_len (fun _ h => aNil_len h) h) h) ds h)) (dgs_cons (i := 1) sc__law_drawn.nd rfl (Or.inl rfl) (dgs_cons (i := 2) sc__law_drawn.nd rfl (Or.inl rfl) (dgs_cons (i := 3) sc__law_drawn.nd rfl (Or.inl rfl) (dgs_cons (i := 4) sc__law_drawn.nd rfl (Or.inl rfl) (dgs_cons (i := 5) sc__law_drawn.nd rfl (Or.inl rfl) dgs_nil))))))
  (dss_cons (ds_if (dt_cmp (op_eqD hr.units) od_eq (dv 1) de_int nm)
  (dss_cons (ds_set (i := 4) sc__law_drawn.nd rfl (Or.inl rfl) (de_mod (dv 4) de_int))
  (dss_cons (ds_set (i := 5) sc__law_drawn.nd rfl (Or.inl rfl) (de_mod (dv 5) de_int))
  dss_nil))
  dss_nil)
  (dss_cons (ds_set (i := 6) sc__law_drawn.nd rfl (Or.inl rfl) (de_call ((ok__law_lowest T).mono (by decide : 2 ≤ 2)) hr rfl T.g__law_lowest T.F__law_lowest.kp T.b__law_lowest pass0 (da_cons (dv 4) (da_cons (de_add de_int (dv 5)) da_nil)) rfl (fun ρ ds h => (fun _ h => aCons_len (fun _ h => aCons_len (fun _ h => aNil_len h) h) h) ds h)))
  (dss_cons (ds_if (dt_cmp (op_eqD hr.units) od_eq (dv 2) de_int nm)
  (dss_cons (ds_set (i := 6) sc__law_drawn.nd rfl (Or.inl rfl) (de_tup (da_cons (de_sub de_int (de_item (dv 6) de_int)) (da_cons (de_item (dv 6) de_int) da_nil))))
  dss_nil)
  dss_nil)
  (dss_cons (ds_ret (de_tup (da_cons (dv 6) (da_cons (dv 3) da_nil))))
  dss_nil))))))
set_option maxHeartbeats 4000000 in
theorem ok__law_second (T : Txt K mg t) : FnOk P w K mg base CX0 1 t.a__law_second t.d__law_second ["_law_one", "_law_other_here", "_law_way"] (spD K 3 m__law_second) :=
  fn_mirror T.F__law_second sc__law_second fun cdv A outer s0 H H₀ E hr => (
  (dss_cons (ds_if (dt_cmp (op_eqD hr.units) od_eq (dv 2) de_int nm)
  (dss_cons (ds_ret (dv 0))
  dss_nil)
  dss_nil)
  (dss_cons (ds_if (dt_cmp (op_eqD hr.units) od_eq (dv 2) de_int nm)
  (dss_cons (ds_ret (de_tup (da_cons (de_sub de_int (de_item (dv 0) de_int)) (da_cons (de_item (dv 0) de_int) da_nil))))
  dss_nil)
  dss_nil)
  (dss_cons (ds_if (DW.dt (dw_and (dt_cmp (op_eqD hr.units) od_eq (dv 2) de_int nm) (dw_one_and (dt_cmp op_gt (od_iop0 fun _ _ _ _ => rb _) (de_item (dv 0) de_int) de_int nm))))
  (dss_cons (ds_ret (de_tup (da_cons (de_item (dv 0) de_int) (da_cons (de_item (dv 0) de_int) da_nil))))
  dss_nil)
  dss_nil)
  (dss_cons (ds_if (dt_cmp (op_eqD hr.units) od_eq (dv 2) de_int nm)
  (dss_cons (ds_ret (de_tup (da_cons de_int (da_cons de_int da_nil))))
  dss_nil)
  dss_nil)
  (dss_cons (ds_ret (dv 1))
  dss_nil))))))
set_option maxHeartbeats 4000000 in
theorem ok__law_whole (T : Txt K mg t) : FnOk P w K mg base CX0 1 t.a__law_whole t.d__law_whole ["_law_thing"] (spD K 1 m__law_whole) :=
  fn_mirror T.F__law_whole sc__law_whole fun cdv A outer s0 H H₀ E hr => (
  (dss_cons (ds_ret (de_and (de_isinst kit_ok_int rfl T.n_isinstance rfl T.n_int PyProof.Rows.Boot.«int» (dv 0)) (de_one (de_not (de_isinst kit_ok_bool rfl T.n_isinstance rfl T.n_bool PyProof.Rows.Boot.«bool» (dv 0))))))
  dss_nil))
set_option maxHeartbeats 4000000 in
theorem ok__law_made (T : Txt K mg t) : FnOk P w K mg base CX0 2 t.a__law_made t.d__law_made ["_law_found", "_law_top", "_law_bottom"] (spD K 3 m__law_made) :=
  fn_mirror T.F__law_made sc__law_made fun cdv A outer s0 H H₀ E hr => (
  (dss_cons (ds_if (DW.dt (dw_or (dt_not (dt_val (de_isinst kit_ok_tuple rfl T.n_isinstance rfl T.n_tuple PyProof.Rows.Boot.«tuple» (dv 0)))) (dw_one_or (dt_cmp (op_neD hr.units) od_ne (de_callB call_len cd_len rfl T.n_len PyProof.Rows.Boot.«len» (da_cons (dv 0) da_nil)) de_int nm))))
  (dss_cons (ds_ret de_bl)
  dss_nil)
  dss_nil)
  (dss_cons (ds_if (DW.dt (dw_or (dt_not (dt_val (de_call ((ok__law_whole T).mono (by decide : 1 ≤ 1)) hr rfl T.g__law_whole T.F__law_whole.kp T.b__law_whole pass0 (da_cons (de_item (dv 0) de_int) da_nil) rfl (fun ρ ds h => (fun _ h => aCons_len (fun _ h => aNil_len h) h) ds h)))) (dw_or (dt_not (dt_val (de_call ((ok__law_whole T).mono (by decide : 1 ≤ 1)) hr rfl T.g__law_whole T.F__law_whole.kp T.b__law_whole pass0 (da_cons (de_item (dv 0) de_int) da_nil) rfl (fun ρ ds h => (fun _ h => aCons_len (fun _ h => aNil_len h) h) ds h)))) (dw_one_or (dt_cmp op_lt (od_iop0 fun _ _ _ _ => rb _) (de_item (dv 0) de_int) de_int nm)))))
  (dss_cons (ds_ret de_bl)
  dss_nil)
  dss_nil)
  (dss_cons (ds_ret (de_and (de_cmp (op_eqD hr.units) od_eq (de_call ((ok__law_divisor T).mono (by decide : 1 ≤ 1)) hr rfl T.g__law_divisor T.F__law_divisor.kp T.b__law_divisor pass0 (da_cons (de_item (dv 0) de_int) (da_cons (de_item (dv 0) de_int) da_nil)) rfl (fun ρ ds h => (fun _ h => aCons_len (fun _ h => aCons_len (fun _ h => aNil_len h) h) h) ds h)) de_int nm) (de_one (de_cmp (op_eqD hr.units) od_eq (de_mul (de_item (dv 0) de_int) (dv 2)) (de_mul (dv 1) (de_item (dv 0) de_int)) nm))))
  dss_nil))))
set_option maxHeartbeats 4000000 in
theorem ok_is_whole (T : Txt K mg t) : FnOk P w K mg base CX0 1 t.a_is_whole t.d_is_whole ["thing"] (spD K 1 m_is_whole) :=
  fn_mirror T.F_is_whole sc_is_whole fun cdv A outer s0 H H₀ E hr => (
  (dss_cons (ds_ret (de_and (de_isinst kit_ok_int rfl T.n_isinstance rfl T.n_int PyProof.Rows.Boot.«int» (dv 0)) (de_one (de_not (de_isinst kit_ok_bool rfl T.n_isinstance rfl T.n_bool PyProof.Rows.Boot.«bool» (dv 0))))))
  dss_nil))
set_option maxHeartbeats 4000000 in
theorem ok_common_divisor (T : Txt K mg t) : FnOk P w K mg base CX0 1 t.a_common_divisor t.d_common_divisor ["one", "other"] (spD K 2 m_common_divisor) :=
  fn_mirror T.F_common_divisor sc_common_divisor fun cdv A outer s0 H H₀ E hr => (
  (dss_cons (ds_set (i := 2) sc_common_divisor.nd rfl (Or.inl rfl) (de_callB call_abs cd_abs rfl T.n_abs PyProof.Rows.Boot.«abs» (da_cons (dv 0) da_nil)))
  (dss_cons (ds_set (i := 3) sc_common_divisor.nd rfl (Or.inl rfl) (de_callB call_abs cd_abs rfl T.n_abs PyProof.Rows.Boot.«abs» (da_cons (dv 1) da_nil)))
  (dss_cons (ds_while _ PassesOwn.never (dt_cmp (op_neD hr.units) od_ne (dv 3) de_int nm)
  (dss_cons (ds_set (i := 4) sc_common_divisor.nd rfl (Or.inl rfl) (de_mod (dv 2) (dv 3)))
  (dss_cons (ds_set (i := 2) sc_common_divisor.nd rfl (Or.inl rfl) (dv 3))
  (dss_cons (ds_set (i := 3) sc_common_divisor.nd rfl (Or.inl rfl) (dv 4))
  dss_nil))))
  (dss_cons (ds_ret (dv 2))
  dss_nil)))))
set_option maxHeartbeats 4000000 in
theorem ok_ratio (T : Txt K mg t) : FnOk P w K mg base (CXE P w) 2 t.a_ratio t.d_ratio ["top", "bottom"] (spD K 2 m_ratio) :=
  fn_mirrorE T.F_ratio sc_ratio fun cdv A outer s0 H H₀ E hr => (
  (dss_cons (ds_if (DW.dt (dw_or (dt_not (dt_val (de_call ((ok_is_whole T).mono (by decide : 1 ≤ 1)) hr rfl T.g_is_whole T.F_is_whole.kp T.b_is_whole pass0E (da_cons (dv 0) da_nil) rfl (fun ρ ds h => (fun _ h => aCons_len (fun _ h => aNil_len h) h) ds h)))) (dw_one_or (dt_not (dt_val (de_call ((ok_is_whole T).mono (by decide : 1 ≤ 1)) hr rfl T.g_is_whole T.F_is_whole.kp T.b_is_whole pass0E (da_cons (dv 1) da_nil) rfl (fun ρ ds h => (fun _ h => aCons_len (fun _ h => aNil_len h) h) ds h)))))))
  (dss_cons (ds_raise T.x_NoNumber.xcls T.g_NoNumber hr.hd rfl (da_cons de_str da_nil))
  dss_nil)
  dss_nil)
  (dss_cons (ds_if (dt_cmp (op_eqD hr.units) od_eq (dv 1) de_int nm)
  (dss_cons (ds_raise T.x_NoNumber.xcls T.g_NoNumber hr.hd rfl (da_cons de_str da_nil))
  dss_nil)
  dss_nil)
  (dss_cons (ds_set (i := 2) sc_ratio.nd rfl (Or.inl rfl) (de_call ((ok_common_divisor T).mono (by decide : 1 ≤ 1)) hr rfl T.g_common_divisor T.F_common_divisor.kp T.b_common_divisor pass0E (da_cons (dv 0) (da_cons (dv 1) da_nil)) rfl (fun ρ ds h => (fun _ h => aCons_len (fun _ h => aCons_len (fun _ h => aNil_len h) h) h) ds h)))
  (dss_cons (ds_if (dt_cmp op_lt (od_iop0 fun _ _ _ _ => rb _) (dv 1) de_int nm)
  (dss_cons (ds_set (i := 2) sc_ratio.nd rfl (Or.inl rfl) (de_neg (dv 2)))
  dss_nil)
  dss_nil)
  (dss_cons (ds_ret (de_tup (da_cons (de_div (dv 0) (dv 2)) (da_cons (de_div (dv 1) (dv 2)) da_nil))))
  dss_nil))))))
set_option maxHeartbeats 4000000 in
theorem ok_plus (T : Txt K mg t) : FnOk P w K mg base (CXE P w) 3 t.a_plus t.d_plus ["one", "other"] (spD K 2 m_plus) :=
  fn_mirrorE T.F_plus sc_plus fun cdv A outer s0 H H₀ E hr => (
  (dss_cons (ds_ret (de_call ((ok_ratio T).mono (by decide : 2 ≤ 2)) hr rfl T.g_ratio T.F_ratio.kp T.b_ratio passesE (da_cons (de_add (de_mul (de_item (dv 0) de_int) (de_item (dv 1) de_int)) (de_mul (de_item (dv 1) de_int) (de_item (dv 0) de_int))) (da_cons (de_mul (de_item (dv 0) de_int) (de_item (dv 1) de_int)) da_nil)) rfl (fun ρ ds h => (fun _ h => aCons_len (fun _ h => aCons_len (fun _ h => aNil_len h) h) h) ds h)))
  dss_nil))
set_option maxHeartbeats 4000000 in
theorem ok_minus (T : Txt K mg t) : FnOk P w K mg base (CXE P w) 3 t.a_minus t.d_minus ["one", "other"] (spD K 2 m_minus) :=
  fn_mirrorE T.F_minus sc_minus fun cdv A outer s0 H H₀ E hr => (
  (dss_cons (ds_ret (de_call ((ok_ratio T).mono (by decide : 2 ≤ 2)) hr rfl T.g_ratio T.F_ratio.kp T.b_ratio passesE (da_cons (de_sub (de_mul (de_item (dv 0) de_int) (de_item (dv 1) de_int)) (de_mul (de_item (dv 1) de_int) (de_item (dv 0) de_int))) (da_cons (de_mul (de_item (dv 0) de_int) (de_item (dv 1) de_int)) da_nil)) rfl (fun ρ ds h => (fun _ h => aCons_len (fun _ h => aCons_len (fun _ h => aNil_len h) h) h) ds h)))
  dss_nil))
set_option maxHeartbeats 4000000 in
theorem ok_times (T : Txt K mg t) : FnOk P w K mg base (CXE P w) 3 t.a_times t.d_times ["one", "other"] (spD K 2 m_times) :=
  fn_mirrorE T.F_times sc_times fun cdv A outer s0 H H₀ E hr => (
  (dss_cons (ds_ret (de_call ((ok_ratio T).mono (by decide : 2 ≤ 2)) hr rfl T.g_ratio T.F_ratio.kp T.b_ratio passesE (da_cons (de_mul (de_item (dv 0) de_int) (de_item (dv 1) de_int)) (da_cons (de_mul (de_item (dv 0) de_int) (de_item (dv 1) de_int)) da_nil)) rfl (fun ρ ds h => (fun _ h => aCons_len (fun _ h => aCons_len (fun _ h => aNil_len h) h) h) ds h)))
  dss_nil))
set_option maxHeartbeats 4000000 in
theorem ok_over (T : Txt K mg t) : FnOk P w K mg base (CXE P w) 3 t.a_over t.d_over ["one", "other"] (spD K 2 m_over) :=
  fn_mirrorE T.F_over sc_over fun cdv A outer s0 H H₀ E hr => (
  (dss_cons (ds_ret (de_call ((ok_ratio T).mono (by decide : 2 ≤ 2)) hr rfl T.g_ratio T.F_ratio.kp T.b_ratio passesE (da_cons (de_mul (de_item (dv 0) de_int) (de_item (dv 1) de_int)) (da_cons (de_mul (de_item (dv 0) de_int) (de_item (dv 1) de_int)) da_nil)) rfl (fun ρ ds h => (fun _ h => aCons_len (fun _ h => aCons_len (fun _ h => aNil_len h) h) h) ds h)))
  dss_nil))
set_option maxHeartbeats 4000000 in
theorem ok__law_other (T : Txt K mg t) : FnH P w K mg base 1 t.a__law_other t.d__law_other ["_law_e"] (spD K 1 m__law_other) :=
  fn_mirrorH T.F__law_other sc__law_other fun cdv A outer s0 H H₀ E hr => (
  (dss_cons (ds_if (dt_val (de_isXs (tab_1_ok T) (cn_cons rfl T.g_NoAdds (cn_cons rfl T.g_NoCases (cn_cons rfl T.g_NoChange (cn_cons rfl T.g_NoDeed (cn_cons rfl T.g_NoFlow (cn_cons rfl T.g_NoJoin cn_nil)))))) (by simp) rfl T.n_isinstance (dv 0)))
  (dss_cons (ds_ret de_bl)
  dss_nil)
  dss_nil)
  (dss_cons (ds_if (dt_val (de_isXs (tab_2_ok T) (cn_cons rfl T.g_NoMix (cn_cons rfl T.g_NoName (cn_cons rfl T.g_NoPurse (cn_cons rfl T.g_NoRooms (cn_cons rfl T.g_NoRow cn_nil))))) (by simp) rfl T.n_isinstance (dv 0)))
  (dss_cons (ds_ret de_bl)
  dss_nil)
  dss_nil)
  (dss_cons (ds_if (dt_val (de_isXs (tab_3_ok T) (cn_cons rfl T.g_NoSide (cn_cons rfl T.g_NoSpread (cn_cons rfl T.g_NoTaking (cn_cons rfl T.g_NoText (cn_cons rfl T.g_NoTie (cn_cons rfl T.g_NoTurn (cn_cons rfl T.g_NoWay (cn_cons rfl T.g_NoWeb cn_nil)))))))) (by simp) rfl T.n_isinstance (dv 0)))
  (dss_cons (ds_ret de_bl)
  dss_nil)
  dss_nil)
  (dss_cons (ds_ret (de_isXs (tab_4_ok T) (cn_cons rfl T.g_TooMany (cn_cons rfl T.g_Unbalanced cn_nil)) (by simp) rfl T.n_isinstance (dv 0)))
  dss_nil)))))
set_option maxHeartbeats 4000000 in
theorem ok__law_over (T : Txt K mg t) : FnOk P w K mg base CX0 4 t.a__law_over t.d__law_over ["_law_one", "_law_other_here"] (spD K 2 m__law_over) :=
  fn_mirror T.F__law_over sc__law_over fun cdv A outer s0 H H₀ E hr => (
  (dss_cons (ds_set (i := 2) sc__law_over.nd rfl (Or.inl rfl) de_non)
  (dss_cons (ds_set (i := 3) sc__law_over.nd rfl (Or.inl rfl) de_bl)
  (dss_cons (ds_set (i := 4) sc__law_over.nd rfl (Or.inl rfl) de_bl)
  (dss_cons (ds_try ⟨rfl, rfl⟩ (tb_set (i := 2) sc__law_over.nd rfl (Or.inl rfl) ((ok_over T).mono (by decide : 3 ≤ 3)) hr rfl T.g_over T.F_over.kp T.b_over (da_cons (dv 0) (da_cons (dv 1) da_nil)) rfl (fun ρ ds h => (fun _ h => aCons_len (fun _ h => aCons_len (fun _ h => aNil_len h) h) h) ds h)) rfl T.g_CutError (hit_CutError_ok T) sc__law_over.nd rfl rfl (fun ea => (dss_cons (ds_set (i := 3) sc__law_over.nd rfl (Or.inl rfl) de_bl)
  (dss_cons (ds_set (i := 4) sc__law_over.nd rfl (Or.inl rfl) (de_and (de_isXown rfl T.g_NoNumber (tab_5_ok T) rfl T.n_isinstance (dv 5)) (de_and (de_isXblt rfl T.n_ValueError PyProof.Rows.Boot.«ValueError» (tab_6_ok T) rfl T.n_isinstance (dv 5)) (de_one (de_not (de_callH ((ok__law_other T).mono (by decide : 1 ≤ 3)) (RoomH.hand hr) rfl T.g__law_other T.F__law_other.kp T.b__law_other (da_cons (dv 5) da_nil) rfl (fun ρ ds h => (fun _ h => aCons_len (fun _ h => aNil_len h) h) ds h)))))))
  dss_nil))))
  (dss_cons (ds_if (dt_cmp (op_eqD hr.units) od_eq (de_item (dv 1) de_int) de_int nm)
  (dss_cons (ds_ret (de_and (dv 3) (de_one (dv 4))))
  dss_nil)
  dss_nil)
  (dss_cons (ds_ret (de_and (de_not (dv 3)) (de_one (de_call ((ok__law_made T).mono (by decide : 2 ≤ 3)) hr rfl T.g__law_made T.F__law_made.kp T.b__law_made pass0 (da_cons (dv 2) (da_cons (de_mul (de_item (dv 0) de_int) (de_item (dv 1) de_int)) (da_cons (de_mul (de_item (dv 0) de_int) (de_item (dv 1) de_int)) da_nil))) rfl (fun ρ ds h => (fun _ h => aCons_len (fun _ h => aCons_len (fun _ h => aCons_len (fun _ h => aNil_len h) h) h) h) ds h)))))
  dss_nil)))))))
set_option maxHeartbeats 4000000 in
theorem ok__law_right (T : Txt K mg t) : FnOk P w K mg base CX0 5 t.a__law_right t.d__law_right ["_law_one", "_law_other_here"] (spD K 2 m__law_right) :=
  fn_mirror T.F__law_right sc__law_right fun cdv A outer s0 H H₀ E hr => (
  (dss_cons (ds_set (i := 2) sc__law_right.nd rfl (Or.inl rfl) (de_mul (de_item (dv 0) de_int) (de_item (dv 1) de_int)))
  (dss_cons (ds_if (dt_not (dt_val (de_call ((ok__law_made T).mono (by decide : 2 ≤ 4)) hr rfl T.g__law_made T.F__law_made.kp T.b__law_made pass0 (da_cons (de_call (DL.FnOk.noX ((ok_plus T).mono (by decide : 3 ≤ 4))) hr rfl T.g_plus T.F_plus.kp T.b_plus pass0 (da_cons (dv 0) (da_cons (dv 1) da_nil)) rfl (fun ρ ds h => (fun _ h => aCons_len (fun _ h => aCons_len (fun _ h => aNil_len h) h) h) ds h)) (da_cons (de_add (de_mul (de_item (dv 0) de_int) (de_item (dv 1) de_int)) (de_mul (de_item (dv 1) de_int) (de_item (dv 0) de_int))) (da_cons (dv 2) da_nil))) rfl (fun ρ ds h => (fun _ h => aCons_len (fun _ h => aCons_len (fun _ h => aCons_len (fun _ h => aNil_len h) h) h) h) ds h))))
  (dss_cons (ds_ret de_bl)
  dss_nil)
  dss_nil)
  (dss_cons (ds_if (dt_not (dt_val (de_call ((ok__law_made T).mono (by decide : 2 ≤ 4)) hr rfl T.g__law_made T.F__law_made.kp T.b__law_made pass0 (da_cons (de_call (DL.FnOk.noX ((ok_minus T).mono (by decide : 3 ≤ 4))) hr rfl T.g_minus T.F_minus.kp T.b_minus pass0 (da_cons (dv 0) (da_cons (dv 1) da_nil)) rfl (fun ρ ds h => (fun _ h => aCons_len (fun _ h => aCons_len (fun _ h => aNil_len h) h) h) ds h)) (da_cons (de_sub (de_mul (de_item (dv 0) de_int) (de_item (dv 1) de_int)) (de_mul (de_item (dv 1) de_int) (de_item (dv 0) de_int))) (da_cons (dv 2) da_nil))) rfl (fun ρ ds h => (fun _ h => aCons_len (fun _ h => aCons_len (fun _ h => aCons_len (fun _ h => aNil_len h) h) h) h) ds h))))
  (dss_cons (ds_ret de_bl)
  dss_nil)
  dss_nil)
  (dss_cons (ds_ret (de_and (de_call ((ok__law_made T).mono (by decide : 2 ≤ 4)) hr rfl T.g__law_made T.F__law_made.kp T.b__law_made pass0 (da_cons (de_call (DL.FnOk.noX ((ok_times T).mono (by decide : 3 ≤ 4))) hr rfl T.g_times T.F_times.kp T.b_times pass0 (da_cons (dv 0) (da_cons (dv 1) da_nil)) rfl (fun ρ ds h => (fun _ h => aCons_len (fun _ h => aCons_len (fun _ h => aNil_len h) h) h) ds h)) (da_cons (de_mul (de_item (dv 0) de_int) (de_item (dv 1) de_int)) (da_cons (dv 2) da_nil))) rfl (fun ρ ds h => (fun _ h => aCons_len (fun _ h => aCons_len (fun _ h => aCons_len (fun _ h => aNil_len h) h) h) h) ds h)) (de_one (de_call ((ok__law_over T).mono (by decide : 4 ≤ 4)) hr rfl T.g__law_over T.F__law_over.kp T.b__law_over pass0 (da_cons (dv 0) (da_cons (dv 1) da_nil)) rfl (fun ρ ds h => (fun _ h => aCons_len (fun _ h => aCons_len (fun _ h => aNil_len h) h) h) ds h)))))
  dss_nil)))))
set_option maxHeartbeats 4000000 in
theorem ok_law (T : Txt K mg t) : FnOk P w K mg base CX0 6 t.a_law t.d_law ["_law_script"] (spD K 1 m_law) :=
  fn_mirror T.F_law sc_law fun cdv A outer s0 H H₀ E hr => (
  (dss_cons (ds_set (i := 1) sc_law.nd rfl (Or.inl rfl) (de_add (de_sliceA (dv 0) do_none (do_some de_int)) (de_lst (da_cons de_int (da_cons de_int da_nil)))))
  (dss_cons (ds_forI PassesOwn.never rfl (di_range3 rfl T.n_range de_int (de_sub (de_callB call_len cd_len rfl T.n_len PyProof.Rows.Boot.«len» (da_cons (dv 1) da_nil)) de_int) de_int) (dg_name (i := 2) sc_law.nd rfl (Or.inl rfl)) total_set
  (dss_cons (ds_set (i := 3) sc_law.nd rfl (Or.inl rfl) (de_item (de_call ((ok__law_drawn T).mono (by decide : 3 ≤ 5)) hr rfl T.g__law_drawn T.F__law_drawn.kp T.b__law_drawn pass0 (da_cons (de_item (dv 1) (dv 2)) da_nil) rfl (fun ρ ds h => (fun _ h => aCons_len (fun _ h => aNil_len h) h) ds h)) de_int))
  (dss_cons (ds_unp rfl (de_call ((ok__law_drawn T).mono (by decide : 3 ≤ 5)) hr rfl T.g__law_drawn T.F__law_drawn.kp T.b__law_drawn pass0 (da_cons (de_item (dv 1) (de_add (dv 2) de_int)) da_nil) rfl (fun ρ ds h => (fun _ h => aCons_len (fun _ h => aNil_len h) h) ds h)) (dgs_cons (i := 4) sc_law.nd rfl (Or.inl rfl) (dgs_cons (i := 5) sc_law.nd rfl (Or.inl rfl) dgs_nil)))
  (dss_cons (ds_set (i := 4) sc_law.nd rfl (Or.inl rfl) (de_call ((ok__law_second T).mono (by decide : 1 ≤ 5)) hr rfl T.g__law_second T.F__law_second.kp T.b__law_second pass0 (da_cons (dv 3) (da_cons (dv 4) (da_cons (dv 5) da_nil))) rfl (fun ρ ds h => (fun _ h => aCons_len (fun _ h => aCons_len (fun _ h => aCons_len (fun _ h => aNil_len h) h) h) h) ds h)))
  (dss_cons (ds_if (DW.dt (dw_or (dt_not (dt_val (de_call ((ok__law_right T).mono (by decide : 5 ≤ 5)) hr rfl T.g__law_right T.F__law_right.kp T.b__law_right pass0 (da_cons (dv 3) (da_cons (dv 4) da_nil)) rfl (fun ρ ds h => (fun _ h => aCons_len (fun _ h => aCons_len (fun _ h => aNil_len h) h) h) ds h)))) (dw_one_or (dt_not (dt_val (de_call ((ok__law_right T).mono (by decide : 5 ≤ 5)) hr rfl T.g__law_right T.F__law_right.kp T.b__law_right pass0 (da_cons (dv 4) (da_cons (dv 3) da_nil)) rfl (fun ρ ds h => (fun _ h => aCons_len (fun _ h => aCons_len (fun _ h => aNil_len h) h) h) ds h)))))))
  (dss_cons (ds_ret de_bl)
  dss_nil)
  dss_nil)
  dss_nil)))))
  (dss_cons (ds_ret de_bl)
  dss_nil))))
end
theorem txt_mk {K : PySem.W.Frag} {h : Heap} {mg : Str → Option Value} (X : K.In h) (G : h.Ns mainGlobals mg) {k_CutError : Addr} {k_NoAdds : Addr} {k_NoCases : Addr} {k_NoChange : Addr} {k_NoDeed : Addr} {k_NoFlow : Addr} {k_NoJoin : Addr} {k_NoMix : Addr} {k_NoName : Addr} {k_NoNumber : Addr} {k_NoPurse : Addr} {k_NoRooms : Addr} {k_NoRow : Addr} {k_NoSide : Addr} {k_NoSpread : Addr} {k_NoTaking : Addr} {k_NoText : Addr} {k_NoTie : Addr} {k_NoTurn : Addr} {k_NoWay : Addr} {k_NoWeb : Addr} {k_TooMany : Addr} {k_Unbalanced : Addr} {a__law_draws : Addr} {a__law_divisor : Addr} {a__law_lowest : Addr} {a__law_drawn : Addr} {a__law_second : Addr} {a__law_whole : Addr} {a__law_made : Addr} {a_is_whole : Addr} {a_common_divisor : Addr} {a_ratio : Addr} {a_plus : Addr} {a_minus : Addr} {a_times : Addr} {a_over : Addr} {a__law_other : Addr} {a__law_over : Addr} {a__law_right : Addr} {a_law : Addr}
    {oc__law_draws kV__law_draws dc__law_draws pm__law_draws cd__law_draws ct__law_draws : Value} {od__law_draws an__law_draws : Option Addr} {sl__law_draws : Array (Option Value)}
    (e1__law_draws : PySem.W.nsIn K mainGlobals "_law_draws" = some (some (.ref a__law_draws))) (e2__law_draws : K.lookup a__law_draws = some ⟨oc__law_draws, od__law_draws, .func (PySem.W.fnOf "_law_draws" "_law_draws" (defArgs s__law_draws) (defBody s__law_draws) (defScope s__law_draws) .none kV__law_draws dc__law_draws pm__law_draws an__law_draws cd__law_draws ct__law_draws), sl__law_draws⟩) (e3__law_draws : PySem.W.codeIn K cd__law_draws "_law_draws" = true) (e4__law_draws : PySem.W.keepIn K (.ref a__law_draws) = true)
    {oc__law_divisor kV__law_divisor dc__law_divisor pm__law_divisor cd__law_divisor ct__law_divisor : Value} {od__law_divisor an__law_divisor : Option Addr} {sl__law_divisor : Array (Option Value)}
    (e1__law_divisor : PySem.W.nsIn K mainGlobals "_law_divisor" = some (some (.ref a__law_divisor))) (e2__law_divisor : K.lookup a__law_divisor = some ⟨oc__law_divisor, od__law_divisor, .func (PySem.W.fnOf "_law_divisor" "_law_divisor" (defArgs s__law_divisor) (defBody s__law_divisor) (defScope s__law_divisor) .none kV__law_divisor dc__law_divisor pm__law_divisor an__law_divisor cd__law_divisor ct__law_divisor), sl__law_divisor⟩) (e3__law_divisor : PySem.W.codeIn K cd__law_divisor "_law_divisor" = true) (e4__law_divisor : PySem.W.keepIn K (.ref a__law_divisor) = true)
    {oc__law_lowest kV__law_lowest dc__law_lowest pm__law_lowest cd__law_lowest ct__law_lowest : Value} {od__law_lowest an__law_lowest : Option Addr} {sl__law_lowest : Array (Option Value)}
    (e1__law_lowest : PySem.W.nsIn K mainGlobals "_law_lowest" = some (some (.ref a__law_lowest))) (e2__law_lowest : K.lookup a__law_lowest = some ⟨oc__law_lowest, od__law_lowest, .func (PySem.W.fnOf "_law_lowest" "_law_lowest" (defArgs s__law_lowest) (defBody s__law_lowest) (defScope s__law_lowest) .none kV__law_lowest dc__law_lowest pm__law_lowest an__law_lowest cd__law_lowest ct__law_lowest), sl__law_lowest⟩) (e3__law_lowest : PySem.W.codeIn K cd__law_lowest "_law_lowest" = true) (e4__law_lowest : PySem.W.keepIn K (.ref a__law_lowest) = true)
    {oc__law_drawn kV__law_drawn dc__law_drawn pm__law_drawn cd__law_drawn ct__law_drawn : Value} {od__law_drawn an__law_drawn : Option Addr} {sl__law_drawn : Array (Option Value)}
    (e1__law_drawn : PySem.W.nsIn K mainGlobals "_law_drawn" = some (some (.ref a__law_drawn))) (e2__law_drawn : K.lookup a__law_drawn = some ⟨oc__law_drawn, od__law_drawn, .func (PySem.W.fnOf "_law_drawn" "_law_drawn" (defArgs s__law_drawn) (defBody s__law_drawn) (defScope s__law_drawn) .none kV__law_drawn dc__law_drawn pm__law_drawn an__law_drawn cd__law_drawn ct__law_drawn), sl__law_drawn⟩) (e3__law_drawn : PySem.W.codeIn K cd__law_drawn "_law_drawn" = true) (e4__law_drawn : PySem.W.keepIn K (.ref a__law_drawn) = true)
    {oc__law_second kV__law_second dc__law_second pm__law_second cd__law_second ct__law_second : Value} {od__law_second an__law_second : Option Addr} {sl__law_second : Array (Option Value)}
    (e1__law_second : PySem.W.nsIn K mainGlobals "_law_second" = some (some (.ref a__law_second))) (e2__law_second : K.lookup a__law_second = some ⟨oc__law_second, od__law_second, .func (PySem.W.fnOf "_law_second" "_law_second" (defArgs s__law_second) (defBody s__law_second) (defScope s__law_second) .none kV__law_second dc__law_second pm__law_second an__law_second cd__law_second ct__law_second), sl__law_second⟩) (e3__law_second : PySem.W.codeIn K cd__law_second "_law_second" = true) (e4__law_second : PySem.W.keepIn K (.ref a__law_second) = true)
    {oc__law_whole kV__law_whole dc__law_whole pm__law_whole cd__law_whole ct__law_whole : Value} {od__law_whole an__law_whole : Option Addr} {sl__law_whole : Array (Option Value)}
    (e1__law_whole : PySem.W.nsIn K mainGlobals "_law_whole" = some (some (.ref a__law_whole))) (e2__law_whole : K.lookup a__law_whole = some ⟨oc__law_whole, od__law_whole, .func (PySem.W.fnOf "_law_whole" "_law_whole" (defArgs s__law_whole) (defBody s__law_whole) (defScope s__law_whole) .none kV__law_whole dc__law_whole pm__law_whole an__law_whole cd__law_whole ct__law_whole), sl__law_whole⟩) (e3__law_whole : PySem.W.codeIn K cd__law_whole "_law_whole" = true) (e4__law_whole : PySem.W.keepIn K (.ref a__law_whole) = true)
    {oc__law_made kV__law_made dc__law_made pm__law_made cd__law_made ct__law_made : Value} {od__law_made an__law_made : Option Addr} {sl__law_made : Array (Option Value)}
    (e1__law_made : PySem.W.nsIn K mainGlobals "_law_made" = some (some (.ref a__law_made))) (e2__law_made : K.lookup a__law_made = some ⟨oc__law_made, od__law_made, .func (PySem.W.fnOf "_law_made" "_law_made" (defArgs s__law_made) (defBody s__law_made) (defScope s__law_made) .none kV__law_made dc__law_made pm__law_made an__law_made cd__law_made ct__law_made), sl__law_made⟩) (e3__law_made : PySem.W.codeIn K cd__law_made "_law_made" = true) (e4__law_made : PySem.W.keepIn K (.ref a__law_made) = true)
    {oc_is_whole kV_is_whole dc_is_whole pm_is_whole cd_is_whole ct_is_whole : Value} {od_is_whole an_is_whole : Option Addr} {sl_is_whole : Array (Option Value)}
    (e1_is_whole : PySem.W.nsIn K mainGlobals "is_whole" = some (some (.ref a_is_whole))) (e2_is_whole : K.lookup a_is_whole = some ⟨oc_is_whole, od_is_whole, .func (PySem.W.fnOf "is_whole" "is_whole" (defArgs s_is_whole) (defBody s_is_whole) (defScope s_is_whole) .none kV_is_whole dc_is_whole pm_is_whole an_is_whole cd_is_whole ct_is_whole), sl_is_whole⟩) (e3_is_whole : PySem.W.codeIn K cd_is_whole "is_whole" = true) (e4_is_whole : PySem.W.keepIn K (.ref a_is_whole) = true)
    {oc_common_divisor kV_common_divisor dc_common_divisor pm_common_divisor cd_common_divisor ct_common_divisor : Value} {od_common_divisor an_common_divisor : Option Addr} {sl_common_divisor : Array (Option Value)}
    (e1_common_divisor : PySem.W.nsIn K mainGlobals "common_divisor" = some (some (.ref a_common_divisor))) (e2_common_divisor : K.lookup a_common_divisor = some ⟨oc_common_divisor, od_common_divisor, .func (PySem.W.fnOf "common_divisor" "common_divisor" (defArgs s_common_divisor) (defBody s_common_divisor) (defScope s_common_divisor) .none kV_common_divisor dc_common_divisor pm_common_divisor an_common_divisor cd_common_divisor ct_common_divisor), sl_common_divisor⟩) (e3_common_divisor : PySem.W.codeIn K cd_common_divisor "common_divisor" = true) (e4_common_divisor : PySem.W.keepIn K (.ref a_common_divisor) = true)
    {oc_ratio kV_ratio dc_ratio pm_ratio cd_ratio ct_ratio : Value} {od_ratio an_ratio : Option Addr} {sl_ratio : Array (Option Value)}
    (e1_ratio : PySem.W.nsIn K mainGlobals "ratio" = some (some (.ref a_ratio))) (e2_ratio : K.lookup a_ratio = some ⟨oc_ratio, od_ratio, .func (PySem.W.fnOf "ratio" "ratio" (defArgs s_ratio) (defBody s_ratio) (defScope s_ratio) .none kV_ratio dc_ratio pm_ratio an_ratio cd_ratio ct_ratio), sl_ratio⟩) (e3_ratio : PySem.W.codeIn K cd_ratio "ratio" = true) (e4_ratio : PySem.W.keepIn K (.ref a_ratio) = true)
    {oc_plus kV_plus dc_plus pm_plus cd_plus ct_plus : Value} {od_plus an_plus : Option Addr} {sl_plus : Array (Option Value)}
    (e1_plus : PySem.W.nsIn K mainGlobals "plus" = some (some (.ref a_plus))) (e2_plus : K.lookup a_plus = some ⟨oc_plus, od_plus, .func (PySem.W.fnOf "plus" "plus" (defArgs s_plus) (defBody s_plus) (defScope s_plus) .none kV_plus dc_plus pm_plus an_plus cd_plus ct_plus), sl_plus⟩) (e3_plus : PySem.W.codeIn K cd_plus "plus" = true) (e4_plus : PySem.W.keepIn K (.ref a_plus) = true)
    {oc_minus kV_minus dc_minus pm_minus cd_minus ct_minus : Value} {od_minus an_minus : Option Addr} {sl_minus : Array (Option Value)}
    (e1_minus : PySem.W.nsIn K mainGlobals "minus" = some (some (.ref a_minus))) (e2_minus : K.lookup a_minus = some ⟨oc_minus, od_minus, .func (PySem.W.fnOf "minus" "minus" (defArgs s_minus) (defBody s_minus) (defScope s_minus) .none kV_minus dc_minus pm_minus an_minus cd_minus ct_minus), sl_minus⟩) (e3_minus : PySem.W.codeIn K cd_minus "minus" = true) (e4_minus : PySem.W.keepIn K (.ref a_minus) = true)
    {oc_times kV_times dc_times pm_times cd_times ct_times : Value} {od_times an_times : Option Addr} {sl_times : Array (Option Value)}
    (e1_times : PySem.W.nsIn K mainGlobals "times" = some (some (.ref a_times))) (e2_times : K.lookup a_times = some ⟨oc_times, od_times, .func (PySem.W.fnOf "times" "times" (defArgs s_times) (defBody s_times) (defScope s_times) .none kV_times dc_times pm_times an_times cd_times ct_times), sl_times⟩) (e3_times : PySem.W.codeIn K cd_times "times" = true) (e4_times : PySem.W.keepIn K (.ref a_times) = true)
    {oc_over kV_over dc_over pm_over cd_over ct_over : Value} {od_over an_over : Option Addr} {sl_over : Array (Option Value)}
    (e1_over : PySem.W.nsIn K mainGlobals "over" = some (some (.ref a_over))) (e2_over : K.lookup a_over = some ⟨oc_over, od_over, .func (PySem.W.fnOf "over" "over" (defArgs s_over) (defBody s_over) (defScope s_over) .none kV_over dc_over pm_over an_over cd_over ct_over), sl_over⟩) (e3_over : PySem.W.codeIn K cd_over "over" = true) (e4_over : PySem.W.keepIn K (.ref a_over) = true)
    {oc__law_other kV__law_other dc__law_other pm__law_other cd__law_other ct__law_other : Value} {od__law_other an__law_other : Option Addr} {sl__law_other : Array (Option Value)}
    (e1__law_other : PySem.W.nsIn K mainGlobals "_law_other" = some (some (.ref a__law_other))) (e2__law_other : K.lookup a__law_other = some ⟨oc__law_other, od__law_other, .func (PySem.W.fnOf "_law_other" "_law_other" (defArgs s__law_other) (defBody s__law_other) (defScope s__law_other) .none kV__law_other dc__law_other pm__law_other an__law_other cd__law_other ct__law_other), sl__law_other⟩) (e3__law_other : PySem.W.codeIn K cd__law_other "_law_other" = true) (e4__law_other : PySem.W.keepIn K (.ref a__law_other) = true)
    {oc__law_over kV__law_over dc__law_over pm__law_over cd__law_over ct__law_over : Value} {od__law_over an__law_over : Option Addr} {sl__law_over : Array (Option Value)}
    (e1__law_over : PySem.W.nsIn K mainGlobals "_law_over" = some (some (.ref a__law_over))) (e2__law_over : K.lookup a__law_over = some ⟨oc__law_over, od__law_over, .func (PySem.W.fnOf "_law_over" "_law_over" (defArgs s__law_over) (defBody s__law_over) (defScope s__law_over) .none kV__law_over dc__law_over pm__law_over an__law_over cd__law_over ct__law_over), sl__law_over⟩) (e3__law_over : PySem.W.codeIn K cd__law_over "_law_over" = true) (e4__law_over : PySem.W.keepIn K (.ref a__law_over) = true)
    {oc__law_right kV__law_right dc__law_right pm__law_right cd__law_right ct__law_right : Value} {od__law_right an__law_right : Option Addr} {sl__law_right : Array (Option Value)}
    (e1__law_right : PySem.W.nsIn K mainGlobals "_law_right" = some (some (.ref a__law_right))) (e2__law_right : K.lookup a__law_right = some ⟨oc__law_right, od__law_right, .func (PySem.W.fnOf "_law_right" "_law_right" (defArgs s__law_right) (defBody s__law_right) (defScope s__law_right) .none kV__law_right dc__law_right pm__law_right an__law_right cd__law_right ct__law_right), sl__law_right⟩) (e3__law_right : PySem.W.codeIn K cd__law_right "_law_right" = true) (e4__law_right : PySem.W.keepIn K (.ref a__law_right) = true)
    {oc_law kV_law dc_law pm_law cd_law ct_law : Value} {od_law an_law : Option Addr} {sl_law : Array (Option Value)}
    (e1_law : PySem.W.nsIn K mainGlobals "law" = some (some (.ref a_law))) (e2_law : K.lookup a_law = some ⟨oc_law, od_law, .func (PySem.W.fnOf "law" "law" (defArgs s_law) (defBody s_law) (defScope s_law) .none kV_law dc_law pm_law an_law cd_law ct_law), sl_law⟩) (e3_law : PySem.W.codeIn K cd_law "law" = true) (e4_law : PySem.W.keepIn K (.ref a_law) = true)
    (z_ValueError : PySem.W.nsIn K mainGlobals "ValueError" = some none)
    (z_abs : PySem.W.nsIn K mainGlobals "abs" = some none)
    (z_bool : PySem.W.nsIn K mainGlobals "bool" = some none)
    (z_int : PySem.W.nsIn K mainGlobals "int" = some none)
    (z_isinstance : PySem.W.nsIn K mainGlobals "isinstance" = some none)
    (z_len : PySem.W.nsIn K mainGlobals "len" = some none)
    (z_max : PySem.W.nsIn K mainGlobals "max" = some none)
    (z_range : PySem.W.nsIn K mainGlobals "range" = some none)
    (z_tuple : PySem.W.nsIn K mainGlobals "tuple" = some none)
    (kns_CutError : PySem.W.nsIn K mainGlobals "CutError" = some (some (.ref k_CutError))) (kty_CutError : PySem.W.typeIn K (.ref k_CutError) = some (.type "type")) (kob_CutError : PySem.W.mroIn K k_CutError (.type "object") = some true) (kbe_CutError : PySem.W.subIn K (.ref k_CutError) (.type "BaseException") = some true)
    (kns_NoAdds : PySem.W.nsIn K mainGlobals "NoAdds" = some (some (.ref k_NoAdds))) (kty_NoAdds : PySem.W.typeIn K (.ref k_NoAdds) = some (.type "type")) (kob_NoAdds : PySem.W.mroIn K k_NoAdds (.type "object") = some true) (kbe_NoAdds : PySem.W.subIn K (.ref k_NoAdds) (.type "BaseException") = some true)
    (kns_NoCases : PySem.W.nsIn K mainGlobals "NoCases" = some (some (.ref k_NoCases))) (kty_NoCases : PySem.W.typeIn K (.ref k_NoCases) = some (.type "type")) (kob_NoCases : PySem.W.mroIn K k_NoCases (.type "object") = some true) (kbe_NoCases : PySem.W.subIn K (.ref k_NoCases) (.type "BaseException") = some true)
    (kns_NoChange : PySem.W.nsIn K mainGlobals "NoChange" = some (some (.ref k_NoChange))) (kty_NoChange : PySem.W.typeIn K (.ref k_NoChange) = some (.type "type")) (kob_NoChange : PySem.W.mroIn K k_NoChange (.type "object") = some true) (kbe_NoChange : PySem.W.subIn K (.ref k_NoChange) (.type "BaseException") = some true)
    (kns_NoDeed : PySem.W.nsIn K mainGlobals "NoDeed" = some (some (.ref k_NoDeed))) (kty_NoDeed : PySem.W.typeIn K (.ref k_NoDeed) = some (.type "type")) (kob_NoDeed : PySem.W.mroIn K k_NoDeed (.type "object") = some true) (kbe_NoDeed : PySem.W.subIn K (.ref k_NoDeed) (.type "BaseException") = some true)
    (kns_NoFlow : PySem.W.nsIn K mainGlobals "NoFlow" = some (some (.ref k_NoFlow))) (kty_NoFlow : PySem.W.typeIn K (.ref k_NoFlow) = some (.type "type")) (kob_NoFlow : PySem.W.mroIn K k_NoFlow (.type "object") = some true) (kbe_NoFlow : PySem.W.subIn K (.ref k_NoFlow) (.type "BaseException") = some true)
    (kns_NoJoin : PySem.W.nsIn K mainGlobals "NoJoin" = some (some (.ref k_NoJoin))) (kty_NoJoin : PySem.W.typeIn K (.ref k_NoJoin) = some (.type "type")) (kob_NoJoin : PySem.W.mroIn K k_NoJoin (.type "object") = some true) (kbe_NoJoin : PySem.W.subIn K (.ref k_NoJoin) (.type "BaseException") = some true)
    (kns_NoMix : PySem.W.nsIn K mainGlobals "NoMix" = some (some (.ref k_NoMix))) (kty_NoMix : PySem.W.typeIn K (.ref k_NoMix) = some (.type "type")) (kob_NoMix : PySem.W.mroIn K k_NoMix (.type "object") = some true) (kbe_NoMix : PySem.W.subIn K (.ref k_NoMix) (.type "BaseException") = some true)
    (kns_NoName : PySem.W.nsIn K mainGlobals "NoName" = some (some (.ref k_NoName))) (kty_NoName : PySem.W.typeIn K (.ref k_NoName) = some (.type "type")) (kob_NoName : PySem.W.mroIn K k_NoName (.type "object") = some true) (kbe_NoName : PySem.W.subIn K (.ref k_NoName) (.type "BaseException") = some true)
    (kns_NoNumber : PySem.W.nsIn K mainGlobals "NoNumber" = some (some (.ref k_NoNumber))) (kty_NoNumber : PySem.W.typeIn K (.ref k_NoNumber) = some (.type "type")) (kob_NoNumber : PySem.W.mroIn K k_NoNumber (.type "object") = some true) (kbe_NoNumber : PySem.W.subIn K (.ref k_NoNumber) (.type "BaseException") = some true)
    (kns_NoPurse : PySem.W.nsIn K mainGlobals "NoPurse" = some (some (.ref k_NoPurse))) (kty_NoPurse : PySem.W.typeIn K (.ref k_NoPurse) = some (.type "type")) (kob_NoPurse : PySem.W.mroIn K k_NoPurse (.type "object") = some true) (kbe_NoPurse : PySem.W.subIn K (.ref k_NoPurse) (.type "BaseException") = some true)
    (kns_NoRooms : PySem.W.nsIn K mainGlobals "NoRooms" = some (some (.ref k_NoRooms))) (kty_NoRooms : PySem.W.typeIn K (.ref k_NoRooms) = some (.type "type")) (kob_NoRooms : PySem.W.mroIn K k_NoRooms (.type "object") = some true) (kbe_NoRooms : PySem.W.subIn K (.ref k_NoRooms) (.type "BaseException") = some true)
    (kns_NoRow : PySem.W.nsIn K mainGlobals "NoRow" = some (some (.ref k_NoRow))) (kty_NoRow : PySem.W.typeIn K (.ref k_NoRow) = some (.type "type")) (kob_NoRow : PySem.W.mroIn K k_NoRow (.type "object") = some true) (kbe_NoRow : PySem.W.subIn K (.ref k_NoRow) (.type "BaseException") = some true)
    (kns_NoSide : PySem.W.nsIn K mainGlobals "NoSide" = some (some (.ref k_NoSide))) (kty_NoSide : PySem.W.typeIn K (.ref k_NoSide) = some (.type "type")) (kob_NoSide : PySem.W.mroIn K k_NoSide (.type "object") = some true) (kbe_NoSide : PySem.W.subIn K (.ref k_NoSide) (.type "BaseException") = some true)
    (kns_NoSpread : PySem.W.nsIn K mainGlobals "NoSpread" = some (some (.ref k_NoSpread))) (kty_NoSpread : PySem.W.typeIn K (.ref k_NoSpread) = some (.type "type")) (kob_NoSpread : PySem.W.mroIn K k_NoSpread (.type "object") = some true) (kbe_NoSpread : PySem.W.subIn K (.ref k_NoSpread) (.type "BaseException") = some true)
    (kns_NoTaking : PySem.W.nsIn K mainGlobals "NoTaking" = some (some (.ref k_NoTaking))) (kty_NoTaking : PySem.W.typeIn K (.ref k_NoTaking) = some (.type "type")) (kob_NoTaking : PySem.W.mroIn K k_NoTaking (.type "object") = some true) (kbe_NoTaking : PySem.W.subIn K (.ref k_NoTaking) (.type "BaseException") = some true)
    (kns_NoText : PySem.W.nsIn K mainGlobals "NoText" = some (some (.ref k_NoText))) (kty_NoText : PySem.W.typeIn K (.ref k_NoText) = some (.type "type")) (kob_NoText : PySem.W.mroIn K k_NoText (.type "object") = some true) (kbe_NoText : PySem.W.subIn K (.ref k_NoText) (.type "BaseException") = some true)
    (kns_NoTie : PySem.W.nsIn K mainGlobals "NoTie" = some (some (.ref k_NoTie))) (kty_NoTie : PySem.W.typeIn K (.ref k_NoTie) = some (.type "type")) (kob_NoTie : PySem.W.mroIn K k_NoTie (.type "object") = some true) (kbe_NoTie : PySem.W.subIn K (.ref k_NoTie) (.type "BaseException") = some true)
    (kns_NoTurn : PySem.W.nsIn K mainGlobals "NoTurn" = some (some (.ref k_NoTurn))) (kty_NoTurn : PySem.W.typeIn K (.ref k_NoTurn) = some (.type "type")) (kob_NoTurn : PySem.W.mroIn K k_NoTurn (.type "object") = some true) (kbe_NoTurn : PySem.W.subIn K (.ref k_NoTurn) (.type "BaseException") = some true)
    (kns_NoWay : PySem.W.nsIn K mainGlobals "NoWay" = some (some (.ref k_NoWay))) (kty_NoWay : PySem.W.typeIn K (.ref k_NoWay) = some (.type "type")) (kob_NoWay : PySem.W.mroIn K k_NoWay (.type "object") = some true) (kbe_NoWay : PySem.W.subIn K (.ref k_NoWay) (.type "BaseException") = some true)
    (kns_NoWeb : PySem.W.nsIn K mainGlobals "NoWeb" = some (some (.ref k_NoWeb))) (kty_NoWeb : PySem.W.typeIn K (.ref k_NoWeb) = some (.type "type")) (kob_NoWeb : PySem.W.mroIn K k_NoWeb (.type "object") = some true) (kbe_NoWeb : PySem.W.subIn K (.ref k_NoWeb) (.type "BaseException") = some true)
    (kns_TooMany : PySem.W.nsIn K mainGlobals "TooMany" = some (some (.ref k_TooMany))) (kty_TooMany : PySem.W.typeIn K (.ref k_TooMany) = some (.type "type")) (kob_TooMany : PySem.W.mroIn K k_TooMany (.type "object") = some true) (kbe_TooMany : PySem.W.subIn K (.ref k_TooMany) (.type "BaseException") = some true)
    (kns_Unbalanced : PySem.W.nsIn K mainGlobals "Unbalanced" = some (some (.ref k_Unbalanced))) (kty_Unbalanced : PySem.W.typeIn K (.ref k_Unbalanced) = some (.type "type")) (kob_Unbalanced : PySem.W.mroIn K k_Unbalanced (.type "object") = some true) (kbe_Unbalanced : PySem.W.subIn K (.ref k_Unbalanced) (.type "BaseException") = some true)
    (xcls_NoNumber : PySem.W.findIn K (.ref k_NoNumber) "__class__" = some (some (.builtin "object.__class__"))) (xga_NoNumber : PySem.W.findIn K (.ref k_NoNumber) "__getattribute__" = some (some (.builtin "BaseException.__getattribute__"))) (xgt_NoNumber : PySem.W.findIn K (.ref k_NoNumber) "__getattr__" = some none) (xt1_NoNumber : PySem.W.subIn K (.ref k_NoNumber) (.type "NoneType") = some false) (xt2_NoNumber : PySem.W.subIn K (.ref k_NoNumber) (.type "bool") = some false) (xt3_NoNumber : PySem.W.subIn K (.ref k_NoNumber) (.type "int") = some false) (xt4_NoNumber : PySem.W.subIn K (.ref k_NoNumber) (.type "str") = some false) (xt5_NoNumber : PySem.W.subIn K (.ref k_NoNumber) (.type "tuple") = some false) (xt6_NoNumber : PySem.W.subIn K (.ref k_NoNumber) (.type "list") = some false) (xt7_NoNumber : PySem.W.subIn K (.ref k_NoNumber) (.type "dict") = some false) (xve_NoNumber : PySem.W.subIn K (.ref k_NoNumber) (.type "ValueError") = some true) (xself_NoNumber : PySem.W.subIn K (.ref k_NoNumber) (.ref k_NoNumber) = some true) (xex_NoNumber : PySem.W.excIn K k_NoNumber [.type "ValueError", .type "Exception", .type "BaseException", .type "object"] "ValueError.__new__" = true)
    (p_NoNumber_CutError : PySem.W.subIn K (.ref k_NoNumber) (.ref k_CutError) = some true)
    (p_NoNumber_NoAdds : PySem.W.subIn K (.ref k_NoNumber) (.ref k_NoAdds) = some false)
    (p_NoNumber_NoCases : PySem.W.subIn K (.ref k_NoNumber) (.ref k_NoCases) = some false)
    (p_NoNumber_NoChange : PySem.W.subIn K (.ref k_NoNumber) (.ref k_NoChange) = some false)
    (p_NoNumber_NoDeed : PySem.W.subIn K (.ref k_NoNumber) (.ref k_NoDeed) = some false)
    (p_NoNumber_NoFlow : PySem.W.subIn K (.ref k_NoNumber) (.ref k_NoFlow) = some false)
    (p_NoNumber_NoJoin : PySem.W.subIn K (.ref k_NoNumber) (.ref k_NoJoin) = some false)
    (p_NoNumber_NoMix : PySem.W.subIn K (.ref k_NoNumber) (.ref k_NoMix) = some false)
    (p_NoNumber_NoName : PySem.W.subIn K (.ref k_NoNumber) (.ref k_NoName) = some false)
    (p_NoNumber_NoNumber : PySem.W.subIn K (.ref k_NoNumber) (.ref k_NoNumber) = some true)
    (p_NoNumber_NoPurse : PySem.W.subIn K (.ref k_NoNumber) (.ref k_NoPurse) = some false)
    (p_NoNumber_NoRooms : PySem.W.subIn K (.ref k_NoNumber) (.ref k_NoRooms) = some false)
    (p_NoNumber_NoRow : PySem.W.subIn K (.ref k_NoNumber) (.ref k_NoRow) = some false)
    (p_NoNumber_NoSide : PySem.W.subIn K (.ref k_NoNumber) (.ref k_NoSide) = some false)
    (p_NoNumber_NoSpread : PySem.W.subIn K (.ref k_NoNumber) (.ref k_NoSpread) = some false)
    (p_NoNumber_NoTaking : PySem.W.subIn K (.ref k_NoNumber) (.ref k_NoTaking) = some false)
    (p_NoNumber_NoText : PySem.W.subIn K (.ref k_NoNumber) (.ref k_NoText) = some false)
    (p_NoNumber_NoTie : PySem.W.subIn K (.ref k_NoNumber) (.ref k_NoTie) = some false)
    (p_NoNumber_NoTurn : PySem.W.subIn K (.ref k_NoNumber) (.ref k_NoTurn) = some false)
    (p_NoNumber_NoWay : PySem.W.subIn K (.ref k_NoNumber) (.ref k_NoWay) = some false)
    (p_NoNumber_NoWeb : PySem.W.subIn K (.ref k_NoNumber) (.ref k_NoWeb) = some false)
    (p_NoNumber_TooMany : PySem.W.subIn K (.ref k_NoNumber) (.ref k_TooMany) = some false)
    (p_NoNumber_Unbalanced : PySem.W.subIn K (.ref k_NoNumber) (.ref k_Unbalanced) = some false) :
    ∃ t : Adr, Txt K mg t ∧ t.a_law = a_law ∧ ∃ kV doc pm an cdv ct, t.d_law = PySem.W.fnOf "law" "law" (defArgs s_law) (defBody s_law) (defScope s_law) .none kV doc pm an cdv ct := by
  refine ⟨⟨k_CutError, k_NoAdds, k_NoCases, k_NoChange, k_NoDeed, k_NoFlow, k_NoJoin, k_NoMix, k_NoName, k_NoNumber, k_NoPurse, k_NoRooms, k_NoRow, k_NoSide, k_NoSpread, k_NoTaking, k_NoText, k_NoTie, k_NoTurn, k_NoWay, k_NoWeb, k_TooMany, k_Unbalanced, a__law_draws, _, a__law_divisor, _, a__law_lowest, _, a__law_drawn, _, a__law_second, _, a__law_whole, _, a__law_made, _, a_is_whole, _, a_common_divisor, _, a_ratio, _, a_plus, _, a_minus, _, a_times, _, a_over, _, a__law_other, _, a__law_over, _, a__law_right, _, a_law, _⟩, ⟨fun_mk e2__law_draws e3__law_draws e4__law_draws, ?b__law_draws, PySem.W.mg_of X G e1__law_draws, fun_mk e2__law_divisor e3__law_divisor e4__law_divisor, ?b__law_divisor, PySem.W.mg_of X G e1__law_divisor, fun_mk e2__law_lowest e3__law_lowest e4__law_lowest, ?b__law_lowest, PySem.W.mg_of X G e1__law_lowest, fun_mk e2__law_drawn e3__law_drawn e4__law_drawn, ?b__law_drawn, PySem.W.mg_of X G e1__law_drawn, fun_mk e2__law_second e3__law_second e4__law_second, ?b__law_second, PySem.W.mg_of X G e1__law_second, fun_mk e2__law_whole e3__law_whole e4__law_whole, ?b__law_whole, PySem.W.mg_of X G e1__law_whole, fun_mk e2__law_made e3__law_made e4__law_made, ?b__law_made, PySem.W.mg_of X G e1__law_made, fun_mk e2_is_whole e3_is_whole e4_is_whole, ?b_is_whole, PySem.W.mg_of X G e1_is_whole, fun_mk e2_common_divisor e3_common_divisor e4_common_divisor, ?b_common_divisor, PySem.W.mg_of X G e1_common_divisor, fun_mk e2_ratio e3_ratio e4_ratio, ?b_ratio, PySem.W.mg_of X G e1_ratio, fun_mk e2_plus e3_plus e4_plus, ?b_plus, PySem.W.mg_of X G e1_plus, fun_mk e2_minus e3_minus e4_minus, ?b_minus, PySem.W.mg_of X G e1_minus, fun_mk e2_times e3_times e4_times, ?b_times, PySem.W.mg_of X G e1_times, fun_mk e2_over e3_over e4_over, ?b_over, PySem.W.mg_of X G e1_over, fun_mk e2__law_other e3__law_other e4__law_other, ?b__law_other, PySem.W.mg_of X G e1__law_other, fun_mk e2__law_over e3__law_over e4__law_over, ?b__law_over, PySem.W.mg_of X G e1__law_over, fun_mk e2__law_right e3__law_right e4__law_right, ?b__law_right, PySem.W.mg_of X G e1__law_right, fun_mk e2_law e3_law e4_law, ?b_law, PySem.W.mg_of X G e1_law, PySem.W.mg_none_of X G z_ValueError, PySem.W.mg_none_of X G z_abs, PySem.W.mg_none_of X G z_bool, PySem.W.mg_none_of X G z_int, PySem.W.mg_none_of X G z_isinstance, PySem.W.mg_none_of X G z_len, PySem.W.mg_none_of X G z_max, PySem.W.mg_none_of X G z_range, PySem.W.mg_none_of X G z_tuple, PySem.W.mg_of X G kns_CutError, ⟨kns_CutError, kty_CutError, kob_CutError, kbe_CutError⟩, PySem.W.mg_of X G kns_NoAdds, ⟨kns_NoAdds, kty_NoAdds, kob_NoAdds, kbe_NoAdds⟩, PySem.W.mg_of X G kns_NoCases, ⟨kns_NoCases, kty_NoCases, kob_NoCases, kbe_NoCases⟩, PySem.W.mg_of X G kns_NoChange, ⟨kns_NoChange, kty_NoChange, kob_NoChange, kbe_NoChange⟩, PySem.W.mg_of X G kns_NoDeed, ⟨kns_NoDeed, kty_NoDeed, kob_NoDeed, kbe_NoDeed⟩, PySem.W.mg_of X G kns_NoFlow, ⟨kns_NoFlow, kty_NoFlow, kob_NoFlow, kbe_NoFlow⟩, PySem.W.mg_of X G kns_NoJoin, ⟨kns_NoJoin, kty_NoJoin, kob_NoJoin, kbe_NoJoin⟩, PySem.W.mg_of X G kns_NoMix, ⟨kns_NoMix, kty_NoMix, kob_NoMix, kbe_NoMix⟩, PySem.W.mg_of X G kns_NoName, ⟨kns_NoName, kty_NoName, kob_NoName, kbe_NoName⟩, PySem.W.mg_of X G kns_NoNumber, ⟨kns_NoNumber, kty_NoNumber, kob_NoNumber, kbe_NoNumber⟩, PySem.W.mg_of X G kns_NoPurse, ⟨kns_NoPurse, kty_NoPurse, kob_NoPurse, kbe_NoPurse⟩, PySem.W.mg_of X G kns_NoRooms, ⟨kns_NoRooms, kty_NoRooms, kob_NoRooms, kbe_NoRooms⟩, PySem.W.mg_of X G kns_NoRow, ⟨kns_NoRow, kty_NoRow, kob_NoRow, kbe_NoRow⟩, PySem.W.mg_of X G kns_NoSide, ⟨kns_NoSide, kty_NoSide, kob_NoSide, kbe_NoSide⟩, PySem.W.mg_of X G kns_NoSpread, ⟨kns_NoSpread, kty_NoSpread, kob_NoSpread, kbe_NoSpread⟩, PySem.W.mg_of X G kns_NoTaking, ⟨kns_NoTaking, kty_NoTaking, kob_NoTaking, kbe_NoTaking⟩, PySem.W.mg_of X G kns_NoText, ⟨kns_NoText, kty_NoText, kob_NoText, kbe_NoText⟩, PySem.W.mg_of X G kns_NoTie, ⟨kns_NoTie, kty_NoTie, kob_NoTie, kbe_NoTie⟩, PySem.W.mg_of X G kns_NoTurn, ⟨kns_NoTurn, kty_NoTurn, kob_NoTurn, kbe_NoTurn⟩, PySem.W.mg_of X G kns_NoWay, ⟨kns_NoWay, kty_NoWay, kob_NoWay, kbe_NoWay⟩, PySem.W.mg_of X G kns_NoWeb, ⟨kns_NoWeb, kty_NoWeb, kob_NoWeb, kbe_NoWeb⟩, PySem.W.mg_of X G kns_TooMany, ⟨kns_TooMany, kty_TooMany, kob_TooMany, kbe_TooMany⟩, PySem.W.mg_of X G kns_Unbalanced, ⟨kns_Unbalanced, kty_Unbalanced, kob_Unbalanced, kbe_Unbalanced⟩, ⟨⟨kns_NoNumber, kty_NoNumber, kob_NoNumber, kbe_NoNumber⟩, xcls_NoNumber, xga_NoNumber, xgt_NoNumber, xt1_NoNumber, xt2_NoNumber, xt3_NoNumber, xt4_NoNumber, xt5_NoNumber, xt6_NoNumber, xt7_NoNumber, xve_NoNumber, xself_NoNumber, xex_NoNumber⟩, p_NoNumber_CutError, p_NoNumber_NoAdds, p_NoNumber_NoCases, p_NoNumber_NoChange, p_NoNumber_NoDeed, p_NoNumber_NoFlow, p_NoNumber_NoJoin, p_NoNumber_NoMix, p_NoNumber_NoName, p_NoNumber_NoNumber, p_NoNumber_NoPurse, p_NoNumber_NoRooms, p_NoNumber_NoRow, p_NoNumber_NoSide, p_NoNumber_NoSpread, p_NoNumber_NoTaking, p_NoNumber_NoText, p_NoNumber_NoTie, p_NoNumber_NoTurn, p_NoNumber_NoWay, p_NoNumber_NoWeb, p_NoNumber_TooMany, p_NoNumber_Unbalanced⟩, rfl, _, _, _, _, _, _, rfl⟩
  case b__law_draws => exact (fun_mk (st := s__law_draws) e2__law_draws e3__law_draws e4__law_draws).binds fun _ _ _ _ _ _ us hl => match us, hl with | [_, _], _ => rfl
  case b__law_divisor => exact (fun_mk (st := s__law_divisor) e2__law_divisor e3__law_divisor e4__law_divisor).binds fun _ _ _ _ _ _ us hl => match us, hl with | [_, _], _ => rfl
  case b__law_lowest => exact (fun_mk (st := s__law_lowest) e2__law_lowest e3__law_lowest e4__law_lowest).binds fun _ _ _ _ _ _ us hl => match us, hl with | [_, _], _ => rfl
  case b__law_drawn => exact (fun_mk (st := s__law_drawn) e2__law_drawn e3__law_drawn e4__law_drawn).binds fun _ _ _ _ _ _ us hl => match us, hl with | [_], _ => rfl
  case b__law_second => exact (fun_mk (st := s__law_second) e2__law_second e3__law_second e4__law_second).binds fun _ _ _ _ _ _ us hl => match us, hl with | [_, _, _], _ => rfl
  case b__law_whole => exact (fun_mk (st := s__law_whole) e2__law_whole e3__law_whole e4__law_whole).binds fun _ _ _ _ _ _ us hl => match us, hl with | [_], _ => rfl
  case b__law_made => exact (fun_mk (st := s__law_made) e2__law_made e3__law_made e4__law_made).binds fun _ _ _ _ _ _ us hl => match us, hl with | [_, _, _], _ => rfl
  case b_is_whole => exact (fun_mk (st := s_is_whole) e2_is_whole e3_is_whole e4_is_whole).binds fun _ _ _ _ _ _ us hl => match us, hl with | [_], _ => rfl
  case b_common_divisor => exact (fun_mk (st := s_common_divisor) e2_common_divisor e3_common_divisor e4_common_divisor).binds fun _ _ _ _ _ _ us hl => match us, hl with | [_, _], _ => rfl
  case b_ratio => exact (fun_mk (st := s_ratio) e2_ratio e3_ratio e4_ratio).binds fun _ _ _ _ _ _ us hl => match us, hl with | [_, _], _ => rfl
  case b_plus => exact (fun_mk (st := s_plus) e2_plus e3_plus e4_plus).binds fun _ _ _ _ _ _ us hl => match us, hl with | [_, _], _ => rfl
  case b_minus => exact (fun_mk (st := s_minus) e2_minus e3_minus e4_minus).binds fun _ _ _ _ _ _ us hl => match us, hl with | [_, _], _ => rfl
  case b_times => exact (fun_mk (st := s_times) e2_times e3_times e4_times).binds fun _ _ _ _ _ _ us hl => match us, hl with | [_, _], _ => rfl
  case b_over => exact (fun_mk (st := s_over) e2_over e3_over e4_over).binds fun _ _ _ _ _ _ us hl => match us, hl with | [_, _], _ => rfl
  case b__law_other => exact (fun_mk (st := s__law_other) e2__law_other e3__law_other e4__law_other).binds fun _ _ _ _ _ _ us hl => match us, hl with | [_], _ => rfl
  case b__law_over => exact (fun_mk (st := s__law_over) e2__law_over e3__law_over e4__law_over).binds fun _ _ _ _ _ _ us hl => match us, hl with | [_, _], _ => rfl
  case b__law_right => exact (fun_mk (st := s__law_right) e2__law_right e3__law_right e4__law_right).binds fun _ _ _ _ _ _ us hl => match us, hl with | [_, _], _ => rfl
  case b_law => exact (fun_mk (st := s_law) e2_law e3_law e4_law).binds fun _ _ _ _ _ _ us hl => match us, hl with | [_], _ => rfl
theorem txt_mk' {K : PySem.W.Frag} {h : Heap} {mg : Str → Option Value} (X : K.In h) (G : h.Ns mainGlobals mg) {k_CutError : Addr} {k_NoAdds : Addr} {k_NoCases : Addr} {k_NoChange : Addr} {k_NoDeed : Addr} {k_NoFlow : Addr} {k_NoJoin : Addr} {k_NoMix : Addr} {k_NoName : Addr} {k_NoNumber : Addr} {k_NoPurse : Addr} {k_NoRooms : Addr} {k_NoRow : Addr} {k_NoSide : Addr} {k_NoSpread : Addr} {k_NoTaking : Addr} {k_NoText : Addr} {k_NoTie : Addr} {k_NoTurn : Addr} {k_NoWay : Addr} {k_NoWeb : Addr} {k_TooMany : Addr} {k_Unbalanced : Addr} {a__law_draws : Addr} {a__law_divisor : Addr} {a__law_lowest : Addr} {a__law_drawn : Addr} {a__law_second : Addr} {a__law_whole : Addr} {a__law_made : Addr} {a_is_whole : Addr} {a_common_divisor : Addr} {a_ratio : Addr} {a_plus : Addr} {a_minus : Addr} {a_times : Addr} {a_over : Addr} {a__law_other : Addr} {a__law_over : Addr} {a__law_right : Addr} {a_law : Addr}
    {oc__law_draws kV__law_draws dc__law_draws pm__law_draws cd__law_draws ct__law_draws : Value} {od__law_draws an__law_draws : Option Addr} {sl__law_draws : Array (Option Value)}
    (e1__law_draws : PySem.W.nsIn K mainGlobals "_law_draws" = some (some (.ref a__law_draws))) (e2__law_draws : K.lookup a__law_draws = some ⟨oc__law_draws, od__law_draws, .func (PySem.W.fnOf "_law_draws" "_law_draws" (defArgs s__law_draws) (defBody s__law_draws) (defScope s__law_draws) .none kV__law_draws dc__law_draws pm__law_draws an__law_draws cd__law_draws ct__law_draws), sl__law_draws⟩) (e3__law_draws : PySem.W.codeIn K cd__law_draws "_law_draws" = true) (e4__law_draws : PySem.W.keepIn K (.ref a__law_draws) = true)
    {oc__law_divisor kV__law_divisor dc__law_divisor pm__law_divisor cd__law_divisor ct__law_divisor : Value} {od__law_divisor an__law_divisor : Option Addr} {sl__law_divisor : Array (Option Value)}
    (e1__law_divisor : PySem.W.nsIn K mainGlobals "_law_divisor" = some (some (.ref a__law_divisor))) (e2__law_divisor : K.lookup a__law_divisor = some ⟨oc__law_divisor, od__law_divisor, .func (PySem.W.fnOf "_law_divisor" "_law_divisor" (defArgs s__law_divisor) (defBody s__law_divisor) (defScope s__law_divisor) .none kV__law_divisor dc__law_divisor pm__law_divisor an__law_divisor cd__law_divisor ct__law_divisor), sl__law_divisor⟩) (e3__law_divisor : PySem.W.codeIn K cd__law_divisor "_law_divisor" = true) (e4__law_divisor : PySem.W.keepIn K (.ref a__law_divisor) = true)
    {oc__law_lowest kV__law_lowest dc__law_lowest pm__law_lowest cd__law_lowest ct__law_lowest : Value} {od__law_lowest an__law_lowest : Option Addr} {sl__law_lowest : Array (Option Value)}
    (e1__law_lowest : PySem.W.nsIn K mainGlobals "_law_lowest" = some (some (.ref a__law_lowest))) (e2__law_lowest : K.lookup a__law_lowest = some ⟨oc__law_lowest, od__law_lowest, .func (PySem.W.fnOf "_law_lowest" "_law_lowest" (defArgs s__law_lowest) (defBody s__law_lowest) (defScope s__law_lowest) .none kV__law_lowest dc__law_lowest pm__law_lowest an__law_lowest cd__law_lowest ct__law_lowest), sl__law_lowest⟩) (e3__law_lowest : PySem.W.codeIn K cd__law_lowest "_law_lowest" = true) (e4__law_lowest : PySem.W.keepIn K (.ref a__law_lowest) = true)
    {oc__law_drawn kV__law_drawn dc__law_drawn pm__law_drawn cd__law_drawn ct__law_drawn : Value} {od__law_drawn an__law_drawn : Option Addr} {sl__law_drawn : Array (Option Value)}
    (e1__law_drawn : PySem.W.nsIn K mainGlobals "_law_drawn" = some (some (.ref a__law_drawn))) (e2__law_drawn : K.lookup a__law_drawn = some ⟨oc__law_drawn, od__law_drawn, .func (PySem.W.fnOf "_law_drawn" "_law_drawn" (defArgs s__law_drawn) (defBody s__law_drawn) (defScope s__law_drawn) .none kV__law_drawn dc__law_drawn pm__law_drawn an__law_drawn cd__law_drawn ct__law_drawn), sl__law_drawn⟩) (e3__law_drawn : PySem.W.codeIn K cd__law_drawn "_law_drawn" = true) (e4__law_drawn : PySem.W.keepIn K (.ref a__law_drawn) = true)
    {oc__law_second kV__law_second dc__law_second pm__law_second cd__law_second ct__law_second : Value} {od__law_second an__law_second : Option Addr} {sl__law_second : Array (Option Value)}
    (e1__law_second : PySem.W.nsIn K mainGlobals "_law_second" = some (some (.ref a__law_second))) (e2__law_second : K.lookup a__law_second = some ⟨oc__law_second, od__law_second, .func (PySem.W.fnOf "_law_second" "_law_second" (defArgs s__law_second) (defBody s__law_second) (defScope s__law_second) .none kV__law_second dc__law_second pm__law_second an__law_second cd__law_second ct__law_second), sl__law_second⟩) (e3__law_second : PySem.W.codeIn K cd__law_second "_law_second" = true) (e4__law_second : PySem.W.keepIn K (.ref a__law_second) = true)
    {oc__law_whole kV__law_whole dc__law_whole pm__law_whole cd__law_whole ct__law_whole : Value} {od__law_whole an__law_whole : Option Addr} {sl__law_whole : Array (Option Value)}
    (e1__law_whole : PySem.W.nsIn K mainGlobals "_law_whole" = some (some (.ref a__law_whole))) (e2__law_whole : K.lookup a__law_whole = some ⟨oc__law_whole, od__law_whole, .func (PySem.W.fnOf "_law_whole" "_law_whole" (defArgs s__law_whole) (defBody s__law_whole) (defScope s__law_whole) .none kV__law_whole dc__law_whole pm__law_whole an__law_whole cd__law_whole ct__law_whole), sl__law_whole⟩) (e3__law_whole : PySem.W.codeIn K cd__law_whole "_law_whole" = true) (e4__law_whole : PySem.W.keepIn K (.ref a__law_whole) = true)
    {oc__law_made kV__law_made dc__law_made pm__law_made cd__law_made ct__law_made : Value} {od__law_made an__law_made : Option Addr} {sl__law_made : Array (Option Value)}
    (e1__law_made : PySem.W.nsIn K mainGlobals "_law_made" = some (some (.ref a__law_made))) (e2__law_made : K.lookup a__law_made = some ⟨oc__law_made, od__law_made, .func (PySem.W.fnOf "_law_made" "_law_made" (defArgs s__law_made) (defBody s__law_made) (defScope s__law_made) .none kV__law_made dc__law_made pm__law_made an__law_made cd__law_made ct__law_made), sl__law_made⟩) (e3__law_made : PySem.W.codeIn K cd__law_made "_law_made" = true) (e4__law_made : PySem.W.keepIn K (.ref a__law_made) = true)
    {oc_is_whole kV_is_whole dc_is_whole pm_is_whole cd_is_whole ct_is_whole : Value} {od_is_whole an_is_whole : Option Addr} {sl_is_whole : Array (Option Value)}
    (e1_is_whole : PySem.W.nsIn K mainGlobals "is_whole" = some (some (.ref a_is_whole))) (e2_is_whole : K.lookup a_is_whole = some ⟨oc_is_whole, od_is_whole, .func (PySem.W.fnOf "is_whole" "is_whole" (defArgs s_is_whole) (defBody s_is_whole) (defScope s_is_whole) .none kV_is_whole dc_is_whole pm_is_whole an_is_whole cd_is_whole ct_is_whole), sl_is_whole⟩) (e3_is_whole : PySem.W.codeIn K cd_is_whole "is_whole" = true) (e4_is_whole : PySem.W.keepIn K (.ref a_is_whole) = true)
    {oc_common_divisor kV_common_divisor dc_common_divisor pm_common_divisor cd_common_divisor ct_common_divisor : Value} {od_common_divisor an_common_divisor : Option Addr} {sl_common_divisor : Array (Option Value)}
    (e1_common_divisor : PySem.W.nsIn K mainGlobals "common_divisor" = some (some (.ref a_common_divisor))) (e2_common_divisor : K.lookup a_common_divisor = some ⟨oc_common_divisor, od_common_divisor, .func (PySem.W.fnOf "common_divisor" "common_divisor" (defArgs s_common_divisor) (defBody s_common_divisor) (defScope s_common_divisor) .none kV_common_divisor dc_common_divisor pm_common_divisor an_common_divisor cd_common_divisor ct_common_divisor), sl_common_divisor⟩) (e3_common_divisor : PySem.W.codeIn K cd_common_divisor "common_divisor" = true) (e4_common_divisor : PySem.W.keepIn K (.ref a_common_divisor) = true)
    {oc_ratio kV_ratio dc_ratio pm_ratio cd_ratio ct_ratio : Value} {od_ratio an_ratio : Option Addr} {sl_ratio : Array (Option Value)}
    (e1_ratio : PySem.W.nsIn K mainGlobals "ratio" = some (some (.ref a_ratio))) (e2_ratio : K.lookup a_ratio = some ⟨oc_ratio, od_ratio, .func (PySem.W.fnOf "ratio" "ratio" (defArgs s_ratio) (defBody s_ratio) (defScope s_ratio) .none kV_ratio dc_ratio pm_ratio an_ratio cd_ratio ct_ratio), sl_ratio⟩) (e3_ratio : PySem.W.codeIn K cd_ratio "ratio" = true) (e4_ratio : PySem.W.keepIn K (.ref a_ratio) = true)
    {oc_plus kV_plus dc_plus pm_plus cd_plus ct_plus : Value} {od_plus an_plus : Option Addr} {sl_plus : Array (Option Value)}
    (e1_plus : PySem.W.nsIn K mainGlobals "plus" = some (some (.ref a_plus))) (e2_plus : K.lookup a_plus = some ⟨oc_plus, od_plus, .func (PySem.W.fnOf "plus" "plus" (defArgs s_plus) (defBody s_plus) (defScope s_plus) .none kV_plus dc_plus pm_plus an_plus cd_plus ct_plus), sl_plus⟩) (e3_plus : PySem.W.codeIn K cd_plus "plus" = true) (e4_plus : PySem.W.keepIn K (.ref a_plus) = true)
    {oc_minus kV_minus dc_minus pm_minus cd_minus ct_minus : Value} {od_minus an_minus : Option Addr} {sl_minus : Array (Option Value)}
    (e1_minus : PySem.W.nsIn K mainGlobals "minus" = some (some (.ref a_minus))) (e2_minus : K.lookup a_minus = some ⟨oc_minus, od_minus, .func (PySem.W.fnOf "minus" "minus" (defArgs s_minus) (defBody s_minus) (defScope s_minus) .none kV_minus dc_minus pm_minus an_minus cd_minus ct_minus), sl_minus⟩) (e3_minus : PySem.W.codeIn K cd_minus "minus" = true) (e4_minus : PySem.W.keepIn K (.ref a_minus) = true)
    {oc_times kV_times dc_times pm_times cd_times ct_times : Value} {od_times an_times : Option Addr} {sl_times : Array (Option Value)}
    (e1_times : PySem.W.nsIn K mainGlobals "times" = some (some (.ref a_times))) (e2_times : K.lookup a_times = some ⟨oc_times, od_times, .func (PySem.W.fnOf "times" "times" (defArgs s_times) (defBody s_times) (defScope s_times) .none kV_times dc_times pm_times an_times cd_times ct_times), sl_times⟩) (e3_times : PySem.W.codeIn K cd_times "times" = true) (e4_times : PySem.W.keepIn K (.ref a_times) = true)
    {oc_over kV_over dc_over pm_over cd_over ct_over : Value} {od_over an_over : Option Addr} {sl_over : Array (Option Value)}
    (e1_over : PySem.W.nsIn K mainGlobals "over" = some (some (.ref a_over))) (e2_over : K.lookup a_over = some ⟨oc_over, od_over, .func (PySem.W.fnOf "over" "over" (defArgs s_over) (defBody s_over) (defScope s_over) .none kV_over dc_over pm_over an_over cd_over ct_over), sl_over⟩) (e3_over : PySem.W.codeIn K cd_over "over" = true) (e4_over : PySem.W.keepIn K (.ref a_over) = true)
    {oc__law_other kV__law_other dc__law_other pm__law_other cd__law_other ct__law_other : Value} {od__law_other an__law_other : Option Addr} {sl__law_other : Array (Option Value)}
    (e1__law_other : PySem.W.nsIn K mainGlobals "_law_other" = some (some (.ref a__law_other))) (e2__law_other : K.lookup a__law_other = some ⟨oc__law_other, od__law_other, .func (PySem.W.fnOf "_law_other" "_law_other" (defArgs s__law_other) (defBody s__law_other) (defScope s__law_other) .none kV__law_other dc__law_other pm__law_other an__law_other cd__law_other ct__law_other), sl__law_other⟩) (e3__law_other : PySem.W.codeIn K cd__law_other "_law_other" = true) (e4__law_other : PySem.W.keepIn K (.ref a__law_other) = true)
    {oc__law_over kV__law_over dc__law_over pm__law_over cd__law_over ct__law_over : Value} {od__law_over an__law_over : Option Addr} {sl__law_over : Array (Option Value)}
    (e1__law_over : PySem.W.nsIn K mainGlobals "_law_over" = some (some (.ref a__law_over))) (e2__law_over : K.lookup a__law_over = some ⟨oc__law_over, od__law_over, .func (PySem.W.fnOf "_law_over" "_law_over" (defArgs s__law_over) (defBody s__law_over) (defScope s__law_over) .none kV__law_over dc__law_over pm__law_over an__law_over cd__law_over ct__law_over), sl__law_over⟩) (e3__law_over : PySem.W.codeIn K cd__law_over "_law_over" = true) (e4__law_over : PySem.W.keepIn K (.ref a__law_over) = true)
    {oc__law_right kV__law_right dc__law_right pm__law_right cd__law_right ct__law_right : Value} {od__law_right an__law_right : Option Addr} {sl__law_right : Array (Option Value)}
    (e1__law_right : PySem.W.nsIn K mainGlobals "_law_right" = some (some (.ref a__law_right))) (e2__law_right : K.lookup a__law_right = some ⟨oc__law_right, od__law_right, .func (PySem.W.fnOf "_law_right" "_law_right" (defArgs s__law_right) (defBody s__law_right) (defScope s__law_right) .none kV__law_right dc__law_right pm__law_right an__law_right cd__law_right ct__law_right), sl__law_right⟩) (e3__law_right : PySem.W.codeIn K cd__law_right "_law_right" = true) (e4__law_right : PySem.W.keepIn K (.ref a__law_right) = true)
    {oc_law kV_law dc_law pm_law cd_law ct_law : Value} {od_law an_law : Option Addr} {sl_law : Array (Option Value)}
    (e1_law : PySem.W.nsIn K mainGlobals "law" = some (some (.ref a_law))) (e2_law : K.lookup a_law = some ⟨oc_law, od_law, .func (PySem.W.fnOf "law" "law" (defArgs s_law) (defBody s_law) (defScope s_law) .none kV_law dc_law pm_law an_law cd_law ct_law), sl_law⟩) (e3_law : PySem.W.codeIn K cd_law "law" = true) (e4_law : PySem.W.keepIn K (.ref a_law) = true)
    (z_ValueError : PySem.W.nsIn K mainGlobals "ValueError" = some none)
    (z_abs : PySem.W.nsIn K mainGlobals "abs" = some none)
    (z_bool : PySem.W.nsIn K mainGlobals "bool" = some none)
    (z_int : PySem.W.nsIn K mainGlobals "int" = some none)
    (z_isinstance : PySem.W.nsIn K mainGlobals "isinstance" = some none)
    (z_len : PySem.W.nsIn K mainGlobals "len" = some none)
    (z_max : PySem.W.nsIn K mainGlobals "max" = some none)
    (z_range : PySem.W.nsIn K mainGlobals "range" = some none)
    (z_tuple : PySem.W.nsIn K mainGlobals "tuple" = some none)
    (kns_CutError : PySem.W.nsIn K mainGlobals "CutError" = some (some (.ref k_CutError))) (kty_CutError : PySem.W.typeIn K (.ref k_CutError) = some (.type "type")) (kob_CutError : PySem.W.mroIn K k_CutError (.type "object") = some true) (kbe_CutError : PySem.W.subIn K (.ref k_CutError) (.type "BaseException") = some true)
    (kns_NoAdds : PySem.W.nsIn K mainGlobals "NoAdds" = some (some (.ref k_NoAdds))) (kty_NoAdds : PySem.W.typeIn K (.ref k_NoAdds) = some (.type "type")) (kob_NoAdds : PySem.W.mroIn K k_NoAdds (.type "object") = some true) (kbe_NoAdds : PySem.W.subIn K (.ref k_NoAdds) (.type "BaseException") = some true)
    (kns_NoCases : PySem.W.nsIn K mainGlobals "NoCases" = some (some (.ref k_NoCases))) (kty_NoCases : PySem.W.typeIn K (.ref k_NoCases) = some (.type "type")) (kob_NoCases : PySem.W.mroIn K k_NoCases (.type "object") = some true) (kbe_NoCases : PySem.W.subIn K (.ref k_NoCases) (.type "BaseException") = some true)
    (kns_NoChange : PySem.W.nsIn K mainGlobals "NoChange" = some (some (.ref k_NoChange))) (kty_NoChange : PySem.W.typeIn K (.ref k_NoChange) = some (.type "type")) (kob_NoChange : PySem.W.mroIn K k_NoChange (.type "object") = some true) (kbe_NoChange : PySem.W.subIn K (.ref k_NoChange) (.type "BaseException") = some true)
    (kns_NoDeed : PySem.W.nsIn K mainGlobals "NoDeed" = some (some (.ref k_NoDeed))) (kty_NoDeed : PySem.W.typeIn K (.ref k_NoDeed) = some (.type "type")) (kob_NoDeed : PySem.W.mroIn K k_NoDeed (.type "object") = some true) (kbe_NoDeed : PySem.W.subIn K (.ref k_NoDeed) (.type "BaseException") = some true)
    (kns_NoFlow : PySem.W.nsIn K mainGlobals "NoFlow" = some (some (.ref k_NoFlow))) (kty_NoFlow : PySem.W.typeIn K (.ref k_NoFlow) = some (.type "type")) (kob_NoFlow : PySem.W.mroIn K k_NoFlow (.type "object") = some true) (kbe_NoFlow : PySem.W.subIn K (.ref k_NoFlow) (.type "BaseException") = some true)
    (kns_NoJoin : PySem.W.nsIn K mainGlobals "NoJoin" = some (some (.ref k_NoJoin))) (kty_NoJoin : PySem.W.typeIn K (.ref k_NoJoin) = some (.type "type")) (kob_NoJoin : PySem.W.mroIn K k_NoJoin (.type "object") = some true) (kbe_NoJoin : PySem.W.subIn K (.ref k_NoJoin) (.type "BaseException") = some true)
    (kns_NoMix : PySem.W.nsIn K mainGlobals "NoMix" = some (some (.ref k_NoMix))) (kty_NoMix : PySem.W.typeIn K (.ref k_NoMix) = some (.type "type")) (kob_NoMix : PySem.W.mroIn K k_NoMix (.type "object") = some true) (kbe_NoMix : PySem.W.subIn K (.ref k_NoMix) (.type "BaseException") = some true)
    (kns_NoName : PySem.W.nsIn K mainGlobals "NoName" = some (some (.ref k_NoName))) (kty_NoName : PySem.W.typeIn K (.ref k_NoName) = some (.type "type")) (kob_NoName : PySem.W.mroIn K k_NoName (.type "object") = some true) (kbe_NoName : PySem.W.subIn K (.ref k_NoName) (.type "BaseException") = some true)
    (kns_NoNumber : PySem.W.nsIn K mainGlobals "NoNumber" = some (some (.ref k_NoNumber))) (kty_NoNumber : PySem.W.typeIn K (.ref k_NoNumber) = some (.type "type")) (kob_NoNumber : PySem.W.mroIn K k_NoNumber (.type "object") = some true) (kbe_NoNumber : PySem.W.subIn K (.ref k_NoNumber) (.type "BaseException") = some true)
    (kns_NoPurse : PySem.W.nsIn K mainGlobals "NoPurse" = some (some (.ref k_NoPurse))) (kty_NoPurse : PySem.W.typeIn K (.ref k_NoPurse) = some (.type "type")) (kob_NoPurse : PySem.W.mroIn K k_NoPurse (.type "object") = some true) (kbe_NoPurse : PySem.W.subIn K (.ref k_NoPurse) (.type "BaseException") = some true)
    (kns_NoRooms : PySem.W.nsIn K mainGlobals "NoRooms" = some (some (.ref k_NoRooms))) (kty_NoRooms : PySem.W.typeIn K (.ref k_NoRooms) = some (.type "type")) (kob_NoRooms : PySem.W.mroIn K k_NoRooms (.type "object") = some true) (kbe_NoRooms : PySem.W.subIn K (.ref k_NoRooms) (.type "BaseException") = some true)
    (kns_NoRow : PySem.W.nsIn K mainGlobals "NoRow" = some (some (.ref k_NoRow))) (kty_NoRow : PySem.W.typeIn K (.ref k_NoRow) = some (.type "type")) (kob_NoRow : PySem.W.mroIn K k_NoRow (.type "object") = some true) (kbe_NoRow : PySem.W.subIn K (.ref k_NoRow) (.type "BaseException") = some true)
    (kns_NoSide : PySem.W.nsIn K mainGlobals "NoSide" = some (some (.ref k_NoSide))) (kty_NoSide : PySem.W.typeIn K (.ref k_NoSide) = some (.type "type")) (kob_NoSide : PySem.W.mroIn K k_NoSide (.type "object") = some true) (kbe_NoSide : PySem.W.subIn K (.ref k_NoSide) (.type "BaseException") = some true)
    (kns_NoSpread : PySem.W.nsIn K mainGlobals "NoSpread" = some (some (.ref k_NoSpread))) (kty_NoSpread : PySem.W.typeIn K (.ref k_NoSpread) = some (.type "type")) (kob_NoSpread : PySem.W.mroIn K k_NoSpread (.type "object") = some true) (kbe_NoSpread : PySem.W.subIn K (.ref k_NoSpread) (.type "BaseException") = some true)
    (kns_NoTaking : PySem.W.nsIn K mainGlobals "NoTaking" = some (some (.ref k_NoTaking))) (kty_NoTaking : PySem.W.typeIn K (.ref k_NoTaking) = some (.type "type")) (kob_NoTaking : PySem.W.mroIn K k_NoTaking (.type "object") = some true) (kbe_NoTaking : PySem.W.subIn K (.ref k_NoTaking) (.type "BaseException") = some true)
    (kns_NoText : PySem.W.nsIn K mainGlobals "NoText" = some (some (.ref k_NoText))) (kty_NoText : PySem.W.typeIn K (.ref k_NoText) = some (.type "type")) (kob_NoText : PySem.W.mroIn K k_NoText (.type "object") = some true) (kbe_NoText : PySem.W.subIn K (.ref k_NoText) (.type "BaseException") = some true)
    (kns_NoTie : PySem.W.nsIn K mainGlobals "NoTie" = some (some (.ref k_NoTie))) (kty_NoTie : PySem.W.typeIn K (.ref k_NoTie) = some (.type "type")) (kob_NoTie : PySem.W.mroIn K k_NoTie (.type "object") = some true) (kbe_NoTie : PySem.W.subIn K (.ref k_NoTie) (.type "BaseException") = some true)
    (kns_NoTurn : PySem.W.nsIn K mainGlobals "NoTurn" = some (some (.ref k_NoTurn))) (kty_NoTurn : PySem.W.typeIn K (.ref k_NoTurn) = some (.type "type")) (kob_NoTurn : PySem.W.mroIn K k_NoTurn (.type "object") = some true) (kbe_NoTurn : PySem.W.subIn K (.ref k_NoTurn) (.type "BaseException") = some true)
    (kns_NoWay : PySem.W.nsIn K mainGlobals "NoWay" = some (some (.ref k_NoWay))) (kty_NoWay : PySem.W.typeIn K (.ref k_NoWay) = some (.type "type")) (kob_NoWay : PySem.W.mroIn K k_NoWay (.type "object") = some true) (kbe_NoWay : PySem.W.subIn K (.ref k_NoWay) (.type "BaseException") = some true)
    (kns_NoWeb : PySem.W.nsIn K mainGlobals "NoWeb" = some (some (.ref k_NoWeb))) (kty_NoWeb : PySem.W.typeIn K (.ref k_NoWeb) = some (.type "type")) (kob_NoWeb : PySem.W.mroIn K k_NoWeb (.type "object") = some true) (kbe_NoWeb : PySem.W.subIn K (.ref k_NoWeb) (.type "BaseException") = some true)
    (kns_TooMany : PySem.W.nsIn K mainGlobals "TooMany" = some (some (.ref k_TooMany))) (kty_TooMany : PySem.W.typeIn K (.ref k_TooMany) = some (.type "type")) (kob_TooMany : PySem.W.mroIn K k_TooMany (.type "object") = some true) (kbe_TooMany : PySem.W.subIn K (.ref k_TooMany) (.type "BaseException") = some true)
    (kns_Unbalanced : PySem.W.nsIn K mainGlobals "Unbalanced" = some (some (.ref k_Unbalanced))) (kty_Unbalanced : PySem.W.typeIn K (.ref k_Unbalanced) = some (.type "type")) (kob_Unbalanced : PySem.W.mroIn K k_Unbalanced (.type "object") = some true) (kbe_Unbalanced : PySem.W.subIn K (.ref k_Unbalanced) (.type "BaseException") = some true)
    (xcls_NoNumber : PySem.W.findIn K (.ref k_NoNumber) "__class__" = some (some (.builtin "object.__class__"))) (xga_NoNumber : PySem.W.findIn K (.ref k_NoNumber) "__getattribute__" = some (some (.builtin "BaseException.__getattribute__"))) (xgt_NoNumber : PySem.W.findIn K (.ref k_NoNumber) "__getattr__" = some none) (xt1_NoNumber : PySem.W.subIn K (.ref k_NoNumber) (.type "NoneType") = some false) (xt2_NoNumber : PySem.W.subIn K (.ref k_NoNumber) (.type "bool") = some false) (xt3_NoNumber : PySem.W.subIn K (.ref k_NoNumber) (.type "int") = some false) (xt4_NoNumber : PySem.W.subIn K (.ref k_NoNumber) (.type "str") = some false) (xt5_NoNumber : PySem.W.subIn K (.ref k_NoNumber) (.type "tuple") = some false) (xt6_NoNumber : PySem.W.subIn K (.ref k_NoNumber) (.type "list") = some false) (xt7_NoNumber : PySem.W.subIn K (.ref k_NoNumber) (.type "dict") = some false) (xve_NoNumber : PySem.W.subIn K (.ref k_NoNumber) (.type "ValueError") = some true) (xself_NoNumber : PySem.W.subIn K (.ref k_NoNumber) (.ref k_NoNumber) = some true) (xex_NoNumber : PySem.W.excIn K k_NoNumber [.type "ValueError", .type "Exception", .type "BaseException", .type "object"] "ValueError.__new__" = true)
    (p_NoNumber_CutError : PySem.W.subIn K (.ref k_NoNumber) (.ref k_CutError) = some true)
    (p_NoNumber_NoAdds : PySem.W.subIn K (.ref k_NoNumber) (.ref k_NoAdds) = some false)
    (p_NoNumber_NoCases : PySem.W.subIn K (.ref k_NoNumber) (.ref k_NoCases) = some false)
    (p_NoNumber_NoChange : PySem.W.subIn K (.ref k_NoNumber) (.ref k_NoChange) = some false)
    (p_NoNumber_NoDeed : PySem.W.subIn K (.ref k_NoNumber) (.ref k_NoDeed) = some false)
    (p_NoNumber_NoFlow : PySem.W.subIn K (.ref k_NoNumber) (.ref k_NoFlow) = some false)
    (p_NoNumber_NoJoin : PySem.W.subIn K (.ref k_NoNumber) (.ref k_NoJoin) = some false)
    (p_NoNumber_NoMix : PySem.W.subIn K (.ref k_NoNumber) (.ref k_NoMix) = some false)
    (p_NoNumber_NoName : PySem.W.subIn K (.ref k_NoNumber) (.ref k_NoName) = some false)
    (p_NoNumber_NoNumber : PySem.W.subIn K (.ref k_NoNumber) (.ref k_NoNumber) = some true)
    (p_NoNumber_NoPurse : PySem.W.subIn K (.ref k_NoNumber) (.ref k_NoPurse) = some false)
    (p_NoNumber_NoRooms : PySem.W.subIn K (.ref k_NoNumber) (.ref k_NoRooms) = some false)
    (p_NoNumber_NoRow : PySem.W.subIn K (.ref k_NoNumber) (.ref k_NoRow) = some false)
    (p_NoNumber_NoSide : PySem.W.subIn K (.ref k_NoNumber) (.ref k_NoSide) = some false)
    (p_NoNumber_NoSpread : PySem.W.subIn K (.ref k_NoNumber) (.ref k_NoSpread) = some false)
    (p_NoNumber_NoTaking : PySem.W.subIn K (.ref k_NoNumber) (.ref k_NoTaking) = some false)
    (p_NoNumber_NoText : PySem.W.subIn K (.ref k_NoNumber) (.ref k_NoText) = some false)
    (p_NoNumber_NoTie : PySem.W.subIn K (.ref k_NoNumber) (.ref k_NoTie) = some false)
    (p_NoNumber_NoTurn : PySem.W.subIn K (.ref k_NoNumber) (.ref k_NoTurn) = some false)
    (p_NoNumber_NoWay : PySem.W.subIn K (.ref k_NoNumber) (.ref k_NoWay) = some false)
    (p_NoNumber_NoWeb : PySem.W.subIn K (.ref k_NoNumber) (.ref k_NoWeb) = some false)
    (p_NoNumber_TooMany : PySem.W.subIn K (.ref k_NoNumber) (.ref k_TooMany) = some false)
    (p_NoNumber_Unbalanced : PySem.W.subIn K (.ref k_NoNumber) (.ref k_Unbalanced) = some false) :
    ∃ t : Adr, Txt K mg t ∧ mg "law" = some (.ref t.a_law) ∧ ∃ kV doc pm an cdv ct, t.d_law = PySem.W.fnOf "law" "law" (defArgs s_law) (defBody s_law) (defScope s_law) .none kV doc pm an cdv ct := by
  obtain ⟨t, T, e, r⟩ := txt_mk X G e1__law_draws e2__law_draws e3__law_draws e4__law_draws e1__law_divisor e2__law_divisor e3__law_divisor e4__law_divisor e1__law_lowest e2__law_lowest e3__law_lowest e4__law_lowest e1__law_drawn e2__law_drawn e3__law_drawn e4__law_drawn e1__law_second e2__law_second e3__law_second e4__law_second e1__law_whole e2__law_whole e3__law_whole e4__law_whole e1__law_made e2__law_made e3__law_made e4__law_made e1_is_whole e2_is_whole e3_is_whole e4_is_whole e1_common_divisor e2_common_divisor e3_common_divisor e4_common_divisor e1_ratio e2_ratio e3_ratio e4_ratio e1_plus e2_plus e3_plus e4_plus e1_minus e2_minus e3_minus e4_minus e1_times e2_times e3_times e4_times e1_over e2_over e3_over e4_over e1__law_other e2__law_other e3__law_other e4__law_other e1__law_over e2__law_over e3__law_over e4__law_over e1__law_right e2__law_right e3__law_right e4__law_right e1_law e2_law e3_law e4_law z_ValueError z_abs z_bool z_int z_isinstance z_len z_max z_range z_tuple kns_CutError kty_CutError kob_CutError kbe_CutError kns_NoAdds kty_NoAdds kob_NoAdds kbe_NoAdds kns_NoCases kty_NoCases kob_NoCases kbe_NoCases kns_NoChange kty_NoChange kob_NoChange kbe_NoChange kns_NoDeed kty_NoDeed kob_NoDeed kbe_NoDeed kns_NoFlow kty_NoFlow kob_NoFlow kbe_NoFlow kns_NoJoin kty_NoJoin kob_NoJoin kbe_NoJoin kns_NoMix kty_NoMix kob_NoMix kbe_NoMix kns_NoName kty_NoName kob_NoName kbe_NoName kns_NoNumber kty_NoNumber kob_NoNumber kbe_NoNumber kns_NoPurse kty_NoPurse kob_NoPurse kbe_NoPurse kns_NoRooms kty_NoRooms kob_NoRooms kbe_NoRooms kns_NoRow kty_NoRow kob_NoRow kbe_NoRow kns_NoSide kty_NoSide kob_NoSide kbe_NoSide kns_NoSpread kty_NoSpread kob_NoSpread kbe_NoSpread kns_NoTaking kty_NoTaking kob_NoTaking kbe_NoTaking kns_NoText kty_NoText kob_NoText kbe_NoText kns_NoTie kty_NoTie kob_NoTie kbe_NoTie kns_NoTurn kty_NoTurn kob_NoTurn kbe_NoTurn kns_NoWay kty_NoWay kob_NoWay kbe_NoWay kns_NoWeb kty_NoWeb kob_NoWeb kbe_NoWeb kns_TooMany kty_TooMany kob_TooMany kbe_TooMany kns_Unbalanced kty_Unbalanced kob_Unbalanced kbe_Unbalanced xcls_NoNumber xga_NoNumber xgt_NoNumber xt1_NoNumber xt2_NoNumber xt3_NoNumber xt4_NoNumber xt5_NoNumber xt6_NoNumber xt7_NoNumber xve_NoNumber xself_NoNumber xex_NoNumber p_NoNumber_CutError p_NoNumber_NoAdds p_NoNumber_NoCases p_NoNumber_NoChange p_NoNumber_NoDeed p_NoNumber_NoFlow p_NoNumber_NoJoin p_NoNumber_NoMix p_NoNumber_NoName p_NoNumber_NoNumber p_NoNumber_NoPurse p_NoNumber_NoRooms p_NoNumber_NoRow p_NoNumber_NoSide p_NoNumber_NoSpread p_NoNumber_NoTaking p_NoNumber_NoText p_NoNumber_NoTie p_NoNumber_NoTurn p_NoNumber_NoWay p_NoNumber_NoWeb p_NoNumber_TooMany p_NoNumber_Unbalanced
  exact ⟨t, T, T.g_law, r⟩
end K02
namespace K02
open PySem L2 DL
theorem sp_law (K : PySem.W.Frag) (H : Hp) (a : Addr) (ns : List Int) (hl : ns.length ≤ 63) (hS : SqL K H a (ns.map V.int)) : spD K 1 m_law [.ref a] H (fun v _ => v = .bl true) fun _ _ _ => False := by
  refine ⟨rfl, H, [.lst (ns.map D.int)], Same.refl _, Reps.cons (Rep.lst_iff.mpr ⟨a, _, rfl, hS, Reps.ints ns⟩) Reps.nil, ?_⟩
  rw [law_true ns hl]
  exact fun v H' H₀' _ r => Rep.bl_iff.mp r
end K02
def PySem.W.Fast.tw7580553557501242337 : Nat := 0
def PySem.W.Fast.tw3338466714193807074 : Nat := 0
def PySem.W.Fast.tw409119953798841507 : Nat := 0
def PySem.W.Fast.tw13848617327178648196 : Nat := 0
def PySem.W.Fast.tw16135157359362472774 : Nat := 0
def PySem.W.Fast.tw6091902461326222375 : Nat := 0
def PySem.W.Fast.tw7264605306534549768 : Nat := 0
def PySem.W.Fast.tw5919369445451524488 : Nat := 0
def PySem.W.Fast.tw2733579661936855945 : Nat := 0
def PySem.W.Fast.tw11080998613493744779 : Nat := 0
def PySem.W.Fast.tw3382083771622009067 : Nat := 0
def PySem.W.Fast.tw14167873931650525006 : Nat := 0
def PySem.W.Fast.tw10422322362724938223 : Nat := 0
def PySem.W.Fast.tw4758281712201318193 : Nat := 0
def PySem.W.Fast.tw15489147102972502034 : Nat := 0
def PySem.W.Fast.tw16998648909863083923 : Nat := 0
def PySem.W.Fast.tw7582725683637019956 : Nat := 0
def PySem.W.Fast.tw2622750185477945430 : Nat := 0
def PySem.W.Fast.tw7127408989049815606 : Nat := 0
def PySem.W.Fast.tw9352727036041557176 : Nat := 0
def PySem.W.Fast.tw9310489046130676825 : Nat := 0
def PySem.W.Fast.tw9814259010174351705 : Nat := 0
def PySem.W.Fast.tw5410420870860767611 : Nat := 0
def PySem.W.Fast.tw17473613205616606683 : Nat := 0
def PySem.W.Fast.tw13755322161439240861 : Nat := 0
def PySem.W.Fast.tw3110240553900504191 : Nat := 0
open PySem PySem.W PyProof.Rows
set_option maxRecDepth 100000 in
set_option maxHeartbeats 0 in
theorem PySem.Challenge.cw_farthestcut_k02_sums_of_fractions_holds : PySem.Challenge.rw_farthestcut_k02_sums_of_fractions.Holds := by
  w_on; o_law; k_head; (case hw => w_witness2)
  k_fill
  refine L2.walk_ofK (l := PySem.Challenge.rw_farthestcut_k02_sums_of_fractions) (n := 63) (k := 6) (x := "_law_script") (CX := L2.CX0) (sp := fun K => DL.spD K 1 K02.m_law) rfl (by decide) rfl ⟨rfl, by decide, by decide⟩ (fun w h Y => PySem.W.kIn_of Y) ?F ?S ?C
  case S => exact fun K H a ns hl _ hS => K02.sp_law K H a ns hl hS
  case C => exact fun _ _ _ _ h => h
  case F =>
    intro w mg fa h KX G hmg
    have T : ∃ t : K02.Adr, K02.Txt (L2.KOf KX) mg t ∧ mg "law" = some (.ref t.a_law) ∧ ∃ kV doc pm an cdv ct, t.d_law = PySem.W.fnOf "law" "law" (L2.defArgs K02.s_law) (L2.defBody K02.s_law) (L2.defScope K02.s_law) .none kV doc pm an cdv ct := by
      dsimp only [L2.KOf]
      refine' K02.txt_mk' KX G ?e1__law_draws ?e2__law_draws ?e3__law_draws ?e4__law_draws ?e1__law_divisor ?e2__law_divisor ?e3__law_divisor ?e4__law_divisor ?e1__law_lowest ?e2__law_lowest ?e3__law_lowest ?e4__law_lowest ?e1__law_drawn ?e2__law_drawn ?e3__law_drawn ?e4__law_drawn ?e1__law_second ?e2__law_second ?e3__law_second ?e4__law_second ?e1__law_whole ?e2__law_whole ?e3__law_whole ?e4__law_whole ?e1__law_made ?e2__law_made ?e3__law_made ?e4__law_made ?e1_is_whole ?e2_is_whole ?e3_is_whole ?e4_is_whole ?e1_common_divisor ?e2_common_divisor ?e3_common_divisor ?e4_common_divisor ?e1_ratio ?e2_ratio ?e3_ratio ?e4_ratio ?e1_plus ?e2_plus ?e3_plus ?e4_plus ?e1_minus ?e2_minus ?e3_minus ?e4_minus ?e1_times ?e2_times ?e3_times ?e4_times ?e1_over ?e2_over ?e3_over ?e4_over ?e1__law_other ?e2__law_other ?e3__law_other ?e4__law_other ?e1__law_over ?e2__law_over ?e3__law_over ?e4__law_over ?e1__law_right ?e2__law_right ?e3__law_right ?e4__law_right ?e1_law ?e2_law ?e3_law ?e4_law ?z_ValueError ?z_abs ?z_bool ?z_int ?z_isinstance ?z_len ?z_max ?z_range ?z_tuple ?kns_CutError ?kty_CutError ?kob_CutError ?kbe_CutError ?kns_NoAdds ?kty_NoAdds ?kob_NoAdds ?kbe_NoAdds ?kns_NoCases ?kty_NoCases ?kob_NoCases ?kbe_NoCases ?kns_NoChange ?kty_NoChange ?kob_NoChange ?kbe_NoChange ?kns_NoDeed ?kty_NoDeed ?kob_NoDeed ?kbe_NoDeed ?kns_NoFlow ?kty_NoFlow ?kob_NoFlow ?kbe_NoFlow ?kns_NoJoin ?kty_NoJoin ?kob_NoJoin ?kbe_NoJoin ?kns_NoMix ?kty_NoMix ?kob_NoMix ?kbe_NoMix ?kns_NoName ?kty_NoName ?kob_NoName ?kbe_NoName ?kns_NoNumber ?kty_NoNumber ?kob_NoNumber ?kbe_NoNumber ?kns_NoPurse ?kty_NoPurse ?kob_NoPurse ?kbe_NoPurse ?kns_NoRooms ?kty_NoRooms ?kob_NoRooms ?kbe_NoRooms ?kns_NoRow ?kty_NoRow ?kob_NoRow ?kbe_NoRow ?kns_NoSide ?kty_NoSide ?kob_NoSide ?kbe_NoSide ?kns_NoSpread ?kty_NoSpread ?kob_NoSpread ?kbe_NoSpread ?kns_NoTaking ?kty_NoTaking ?kob_NoTaking ?kbe_NoTaking ?kns_NoText ?kty_NoText ?kob_NoText ?kbe_NoText ?kns_NoTie ?kty_NoTie ?kob_NoTie ?kbe_NoTie ?kns_NoTurn ?kty_NoTurn ?kob_NoTurn ?kbe_NoTurn ?kns_NoWay ?kty_NoWay ?kob_NoWay ?kbe_NoWay ?kns_NoWeb ?kty_NoWeb ?kob_NoWeb ?kbe_NoWeb ?kns_TooMany ?kty_TooMany ?kob_TooMany ?kbe_TooMany ?kns_Unbalanced ?kty_Unbalanced ?kob_Unbalanced ?kbe_Unbalanced ?xcls_NoNumber ?xga_NoNumber ?xgt_NoNumber ?xt1_NoNumber ?xt2_NoNumber ?xt3_NoNumber ?xt4_NoNumber ?xt5_NoNumber ?xt6_NoNumber ?xt7_NoNumber ?xve_NoNumber ?xself_NoNumber ?xex_NoNumber ?p_NoNumber_CutError ?p_NoNumber_NoAdds ?p_NoNumber_NoCases ?p_NoNumber_NoChange ?p_NoNumber_NoDeed ?p_NoNumber_NoFlow ?p_NoNumber_NoJoin ?p_NoNumber_NoMix ?p_NoNumber_NoName ?p_NoNumber_NoNumber ?p_NoNumber_NoPurse ?p_NoNumber_NoRooms ?p_NoNumber_NoRow ?p_NoNumber_NoSide ?p_NoNumber_NoSpread ?p_NoNumber_NoTaking ?p_NoNumber_NoText ?p_NoNumber_NoTie ?p_NoNumber_NoTurn ?p_NoNumber_NoWay ?p_NoNumber_NoWeb ?p_NoNumber_TooMany ?p_NoNumber_Unbalanced
      (case e1__law_draws => k_is)
      (case e2__law_draws => k_is)
      (case e3__law_draws => k_is)
      (case e4__law_draws => k_is)
      (case e1__law_divisor => k_is)
      (case e2__law_divisor => k_is)
      (case e3__law_divisor => k_is)
      (case e4__law_divisor => k_is)
      (case e1__law_lowest => k_is)
      (case e2__law_lowest => k_is)
      (case e3__law_lowest => k_is)
      (case e4__law_lowest => k_is)
      (case e1__law_drawn => k_is)
      (case e2__law_drawn => k_is)
      (case e3__law_drawn => k_is)
      (case e4__law_drawn => k_is)
      (case e1__law_second => k_is)
      (case e2__law_second => k_is)
      (case e3__law_second => k_is)
      (case e4__law_second => k_is)
      (case e1__law_whole => k_is)
      (case e2__law_whole => k_is)
      (case e3__law_whole => k_is)
      (case e4__law_whole => k_is)
      (case e1__law_made => k_is)
      (case e2__law_made => k_is)
      (case e3__law_made => k_is)
      (case e4__law_made => k_is)
      (case e1_is_whole => k_is)
      (case e2_is_whole => k_is)
      (case e3_is_whole => k_is)
      (case e4_is_whole => k_is)
      (case e1_common_divisor => k_is)
      (case e2_common_divisor => k_is)
      (case e3_common_divisor => k_is)
      (case e4_common_divisor => k_is)
      (case e1_ratio => k_is)
      (case e2_ratio => k_is)
      (case e3_ratio => k_is)
      (case e4_ratio => k_is)
      (case e1_plus => k_is)
      (case e2_plus => k_is)
      (case e3_plus => k_is)
      (case e4_plus => k_is)
      (case e1_minus => k_is)
      (case e2_minus => k_is)
      (case e3_minus => k_is)
      (case e4_minus => k_is)
      (case e1_times => k_is)
      (case e2_times => k_is)
      (case e3_times => k_is)
      (case e4_times => k_is)
      (case e1_over => k_is)
      (case e2_over => k_is)
      (case e3_over => k_is)
      (case e4_over => k_is)
      (case e1__law_other => k_is)
      (case e2__law_other => k_is)
      (case e3__law_other => k_is)
      (case e4__law_other => k_is)
      (case e1__law_over => k_is)
      (case e2__law_over => k_is)
      (case e3__law_over => k_is)
      (case e4__law_over => k_is)
      (case e1__law_right => k_is)
      (case e2__law_right => k_is)
      (case e3__law_right => k_is)
      (case e4__law_right => k_is)
      (case e1_law => k_is)
      (case e2_law => k_is)
      (case e3_law => k_is)
      (case e4_law => k_is)
      (case z_ValueError => k_is)
      (case z_abs => k_is)
      (case z_bool => k_is)
      (case z_int => k_is)
      (case z_isinstance => k_is)
      (case z_len => k_is)
      (case z_max => k_is)
      (case z_range => k_is)
      (case z_tuple => k_is)
      (case kns_CutError => k_is)
      (case kty_CutError => k_is)
      (case kob_CutError => k_is)
      (case kbe_CutError => k_is)
      (case kns_NoAdds => k_is)
      (case kty_NoAdds => k_is)
      (case kob_NoAdds => k_is)
      (case kbe_NoAdds => k_is)
      (case kns_NoCases => k_is)
      (case kty_NoCases => k_is)
      (case kob_NoCases => k_is)
      (case kbe_NoCases => k_is)
      (case kns_NoChange => k_is)
      (case kty_NoChange => k_is)
      (case kob_NoChange => k_is)
      (case kbe_NoChange => k_is)
      (case kns_NoDeed => k_is)
      (case kty_NoDeed => k_is)
      (case kob_NoDeed => k_is)
      (case kbe_NoDeed => k_is)
      (case kns_NoFlow => k_is)
      (case kty_NoFlow => k_is)
      (case kob_NoFlow => k_is)
      (case kbe_NoFlow => k_is)
      (case kns_NoJoin => k_is)
      (case kty_NoJoin => k_is)
      (case kob_NoJoin => k_is)
      (case kbe_NoJoin => k_is)
      (case kns_NoMix => k_is)
      (case kty_NoMix => k_is)
      (case kob_NoMix => k_is)
      (case kbe_NoMix => k_is)
      (case kns_NoName => k_is)
      (case kty_NoName => k_is)
      (case kob_NoName => k_is)
      (case kbe_NoName => k_is)
      (case kns_NoNumber => k_is)
      (case kty_NoNumber => k_is)
      (case kob_NoNumber => k_is)
      (case kbe_NoNumber => k_is)
      (case kns_NoPurse => k_is)
      (case kty_NoPurse => k_is)
      (case kob_NoPurse => k_is)
      (case kbe_NoPurse => k_is)
      (case kns_NoRooms => k_is)
      (case kty_NoRooms => k_is)
      (case kob_NoRooms => k_is)
      (case kbe_NoRooms => k_is)
      (case kns_NoRow => k_is)
      (case kty_NoRow => k_is)
      (case kob_NoRow => k_is)
      (case kbe_NoRow => k_is)
      (case kns_NoSide => k_is)
      (case kty_NoSide => k_is)
      (case kob_NoSide => k_is)
      (case kbe_NoSide => k_is)
      (case kns_NoSpread => k_is)
      (case kty_NoSpread => k_is)
      (case kob_NoSpread => k_is)
      (case kbe_NoSpread => k_is)
      (case kns_NoTaking => k_is)
      (case kty_NoTaking => k_is)
      (case kob_NoTaking => k_is)
      (case kbe_NoTaking => k_is)
      (case kns_NoText => k_is)
      (case kty_NoText => k_is)
      (case kob_NoText => k_is)
      (case kbe_NoText => k_is)
      (case kns_NoTie => k_is)
      (case kty_NoTie => k_is)
      (case kob_NoTie => k_is)
      (case kbe_NoTie => k_is)
      (case kns_NoTurn => k_is)
      (case kty_NoTurn => k_is)
      (case kob_NoTurn => k_is)
      (case kbe_NoTurn => k_is)
      (case kns_NoWay => k_is)
      (case kty_NoWay => k_is)
      (case kob_NoWay => k_is)
      (case kbe_NoWay => k_is)
      (case kns_NoWeb => k_is)
      (case kty_NoWeb => k_is)
      (case kob_NoWeb => k_is)
      (case kbe_NoWeb => k_is)
      (case kns_TooMany => k_is)
      (case kty_TooMany => k_is)
      (case kob_TooMany => k_is)
      (case kbe_TooMany => k_is)
      (case kns_Unbalanced => k_is)
      (case kty_Unbalanced => k_is)
      (case kob_Unbalanced => k_is)
      (case kbe_Unbalanced => k_is)
      (case xcls_NoNumber => k_is)
      (case xga_NoNumber => k_is)
      (case xgt_NoNumber => k_is)
      (case xt1_NoNumber => k_is)
      (case xt2_NoNumber => k_is)
      (case xt3_NoNumber => k_is)
      (case xt4_NoNumber => k_is)
      (case xt5_NoNumber => k_is)
      (case xt6_NoNumber => k_is)
      (case xt7_NoNumber => k_is)
      (case xve_NoNumber => k_is)
      (case xself_NoNumber => k_is)
      (case xex_NoNumber => k_exc)
      (case p_NoNumber_CutError => k_is)
      (case p_NoNumber_NoAdds => k_is)
      (case p_NoNumber_NoCases => k_is)
      (case p_NoNumber_NoChange => k_is)
      (case p_NoNumber_NoDeed => k_is)
      (case p_NoNumber_NoFlow => k_is)
      (case p_NoNumber_NoJoin => k_is)
      (case p_NoNumber_NoMix => k_is)
      (case p_NoNumber_NoName => k_is)
      (case p_NoNumber_NoNumber => k_is)
      (case p_NoNumber_NoPurse => k_is)
      (case p_NoNumber_NoRooms => k_is)
      (case p_NoNumber_NoRow => k_is)
      (case p_NoNumber_NoSide => k_is)
      (case p_NoNumber_NoSpread => k_is)
      (case p_NoNumber_NoTaking => k_is)
      (case p_NoNumber_NoText => k_is)
      (case p_NoNumber_NoTie => k_is)
      (case p_NoNumber_NoTurn => k_is)
      (case p_NoNumber_NoWay => k_is)
      (case p_NoNumber_NoWeb => k_is)
      (case p_NoNumber_TooMany => k_is)
      (case p_NoNumber_Unbalanced => k_is)
    obtain ⟨t, T, e0, kV, doc, pm, an, cdv, ct, ed⟩ := T
    have e1 := hmg.symm.trans e0
    cases e1
    refine ⟨t.d_law, fun s u => ?_, fun base kb nb => K02.ok_law T⟩
    rw [ed]
    exact .of_eq rfl
