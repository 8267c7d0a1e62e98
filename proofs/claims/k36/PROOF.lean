import PyProof.Rows.All
import Wide.All
import OpenK.AllK
import Wide.FinOn
import PyProof.EqAt
import PyProof.EqKinds
import PyProof.NeKinds
import PyProof.TupleCall
import PySem.Challenge.RW_farthestcut_k36_amounts_of_lists
set_option Elab.async false
set_option linter.all false
set_option maxRecDepth 100000
namespace L2
open PySem PySem.Spec PyProof.Rows
abbrev Key := Sum Int Str
def keyIs : Key → Value → Bool
  | .inl k, v => Value.isInt k v
  | .inr x, v => Value.isStrOf x v
def keyH (w : World) : Key → Int
  | .inl k => hashInt k
  | .inr x => hashStr w x
theorem keyIs_shape : ∀ {k : Key} {v : Value}, keyIs k v = true → (∃ i t, k = Sum.inl i ∧ v = Value.int i t) ∨ (∃ x t, k = Sum.inr x ∧ v = Value.str x t)
  | .inl i, v, h => by
    obtain ⟨t, e⟩ := Value.isInt_shape (k := i) (v := v) h
    exact .inl ⟨i, t, rfl, e⟩
  | .inr x, v, h => by
    obtain ⟨t, e⟩ := Value.isStrOf_shape (x := x) (v := v) h
    exact .inr ⟨x, t, rfl, e⟩
theorem key_ll (a b : Int) : decide ((Sum.inl a : Key) = Sum.inl b) = (a == b) := by
  by_cases e : a = b
  · subst e; simp
  · have h : ¬ (Sum.inl a : Key) = Sum.inl b := fun q => e (Sum.inl.inj q)
    rw [decide_eq_false h]
    exact (beq_eq_false_iff_ne.mpr e).symm
theorem key_rr (a b : Str) : decide ((Sum.inr a : Key) = Sum.inr b) = decide (a = b) := by
  by_cases e : a = b
  · subst e; simp
  · have h : ¬ (Sum.inr a : Key) = Sum.inr b := fun q => e (Sum.inr.inj q)
    rw [decide_eq_false h, decide_eq_false e]
theorem key_lr (a : Int) (b : Str) : decide ((Sum.inl a : Key) = Sum.inr b) = false := decide_eq_false (fun q => nomatch q)
theorem key_rl (a : Str) (b : Int) : decide ((Sum.inr a : Key) = Sum.inl b) = false := decide_eq_false (fun q => nomatch q)
def mixKind (prog : Program) (w : World) : PySem.KeyKind prog w Key where
  is := keyIs
  hash := keyH w
  inj := fun v a b ha hb => by
    rcases keyIs_shape ha with ⟨i, t, rfl, rfl⟩ | ⟨x, t, rfl, rfl⟩
    · rcases keyIs_shape hb with ⟨j, u, rfl, e⟩ | ⟨y, u, rfl, e⟩
      · injection e with e1 _; rw [e1]
      · exact nomatch e
    · rcases keyIs_shape hb with ⟨j, u, rfl, e⟩ | ⟨y, u, rfl, e⟩
      · exact nomatch e
      · injection e with e1 _; rw [e1]
  byValue := fun k v h => by
    rcases keyIs_shape h with ⟨i, t, rfl, rfl⟩ | ⟨x, t, rfl, rfl⟩ <;> rfl
  pyHash := fun hv h => by
    rcases keyIs_shape hv with ⟨i, t, rfl, rfl⟩ | ⟨x, t, rfl, rfl⟩
    · exact wpAny_pyHash_int h
    · exact wpAny_pyHash_str h
  eqBool := fun hu hv h => by
    rcases keyIs_shape hu with ⟨i, t, rfl, rfl⟩ | ⟨x, t, rfl, rfl⟩
    · rcases keyIs_shape hv with ⟨j, u, rfl, rfl⟩ | ⟨y, u, rfl, rfl⟩
      · rw [key_ll] at h; exact wpAny_eqBool_int h
      · rw [key_lr] at h; exact SeqAt.EqAt.int_str i t y u _ _ _ _ h
    · rcases keyIs_shape hv with ⟨j, u, rfl, rfl⟩ | ⟨y, u, rfl, rfl⟩
      · rw [key_rl] at h; exact SeqAt.EqAt.str_int x t j u _ _ _ _ h
      · rw [key_rr] at h; exact wpAny_eqBool_str h
  «strs» := fun k x t v h => by
    rcases keyIs_shape h with ⟨i, u, rfl, e⟩ | ⟨y, u, rfl, e⟩
    · exact nomatch e
    · injection e with e1 _
      subst e1
      cases v <;> rfl
end L2
namespace L2
open PySem PySem.Spec PyProof.Rows
inductive V where
  | non | bl (b : Bool) | int (i : Int) | str (x : Str) | byt (b : Array UInt8) | flt (b : UInt64) | ref (a : Addr) | ty (n : String)
  deriving DecidableEq
def RelV : V → Value → Prop
  | .non, u => u = Value.none
  | .bl b, u => u = Value.bool b
  | .int i, u => ∃ t, u = Value.int i t
  | .str x, u => ∃ t, u = Value.str x t
  | .byt b, u => ∃ t, u = Value.bytes b t
  | .flt b, u => ∃ t, u = Value.float b t
  | .ref a, u => u = Value.ref a
  | .ty n, u => u = Value.type n
abbrev Vals : List V → List Value → Prop := Paired RelV
theorem Vals.length {xs : List V} {us : List Value} (r : Vals xs us) : xs.length = us.length := Paired.length r
theorem Vals.get : ∀ {xs : List V} {us : List Value} {i : Nat} {x : V}, Vals xs us → xs[i]? = some x → ∃ u, us[i]? = some u ∧ RelV x u
  | _, _, _, _, .nil, e => by simp at e
  | _, _, 0, _, .cons r _, e => by simp at e; subst e; exact ⟨_, rfl, r⟩
  | _, _, i + 1, x, .cons _ t, e => by
    obtain ⟨u, h1, h2⟩ := Vals.get (i := i) (x := x) t (by simpa using e)
    exact ⟨u, by simpa using h1, h2⟩
theorem Vals.append : ∀ {xs ys : List V} {us ws : List Value}, Vals xs us → Vals ys ws → Vals (xs ++ ys) (us ++ ws)
  | _, _, _, _, .nil, s => s
  | _, _, _, _, .cons r t, s => .cons r (Vals.append t s)
theorem Vals.take : ∀ {xs : List V} {us : List Value} (n : Nat), Vals xs us → Vals (xs.take n) (us.take n)
  | _, _, 0, _ => .nil
  | _, _, _ + 1, .nil => .nil
  | _, _, n + 1, .cons r t => .cons r (Vals.take n t)
theorem Vals.drop : ∀ {xs : List V} {us : List Value} (n : Nat), Vals xs us → Vals (xs.drop n) (us.drop n)
  | _, _, 0, r => r
  | _, _, _ + 1, .nil => .nil
  | _, _, n + 1, .cons _ t => Vals.drop n t
def RelO : Option V → Option Value → Prop
  | some v, some u => RelV v u
  | none, none => True
  | _, _ => False
def KV {κ : Type} : List (κ × V) → List (κ × Value) → Prop := Paired fun (p : κ × V) (q : κ × Value) => p.1 = q.1 ∧ RelV p.2 q.2
def kV : Key → V
  | .inl i => .int i
  | .inr x => .str x
inductive HO where
  | lst (xs : List V)
  | tup (xs : List V)
  | dK (kvs : List (Key × V)) | dT (kvs : List (List Key × V))
  | set (S : Int → Bool) (n : Nat)
  | ins (C dx : Addr) (fs : List (Str × V))
  | own (x : Addr)
  | xd (fs : List (Str × V))
  | met (f x : Addr)
  | rng (lo hi : Int)
  | frz (o : Obj) (u : HO)
  | tbl (ps : Array Value)
  | ext (φ : Heap → Prop)
abbrev Hp := Addr → Option HO
def upd (H : Hp) (a : Addr) (o : HO) : Hp := fun b => if b = a then some o else H b
theorem upd_same {H : Hp} {a : Addr} {o : HO} : upd H a o a = some o := by unfold upd; rw [if_pos rfl]
theorem upd_ne {H : Hp} {a b : Addr} {o : HO} (h : b ≠ a) : upd H a o b = H b := by unfold upd; rw [if_neg h]
theorem ne_of_none {H : Hp} {a b : Addr} {o : HO} (h : H a = some o) (h' : H b = none) : a ≠ b := by
  intro e; subst e; rw [h] at h'; cases h'
section
variable (P : Program) (w : World)
def ObjOk (H : Hp) (h : Heap) (a : Addr) : HO → Prop
  | .lst xs => xs.length ≤ sizeLine ∧ ∃ (its : List Value) (n : Nat), Vals xs its ∧ h.get? a = some { cls := .type "list", data := .seq its.toArray n }
  | .tup xs => xs.length ≤ sizeLine ∧ ∃ its : List Value, Vals xs its ∧ IsTup h a its.toArray
  | .dK kvs => kvs.length ≤ sizeLine ∧ (a == sysModules) = false ∧ ∃ vs, KV kvs vs ∧ h.DictOf (mixKind P w) a vs
  | .dT kvs => kvs.length ≤ sizeLine ∧ (a == sysModules) = false ∧ ∃ xs : List (List Key × Addr × Value),
      Paired (fun (p : List Key × V) (q : List Key × Addr × Value) => p.1 = q.1 ∧ H q.2.1 = some (.tup (p.1.map kV)) ∧ RelV p.2 q.2.2) kvs xs ∧
      ∃ o es ep, h.get? a = some o ∧ o.ExactDict ∧ o.data = .dict es ep ∧ es.toList = xs.map (entryOfKey (tupleKind (mixKind P w))) ∧ (xs.map (·.1)).Nodup
  | .set S n => h.SetOf (intKind P w) a S n
  | .ins C dx fs => H dx = some (.own a) ∧ fs.length ≤ 1000 ∧ dx ≠ a ∧ h.get? a = some (PySem.W.instObj C dx) ∧
      ∃ mA, h.Ns1 dx mA ∧ (∀ f, RelO (fs.lookup f) (mA f)) ∧ PySem.Within mA (fs.map (·.1))
  | .own _ => ∃ o, h.get? a = some o
  | .xd fs => ∃ mA, h.Ns1 a mA ∧ ∀ f, RelO (fs.lookup f) (mA f)
  | .rng lo hi => ∃ t u v, h.get? a = some { cls := .type "range", data := .fields #[.int lo t, .int hi u, .int 1 v] }
  | .frz o u => h.get? a = some o ∧ ObjOk H h a u
  | .tbl ps => h.get? a = some { cls := .none, data := .fields ps }
  | .met f x => h.get? a = some (PySem.W.methodObj (.ref f) (.ref x))
  | .ext φ => φ h ∧ (∃ o, h.get? a = some o) ∧ ∀ h1 h2 : Heap, φ h1 → (∀ o, h1.get? a = some o → h2.get? a = some o) → φ h2
def HOk (H : Hp) (h : Heap) : Prop := ∀ a o, H a = some o → ObjOk P w H h a o
end
section
variable {P : Program} {w : World} {H H' : Hp} {h h' : Heap} {a : Addr} {o : HO}
theorem ObjOk.lt (x : ObjOk P w H h a o) : a < h.objs.size := by
  cases o with
  | lst xs => obtain ⟨_, _, _, _, e⟩ := x; exact Heap.lt_size e
  | tup xs => obtain ⟨_, _, _, p⟩ := x; exact p.lt
  | dK kvs => obtain ⟨_, _, _, _, o, _, _, e, _⟩ := x; exact Heap.lt_size e
  | dT kvs => obtain ⟨_, _, _, _, o, _, _, e, _⟩ := x; exact Heap.lt_size e
  | set S n => obtain ⟨o, _, _, _, e, _⟩ := x; exact Heap.lt_size e
  | ins C dx fs => obtain ⟨_, _, _, e, _⟩ := x; exact Heap.lt_size e
  | own y => obtain ⟨_, e⟩ := x; exact Heap.lt_size e
  | xd fs => obtain ⟨_, ⟨_, _, _, e, _⟩, _⟩ := x; exact Heap.lt_size e
  | rng lo hi => obtain ⟨_, _, _, e⟩ := x; exact Heap.lt_size e
  | frz ob u => obtain ⟨e, _⟩ := x; exact Heap.lt_size e
  | tbl ps => exact Heap.lt_size (show h.get? a = some _ from x)
  | met f y => exact Heap.lt_size (show h.get? a = some _ from x)
  | ext φ => obtain ⟨_, ⟨_, e⟩, _⟩ := x; exact Heap.lt_size e
theorem Paired.mapP {α β : Type} {F G : α → β → Prop} : ∀ {l₁ : List α} {l₂ : List β}, Paired F l₁ l₂ → (∀ a b, F a b → G a b) → Paired G l₁ l₂
  | _, _, .nil, _ => .nil
  | _, _, .cons r t, f => .cons (f _ _ r) (Paired.mapP t f)
theorem ObjOk.stay (x : ObjOk P w H h a o) (k : ∀ b u, (b = a ∨ H b = some (.own a)) → h.get? b = some u → h'.get? b = some u)
    (ho : ∀ b, H b = some (.own a) → H' b = some (.own a)) (ht : ∀ b xs, H b = some (.tup xs) → H' b = some (.tup xs)) : ObjOk P w H' h' a o := by
  induction o with
  | lst xs => obtain ⟨z, its, n, r, e⟩ := x; exact ⟨z, its, n, r, k _ _ (.inl rfl) e⟩
  | tup xs => obtain ⟨z, its, r, ob, e, c⟩ := x; exact ⟨z, its, r, ob, k _ _ (.inl rfl) e, c⟩
  | dK kvs => obtain ⟨z, y, vs, r, ob, es, ep, e, c⟩ := x; exact ⟨z, y, vs, r, ob, es, ep, k _ _ (.inl rfl) e, c⟩
  | dT kvs =>
    obtain ⟨z, y, xs, r, ob, es, ep, e, c⟩ := x
    exact ⟨z, y, xs, Paired.mapP r fun p q z => ⟨z.1, ht _ _ z.2.1, z.2.2⟩, ob, es, ep, k _ _ (.inl rfl) e, c⟩
  | set S n => obtain ⟨ob, es, ep, t, e, c⟩ := x; exact ⟨ob, es, ep, t, k _ _ (.inl rfl) e, c⟩
  | ins C dx fs =>
    obtain ⟨d, z, ne, e, mA, ⟨od, es, ep, e2, c⟩, r⟩ := x
    exact ⟨ho _ d, z, ne, k _ _ (.inl rfl) e, mA, ⟨od, es, ep, k _ _ (.inr d) e2, c⟩, r⟩
  | own y => obtain ⟨ob, e⟩ := x; exact ⟨ob, k _ _ (.inl rfl) e⟩
  | xd fs => obtain ⟨mA, ⟨od, es, ep, e, c⟩, r⟩ := x; exact ⟨mA, ⟨od, es, ep, k _ _ (.inl rfl) e, c⟩, r⟩
  | rng lo hi => obtain ⟨t, u, v, e⟩ := x; exact ⟨t, u, v, k _ _ (.inl rfl) e⟩
  | frz ob u ih => obtain ⟨e, q⟩ := x; exact ⟨k _ _ (.inl rfl) e, ih q⟩
  | tbl ps =>
    have e : h.get? a = some { cls := .none, data := .fields ps } := x
    show h'.get? a = some { cls := .none, data := .fields ps }
    exact k a _ (.inl rfl) e
  | met f y =>
    have e : h.get? a = some (PySem.W.methodObj (.ref f) (.ref y)) := x
    show h'.get? a = some (PySem.W.methodObj (.ref f) (.ref y))
    exact k a _ (.inl rfl) e
  | ext φ => obtain ⟨p, ⟨o, e⟩, st⟩ := x; exact ⟨st _ _ p fun o q => k _ _ (.inl rfl) q, ⟨o, k _ _ (.inl rfl) e⟩, st⟩
theorem HOk.lt (x : HOk P w H h) (e : H a = some o) : a < h.objs.size := (x a o e).lt
theorem HOk.fresh (x : HOk P w H h) (e : h.objs.size ≤ a) : H a = none := by
  cases q : H a with
  | none => rfl
  | some u => exact absurd (Nat.lt_of_lt_of_le (x.lt q) e) (Nat.lt_irrefl _)
theorem HOk.kept (x : HOk P w H h) (k : ∀ b u, h.get? b = some u → h'.get? b = some u) : HOk P w H h' := fun a o e =>
  (x a o e).stay (fun b u _ q => k b u q) (fun _ q => q) fun _ _ q => q
theorem HOk.laid (x : HOk P w H h) (k : ∀ b u, h.get? b = some u → h'.get? b = some u) (hp : h.objs.size ≤ a) (new : ObjOk P w (upd H a o) h' a o) : HOk P w (upd H a o) h' := fun b u e => by
  have hn := x.fresh hp
  by_cases hb : b = a
  · subst hb; rw [upd_same] at e; cases e; exact new
  · rw [upd_ne hb] at e
    exact (x b u e).stay (fun c v _ q => k c v q) (fun c q => by rw [upd_ne (ne_of_none q hn)]; exact q) fun c xs q => by rw [upd_ne (ne_of_none q hn)]; exact q
end
def Rd (H : Hp) (a : Addr) (u : HO) : Prop := H a = some u ∨ ∃ o, H a = some (.frz o u)
theorem Rd.ok {P : Program} {w : World} {H : Hp} {h : Heap} {a : Addr} {u : HO} (r : Rd H a u) (x : HOk P w H h) : ObjOk P w H h a u := by
  rcases r with r | ⟨o, r⟩
  · exact x a u r
  · obtain ⟨_, q⟩ := x a _ r
    exact q
def Mut : Option HO → Prop
  | some (.lst _) => True
  | some (.dK _) => True
  | some (.dT _) => True
  | some (.set _ _) => True
  | some (.ins _ _ _) => True
  | some (.ext _) => True
  | _ => False
section
variable {P : Program} {w : World} {H : Hp} {h h' : Heap} {x e : Addr} {o' : HO}
theorem HOk.write (ok : HOk P w H h) (mu : Mut (H x)) (he : e = x ∨ H e = some (.own x)) (k : ∀ b u, b ≠ e → h.get? b = some u → h'.get? b = some u) (heo : ∃ u, h'.get? e = some u)
    (new : ObjOk P w (upd H x o') h' x o') : HOk P w (upd H x o') h' := fun b u q => by
  have nown : ∀ c y, H c = some (.own y) → c ≠ x := fun c y r z => by subst z; rw [r] at mu; exact mu
  have ntup : ∀ c xs, H c = some (.tup xs) → c ≠ x := fun c xs r z => by subst z; rw [r] at mu; exact mu
  by_cases hb : b = x
  · subst hb; rw [upd_same] at q; cases q; exact new
  · rw [upd_ne hb] at q
    by_cases hbe : b = e
    · have q' : H b = some (.own x) := by
        rcases he with z | z
        · exact absurd (hbe.trans z) hb
        · rw [hbe]; exact z
      rw [q] at q'; cases q'
      obtain ⟨v, hv⟩ := heo
      exact ⟨v, by rw [hbe]; exact hv⟩
    · refine (ok b u q).stay (fun c v hc r => k c v ?_ r) (fun c r => by rw [upd_ne (nown c b r)]; exact r) fun c xs r => by rw [upd_ne (ntup c xs r)]; exact r
      rcases hc with rfl | hc
      · exact hbe
      · rintro rfl
        rcases he with z | z
        · exact nown c b hc z
        · rw [hc] at z; cases z; exact hb rfl
end
structure Un (fs ex : List Addr) (H H' : Hp) (h h' : Heap) : Prop where
  keep : ∀ b o, h.get? b = some o → H b = none → b ∉ fs → b ∉ ex → h'.get? b = some o
  slot : ∀ b o, h.get? b = some o → H b = none → b ∈ fs → b ∉ ex → ∃ sl, h'.get? b = some { o with slots := sl }
  free : ∀ b o, h.get? b = some o → H b = none → b ∉ ex → H' b = none
  there : ∀ b o, h.get? b = some o → b ∉ ex → ∃ o', h'.get? b = some o'
  tups : ∀ b xs, H b = some (.tup xs) → H' b = some (.tup xs)
  frzs : ∀ b o u, H b = some (.frz o u) → H' b = some (.frz o u)
  tbls : ∀ b ps, H b = some (.tbl ps) → ∃ more, H' b = some (.tbl (ps ++ more))
section
variable {fs fs' ex ex' : List Addr} {H H1 H2 : Hp} {h h1 h2 h' : Heap} {a x e : Addr} {o : HO}
theorem Un.any (u : Un fs ex H H1 h h1) {b : Addr} {ob : Obj} (q : h.get? b = some ob) (n : H b = none) (hx : b ∉ ex) : ∃ sl, h1.get? b = some { ob with slots := sl } := by
  by_cases hb : b ∈ fs
  · exact u.slot b ob q n hb hx
  · exact ⟨ob.slots, u.keep b ob q n hb hx⟩
theorem Un.kept (k : ∀ b u, h.get? b = some u → h'.get? b = some u) : Un fs ex H H h h' :=
  ⟨fun b ob q _ _ _ => k b ob q, fun b ob q _ _ _ => ⟨ob.slots, k b ob q⟩, fun _ _ _ n _ => n, fun b ob q _ => ⟨ob, k b ob q⟩, fun _ _ q => q, fun _ _ _ q => q, fun _ ps q => ⟨#[], by rw [q]; simp⟩⟩
theorem Un.refl : Un fs ex H H h h := Un.kept fun _ _ q => q
theorem Un.laid (k : ∀ b u, h.get? b = some u → h'.get? b = some u) (hp : h.objs.size ≤ a) (hn : H a = none) : Un fs ex H (upd H a o) h h' where
  keep := fun b u q _ _ _ => k b u q
  slot := fun b u q _ _ _ => ⟨u.slots, k b u q⟩
  free := fun b u q n _ => by rw [upd_ne (Nat.ne_of_lt (Nat.lt_of_lt_of_le (Heap.lt_size q) hp))]; exact n
  there := fun b u q _ => ⟨u, k b u q⟩
  tups := fun b xs q => by rw [upd_ne (ne_of_none q hn)]; exact q
  frzs := fun b u xs q => by rw [upd_ne (ne_of_none q hn)]; exact q
  tbls := fun b ps q => ⟨#[], by rw [upd_ne (ne_of_none q hn), q]; simp⟩
theorem Un.write (mu : Mut (H x)) (he : e = x ∨ H e = some (.own x)) (k : ∀ b u, b ≠ e → h.get? b = some u → h'.get? b = some u) (heo : ∃ u, h'.get? e = some u) : Un fs ex H (upd H x o) h h' := by
  have hx : ∀ b, H b = none → b ≠ x := fun b n z => by subst z; rw [n] at mu; exact mu
  have hb : ∀ b, H b = none → b ≠ e := fun b n z => by
    subst z
    rcases he with r | r
    · exact hx b n r
    · rw [n] at r; cases r
  have hm : ∀ b u, H b = some u → ¬ Mut (some u) → b ≠ x := fun b u q nm z => by subst z; rw [q] at mu; exact nm mu
  refine ⟨fun b u q n _ _ => k b u (hb b n) q, fun b u q n _ _ => ⟨u.slots, k b u (hb b n) q⟩, fun b u q n _ => by rw [upd_ne (hx b n)]; exact n, fun b u q _ => ?_,
    fun b xs q => by rw [upd_ne (hm b _ q fun z => z)]; exact q, fun b u xs q => by rw [upd_ne (hm b _ q fun z => z)]; exact q, fun b ps q => ⟨#[], by rw [upd_ne (hm b _ q fun z => z), q]; simp⟩⟩
  by_cases hbe : b = e
  · subst hbe; exact heo
  · exact ⟨u, k b u hbe q⟩
end
def trk (h : Heap) (H : Hp) : List Addr := (List.range h.objs.size).filter fun a => (H a).isSome
def hidT (h : Heap) (H : Hp) : Heap := PySem.W.hideAll h (trk h H)
theorem hidT_size (h : Heap) (H : Hp) : (hidT h H).objs.size = h.objs.size := PySem.W.hideAll_size _ _
theorem hidT_get {h : Heap} {H : Hp} {b : Addr} {o : Obj} (e : h.get? b = some o) (n : H b = none) : (hidT h H).get? b = some o :=
  PySem.W.hideAll_get _ e fun hm => by
    have q : (H b).isSome = true := (List.mem_filter.mp hm).2
    rw [n] at q; simp at q
theorem of_hidT {h : Heap} {H : Hp} {b : Addr} {o : Obj} (e : (hidT h H).get? b = some o) : h.get? b = some o ∧ H b = none := by
  have e' : h.get? b = some o := PySem.W.of_hideAll (trk h H) e
  refine ⟨e', ?_⟩
  cases q : H b with
  | none => rfl
  | some x =>
    have hm : b ∈ trk h H := List.mem_filter.mpr ⟨List.mem_range.mpr (Heap.lt_size e'), by simp [q]⟩
    have z : (hidT h H).get? b = none := PySem.W.hideAll_none (trk h H) hm
    rw [z] at e; cases e
end L2
namespace L2
open PySem PySem.Spec PyProof.Rows
structure Mod (K : PySem.W.Frag) (mg : Str → Option Value) (base : Heap) : Prop where
  kin : K.In base
  glob : base.Ns mainGlobals mg
  blt : ∃ mb, base.Ns builtinsNs mb ∧ ∀ x : Str, x ≠ "__name__" → mb x = bootBuiltins x
  nolimit : base.NoLimit
structure Cx where
  prog : Program
  w : World
  K : PySem.W.Frag
  mg : Str → Option Value
  base : Heap
  A : Around
  N : List Str
  s₀ : Shared
  H₀ : Hp
  env : Env
  outer : List Env
  stack : List Env
  ex : List Addr
  fn : Str → Bool
  calm : Bool
  pn : List (Addr × Obj)
  xe : Value → Shared → Prop
def frs (l : List Env) : List Addr := l.filterMap (·.frame)
abbrev Cx.fs (X : Cx) : List Addr := frs X.outer
def Vis (sc : Scope) (x : Str) : Prop := sc.names.lookup x = some .local ∨ sc.names.lookup x = some .cell ∨ sc.names.lookup x = some .free
def Loc (sc : Scope) (x : Str) : Prop := sc.names.lookup x = some .local ∨ sc.names.lookup x = some .cell
def Look (env : Env) (h : Heap) (m : Str → Option Value) (x : Str) (u : Value) : Prop :=
  (env.kindOf x = some .local ∧ m x = some u) ∨ ((env.kindOf x = some .cell ∨ env.kindOf x = some .free) ∧ ∃ c, env.cells.lookup x = some c ∧ h.IsCell c (some u))
structure Cx.Ok (X : Cx) : Prop where
  mod : Mod X.K X.mg X.base
  kind : X.env.scope.kind = .function
  glob : X.env.globals = mainGlobals
  blt : X.env.builtins = builtinsNs
  above : X.s₀.heap.objs.size ≤ X.env.locals
  inj : ∀ x y c, X.env.cells.lookup x = some c → X.env.cells.lookup y = some c → x = y
  has : ∀ x, (X.env.kindOf x = some .cell ∨ X.env.kindOf x = some .free) → ∃ c, X.env.cells.lookup x = some c
  cab : ∀ x c, X.fn x = true → X.env.cells.lookup x = some c → X.s₀.heap.objs.size ≤ c
  hd : X.calm = true → X.A.handled = none
  frames : X.A.frames = some X.stack
  stk : X.stack = X.outer ∨ (X.stack = X.env :: X.outer ∧ X.env.frame = some X.env.locals)
  exf : ∀ b ∈ X.ex, b ≠ X.env.locals ∧ ∀ x c, X.env.cells.lookup x = some c → c ≠ b
  bs : ∀ b o, X.base.get? b = some o → X.s₀.heap.get? b = some o ∧ X.H₀ b = none
  bsz : X.base.objs.size ≤ X.s₀.heap.objs.size
  noex : ∀ b o, X.base.get? b = some o → b ∉ X.ex
  exfs : ∀ b ∈ X.ex, b ∉ X.fs
  funs : X.s₀.heap.FunFrames X.base X.outer
  frf : ∀ b ∈ X.fs, X.H₀ b = none
structure Inv (X : Cx) (pins : List (Addr × Obj)) (σ : List (Option V)) (H : Hp) (s : Shared) : Prop where
  ok : X.Ok
  os : s.os = X.s₀.os
  bare : AllBare s.gens
  base : Un X.fs X.ex X.H₀ H X.s₀.heap s.heap
  loc : ∃ m, s.heap.Ns X.env.locals m ∧ ∀ (i : Nat) (x : Str) (v : V), X.N[i]? = some x → σ[i]? = some (some v) → Vis X.env.scope x → ∃ u, RelV v u ∧ Look X.env s.heap m x u
  cell : ∀ x c, X.env.cells.lookup x = some c → ∃ v, s.heap.IsCell c v
  free : H X.env.locals = none
  freeC : ∀ x c, X.env.cells.lookup x = some c → H c = none
  pin : ∀ p ∈ X.pn ++ pins, s.heap.get? p.1 = some p.2 ∧ H p.1 = none ∧ p.1 ≠ X.env.locals ∧ p.1 ∉ X.fs ∧ ∀ v, p.2.data ≠ .cell v
  hok : HOk X.prog X.w H s.heap
  len : σ.length = X.N.length
section
variable {X : Cx} {pins : List (Addr × Obj)} {σ : List (Option V)} {H H' : Hp} {s : Shared} {h' : Heap}
theorem Cx.Ok.nofr (ok : X.Ok) {b : Addr} {o : Obj} (e : X.base.get? b = some o) : b ∉ X.fs := fun hb => by
  have := (ok.funs.mem hb).1
  rw [e] at this; cases this
theorem Inv.bs (I : Inv X pins σ H s) : ∀ b o, X.base.get? b = some o → s.heap.get? b = some o ∧ H b = none := fun b o e =>
  ⟨I.base.keep b o (I.ok.bs b o e).1 (I.ok.bs b o e).2 (I.ok.nofr e) (I.ok.noex b o e), I.base.free b o (I.ok.bs b o e).1 (I.ok.bs b o e).2 (I.ok.noex b o e)⟩
theorem Inv.bk (I : Inv X pins σ H s) : ∀ b o, X.base.get? b = some o → s.heap.get? b = some o := fun b o e => (I.bs b o e).1
theorem Inv.mod (I : Inv X pins σ H s) : Mod X.K X.mg X.base := I.ok.mod
theorem Inv.kIn (I : Inv X pins σ H s) : X.K.In s.heap := I.ok.mod.kin.keeps I.bk
theorem Inv.lt (I : Inv X pins σ H s) : X.env.locals < s.heap.objs.size := let ⟨_, hn, _⟩ := I.loc; hn.lt
theorem Inv.sz (I : Inv X pins σ H s) : X.s₀.heap.objs.size ≤ s.heap.objs.size := Nat.le_trans I.ok.above (Nat.le_of_lt I.lt)
theorem Inv.nofs (I : Inv X pins σ H s) {a : Addr} (h : s.heap.objs.size ≤ a) : a ∉ X.fs := fun hb => by
  obtain ⟨_, o, ho, _⟩ := I.ok.funs.mem hb
  exact absurd (Nat.lt_of_lt_of_le (Heap.lt_size ho) (Nat.le_trans I.sz h)) (Nat.lt_irrefl _)
theorem Inv.cne (I : Inv X pins σ H s) : ∀ x c, X.env.cells.lookup x = some c → c ≠ X.env.locals := fun x c e z => by
  obtain ⟨v, o, ho, hd⟩ := I.cell x c e
  obtain ⟨m, ⟨o', es, ep, ho', hd', _⟩, _⟩ := I.loc
  rw [z, ho'] at ho; cases ho; rw [hd'] at hd; cases hd
theorem Inv.funs (I : Inv X pins σ H s) : s.heap.FunFrames X.base X.outer := by
  have all : ∀ (l : List Env), (∀ b ∈ frs l, b ∈ X.fs) → X.s₀.heap.FunFrames X.base l → s.heap.FunFrames X.base l := by
    intro l
    induction l with
    | nil => intro _ _; trivial
    | cons env r ih =>
      intro hs hl
      obtain ⟨hk, ⟨L, o, hf, hn, ho, hd⟩, hr⟩ := hl
      have hL : L ∈ X.fs := hs L (by unfold frs; rw [List.filterMap_cons, hf]; exact List.mem_cons_self)
      obtain ⟨sl, e⟩ := I.base.slot L o ho (I.ok.frf L hL) hL fun z => I.ok.exfs L z hL
      exact ⟨hk, ⟨L, _, hf, hn, e, hd⟩, ih (fun b hb => hs b (by unfold frs; rw [List.filterMap_cons, hf]; exact List.mem_cons_of_mem _ hb)) hr⟩
  exact all X.outer (fun _ hb => hb) I.ok.funs
theorem Inv.stack (I : Inv X pins σ H s) : s.heap.FunFrames X.base X.stack := by
  rcases I.ok.stk with e | ⟨e, hf⟩
  · rw [e]; exact I.funs
  · rw [e]
    obtain ⟨m, hn, _⟩ := I.loc
    refine .cons (by rw [I.ok.kind]; decide) hf hn ?_ I.funs
    exact Heap.get?_none_of_le (Nat.le_trans I.ok.bsz I.ok.above)
theorem Inv.stkSub (I : Inv X pins σ H s) : ∀ b ∈ frs X.stack, b ∈ X.env.locals :: X.fs := fun b hb => by
  rcases I.ok.stk with e | ⟨e, hf⟩
  · rw [e] at hb; exact List.mem_cons_of_mem _ hb
  · rw [e] at hb
    unfold frs at hb
    rw [List.filterMap_cons, hf] at hb
    exact hb
theorem Inv.stkFree (I : Inv X pins σ H s) : ∀ b ∈ frs X.stack, H b = none := fun b hb => by
  rcases List.mem_cons.mp (I.stkSub b hb) with e | hb
  · rw [e]; exact I.free
  · obtain ⟨_, o, ho, _⟩ := I.ok.funs.mem hb
    exact I.base.free b o ho (I.ok.frf b hb) fun z => I.ok.exfs b z hb
theorem Inv.step {g' : Array GenState} {t' : Nat} {d' : Drawn} {ch : List Addr} (I : Inv X pins σ H s)
    (hch : ∀ b ∈ ch, (b ∈ X.ex ∨ X.s₀.heap.objs.size ≤ b) ∧ b ≠ X.env.locals ∧ (∀ x c, X.env.cells.lookup x = some c → c ≠ b) ∧ ∀ p ∈ X.pn ++ pins, p.1 ≠ b)
    (keep : ∀ b o, b ≠ X.env.locals → b ∉ X.fs → b ∉ ch → s.heap.get? b = some o → H b = none → h'.get? b = some o)
    (slot : ∀ b o, b ≠ X.env.locals → b ∈ X.fs → b ∉ ch → s.heap.get? b = some o → H b = none → ∃ sl, h'.get? b = some { o with slots := sl }) (free : ∀ b o, b ∉ ch → s.heap.get? b = some o → H b = none → H' b = none)
    (there : ∀ b o, b ∉ ch → s.heap.get? b = some o → ∃ o', h'.get? b = some o')
    (tups : ∀ b xs, H b = some (.tup xs) → H' b = some (.tup xs)) (frzs : ∀ b o u, H b = some (.frz o u) → H' b = some (.frz o u)) (tbls : ∀ b ps, H b = some (.tbl ps) → ∃ more, H' b = some (.tbl (ps ++ more)))
    (ns : ∀ m, s.heap.Ns X.env.locals m → h'.Ns X.env.locals m) (hok : HOk X.prog X.w H' h') (hg : AllBare g') :
    Inv X pins σ H' { s with heap := h', gens := g', drawn := d', toks := t' } := by
  have neL : ∀ b o, X.s₀.heap.get? b = some o → b ≠ X.env.locals := fun b o e => Nat.ne_of_lt (Nat.lt_of_lt_of_le (Heap.lt_size e) I.ok.above)
  have neC : ∀ b o, X.s₀.heap.get? b = some o → b ∉ X.ex → b ∉ ch := fun b o e hx hb => by
    rcases (hch b hb).1 with z | z
    · exact hx z
    · exact absurd (Nat.lt_of_lt_of_le (Heap.lt_size e) z) (Nat.lt_irrefl _)
  have cellK : ∀ x c, X.env.cells.lookup x = some c → ∀ v, s.heap.IsCell c v → h'.IsCell c v := fun x c e v ⟨o, ho, hd⟩ => by
    have nch : c ∉ ch := fun z => (hch c z).2.2.1 x c e rfl
    by_cases hc : c ∈ X.fs
    · obtain ⟨sl, q⟩ := slot c o (I.cne x c e) hc nch ho (I.freeC x c e)
      exact ⟨_, q, hd⟩
    · exact ⟨o, keep c o (I.cne x c e) hc nch ho (I.freeC x c e), hd⟩
  refine ⟨I.ok, I.os, hg, ⟨fun b o e n hb hx => ?_, fun b o e n hb hx => ?_, fun b o e n hx => ?_, fun b o e hx => ?_, fun b xs e => tups b xs (I.base.tups b xs e), fun b o xs e => frzs b o xs (I.base.frzs b o xs e), fun b ps e => ?_⟩, ?_, fun x c e => ?_, ?_, fun x c e => ?_, fun p hp => ?_, hok, I.len⟩
  · exact keep b o (neL b o e) hb (neC b o e hx) (I.base.keep b o e n hb hx) (I.base.free b o e n hx)
  · obtain ⟨sl, e1⟩ := I.base.slot b o e n hb hx
    obtain ⟨sl', e2⟩ := slot b _ (neL b o e) hb (neC b o e hx) e1 (I.base.free b o e n hx)
    exact ⟨sl', e2⟩
  · obtain ⟨o', e1⟩ := I.base.there b o e hx
    exact free b o' (neC b o e hx) e1 (I.base.free b o e n hx)
  · obtain ⟨o', e1⟩ := I.base.there b o e hx
    exact there b o' (neC b o e hx) e1
  · obtain ⟨m1, e1⟩ := I.base.tbls b ps e
    obtain ⟨m2, e2⟩ := tbls b _ e1
    exact ⟨m1 ++ m2, by rw [e2, Array.append_assoc]⟩
  · obtain ⟨m, hn, hl⟩ := I.loc
    refine ⟨m, ns m hn, fun i x v e1 e2 e3 => ?_⟩
    obtain ⟨u, r, l⟩ := hl i x v e1 e2 e3
    refine ⟨u, r, ?_⟩
    rcases l with l | ⟨k, c, e, z⟩
    · exact .inl l
    · exact .inr ⟨k, c, e, cellK x c e _ z⟩
  · obtain ⟨v, z⟩ := I.cell x c e
    exact ⟨v, cellK x c e v z⟩
  · obtain ⟨m, ⟨o, _, _, ho, _⟩, _⟩ := I.loc
    exact free _ o (fun z => (hch _ z).2.1 rfl) ho I.free
  · obtain ⟨v, o, ho, hd⟩ := I.cell x c e
    exact free c o (fun z => (hch c z).2.2.1 x c e rfl) ho (I.freeC x c e)
  · obtain ⟨e, n, ne, nf, d⟩ := I.pin p hp
    have nch : p.1 ∉ ch := fun z => (hch p.1 z).2.2.2 p hp rfl
    exact ⟨keep p.1 p.2 ne nf nch e n, free p.1 p.2 nch e n, ne, nf, d⟩
theorem Inv.un {t' : Nat} (I : Inv X pins σ H s) (u : Un X.fs [] H H' s.heap h') (hok : HOk X.prog X.w H' h') : Inv X pins σ H' { s with heap := h', toks := t' } := by
  obtain ⟨m, ⟨o, es, ep, ho, r⟩, _⟩ := id I.loc
  obtain ⟨sl, hL⟩ := u.any ho I.free (by simp)
  exact I.step (g' := s.gens) (d' := s.drawn) (ch := []) (fun _ z => nomatch z) (fun b o _ hb _ e n => u.keep b o e n hb (by simp)) (fun b o _ hb _ e n => u.slot b o e n hb (by simp)) (fun b o _ e n => u.free b o e n (by simp)) (fun b o _ e => u.there b o e (by simp)) u.tups u.frzs u.tbls (fun m' hm => by
    obtain ⟨o', es', ep', ho', r'⟩ := hm
    rw [ho] at ho'; cases ho'
    exact ⟨_, es', ep', hL, r'⟩) hok I.bare
theorem Inv.call {g' : Array GenState} {t' : Nat} {d' : Drawn} {ch : List Addr} (I : Inv X pins σ H s) (u : Un (frs X.stack) ch H H' s.heap h') (hok : HOk X.prog X.w H' h') (hg : AllBare g')
    (hch : ∀ b ∈ ch, (b ∈ X.ex ∨ X.s₀.heap.objs.size ≤ b) ∧ b ≠ X.env.locals ∧ (∀ x c, X.env.cells.lookup x = some c → c ≠ b) ∧ ∀ p ∈ X.pn ++ pins, p.1 ≠ b) :
    Inv X pins σ H' { s with heap := h', gens := g', drawn := d', toks := t' } := by
  obtain ⟨m, ⟨o, es, ep, ho, r⟩, _⟩ := id I.loc
  obtain ⟨sl, hL⟩ := u.any ho I.free fun z => (hch _ z).2.1 rfl
  exact I.step (ch := ch) hch (fun b o hL hb hc e n => u.keep b o e n (fun z => (List.mem_cons.mp (I.stkSub b z)).elim hL hb) hc) (fun b o _ _ hc e n => u.any e n hc) (fun b o hc e n => u.free b o e n hc) (fun b o hc e => u.there b o e hc) u.tups u.frzs u.tbls (fun m' hm => by
    obtain ⟨o', es', ep', ho', r'⟩ := hm
    rw [ho] at ho'; cases ho'
    exact ⟨_, es', ep', hL, r'⟩) hok hg
theorem Inv.turned {t' : Nat} {it : Addr} (I : Inv X pins σ H s) (k : ∀ b o, b ≠ it → s.heap.get? b = some o → h'.get? b = some o) (hn : H it = none) (hL : it ≠ X.env.locals)
    (h1 : it ∈ X.ex ∨ X.s₀.heap.objs.size ≤ it) (h2 : ∀ x c, X.env.cells.lookup x = some c → c ≠ it) (h3 : ∀ p ∈ X.pn ++ pins, p.1 ≠ it) : Inv X pins σ H { s with heap := h', toks := t' } := by
  have nit : ∀ b u, H b = some u → b ≠ it := fun b u e z => by rw [z, hn] at e; cases e
  refine I.step (g' := s.gens) (d' := s.drawn) (ch := [it]) (fun b hb => ?_) (fun b o _ _ hc e _ => k b o (fun z => hc (by simp [z])) e) (fun b o _ _ hc e _ => ⟨o.slots, k b o (fun z => hc (by simp [z])) e⟩) (fun _ _ _ _ n => n)
    (fun b o hc e => ⟨o, k b o (fun z => hc (by simp [z])) e⟩) (fun _ _ e => e) (fun _ _ _ e => e) (fun b ps e => ⟨#[], by rw [e]; simp⟩) (fun m hm => ?_) (fun b u e => ?_) I.bare
  · have e : b = it := by simpa using hb
    subst e
    exact ⟨h1, hL, h2, h3⟩
  · obtain ⟨o, es, ep, ho, r⟩ := hm
    exact ⟨o, es, ep, k _ o (Ne.symm hL) ho, r⟩
  · refine (I.hok b u e).stay (fun c v hc q => k c v ?_ q) (fun _ q => q) fun _ _ q => q
    rcases hc with z | z
    · rw [z]; exact nit b u e
    · exact nit c _ z
theorem Inv.tok (I : Inv X pins σ H s) (t : Nat) : Inv X pins σ H { s with toks := t } := I.un (h' := s.heap) (t' := t) Un.refl I.hok
theorem Inv.kept {t' : Nat} (I : Inv X pins σ H s) (k : ∀ b u, s.heap.get? b = some u → h'.get? b = some u) : Inv X pins σ H { s with heap := h', toks := t' } := I.un (Un.kept k) (I.hok.kept k)
theorem Inv.laid {a : Addr} {o : HO} {t' : Nat} (I : Inv X pins σ H s) (k : ∀ b u, s.heap.get? b = some u → h'.get? b = some u) (hp : s.heap.objs.size ≤ a) (new : ObjOk X.prog X.w (upd H a o) h' a o) :
    Inv X pins σ (upd H a o) { s with heap := h', toks := t' } := I.un (Un.laid k hp (I.hok.fresh hp)) (I.hok.laid k hp new)
theorem Inv.write {x e : Addr} {o : HO} {t' : Nat} (I : Inv X pins σ H s) (mu : Mut (H x)) (he : e = x ∨ H e = some (.own x)) (k : ∀ b u, b ≠ e → s.heap.get? b = some u → h'.get? b = some u) (heo : ∃ u, h'.get? e = some u)
    (new : ObjOk X.prog X.w (upd H x o) h' x o) : Inv X pins σ (upd H x o) { s with heap := h', toks := t' } := I.un (Un.write mu he k heo) (I.hok.write mu he k heo new)
theorem Inv.pins_of {pins' : List (Addr × Obj)} (I : Inv X pins σ H s) (h : ∀ p ∈ pins', s.heap.get? p.1 = some p.2 ∧ H p.1 = none ∧ p.1 ≠ X.env.locals ∧ p.1 ∉ X.fs ∧ ∀ v, p.2.data ≠ .cell v) : Inv X pins' σ H s :=
  ⟨I.ok, I.os, I.bare, I.base, I.loc, I.cell, I.free, I.freeC, fun p hp => (List.mem_append.mp hp).elim (fun z => I.pin p (List.mem_append_left _ z)) (h p), I.hok, I.len⟩
theorem nodup_ix {N : List Str} (hN : N.Nodup) {i j : Nat} {x : Str} (a : N[i]? = some x) (b : N[j]? = some x) : i = j := by
  obtain ⟨h1, e1⟩ := List.getElem?_eq_some_iff.mp a
  obtain ⟨h2, e2⟩ := List.getElem?_eq_some_iff.mp b
  exact (List.getElem_inj hN).mp (e1.trans e2.symm)
theorem store_ok2 {M : Model} {A : Around} {E : Value → Shared → Prop} {i : Nat} {x : Str} {v : V} {u : Value} {Q : Unit → Shared → Prop} (I : Inv X pins σ H s) (hN : X.N.Nodup) (hi : X.N[i]? = some x) (hx : Loc X.env.scope x) (r : RelV v u)
    (h : ∀ s', Inv X pins (σ.set i (some v)) H s' → (∃ a, Heap.SameBut a s.heap s'.heap ∧ (a = X.env.locals ∨ X.env.cells.lookup x = some a)) → Q () s') (hf : X.fn x = true ∨ X.env.scope.names.lookup x = some .local := by first | exact .inl rfl | exact .inr rfl | assumption) : wpAny M A (storeName X.env x u) Q E s := by
  obtain ⟨m, hn, hl⟩ := id I.loc
  have hcls : (X.env.scope.kind == .class || (X.env.scope.kind == .module && X.env.locals != X.env.globals)) = false := by rw [I.ok.kind]; rfl
  have hiσ : i < σ.length := by rw [I.len]; exact (List.getElem?_eq_some_iff.mp hi).1
  have cne := I.cne
  have tracked : ∀ {a : Addr} {h' : Heap}, (∃ o, s.heap.get? a = some o ∧ H a = none) → Heap.SameBut a s.heap h' → HOk X.prog X.w H h' := fun {a h'} ha hs b ob e => by
    obtain ⟨_, _, hfree⟩ := ha
    refine (I.hok b ob e).stay (fun c w' hc q => (hs.2 c ?_).trans q) (fun _ q => q) fun _ _ q => q
    rintro rfl
    rcases hc with rfl | hc
    · rw [hfree] at e; cases e
    · rw [hfree] at hc; cases hc
  rcases hx with hk | hk
  · refine wpAny_storeName_local hk hn (fun h' hn' hs => ?_) hcls
    obtain ⟨oL, _, _, hoL, _⟩ := id hn
    refine h _ ⟨I.ok, I.os, I.bare, ⟨fun b o e n hb hx => ?_, fun b o e n hb hx => ?_, I.base.free, fun b o e hx => ?_, I.base.tups, I.base.frzs, I.base.tbls⟩, ⟨_, hn', fun j y v' e1 e2 e3 => ?_⟩, fun y c e => ?_, I.free, I.freeC, fun p hp => ?_, tracked ⟨oL, hoL, I.free⟩ hs, by simpa using I.len⟩ ⟨_, hs, .inl rfl⟩
    · exact (hs.2 b (Nat.ne_of_lt (Nat.lt_of_lt_of_le (Heap.lt_size e) I.ok.above))).trans (I.base.keep b o e n hb hx)
    · obtain ⟨sl, e1⟩ := I.base.slot b o e n hb hx
      exact ⟨sl, (hs.2 b (Nat.ne_of_lt (Nat.lt_of_lt_of_le (Heap.lt_size e) I.ok.above))).trans e1⟩
    · obtain ⟨o', e1⟩ := I.base.there b o e hx
      exact ⟨o', (hs.2 b (Nat.ne_of_lt (Nat.lt_of_lt_of_le (Heap.lt_size e) I.ok.above))).trans e1⟩
    · by_cases hj : j = i
      · subst hj
        rw [hi] at e1; cases e1
        rw [List.getElem?_set_self hiσ] at e2
        cases e2
        exact ⟨u, r, .inl ⟨hk, by simp⟩⟩
      · rw [List.getElem?_set_ne (Ne.symm hj)] at e2
        obtain ⟨u', r', q⟩ := hl j y v' e1 e2 e3
        refine ⟨u', r', ?_⟩
        rcases q with ⟨k, e⟩ | ⟨k, c, e, z⟩
        · refine .inl ⟨k, ?_⟩
          have : y ≠ x := fun e => hj (nodup_ix hN e1 (e ▸ hi))
          simp [this, e]
        · exact .inr ⟨k, c, e, z.sameBut hs (cne y c e)⟩
    · obtain ⟨w', z⟩ := I.cell y c e
      exact ⟨w', z.sameBut hs (cne y c e)⟩
    · obtain ⟨e, n, ne, nf, d⟩ := I.pin p hp
      exact ⟨(hs.2 p.1 ne).trans e, n, ne, nf, d⟩
  · have hfn : X.fn x = true := by
      rcases hf with z | z
      · exact z
      · rw [z] at hk; cases hk
    obtain ⟨c, hc⟩ := I.ok.has x (.inl hk)
    obtain ⟨w', z⟩ := I.cell x c hc
    refine wpAny_storeName_cell I.ok.kind hk hc z (fun h' hc' hs => ?_)
    obtain ⟨oc, hoc, hocd⟩ := id z
    refine h { s with heap := h' } ⟨I.ok, I.os, I.bare, ⟨fun b o e n hb hx => ?_, fun b o e n hb hx => ?_, I.base.free, fun b o e hx => ?_, I.base.tups, I.base.frzs, I.base.tbls⟩, ⟨m, hn.sameBut hs (Ne.symm (cne x c hc)), fun j y v' e1 e2 e3 => ?_⟩, fun y c' e => ?_, I.free, I.freeC, fun p hp => ?_, tracked ⟨oc, hoc, I.freeC x c hc⟩ hs, by simpa using I.len⟩ ⟨c, hs, .inr hc⟩
    · exact (hs.2 b (Nat.ne_of_lt (Nat.lt_of_lt_of_le (Heap.lt_size e) (I.ok.cab x c hfn hc)))).trans (I.base.keep b o e n hb hx)
    · obtain ⟨sl, e1⟩ := I.base.slot b o e n hb hx
      exact ⟨sl, (hs.2 b (Nat.ne_of_lt (Nat.lt_of_lt_of_le (Heap.lt_size e) (I.ok.cab x c hfn hc)))).trans e1⟩
    · obtain ⟨o', e1⟩ := I.base.there b o e hx
      exact ⟨o', (hs.2 b (Nat.ne_of_lt (Nat.lt_of_lt_of_le (Heap.lt_size e) (I.ok.cab x c hfn hc)))).trans e1⟩
    · by_cases hj : j = i
      · subst hj
        rw [hi] at e1; cases e1
        rw [List.getElem?_set_self hiσ] at e2
        cases e2
        exact ⟨u, r, .inr ⟨.inl hk, c, hc, hc'⟩⟩
      · rw [List.getElem?_set_ne (Ne.symm hj)] at e2
        obtain ⟨u', r', q⟩ := hl j y v' e1 e2 e3
        refine ⟨u', r', ?_⟩
        rcases q with q | ⟨k, c', e, z'⟩
        · exact .inl q
        · refine .inr ⟨k, c', e, z'.sameBut hs ?_⟩
          rintro rfl
          exact hj (nodup_ix hN e1 (I.ok.inj _ _ _ e hc ▸ hi))
    · by_cases hcc : c' = c
      · subst hcc; exact ⟨_, hc'⟩
      · obtain ⟨w2, z2⟩ := I.cell y c' e
        exact ⟨w2, z2.sameBut hs hcc⟩
    · obtain ⟨e, n, ne, nf, d⟩ := I.pin p hp
      refine ⟨(hs.2 p.1 ?_).trans e, n, ne, nf, d⟩
      intro q
      rw [q, hoc] at e
      have q' : oc = p.2 := Option.some.inj e
      exact d w' (by rw [← q']; exact hocd)
theorem store_ok {M : Model} {A : Around} {E : Value → Shared → Prop} {i : Nat} {x : Str} {v : V} {u : Value} {Q : Unit → Shared → Prop} (I : Inv X pins σ H s) (hN : X.N.Nodup) (hi : X.N[i]? = some x) (hx : Loc X.env.scope x) (r : RelV v u)
    (h : ∀ s', Inv X pins (σ.set i (some v)) H s' → Q () s') (hf : X.fn x = true ∨ X.env.scope.names.lookup x = some .local := by first | exact .inl rfl | exact .inr rfl | assumption) : wpAny M A (storeName X.env x u) Q E s :=
  store_ok2 I hN hi hx r (fun s' I' _ => h s' I') hf
theorem Inv.call' {s' : Shared} {ch : List Addr} (I : Inv X pins σ H s) (ho : s'.os = s.os) (u : Un (frs X.stack) ch H H' s.heap s'.heap) (hok : HOk X.prog X.w H' s'.heap) (hg : AllBare s'.gens)
    (hch : ∀ b ∈ ch, (b ∈ X.ex ∨ X.s₀.heap.objs.size ≤ b) ∧ b ≠ X.env.locals ∧ (∀ x c, X.env.cells.lookup x = some c → c ≠ b) ∧ ∀ p ∈ X.pn ++ pins, p.1 ≠ b) : Inv X pins σ H' s' := by
  obtain ⟨h', g', d', t', o'⟩ := s'
  have e : o' = s.os := ho
  subst e
  exact I.call (g' := g') (t' := t') (d' := d') u hok hg hch
end
abbrev XK := Value → Option Addr → Hp → Prop
abbrev St := List (Option V)
abbrev VK := V → Hp → Prop
abbrev TE := St → Hp → VK → Prop
abbrev TT := St → Hp → (Bool → Hp → Prop) → Prop
abbrev TA := St → Hp → (List V → Hp → Prop) → Prop
structure Ends where
  nx : St → Hp → Prop
  rt : VK
  bk : St → Hp → Prop := fun _ _ => False
  ct : St → Hp → Prop := fun _ _ => False
abbrev TS := Ends → St → Hp → Prop
def EP (X : Cx) (pins : List (Addr × Obj)) (σ : St) (Q : VK) (u : Value) (s' : Shared) : Prop := ∃ v H', Inv X pins σ H' s' ∧ RelV v u ∧ Q v H'
def TP (X : Cx) (pins : List (Addr × Obj)) (σ : St) (Q : Bool → Hp → Prop) (b : Bool) (s' : Shared) : Prop := ∃ H', Inv X pins σ H' s' ∧ Q b H'
def AP (X : Cx) (pins : List (Addr × Obj)) (σ : St) (Q : List V → Hp → Prop) (us : List Value) (s' : Shared) : Prop := ∃ vs H', Inv X pins σ H' s' ∧ Vals vs us ∧ Q vs H'
def SP (X : Cx) (pins : List (Addr × Obj)) (D : Ends) (f : Flow) (s' : Shared) : Prop :=
  match f with
  | .next => ∃ σ' H', Inv X pins σ' H' s' ∧ D.nx σ' H'
  | .brk => ∃ σ' H', Inv X pins σ' H' s' ∧ D.bk σ' H'
  | .cont => ∃ σ' H', Inv X pins σ' H' s' ∧ D.ct σ' H'
  | .ret u => ∃ v σ' H', Inv X pins σ' H' s' ∧ RelV v u ∧ D.rt v H'
def PE (X : Cx) (e : Expr) (t : TE) : Prop :=
  ∀ (pins : List (Addr × Obj)) (s : Shared) (σ : St) (H : Hp) (Q : VK), Inv X pins σ H s → t σ H Q → wpAny (model X.prog X.w) X.A (eval e X.env) (EP X pins σ Q) X.xe s
def PT (X : Cx) (e : Expr) (t : TT) : Prop :=
  ∀ (pins : List (Addr × Obj)) (s : Shared) (σ : St) (H : Hp) (Q : Bool → Hp → Prop), Inv X pins σ H s → t σ H Q → wpAny (model X.prog X.w) X.A (isTrue e X.env (eval e X.env)) (TP X pins σ Q) X.xe s
def PW (X : Cx) (e : Expr) (t : TT) : Prop :=
  ∀ (whole : Sem Value) (pins : List (Addr × Obj)) (s : Shared) (σ : St) (H : Hp) (Q : Bool → Hp → Prop), Inv X pins σ H s → t σ H Q → wpAny (model X.prog X.w) X.A (isTrue e X.env whole) (TP X pins σ Q) X.xe s
theorem PW.pt {X : Cx} {e : Expr} {t : TT} (h : PW X e t) : PT X e t := h _
def PA (X : Cx) (es : List Expr) (t : TA) : Prop :=
  ∀ (pos : Pos) (pins : List (Addr × Obj)) (s : Shared) (σ : St) (H : Hp) (Q : List V → Hp → Prop), Inv X pins σ H s → t σ H Q → wpAny (model X.prog X.w) X.A (spliced (backTo pos (starEach es X.env))) (AP X pins σ Q) X.xe s
def PS (X : Cx) (st : Stmt) (t : TS) : Prop :=
  ∀ (pins : List (Addr × Obj)) (s : Shared) (σ : St) (H : Hp) (D : Ends), Inv X pins σ H s → t D σ H → wpAny (model X.prog X.w) X.A (exec st X.env) (SP X pins D) X.xe s
def PSs (X : Cx) (st : List Stmt) (t : TS) : Prop :=
  ∀ (pins : List (Addr × Obj)) (s : Shared) (σ : St) (H : Hp) (D : Ends), Inv X pins σ H s → t D σ H → wpAny (model X.prog X.w) X.A (execs st X.env) (SP X pins D) X.xe s
theorem thn {α : Type} {t : Sem α} {Q Q' : α → Shared → Prop} {M : Model} {A : Around} {E : Value → Shared → Prop} {s : Shared} (h : wpAny M A t Q E s) (hQ : ∀ a s, Q a s → Q' a s) : wpAny M A t Q' E s := wpAny_mono h hQ fun _ _ x => x
end L2
namespace L2
open PySem PySem.Spec PyProof.Rows
section
variable {X : Cx}
theorem bin {a b : Expr} {ta tb : TE} (ha : PE X a ta) (hb : PE X b tb) {pins : List (Addr × Obj)} {s : Shared} {σ : St} {H : Hp} {R : V → V → Hp → Prop} (I : Inv X pins σ H s) (h : ta σ H fun x H1 => tb σ H1 fun y H2 => R x y H2)
    {α : Type} {Q : α → Shared → Prop} {f : Value → Value → Sem α}
    (hf : ∀ v u s2 x y H2, Inv X pins σ H2 s2 → RelV x v → RelV y u → R x y H2 → wpAny (model X.prog X.w) X.A (f v u) Q X.xe s2) :
    wpAny (model X.prog X.w) X.A (eval a X.env) (fun v s₁ => wpAny (model X.prog X.w) X.A (eval b X.env) (fun u s₂ => wpAny (model X.prog X.w) X.A (f v u) Q X.xe s₂) X.xe s₁) X.xe s := by
  refine thn (ha pins s σ H _ I h) fun v s1 ⟨x, H1, I1, r1, q1⟩ => ?_
  refine thn (hb pins s1 σ H1 _ I1 q1) fun u s2 ⟨y, H2, I2, r2, q2⟩ => ?_
  exact hf v u s2 x y H2 I2 r1 r2 q2
def tVar (i : Nat) : TE := fun σ H Q => ∃ v, σ[i]? = some (some v) ∧ Q v H
def tC (v : V) : TE := fun _ H Q => Q v H
theorem pe_var {i : Nat} {x : Str} {pos : Pos} (hN : X.N[i]? = some x) (hv : Vis X.env.scope x) (hd : (x == ("__debug__" : Str)) = false := by decide) (hcd : (x == ("__classdict__" : Str)) = false := by decide) : PE X (.Name x pos) (tVar i) := by
  intro pins s σ H Q I h
  obtain ⟨v, e, h⟩ := h
  obtain ⟨m, hn, hl⟩ := I.loc
  obtain ⟨u, r, l⟩ := hl i x v hN e hv
  have fin : EP X pins σ Q u s := ⟨v, H, I, r, h⟩
  rcases l with ⟨hk, hm⟩ | ⟨hk, c, hc, hcell⟩
  · exact wpAny_Name (wpAny_loadName_local I.ok.kind hk hn hm fin) hd
  · rcases hk with hk | hk
    · exact wpAny_Name (wpAny_loadName_cell I.ok.kind hk hc hcell fin) hd
    · exact wpAny_Name (wpAny_loadName_free I.ok.kind hk hc hcell fin hcd) hd
theorem pe_int {i j pos} : PE X (.Constant (.int i) j pos) (tC (.int i)) := fun _ _ _ H _ I h => wpAny_Constant_int ⟨.int i, H, I.tok _, ⟨_, rfl⟩, h⟩
theorem pe_bl {b j pos} : PE X (.Constant (.bool b) j pos) (tC (.bl b)) := fun _ _ _ H _ I h => Constant_bool ⟨.bl b, H, I, rfl, h⟩
theorem pe_non {j pos} : PE X (.Constant .none j pos) (tC .non) := fun _ _ _ H _ I h => Constant_none ⟨.non, H, I, rfl, h⟩
theorem pe_str {x j pos} : PE X (.Constant (.str x) j pos) (tC (.str x)) := fun _ _ _ H _ I h => Calls.Constant_str ⟨.str x, H, I.tok _, ⟨_, rfl⟩, h⟩
def Gl (X : Cx) (x : Str) : Prop := X.env.kindOf x = some .globalImplicit
theorem ld_glob {E : Value → Shared → Prop} {pins : List (Addr × Obj)} {s : Shared} {σ : St} {H : Hp} {x : Str} {u : Value} {pos : Pos} {Q : Value → Shared → Prop} (I : Inv X pins σ H s) (hg : Gl X x) (hm : X.mg x = some u) (h : Q u s)
    (hd : (x == ("__debug__" : Str)) = false := by decide) : wpAny (model X.prog X.w) X.A (eval (.Name x pos) X.env) Q E s :=
  Calls.Name_function_global I.ok.kind hg (Calls.loadGlobal_global (by rw [I.ok.glob]; exact I.mod.glob.keeps I.bk) hm h) hd
theorem ld_blt {E : Value → Shared → Prop} {pins : List (Addr × Obj)} {s : Shared} {σ : St} {H : Hp} {x : Str} {u : Value} {pos : Pos} {Q : Value → Shared → Prop} (I : Inv X pins σ H s) (hg : Gl X x) (hm : X.mg x = none) (hv : bootBuiltins x = some u) (h : Q u s)
    (hn : x ≠ "__name__" := by decide) (hd : (x == ("__debug__" : Str)) = false := by decide) : wpAny (model X.prog X.w) X.A (eval (.Name x pos) X.env) Q E s := by
  obtain ⟨mb, h1, h2⟩ := I.mod.blt
  exact Calls.Name_function_global I.ok.kind hg (Calls.loadGlobal_builtin (by rw [I.ok.glob]; exact I.mod.glob.keeps I.bk) hm (by rw [I.ok.blt]; exact h1.keeps I.bk) ((h2 x hn).trans hv) h) hd
theorem pe_glob {x : Str} {v : V} {u : Value} {pos : Pos} (hg : Gl X x) (hm : X.mg x = some u) (r : RelV v u) (hd : (x == ("__debug__" : Str)) = false := by decide) : PE X (.Name x pos) (tC v) :=
  fun _ _ _ H _ I h => ld_glob I hg hm ⟨v, H, I, r, h⟩ hd
theorem pe_bltn {x : Str} {v : V} {u : Value} {pos : Pos} (hg : Gl X x) (hm : X.mg x = none) (hv : bootBuiltins x = some u) (r : RelV v u) (hn : x ≠ "__name__" := by decide) (hd : (x == ("__debug__" : Str)) = false := by decide) : PE X (.Name x pos) (tC v) :=
  fun _ _ _ H _ I h => ld_blt I hg hm hv ⟨v, H, I, r, h⟩ hn hd
variable {a b : Expr} {ta tb : TE} {pos : Pos}
def PC (X : Cx) (op : CmpOp) (a b : Expr) (t : TE) : Prop :=
  ∀ (pins : List (Addr × Obj)) (s : Shared) (σ : St) (H : Hp) (Q : VK), Inv X pins σ H s → t σ H Q →
    wpAny (model X.prog X.w) X.A (eval a X.env) (fun v s₁ => wpAny (model X.prog X.w) X.A (eval b X.env) (fun u s₂ => wpAny (model X.prog X.w) X.A (compareOp op v u) (EP X pins σ Q) X.xe s₂) X.xe s₁) X.xe s
theorem nobehind (b : Expr) {op : CmpOp} (h : op ≠ .In) (h2 : op ≠ .NotIn) : behindInMarks op b = false := by
  have e1 : (op == CmpOp.In) = false := by cases op <;> first | rfl | exact absurd rfl h
  have e2 : (op == CmpOp.NotIn) = false := by cases op <;> first | rfl | exact absurd rfl h2
  cases b <;> simp [behindInMarks, e1, e2]
def tB (t : TE) : TT := fun σ H Q => t σ H fun x H1 => ∃ c, x = .bl c ∧ Q c H1
theorem pt_cmp {op : CmpOp} {t : TE} (h : PC X op a b t) (h1 : behindInMarks op b = false := by first | exact nobehind _ (by decide) (by decide) | rfl) : PT X (.Compare a [op] [b] pos) (tB t) := by
  intro pins s σ H Q I hw
  refine wpAny_isTrue_Compare1 (thn (h pins s σ H _ I hw) fun v s1 h1 => thn h1 fun u s2 h2 => thn h2 fun c s3 ⟨x, H1, I1, r1, q1⟩ => ?_) h1
  obtain ⟨d, rfl, q⟩ := q1
  cases r1
  exact wpAny_truthy_bool ⟨H1, I1, q⟩
theorem pt_val {e : Expr} {t : TE} (h : PE X e t) (he : ∀ whole, isTrue e X.env whole = (do let v ← whole; standAt e.pos; holding [v] (truthy v)) := by intro _; rfl) : PT X e (tB t) := by
  intro pins s σ H Q I hw
  refine isTrue_plain (thn (h pins s σ H _ I hw) fun v s1 ⟨x, H1, I1, r1, q1⟩ => ?_) (he _)
  obtain ⟨d, rfl, q⟩ := q1
  cases r1
  exact wpAny_truthy_bool ⟨H1, I1, q⟩
variable {tA tB' : TT} {rest : List Expr}
def tAnd (t u : TT) : TT := fun σ H Q => t σ H fun c H1 => if c = true then u σ H1 Q else Q false H1
def tOr (t u : TT) : TT := fun σ H Q => t σ H fun c H1 => if c = true then Q true H1 else u σ H1 Q
def tNot (t : TT) : TT := fun σ H Q => t σ H fun c H1 => Q (!c) H1
theorem pw_and1 (ha : PT X a tA) : PW X (.BoolOp .And [a] pos) tA := by
  intro wh pins s σ H Q I h
  refine isTrue_and (thn (ha pins s σ H Q I h) fun c s1 e => ?_)
  cases c with
  | true => exact isTrue_and_nil e
  | false => exact e
theorem pw_or1 (ha : PT X a tA) : PW X (.BoolOp .Or [a] pos) tA := by
  intro wh pins s σ H Q I h
  refine isTrue_or (thn (ha pins s σ H Q I h) fun c s1 e => ?_)
  cases c with
  | false => exact isTrue_or_nil e
  | true => exact e
theorem pw_and (ha : PT X a tA) (hb : PW X (.BoolOp .And (b :: rest) pos) tB') : PW X (.BoolOp .And (a :: b :: rest) pos) (tAnd tA tB') := by
  intro wh pins s σ H Q I h
  refine isTrue_and (thn (ha pins s σ H _ I h) fun c s1 ⟨H1, I1, q1⟩ => ?_)
  cases c with
  | true => exact hb wh pins s1 σ H1 Q I1 q1
  | false => exact ⟨H1, I1, q1⟩
theorem pw_or (ha : PT X a tA) (hb : PW X (.BoolOp .Or (b :: rest) pos) tB') : PW X (.BoolOp .Or (a :: b :: rest) pos) (tOr tA tB') := by
  intro wh pins s σ H Q I h
  refine isTrue_or (thn (ha pins s σ H _ I h) fun c s1 ⟨H1, I1, q1⟩ => ?_)
  cases c with
  | true => exact ⟨H1, I1, q1⟩
  | false => exact hb wh pins s1 σ H1 Q I1 q1
theorem pt_not (ha : PT X a tA) : PT X (.UnaryOp .Not a pos) (tNot tA) := by
  intro pins s σ H Q I h
  exact isTrue_not (ha pins s σ H (fun c H1 => Q (!c) H1) I h)
def tAndV (ta tb : TE) : TE := fun σ H Q => ta σ H fun x H1 => ∃ c, x = .bl c ∧ if c = true then tb σ H1 Q else Q (.bl false) H1
def tOrV (ta tb : TE) : TE := fun σ H Q => ta σ H fun x H1 => ∃ c, x = .bl c ∧ if c = true then Q (.bl true) H1 else tb σ H1 Q
def tNotV (ta : TE) : TE := fun σ H Q => ta σ H fun x H1 => ∃ c, x = .bl c ∧ Q (.bl (!c)) H1
theorem pe_one {op} {t : TE} (h : PE X a t) : PE X (.BoolOp op [a] pos) t := fun pins s σ H Q I hw => BoolOp_one (h pins s σ H Q I hw)
theorem pe_and (ha : PE X a ta) (hb : PE X (.BoolOp .And (b :: rest) pos) tb) : PE X (.BoolOp .And (a :: b :: rest) pos) (tAndV ta tb) := by
  intro pins s σ H Q I h
  refine BoolOp_and (thn (ha pins s σ H _ I h) fun v s1 ⟨x, H1, I1, r1, q1⟩ => ?_)
  obtain ⟨c, rfl, q1⟩ := q1
  cases r1
  refine wpAny_truthy_bool ?_
  cases c with
  | true => exact hb pins s1 σ H1 Q I1 q1
  | false => exact ⟨.bl false, H1, I1, rfl, q1⟩
theorem pe_or (ha : PE X a ta) (hb : PE X (.BoolOp .Or (b :: rest) pos) tb) : PE X (.BoolOp .Or (a :: b :: rest) pos) (tOrV ta tb) := by
  intro pins s σ H Q I h
  refine BoolOp_or (thn (ha pins s σ H _ I h) fun v s1 ⟨x, H1, I1, r1, q1⟩ => ?_)
  obtain ⟨c, rfl, q1⟩ := q1
  cases r1
  refine wpAny_truthy_bool ?_
  cases c with
  | false => exact hb pins s1 σ H1 Q I1 q1
  | true => exact ⟨.bl true, H1, I1, rfl, q1⟩
theorem pe_not (ha : PE X a ta) : PE X (.UnaryOp .Not a pos) (tNotV ta) := by
  intro pins s σ H Q I h
  refine UnaryOp_ (thn (ha pins s σ H _ I h) fun v s1 ⟨x, H1, I1, r1, q1⟩ => ?_)
  obtain ⟨c, rfl, q1⟩ := q1
  cases r1
  exact not_of (wpAny_truthy_bool ⟨.bl (!c), H1, I1, rfl, q1⟩)
def tIf (t : TT) (ta tb : TE) : TE := fun σ H Q => t σ H fun c H1 => if c = true then ta σ H1 Q else tb σ H1 Q
theorem pe_ifExp {c : Expr} (hc : PT X c tA) (ha : PE X a ta) (hb : PE X b tb) : PE X (.IfExp c a b pos) (tIf tA ta tb) := by
  intro pins s σ H Q I h
  refine wpAny_IfExp (thn (hc pins s σ H _ I h) fun d s1 ⟨H1, I1, q1⟩ => ?_)
  cases d with
  | true => exact ha pins s1 σ H1 Q I1 q1
  | false => exact hb pins s1 σ H1 Q I1 q1
end
end L2
namespace L2
open PySem PySem.Spec PyProof.Rows
def SqL (K : PySem.W.Frag) (H : Hp) (a : Addr) (xs : List V) : Prop :=
  Rd H a (.lst xs) ∨
    ∃ (o : Obj) (its : Array Value) (n : Nat), K.lookup a = some o ∧ o.cls = .type "list" ∧ o.dict = none ∧ o.data = .seq its n ∧ its.size ≤ sizeLine ∧ Vals xs its.toList
def SqT (K : PySem.W.Frag) (H : Hp) (a : Addr) (xs : List V) : Prop :=
  Rd H a (.tup xs) ∨
    ∃ (o : Obj) (its : Array Value) (n : Nat), K.lookup a = some o ∧ o.cls = .type "tuple" ∧ o.data = .seq its n ∧ its.size ≤ sizeLine ∧ Vals xs its.toList
def absV : Value → Option V
  | .none => some .non
  | .bool b => some (.bl b)
  | .int i _ => some (.int i)
  | .str x _ => some (.str x)
  | .bytes b _ => some (.byt b)
  | .float b _ => some (.flt b)
  | .ref a => some (.ref a)
  | .type n => some (.ty n)
  | _ => none
theorem RelV.abs {x : V} {u : Value} (r : RelV x u) : absV u = some x := by
  cases x with
  | non => cases r; rfl
  | bl _ => cases r; rfl
  | int _ => obtain ⟨t, rfl⟩ := r; rfl
  | str _ => obtain ⟨t, rfl⟩ := r; rfl
  | byt _ => obtain ⟨t, rfl⟩ := r; rfl
  | flt _ => obtain ⟨t, rfl⟩ := r; rfl
  | ref _ => cases r; rfl
  | ty _ => cases r; rfl
theorem RelV.inj {x y : V} {u : Value} (r : RelV x u) (q : RelV y u) : x = y := Option.some.inj (r.abs.symm.trans q.abs)
theorem Vals.inj : ∀ {xs ys : List V} {us : List Value}, Vals xs us → Vals ys us → xs = ys
  | _, _, _, .nil, .nil => rfl
  | _, _, _, .cons r t, .cons r' t' => by rw [r.inj r', Vals.inj t t']
section
variable {X : Cx} {pins : List (Addr × Obj)} {σ : St} {H : Hp} {s : Shared} {a : Addr} {xs ys : List V}
theorem SqL.of {K : PySem.W.Frag} (h : H a = some (.lst xs)) : SqL K H a xs := .inl (.inl h)
theorem SqT.of {K : PySem.W.Frag} (h : H a = some (.tup xs)) : SqT K H a xs := .inl (.inl h)
theorem Inv.list (I : Inv X pins σ H s) (h : SqL X.K H a xs) : ∃ its : List Value, Vals xs its ∧ PlainL s.heap a its.toArray ∧ xs.length ≤ sizeLine := by
  rcases h with h | ⟨o, its, n, hk, hc, hd, hs, hz, r⟩
  · obtain ⟨z, its, n, r, e⟩ := h.ok I.hok
    exact ⟨its, r, ⟨_, n, e, rfl, rfl, rfl⟩, z⟩
  · refine ⟨its.toList, r, ⟨o, n, I.kIn a o hk, hc, hd, by simpa using hs⟩, ?_⟩
    have e := r.length
    simp only [Array.length_toList] at e
    omega
theorem Inv.tuple (I : Inv X pins σ H s) (h : SqT X.K H a xs) : ∃ its : List Value, Vals xs its ∧ IsTup s.heap a its.toArray ∧ xs.length ≤ sizeLine := by
  rcases h with h | ⟨o, its, n, hk, hc, hs, hz, r⟩
  · obtain ⟨z, its, r, p⟩ := h.ok I.hok
    exact ⟨its, r, p, z⟩
  · refine ⟨its.toList, r, ⟨o, I.kIn a o hk, hc, n, by simpa using hs⟩, ?_⟩
    have e := r.length
    simp only [Array.length_toList] at e
    omega
theorem Inv.list_inj (I : Inv X pins σ H s) (h : SqL X.K H a xs) (h' : SqL X.K H a ys) : xs = ys := by
  obtain ⟨its, r, ⟨o, n, e, _, _, d⟩, _⟩ := I.list h
  obtain ⟨its', r', ⟨o', n', e', _, _, d'⟩, _⟩ := I.list h'
  rw [e] at e'; cases e'
  rw [d] at d'
  injection d' with d1 _
  have : its = its' := by simpa using congrArg Array.toList d1
  subst this
  exact r.inj r'
theorem Inv.tuple_inj (I : Inv X pins σ H s) (h : SqT X.K H a xs) (h' : SqT X.K H a ys) : xs = ys := by
  obtain ⟨its, r, ⟨o, e, _, n, d⟩, _⟩ := I.tuple h
  obtain ⟨its', r', ⟨o', e', _, n', d'⟩, _⟩ := I.tuple h'
  rw [e] at e'; cases e'
  rw [d] at d'
  injection d' with d1 _
  have : its = its' := by simpa using congrArg Array.toList d1
  subst this
  exact r.inj r'
end
abbrev Cx.wish (X : Cx) (E : Value → Shared → Prop) : Cx := { X with xe := E }
abbrev Cx.nox (X : Cx) : Cx := X.wish fun _ _ => False
theorem Cx.Ok.wish {X : Cx} (ok : X.Ok) (E : Value → Shared → Prop) : (X.wish E).Ok :=
  ⟨ok.mod, ok.kind, ok.glob, ok.blt, ok.above, ok.inj, ok.has, ok.cab, ok.hd, ok.frames, ok.stk, ok.exf, ok.bs, ok.bsz, ok.noex, ok.exfs, ok.funs, ok.frf⟩
theorem Cx.Ok.unwish {X : Cx} {E : Value → Shared → Prop} (ok : (X.wish E).Ok) : X.Ok :=
  ⟨ok.mod, ok.kind, ok.glob, ok.blt, ok.above, ok.inj, ok.has, ok.cab, ok.hd, ok.frames, ok.stk, ok.exf, ok.bs, ok.bsz, ok.noex, ok.exfs, ok.funs, ok.frf⟩
section
variable {X : Cx} {pins : List (Addr × Obj)} {σ : St} {H : Hp} {s : Shared} {E : Value → Shared → Prop}
theorem Inv.wish (I : Inv X pins σ H s) (E : Value → Shared → Prop) : Inv (X.wish E) pins σ H s := ⟨I.ok.wish E, I.os, I.bare, I.base, I.loc, I.cell, I.free, I.freeC, I.pin, I.hok, I.len⟩
theorem Inv.unwish (I : Inv (X.wish E) pins σ H s) : Inv X pins σ H s := ⟨I.ok.unwish, I.os, I.bare, I.base, I.loc, I.cell, I.free, I.freeC, I.pin, I.hok, I.len⟩
theorem SP.unwish {D : Ends} {f : Flow} {s' : Shared} (h : SP (X.wish E) pins D f s') : SP X pins D f s' := by
  cases f with
  | next => obtain ⟨σ', H', I, q⟩ := h; exact ⟨σ', H', I.unwish, q⟩
  | brk => obtain ⟨σ', H', I, q⟩ := h; exact ⟨σ', H', I.unwish, q⟩
  | cont => obtain ⟨σ', H', I, q⟩ := h; exact ⟨σ', H', I.unwish, q⟩
  | ret u => obtain ⟨v, σ', H', I, r, q⟩ := h; exact ⟨v, σ', H', I.unwish, r, q⟩
theorem PSs.nox {st : List Stmt} {t : TS} (h : PSs X.nox st t) : PSs X st t := fun pins s σ H D I hw =>
  wpAny_mono (h pins s σ H D (I.wish _) hw) (fun _ _ q => q.unwish) fun _ _ z => False.elim z
end
section
variable {X : Cx} {st : Stmt} {rest : List Stmt} {t u : TS} {e : Expr} {te : TE} {pos : Pos}
def tNext : TS := fun D σ H => D.nx σ H
def tSeq (t u : TS) : TS := fun D σ H => t { D with nx := u D } σ H
theorem pss_nil : PSs X [] tNext := fun _ _ σ H _ I h => wpAny_execs_nil ⟨σ, H, I, h⟩
theorem pss_cons (h1 : PS X st t) (h2 : PSs X rest u) : PSs X (st :: rest) (tSeq t u) := by
  intro pins s σ H D I h
  refine wpAny_execs_cons (thn (h1 pins s σ H { D with nx := u D } I h) fun f s1 q => ?_)
  cases f with
  | next =>
    obtain ⟨σ', H', I', q⟩ := q
    exact h2 pins s1 σ' H' D I' q
  | ret v => exact q
  | brk => exact q
  | cont => exact q
theorem Inv.quiet {pins : List (Addr × Obj)} {σ : St} {H : Hp} {s : Shared} (I : Inv X pins σ H s) : interactive X.env = false := by simp [interactive, I.ok.kind]
def tDrop (te : TE) : TS := fun D σ H => te σ H fun _ H1 => D.nx σ H1
theorem ps_expr (he : PE X e te) (hs : swapsWith e none pos.line X.env = pure false := by rfl) : PS X (.Expr e pos) (tDrop te) := by
  intro pins s σ H D I h
  exact wpAny_Expr_any (thn (he pins s σ H _ I h) fun v s1 ⟨x, H1, I1, r1, q1⟩ => ⟨σ, H1, I1, q1⟩) I.quiet hs
def tRet (te : TE) : TS := fun D σ H => te σ H D.rt
theorem ps_ret (he : PE X e te) : PS X (.Return (some e) pos) (tRet te) := by
  intro pins s σ H D I h
  exact wpAny_Return_some (thn (he pins s σ H _ I h) fun v s1 ⟨x, H1, I1, r1, q1⟩ => ⟨x, σ, H1, I1, r1, q1⟩)
def tIfS (c : TT) (t u : TS) : TS := fun D σ H => c σ H fun b H1 => if b = true then t D σ H1 else u D σ H1
theorem ps_if {c : Expr} {a b : List Stmt} {tc : TT} (hc : PT X c tc) (ha : PSs X a t) (hb : PSs X b u) : PS X (.If c a b pos) (tIfS tc t u) := by
  intro pins s σ H D I h
  refine wpAny_If (thn (hc pins s σ H _ I h) fun d s1 ⟨H1, I1, q1⟩ => ?_)
  cases d with
  | true => exact ha pins s1 σ H1 D I1 q1
  | false => exact hb pins s1 σ H1 D I1 q1
def tNever : TS := fun _ _ _ => False
theorem ps_never : PS X st tNever := fun _ _ _ _ _ _ h => h.elim
end
abbrev TG := V → St → Hp → (St → Hp → Prop) → Prop
abbrev TGs := List V → St → Hp → (St → Hp → Prop) → Prop
def PG (X : Cx) (target : Expr) (t : TG) : Prop :=
  ∀ (pins : List (Addr × Obj)) (s : Shared) (σ : St) (H : Hp) (v : V) (u : Value) (Q : St → Hp → Prop), Inv X pins σ H s → RelV v u → t v σ H Q →
    wpAny (model X.prog X.w) X.A (assign target X.env u) (fun _ s' => ∃ σ' H', Inv X pins σ' H' s' ∧ Q σ' H') X.xe s
def PGs (X : Cx) (ts : List Expr) (t : TGs) : Prop :=
  ∀ (pins : List (Addr × Obj)) (s : Shared) (σ : St) (H : Hp) (vs : List V) (us : List Value) (Q : St → Hp → Prop), Inv X pins σ H s → Vals vs us → t vs σ H Q →
    wpAny (model X.prog X.w) X.A (assignInOrder ((assignEach ts X.env).map (·.2)) us) (fun _ s' => ∃ σ' H', Inv X pins σ' H' s' ∧ Q σ' H') X.xe s
section
variable {X : Cx} {pos : Pos}
def gName (i : Nat) : TG := fun v σ H Q => Q (σ.set i (some v)) H
theorem pg_name {i : Nat} {x : Str} (hN : X.N.Nodup) (hi : X.N[i]? = some x) (hx : Loc X.env.scope x) (hf : X.fn x = true ∨ X.env.scope.names.lookup x = some .local := by first | exact .inl rfl | exact .inr rfl | assumption) : PG X (.Name x pos) (gName i) := by
  intro pins s σ H v u Q I r h
  exact wpAny_assign_Name (store_ok I hN hi hx r (fun s' I' => ⟨_, H, I', h⟩) hf)
def gNil : TGs := fun vs σ H Q => vs = [] ∧ Q σ H
def gCons (t : TG) (u : TGs) : TGs := fun vs σ H Q => ∃ v r, vs = v :: r ∧ t v σ H fun σ' H' => u r σ' H' Q
theorem pgs_nil : PGs X [] gNil := by
  intro pins s σ H vs us Q I r h
  obtain ⟨e, h⟩ := h
  subst e
  cases r
  exact assignInOrder_nil ⟨σ, H, I, h⟩
theorem pgs_cons {e : Expr} {es : List Expr} {t : TG} {u : TGs} (h1 : PG X e t) (h2 : PGs X es u)
    (hs : (assignEach (e :: es) X.env).map (·.2) = assign e X.env :: (assignEach es X.env).map (·.2) := by rfl) : PGs X (e :: es) (gCons t u) := by
  intro pins s σ H vs us Q I r h
  obtain ⟨v, vr, e1, h⟩ := h
  subst e1
  cases r with
  | cons r rr =>
    rw [hs]
    refine assignInOrder_cons (thn (h1 pins s σ H _ _ _ I r h) fun _ s1 ⟨σ1, H1, I1, q1⟩ => ?_)
    exact h2 pins s1 σ1 H1 _ _ Q I1 rr q1
def gTup (K : PySem.W.Frag) (n : Nat) (t : TGs) : TG := fun v σ H Q => ∃ a xs, v = .ref a ∧ SqT K H a xs ∧ xs.length = n ∧ t xs σ H Q
theorem pg_tup {es : List Expr} {k : Nat} {t : TGs} {n : Nat} (hc : X.calm = true) (h : PGs X es t)
    (hn : (assignEach es X.env).length = n := by rfl) (hst : (assignEach es X.env).findIdx? (·.1) = none := by rfl) : PG X (.Tuple es k pos) (gTup X.K n t) := by
  intro pins s σ H v u Q I r hw
  obtain ⟨a, xs, e1, hq, hl, hw⟩ := hw
  subst e1
  cases r
  obtain ⟨its, rv, ht, hz⟩ := I.tuple hq
  refine assign_Tuple_tuple (I.ok.hd hc) ht (by simp [hn, ← hl, rv.length]) hst fun h' hx => ?_
  have I1 : Inv X pins σ H { s with heap := h' } := I.kept (t' := s.toks) fun b o e => hx b o (Nat.ne_of_lt (Heap.lt_size e)) e
  exact h pins _ σ H xs _ Q I1 (by simpa using rv) hw
def tAsg (te : TE) (g : TG) : TS := fun D σ H => te σ H fun x H1 => g x σ H1 D.nx
theorem ps_set {i : Nat} {x : Str} {e : Expr} {te : TE} {pos' : Pos} (hN : X.N.Nodup) (hi : X.N[i]? = some x) (hx : Loc X.env.scope x) (he : PE X e te) (hs : swapsWith e (some (.Name x pos')) pos.line X.env = pure false := by rfl) (hf : X.fn x = true ∨ X.env.scope.names.lookup x = some .local := by first | exact .inl rfl | exact .inr rfl | assumption) :
    PS X (.Assign [.Name x pos'] e pos) (tAsg te (gName i)) := by
  intro pins s σ H D I h
  refine wpAny_Assign_Name (thn (he pins s σ H _ I h) fun v s1 ⟨y, H1, I1, r1, q1⟩ => ?_) hs
  exact store_ok I1 hN hi hx r1 (fun s2 I2 => ⟨_, H1, I2, q1⟩) hf
def tPar (i j : Nat) (ta : TA) : TS := fun D σ H => ta σ H fun vs H1 => ∃ v w, vs = [v, w] ∧ D.nx ((σ.set i (some v)).set j (some w)) H1
theorem ps_par {i j : Nat} {x y : Str} {a b : Expr} {ta : TA} {px py pt : Pos} {kt k2 pt2} (hc : X.calm = true) (hN : X.N.Nodup) (hi : X.N[i]? = some x) (hj : X.N[j]? = some y) (hij : i ≠ j)
    (hx : X.env.scope.names.lookup x = some .local) (hy : X.env.scope.names.lookup y = some .local) (ha : PA X [a, b] ta)
    (hw : swappedStores [.Tuple [.Name x px, .Name y py] kt pt] (.Tuple [a, b] k2 pt2) X.env = pure (some [x, y]))
    (hs : swapsWithSole [.Tuple [.Name x px, .Name y py] kt pt] (.Tuple [a, b] k2 pt2) pos.line X.env = pure false := by rfl) :
    PS X (.Assign [.Tuple [.Name x px, .Name y py] kt pt] (.Tuple [a, b] k2 pt2) pos) (tPar i j ta) := by
  intro pins s σ H D I h
  rw [exec_Assign_arm]
  refine wpAny_bind (wpAny_standAt ?_)
  rw [hs]
  refine wpAny_bind (wpAny_pure ?_)
  rw [if_neg (by decide)]
  refine wpAny_bind (Tuple_ (thn (ha _ pins s σ H _ I h) fun us s1 ⟨vs, H1, I1, r1, q1⟩ => ?_))
  obtain ⟨v, w, e1, q1⟩ := q1
  subst e1
  obtain ⟨u1, u2, rfl, rv, rw'⟩ : ∃ u1 u2, us = [u1, u2] ∧ RelV v u1 ∧ RelV w u2 := by
    cases r1 with
    | cons p q =>
      cases q with
      | cons p' q' =>
        cases q'
        exact ⟨_, _, rfl, p, p'⟩
  refine wpAny_newObj_type ?_ (by show 2 ≤ sizeLine; decide)
  have I2 : Inv X pins σ H1 { s1 with heap := s1.heap.push { cls := .type "tuple", data := .seq [u1, u2].toArray } } := I1.kept (t' := s1.toks) fun b o e => Heap.get?_push_of_some _ e
  rw [hw]
  refine wpAny_bind (wpAny_pure ?_)
  show wpAny (model X.prog X.w) X.A (do rule "assign.swapped-stores"; let items ← unpackItems (.ref s1.heap.objs.size) 2 none; assignInOrder [fun v => bindName X.env y v, fun v => bindName X.env x v] items.reverse; pure Flow.next) _ _ _
  refine wpAny_bind (wpAny_rule (wpAny_bind (unpackItems_tuple (items := #[u1, u2]) (I.ok.hd hc) (IsTup.new s1.heap _) fun h' hx' => ?_)))
  have I3 := I2.kept (h' := h') (t' := s1.toks) fun b o e => hx' b o (Nat.ne_of_lt (Heap.lt_size e)) e
  show wpAny _ _ (assignInOrder [fun v => bindName X.env y v, fun v => bindName X.env x v] [u2, u1] >>= fun _ => pure Flow.next) _ _ _
  refine wpAny_bind (assignInOrder_cons (wpAny_bindName (store_ok I3 hN hj (.inl hy) rw' (fun s2 I4 => ?_) (.inr hy))))
  refine assignInOrder_cons (wpAny_bindName (store_ok I4 hN hi (.inl hx) rv (fun s3 I5 => assignInOrder_nil (wpAny_pure ?_)) (.inr hx)))
  rw [List.set_comm _ _ (Ne.symm hij)] at I5
  exact ⟨_, H1, I5, q1⟩
end
section
variable {X : Cx} {pos : Pos}
def tWhile (c : TT) (tb : TS) : TS := fun D σ H => ∃ W : Nat → St → Hp → Prop, (∃ m, W m σ H) ∧ ∀ m σ H, W m σ H →
  c σ H fun b H1 => if b = true then ∃ N : St → Hp → Prop, (∀ σ' H', N σ' H' → ∃ m', m' < m ∧ W m' σ' H') ∧ tb { D with nx := N, ct := N, bk := D.nx } σ H1 else D.nx σ H1
theorem ps_while {c : Expr} {body : List Stmt} {tc : TT} {tb : TS} (hp : PassesOwn (model X.prog X.w) X.A X.env X.xe) (hc : PT X c tc) (hb : PSs X body tb) : PS X (.While c body [] pos) (tWhile tc tb) := by
  intro pins s σ H D I h
  obtain ⟨W, ⟨m0, w0⟩, turn⟩ := h
  refine wpAny_While (codeAny_whileLoop (fun n s' => ∃ σ' H', Inv X pins σ' H' s' ∧ W n σ' H') ?_ m0 ⟨σ, H, I, w0⟩)
  rintro n s1 ⟨σ1, H1, I1, w1⟩
  refine wpAny_passesOwn hp (thn (hc pins s1 σ1 H1 _ I1 (turn n σ1 H1 w1)) fun b s2 ⟨H2, I2, q2⟩ => ?_)
  cases b with
  | true =>
    obtain ⟨N, hN, q2⟩ := q2
    rw [if_pos rfl]
    refine wpAny_passesOwn hp (thn (hb pins s2 σ1 H2 _ I2 q2) fun f s3 q3 => ?_)
    cases f with
    | next =>
      obtain ⟨σ3, H3, I3, n3⟩ := q3
      obtain ⟨m', hm, w3⟩ := hN σ3 H3 n3
      exact ⟨m', hm, σ3, H3, I3, w3⟩
    | cont =>
      obtain ⟨σ3, H3, I3, n3⟩ := q3
      obtain ⟨m', hm, w3⟩ := hN σ3 H3 n3
      exact ⟨m', hm, σ3, H3, I3, w3⟩
    | brk => exact q3
    | ret v => exact q3
  | false =>
    rw [if_neg Bool.false_ne_true]
    exact wpAny_execs_nil ⟨σ1, H2, I2, q2⟩
end
structure It where
  go : Nat → Hp → Prop
  yld : Nat → Hp → V → Hp → Prop
  stop : Nat → Hp → Prop
def FpOk (X : Cx) (pins : List (Addr × Obj)) (H : Hp) (b : Addr) : Prop :=
  H b = none ∧ b ≠ X.env.locals ∧ b ∉ X.fs ∧ (b ∈ X.ex ∨ X.s₀.heap.objs.size ≤ b) ∧ (∀ x c, X.env.cells.lookup x = some c → c ≠ b) ∧ ∀ p ∈ X.pn ++ pins, p.1 ≠ b
theorem Inv.fpOk {X : Cx} {pins : List (Addr × Obj)} {σ : St} {H H' : Hp} {s : Shared} {b : Addr} (I : Inv X pins σ H s) (hb : s.heap.objs.size ≤ b) (hn : H' b = none) : FpOk X pins H' b := by
  refine ⟨hn, Nat.ne_of_gt (Nat.lt_of_lt_of_le I.lt hb), I.nofs hb, .inr (Nat.le_trans I.sz hb), fun x c e z => ?_, fun p hp z => ?_⟩
  · obtain ⟨v, q⟩ := I.cell x c e
    exact absurd (Nat.lt_of_lt_of_le q.lt (by rw [z]; exact hb)) (Nat.lt_irrefl _)
  · exact absurd (Nat.lt_of_lt_of_le (Heap.lt_size (I.pin p hp).1) (by rw [z]; exact hb)) (Nat.lt_irrefl _)
structure Turn (P : Program) (w : World) (K : PySem.W.Frag) (tg : Expr) (J : It) (fp : List Addr) (it : Addr) (tn : Nat → Heap → Prop) : Prop where
  mem : it ∈ fp
  obj : ∀ i h, tn i h → ∀ b ∈ fp, ∃ o, h.get? b = some o ∧ ∀ v, o.data ≠ .cell v
  keep : ∀ i h h', tn i h → (∀ b ∈ fp, ∀ o, h.get? b = some o → h'.get? b = some o) → tn i h'
  item : ∀ (X : Cx), X.prog = P → X.w = w → X.K = K → X.calm = true → ∀ (i : Nat) (pins : List (Addr × Obj)) (s : Shared) (σ : St) (H : Hp) (E : Value → Shared → Prop), Inv X pins σ H s → (∀ b ∈ fp, FpOk X pins H b) → tn i s.heap → J.go i H →
    wpAny (model P w) X.A (pyNext (.ref it)) (fun r s1 => ∃ u, r = some u ∧
      wpAny (model P w) X.A (letOwnedTupleGo tg (.ref it) u) (fun _ s2 => ∃ x H', Inv X pins σ H' s2 ∧ RelV x u ∧ J.yld i H x H' ∧ tn (i + 1) s2.heap ∧ ∀ b ∈ fp, H' b = none) E s1) E s
  done : ∀ (X : Cx), X.prog = P → X.w = w → X.K = K → X.calm = true → ∀ (i : Nat) (pins : List (Addr × Obj)) (s : Shared) (σ : St) (H : Hp) (E : Value → Shared → Prop), Inv X pins σ H s → (∀ b ∈ fp, FpOk X pins H b) → tn i s.heap → J.stop i H →
    wpAny (model P w) X.A (pyNext (.ref it)) (fun r s1 => r = none ∧ Inv X pins σ H s1) E s
  self : ∀ (A : Around) (i : Nat) (s : Shared) (Q : Value → Shared → Prop) (E : Value → Shared → Prop), tn i s.heap → Q (.ref it) s → wpAny (model P w) A (pyIter (.ref it)) Q E s
abbrev TI := St → Hp → (It → Hp → Prop) → Prop
def PIE (X : Cx) (pins : List (Addr × Obj)) (σ : St) (tg : Expr) (R : It → Hp → Prop) (itv : Value) (s2 : Shared) : Prop :=
  ∃ (it : Addr) (fp : List Addr) (tn : Nat → Heap → Prop) (J : It) (H' : Hp), itv = .ref it ∧ Inv X pins σ H' s2 ∧ Turn X.prog X.w X.K tg J fp it tn ∧ tn 0 s2.heap ∧ (∀ b ∈ fp, FpOk X pins H' b) ∧ R J H'
def PI (X : Cx) (tg iter : Expr) (wi : TI) : Prop :=
  ∀ (pins : List (Addr × Obj)) (s : Shared) (σ : St) (H : Hp) (R : It → Hp → Prop), Inv X pins σ H s → wi σ H R →
    wpAny (model X.prog X.w) X.A (eval iter X.env) (fun v s1 => wpAny (model X.prog X.w) X.A (pyIter v) (PIE X pins σ tg R) X.xe s1) X.xe s
theorem go_of {M : Model} {A : Around} {E : Value → Shared → Prop} {s : Shared} {tg : Expr} {it : Addr} {u : Value} {o : Obj} {n : String} {vs : Array Value} {Q : Unit → Shared → Prop} (ho : s.heap.get? it = some o) (hc : o.cls = .type n) (hd : o.data = .fields vs)
    (hn : ["enumerate", "zip", "dict_itemiterator", "dict_reverseitemiterator", "odict_iterator", "itertools.zip_longest", "itertools.pairwise"].contains n = false) (hQ : Q () s) : wpAny M A (letOwnedTupleGo tg (.ref it) u) Q E s := by
  unfold letOwnedTupleGo
  cases tg <;> first
    | exact wpAny_pure hQ
    | (cases u <;> first
        | exact wpAny_pure hQ
        | (refine wpAny_bind (wpAny_load ho ?_)
           rw [hc, hd]
           show wpAny M A (if (["enumerate", "zip", "dict_itemiterator", "dict_reverseitemiterator", "odict_iterator", "itertools.zip_longest", "itertools.pairwise"].contains n && vs[0]? == some (rawInt _)) = true then _ else _) Q E s
           rw [if_neg (by intro h; rw [hn, Bool.false_and] at h; cases h)]
           exact wpAny_pure hQ))
def Itl (K : PySem.W.Frag) (a : Addr) : It :=
  ⟨fun i H => ∃ xs x, SqL K H a xs ∧ xs[i]? = some x, fun i H x H' => H' = H ∧ ∀ xs, SqL K H a xs → xs[i]? = some x, fun i H => ∃ xs, SqL K H a xs ∧ xs.length ≤ i⟩
def Itr (lo : Int) (n : Nat) : It := ⟨fun i _ => i < n, fun i H x H' => H' = H ∧ x = .int (lo + i), fun i _ => n ≤ i⟩
theorem turn_list {P : Program} {w : World} {K : PySem.W.Frag} {tg : Expr} (a it : Addr) : Turn P w K tg (Itl K a) [it] it (fun i h => h.IsListIter it a i) where
  mem := by simp
  obj := fun i h st b hb => by
    have e : b = it := by simpa using hb
    subst e
    obtain ⟨o, e, c, d⟩ := st
    exact ⟨o, e, fun v z => by rw [d] at z; cases z⟩
  keep := fun i h h' st k => st.at fun o e => k it (by simp) o e
  item := by
    intro X hP hw hK hc i pins s σ H E I hf st hg
    subst hP hw hK
    obtain ⟨xs, x, hq, hx⟩ := hg
    obtain ⟨its, rv, p, hz⟩ := I.list hq
    obtain ⟨u, hu, ru⟩ := rv.get hx
    obtain ⟨f0, f1, f2, f3, f4, f5⟩ := hf it (by simp)
    refine wpAny_pyNext_list_item st p.isList (x := u) (by simpa using hu) fun h' st' sb => ?_
    have I1 : Inv X pins σ H { s with heap := h' } := I.turned (t' := s.toks) (fun b o hb e => (sb.2 b hb).trans e) f0 f1 f3 f4 f5
    obtain ⟨o, e, c, d⟩ := id st'
    exact ⟨u, rfl, go_of (s := { s with heap := h' }) e c d (by decide) ⟨x, H, I1, ru, ⟨rfl, fun ys hy => by rw [I.list_inj hy hq]; exact hx⟩, st', fun b hb => (hf b hb).1⟩⟩
  done := by
    intro X hP hw hK hc i pins s σ H E I hf st hg
    subst hP hw hK
    obtain ⟨xs, hq, hx⟩ := hg
    obtain ⟨its, rv, p, hz⟩ := I.list hq
    obtain ⟨f0, f1, f2, f3, f4, f5⟩ := hf it (by simp)
    have hl := rv.length
    exact wpAny_pyNext_list_end (I.ok.hd hc) st p.isList (by simp; omega) fun h' eb => ⟨rfl, I.turned (t' := s.toks) (fun b o hb e => eb b o hb e) f0 f1 f3 f4 f5⟩
  self := fun _ _ _ _ _ st h => wpAny_pyIter_listiter st h
theorem turn_range {P : Program} {w : World} {K : PySem.W.Frag} {tg : Expr} (it : Addr) (lo : Int) (n : Nat) : Turn P w K tg (Itr lo n) [it] it (fun i h => IsRangeIter h it (lo + (i : Nat) * 1) ((n : Int) - (i : Nat)) 1) where
  mem := by simp
  obj := fun i h st b hb => by
    have e : b = it := by simpa using hb
    subst e
    exact ⟨_, st, fun v z => by
      have z' : Data.fields _ = Data.cell v := z
      cases z'⟩
  keep := fun i h h' st k => k it (by simp) _ st
  item := by
    intro X hP hw hK hc i pins s σ H E I hf st hg
    subst hP hw hK
    obtain ⟨f0, f1, f2, f3, f4, f5⟩ := hf it (by simp)
    have W := Walks.range (prog := X.prog) (w := X.w) (I.ok.hd hc) it lo 1 n
    refine W.item i s _ _ hg st fun v h' tk hv st' kk => ?_
    obtain ⟨t, rfl⟩ := hv
    have I1 : Inv X pins σ H { s with heap := h', toks := tk } := I.turned (fun b o hb e => kk b o (by simpa using hb) e) f0 f1 f3 f4 f5
    refine ⟨_, rfl, go_of (s := { s with heap := h', toks := tk }) (n := "range_iterator") st' rfl rfl (by decide) ⟨.int (lo + i), H, I1, ⟨t, ?_⟩, ⟨rfl, rfl⟩, st', fun b hb => (hf b hb).1⟩⟩
    rw [Int.mul_one]
  done := by
    intro X hP hw hK hc i pins s σ H E I hf st hg
    subst hP hw hK
    obtain ⟨f0, f1, f2, f3, f4, f5⟩ := hf it (by simp)
    exact wpAny_pyNext_range_end (I.ok.hd hc) st (by have : n ≤ i := hg; omega) fun h' eb => ⟨rfl, I.turned (t' := s.toks) (fun b o hb e => eb b o hb e) f0 f1 f3 f4 f5⟩
  self := fun _ _ _ _ _ st h => wpAny_pyIter_rangeiter st h
end L2
namespace L2
open PySem PySem.Spec PyProof.Rows
section
variable {X : Cx} {tg : Expr}
def iList (K : PySem.W.Frag) (tl : TE) : TI := fun σ H R => tl σ H fun x H1 => ∃ a, x = .ref a ∧ (∃ xs, SqL K H1 a xs) ∧ R (Itl K a) H1
theorem pi_list {l : Expr} {tl : TE} (hl : PE X l tl) : PI X tg l (iList X.K tl) := by
  intro pins s σ H R I h
  refine thn (hl pins s σ H _ I h) fun v s1 ⟨x, H1, I1, r1, q1⟩ => ?_
  obtain ⟨a, e, ⟨xs, hq⟩, q⟩ := q1
  subst e
  cases r1
  obtain ⟨its, rv, p, hz⟩ := I1.list hq
  refine wpAny_pyIter_list p.isList ?_
  refine ⟨s1.heap.objs.size, [s1.heap.objs.size], _, _, H1, rfl, I1.kept (t' := s1.toks) fun b o e => Heap.get?_push_of_some _ e, turn_list a _, ⟨_, Heap.get?_push_size _ rfl, rfl, rfl⟩, fun b hb => ?_, q⟩
  have e : b = s1.heap.objs.size := by simpa using hb
  subst e
  exact I1.fpOk (Nat.le_refl _) (I1.hok.fresh (Nat.le_refl _))
theorem range_it {pins : List (Addr × Obj)} {σ : St} {H : Hp} {s : Shared} {R : It → Hp → Prop} {E : Value → Shared → Prop} {lo hi : Int} {t u v : Tok} {tk : Nat} (I : Inv X pins σ H s) (h1 : -(2 ^ 62) ≤ lo) (h2 : lo < 2 ^ 62) (h3 : -(2 ^ 62) ≤ hi) (h4 : hi < 2 ^ 62)
    (q : R (Itr lo (hi - lo).toNat) H) : wpAny (model X.prog X.w) X.A (pyIter (.ref s.heap.objs.size)) (PIE X pins σ tg R) E { s with heap := s.heap.push { cls := .type "range", data := .fields #[.int lo t, .int hi u, .int 1 v] }, toks := tk } := by
  refine wpAny_pyIter_range (IsRange.new ..) (small_one h1 h2 h3 h4) ?_
  have I1 : Inv X pins σ H { s with heap := s.heap.push { cls := .type "range", data := .fields #[.int lo t, .int hi u, .int 1 v] }, toks := tk } := I.kept fun b o e => Heap.get?_push_of_some _ e
  refine ⟨(s.heap.push { cls := .type "range", data := .fields #[.int lo t, .int hi u, .int 1 v] }).objs.size, [(s.heap.push { cls := .type "range", data := .fields #[.int lo t, .int hi u, .int 1 v] }).objs.size], _, _, H, rfl,
    I1.kept (t' := tk) fun b o e => Heap.get?_push_of_some _ e, turn_range _ lo (hi - lo).toNat, ?_, fun b hb => ?_, q⟩
  · have e1 : lo + ((0 : Nat) : Int) * 1 = lo := by simp
    have e2 : (((hi - lo).toNat : Nat) : Int) - ((0 : Nat) : Int) = Builtin.Range.rangeSize lo hi 1 := by rw [rangeSize_one]; split <;> omega
    show IsRangeIter _ _ (lo + ((0 : Nat) : Int) * 1) ((((hi - lo).toNat : Nat) : Int) - ((0 : Nat) : Int)) 1
    rw [e1, e2]
    exact Heap.get?_push_size _ rfl
  · have e : b = (s.heap.push { cls := .type "range", data := .fields #[.int lo t, .int hi u, .int 1 v] }).objs.size := by simpa using hb
    subst e
    exact I1.fpOk (Nat.le_refl _) (I1.hok.fresh (Nat.le_refl _))
def iRng1 (ta : TA) : TI := fun σ H R => ta σ H fun vs H1 => ∃ j : Int, vs = [.int j] ∧ -(2 ^ 62) ≤ j ∧ j < 2 ^ 62 ∧ R (Itr 0 j.toNat) H1
theorem pi_range1 {a : Expr} {ta : TA} {p pos : Pos} (hg : Gl X "range") (hm : X.mg "range" = none) (ha : PA X [a] ta) (hs : starEach [a] X.env = [(false, eval a X.env)] := by rfl) : PI X tg (.Call (.Name "range" p) [a] [] pos) (iRng1 ta) := by
  intro pins s σ H R I h
  refine Call_ (ld_blt I hg hm boot_range (PyProof.Rows.callWith_type1 (thn (ha pos pins s σ H _ I h) fun us s1 ⟨vs, H1, I1, r1, q1⟩ => ?_) hs rfl))
  obtain ⟨j, e, q1, q2, q⟩ := q1
  subst e
  cases r1 with
  | cons r rr =>
    cases rr
    obtain ⟨t, rfl⟩ := r
    exact call_range_1 (range_it I1 (by omega) (by omega) q1 q2 (by simpa using q))
def tFor (wi : TI) (g : TG) (tb : TS) : TS := fun D σ H => wi σ H fun J H1 => ∃ W : Nat → Nat → St → Hp → Prop, (∃ m, W 0 m σ H1) ∧ ∀ i m σ H, W i m σ H →
  (J.stop i H ∧ D.nx σ H) ∨ (J.go i H ∧ ∃ N : St → Hp → Prop, (∀ σ' H', N σ' H' → ∃ m', m' < m ∧ W (i + 1) m' σ' H') ∧ ∀ x H', J.yld i H x H' → g x σ H' fun σ2 H2 => tb { D with nx := N, ct := N, bk := D.nx } σ2 H2)
def pinsAt (fp : List Addr) (h : Heap) : List (Addr × Obj) := fp.filterMap fun b => (h.get? b).map fun o => (b, o)
theorem mem_pinsAt {fp : List Addr} {h : Heap} {b : Addr} {o : Obj} (hb : b ∈ fp) (e : h.get? b = some o) : (b, o) ∈ pinsAt fp h := List.mem_filterMap.mpr ⟨b, hb, by rw [e]; rfl⟩
theorem of_pinsAt {fp : List Addr} {h : Heap} {p : Addr × Obj} (hp : p ∈ pinsAt fp h) : p.1 ∈ fp ∧ h.get? p.1 = some p.2 := by
  obtain ⟨b, hb, e⟩ := List.mem_filterMap.mp hp
  cases q : h.get? b with
  | none => rw [q] at e; cases e
  | some o =>
    rw [q] at e
    have e' : (b, o) = p := Option.some.inj e
    subst e'
    exact ⟨hb, q⟩
theorem Inv.pinned {pins : List (Addr × Obj)} {σ : St} {H : Hp} {s : Shared} {fp : List Addr} (I : Inv X pins σ H s) (hf : ∀ b ∈ fp, FpOk X pins H b) (ho : ∀ b ∈ fp, ∃ o, s.heap.get? b = some o ∧ ∀ v, o.data ≠ .cell v) : Inv X (pins ++ pinsAt fp s.heap) σ H s :=
  I.pins_of fun p hp => (List.mem_append.mp hp).elim (fun z => I.pin p (List.mem_append_right _ z)) fun z => by
    obtain ⟨hb, e⟩ := of_pinsAt z
    obtain ⟨f0, f1, f2, _⟩ := hf p.1 hb
    obtain ⟨o, e', d⟩ := ho p.1 hb
    rw [e] at e'; cases e'
    exact ⟨e, f0, f1, f2, d⟩
theorem Inv.unpinned {pins pl : List (Addr × Obj)} {σ : St} {H : Hp} {s : Shared} (I : Inv X (pins ++ pl) σ H s) : Inv X pins σ H s := I.pins_of fun p hp => I.pin p (List.mem_append_right _ (List.mem_append_left _ hp))
theorem ps_for {iter : Expr} {body : List Stmt} {wi : TI} {g : TG} {tb : TS} {pos : Pos} (hp : PassesOwn (model X.prog X.w) X.A X.env X.xe) (hc : X.calm = true) (hi : PI X tg iter wi) (hg : PG X tg g) (hb : PSs X body tb)
    (hs : ∀ x, foldedSetIterable iter X.env x = pure x := by intro _; rfl) : PS X (.For tg iter body [] pos) (tFor wi g tb) := by
  intro pins s σ H D I h
  refine wpAny_For (thn (hi pins s σ H _ I h) fun v s1 h1 => thn h1 fun itv s2 h2 => ?_) hs
  obtain ⟨it, fp, tn, J, H2, e, I2, T, st2, f2, W, ⟨m0, w0⟩, turn⟩ := h2
  subst e
  have stat : ∀ {H' : Hp}, (∀ b ∈ fp, H' b = none) → ∀ b ∈ fp, FpOk X pins H' b := fun hn b hb => ⟨hn b hb, (f2 b hb).2⟩
  refine codeAny_forLoop_any (fun n s' => ∃ i σ' H', Inv X pins σ' H' s' ∧ tn i s'.heap ∧ (∀ b ∈ fp, H' b = none) ∧ W i n σ' H') ?_ m0 ⟨0, σ, H2, I2, st2, fun b hb => (f2 b hb).1, w0⟩
  rintro n s3 ⟨i, σ3, H3, I3, st3, fr3, w3⟩
  rcases turn i n σ3 H3 w3 with ⟨stop, qn⟩ | ⟨go, N, hN, step⟩
  · refine wpAny_passesOwn hp (thn (T.done X rfl rfl rfl hc i pins s3 σ3 H3 X.xe I3 (stat fr3) st3 stop) fun r s4 ⟨hr, I4⟩ => ?_)
    subst hr
    exact wpAny_execs_nil ⟨σ3, H3, I4, qn⟩
  · refine wpAny_passesOwn hp (thn (T.item X rfl rfl rfl hc i pins s3 σ3 H3 X.xe I3 (stat fr3) st3 go) fun r s4 ⟨u, hr, h4⟩ => ?_)
    subst hr
    refine wpAny_passesOwn hp (thn h4 fun _ s5 ⟨x, H5, I5, r5, y5, st5, fr5⟩ => ?_)
    have I5' := I5.pinned (stat fr5) (T.obj _ _ st5)
    refine wpAny_passesOwn hp (thn (hg _ s5 σ3 H5 x u _ I5' r5 (step x H5 y5)) fun _ s6 ⟨σ6, H6, I6, q6⟩ => ?_)
    refine wpAny_passesOwn hp (thn (hb _ s6 σ6 H6 _ I6 q6) fun f s7 q7 => ?_)
    have again : ∀ {σ7 : St} {H7 : Hp}, Inv X (pins ++ pinsAt fp s5.heap) σ7 H7 s7 → N σ7 H7 → ∃ m, m < n ∧ ∃ i σ' H', Inv X pins σ' H' s7 ∧ tn i s7.heap ∧ (∀ b ∈ fp, H' b = none) ∧ W i m σ' H' := fun {σ7 H7} I7 n7 => by
      obtain ⟨m', hm, w7⟩ := hN σ7 H7 n7
      refine ⟨m', hm, i + 1, σ7, H7, I7.unpinned, T.keep _ _ _ st5 fun b hb o e => (I7.pin (b, o) (List.mem_append_right _ (List.mem_append_right _ (mem_pinsAt hb e)))).1, fun b hb => ?_, w7⟩
      obtain ⟨o, e, d⟩ := T.obj _ _ st5 b hb
      exact (I7.pin (b, o) (List.mem_append_right _ (List.mem_append_right _ (mem_pinsAt hb e)))).2.1
    cases f with
    | next => obtain ⟨σ7, H7, I7, n7⟩ := q7; exact again I7 n7
    | cont => obtain ⟨σ7, H7, I7, n7⟩ := q7; exact again I7 n7
    | brk => obtain ⟨σ7, H7, I7, q7⟩ := q7; exact ⟨σ7, H7, I7.unpinned, q7⟩
    | ret v => obtain ⟨x7, σ7, H7, I7, r7, q7⟩ := q7; exact ⟨x7, σ7, H7, I7.unpinned, r7, q7⟩
end
theorem for_list {K : PySem.W.Frag} {a : Addr} {xs : List V} {g : TG} {tb : TS} {D : Ends} {σ : St} {H : Hp} (Pv : Nat → St → Hp → Prop) (h0 : Pv 0 σ H) (hl : ∀ i σ H, i ≤ xs.length → Pv i σ H → SqL K H a xs)
    (hs : ∀ i x σ H, xs[i]? = some x → Pv i σ H → g x σ H fun σ2 H2 => tb { D with nx := Pv (i + 1), ct := Pv (i + 1), bk := D.nx } σ2 H2) (hd : ∀ σ H, Pv xs.length σ H → D.nx σ H) :
    ∃ W : Nat → Nat → St → Hp → Prop, (∃ m, W 0 m σ H) ∧ ∀ i m σ H, W i m σ H →
      ((Itl K a).stop i H ∧ D.nx σ H) ∨ ((Itl K a).go i H ∧ ∃ N : St → Hp → Prop, (∀ σ' H', N σ' H' → ∃ m', m' < m ∧ W (i + 1) m' σ' H') ∧ ∀ x H', (Itl K a).yld i H x H' → g x σ H' fun σ2 H2 => tb { D with nx := N, ct := N, bk := D.nx } σ2 H2) := by
  refine ⟨fun i m σ H => m = xs.length - i ∧ i ≤ xs.length ∧ Pv i σ H, ⟨xs.length, by simp, Nat.zero_le _, h0⟩, ?_⟩
  rintro i m σ H ⟨rfl, hi, p⟩
  have q := hl i σ H hi p
  by_cases hlt : i < xs.length
  · refine .inr ⟨⟨xs, xs[i], q, by simp [hlt]⟩, Pv (i + 1), fun σ' H' p' => ⟨xs.length - (i + 1), by omega, rfl, hlt, p'⟩, fun x H' y => ?_⟩
    obtain ⟨e, y⟩ := y
    subst e
    exact hs i x σ _ (y xs q) p
  · have e : i = xs.length := by omega
    subst e
    exact .inl ⟨⟨xs, q, Nat.le_refl _⟩, hd σ H p⟩
theorem for_range {lo : Int} {n : Nat} {g : TG} {tb : TS} {D : Ends} {σ : St} {H : Hp} (Pv : Nat → St → Hp → Prop) (h0 : Pv 0 σ H)
    (hs : ∀ i σ H, i < n → Pv i σ H → g (.int (lo + i)) σ H fun σ2 H2 => tb { D with nx := Pv (i + 1), ct := Pv (i + 1), bk := D.nx } σ2 H2) (hd : ∀ σ H, Pv n σ H → D.nx σ H) :
    ∃ W : Nat → Nat → St → Hp → Prop, (∃ m, W 0 m σ H) ∧ ∀ i m σ H, W i m σ H →
      ((Itr lo n).stop i H ∧ D.nx σ H) ∨ ((Itr lo n).go i H ∧ ∃ N : St → Hp → Prop, (∀ σ' H', N σ' H' → ∃ m', m' < m ∧ W (i + 1) m' σ' H') ∧ ∀ x H', (Itr lo n).yld i H x H' → g x σ H' fun σ2 H2 => tb { D with nx := N, ct := N, bk := D.nx } σ2 H2) := by
  refine ⟨fun i m σ H => m = n - i ∧ i ≤ n ∧ Pv i σ H, ⟨n, by simp, Nat.zero_le _, h0⟩, ?_⟩
  rintro i m σ H ⟨rfl, hi, p⟩
  by_cases hlt : i < n
  · refine .inr ⟨hlt, Pv (i + 1), fun σ' H' p' => ⟨n - (i + 1), by omega, rfl, hlt, p'⟩, fun x H' y => ?_⟩
    obtain ⟨e, y⟩ := y
    subst e y
    exact hs i σ _ hlt p
  · have e : i = n := by omega
    subst e
    exact .inl ⟨Nat.le_refl _, hd σ H p⟩
end L2
namespace L2
open PySem PySem.Spec PyProof.Rows
abbrev R2 := V → V → Hp → VK → Prop
def OpR (X : Cx) (f : Value → Value → Sem Value) (r : R2) : Prop :=
  ∀ (pins : List (Addr × Obj)) (s : Shared) (σ : St) (H : Hp) (x y : V) (v u : Value) (Q : VK), Inv X pins σ H s → RelV x v → RelV y u → r x y H Q →
    wpAny (model X.prog X.w) X.A (f v u) (EP X pins σ Q) X.xe s
def UnR (X : Cx) (f : Value → Sem Value) (r : V → Hp → VK → Prop) : Prop :=
  ∀ (pins : List (Addr × Obj)) (s : Shared) (σ : St) (H : Hp) (x : V) (v : Value) (Q : VK), Inv X pins σ H s → RelV x v → r x H Q →
    wpAny (model X.prog X.w) X.A (f v) (EP X pins σ Q) X.xe s
def CallR (X : Cx) (f : Value) (r : List V → Hp → VK → Prop) : Prop :=
  ∀ (pins : List (Addr × Obj)) (s : Shared) (σ : St) (H : Hp) (xs : List V) (us : List Value) (Q : VK), Inv X pins σ H s → Vals xs us → r xs H Q →
    wpAny (model X.prog X.w) X.A (call f us) (EP X pins σ Q) X.xe s
def TruR (X : Cx) (r : V → Hp → (Bool → Hp → Prop) → Prop) : Prop :=
  ∀ (pins : List (Addr × Obj)) (s : Shared) (σ : St) (H : Hp) (x : V) (v : Value) (Q : Bool → Hp → Prop), Inv X pins σ H s → RelV x v → r x H Q →
    wpAny (model X.prog X.w) X.A (truthy v) (TP X pins σ Q) X.xe s
def tOp (r : R2) (ta tb : TE) : TE := fun σ H Q => ta σ H fun x H1 => tb σ H1 fun y H2 => r x y H2 Q
def tUn (r : V → Hp → VK → Prop) (ta : TE) : TE := fun σ H Q => ta σ H fun x H1 => r x H1 Q
def rI (C : Int → Int → Prop) (g : Int → Int → V) : R2 := fun x y H Q => ∃ i j, x = .int i ∧ y = .int j ∧ C i j ∧ Q (g i j) H
def rI0 (g : Int → Int → V) : R2 := fun x y H Q => ∃ i j, x = .int i ∧ y = .int j ∧ Q (g i j) H
def rU (g : Int → V) : V → Hp → VK → Prop := fun x H Q => ∃ i, x = .int i ∧ Q (g i) H
section
variable {X : Cx} {a b c : Expr} {ta tb tc : TE} {pos : Pos}
theorem binT (ha : PE X a ta) (hb : PE X b tb) {pins : List (Addr × Obj)} {s : Shared} {σ : St} {H : Hp} {R : V → V → Hp → Prop} (I : Inv X pins σ H s)
    (h : ta σ H fun x H1 => tb σ H1 fun y H2 => R x y H2) {Q : Value → Shared → Prop} {f : Value → Value → Sem Value}
    (hf : ∀ v u s2 x y H2, Inv X pins σ H2 s2 → RelV x v → RelV y u → R x y H2 → wpAny (model X.prog X.w) X.A (f v u) Q X.xe s2) :
    wpAny (model X.prog X.w) X.A (eval a X.env) (fun v s₁ => wpAny (model X.prog X.w) X.A (eval b X.env) (fun u s₂ => wpAny (model X.prog X.w) X.A (f v u) Q X.xe s₂) X.xe s₁) X.xe s := by
  refine thn (ha pins s σ H _ I h) fun v s1 ⟨x, H1, I1, r1, q1⟩ => ?_
  refine thn (hb pins s1 σ H1 _ I1 q1) fun u s2 ⟨y, H2, I2, r2, q2⟩ => ?_
  exact hf v u s2 x y H2 I2 r1 r2 q2
theorem pe_op {op : Operator} {r : R2} (ho : OpR X (binaryOp op) r) (ha : PE X a ta) (hb : PE X b tb) : PE X (.BinOp a op b pos) (tOp r ta tb) := by
  intro pins s σ H Q I h
  exact wpAny_BinOp (binT ha hb I h fun v u s2 x y H2 I2 rx ry q => ho pins s2 σ H2 x y v u Q I2 rx ry q)
theorem pe_un {op : UnaryOp} {r : V → Hp → VK → Prop} (ho : UnR X (unaryOp op) r) (ha : PE X a ta) : PE X (.UnaryOp op a pos) (tUn r ta) := by
  intro pins s σ H Q I h
  exact UnaryOp_ (thn (ha pins s σ H _ I h) fun v s1 ⟨x, H1, I1, r1, q1⟩ => ho pins s1 σ H1 x v Q I1 r1 q1)
theorem opI {f : Value → Value → Sem Value} {C : Int → Int → Prop} {g : Int → Int → Int}
    (rule : ∀ (i j : Int) (t u : Tok) (s : Shared) (Q : Value → Shared → Prop) (E : Value → Shared → Prop), C i j → Q (.int (g i j) s.toks) { s with toks := s.toks + 1 } → wpAny (model X.prog X.w) X.A (f (.int i t) (.int j u)) Q E s) :
    OpR X f (rI C fun i j => .int (g i j)) := by
  intro pins s σ H x y v u Q I rx ry h
  obtain ⟨i, j, rfl, rfl, hc, q⟩ := h
  obtain ⟨t, rfl⟩ := rx
  obtain ⟨t', rfl⟩ := ry
  exact rule i j t t' s _ _ hc ⟨.int (g i j), H, I.tok _, ⟨_, rfl⟩, q⟩
theorem opI0 {f : Value → Value → Sem Value} {g : Int → Int → Int}
    (rule : ∀ (i j : Int) (t u : Tok) (s : Shared) (Q : Value → Shared → Prop) (E : Value → Shared → Prop), Q (.int (g i j) s.toks) { s with toks := s.toks + 1 } → wpAny (model X.prog X.w) X.A (f (.int i t) (.int j u)) Q E s) :
    OpR X f (rI0 fun i j => .int (g i j)) := by
  intro pins s σ H x y v u Q I rx ry h
  obtain ⟨i, j, rfl, rfl, q⟩ := h
  obtain ⟨t, rfl⟩ := rx
  obtain ⟨t', rfl⟩ := ry
  exact rule i j t t' s _ _ ⟨.int (g i j), H, I.tok _, ⟨_, rfl⟩, q⟩
theorem opB0 {f : Value → Value → Sem Value} {g : Int → Int → Bool}
    (rule : ∀ (i j : Int) (t u : Tok) (s : Shared) (Q : Value → Shared → Prop) (E : Value → Shared → Prop), Q (.bool (g i j)) s → wpAny (model X.prog X.w) X.A (f (.int i t) (.int j u)) Q E s) :
    OpR X f (rI0 fun i j => .bl (g i j)) := by
  intro pins s σ H x y v u Q I rx ry h
  obtain ⟨i, j, rfl, rfl, q⟩ := h
  obtain ⟨t, rfl⟩ := rx
  obtain ⟨t', rfl⟩ := ry
  exact rule i j t t' s _ _ ⟨.bl (g i j), H, I, rfl, q⟩
def CPow (i j : Int) : Prop := 0 ≤ j ∧ j ≤ 1000000 ∧ i.natAbs < 2 ^ 64
def CMul (i j : Int) : Prop := (-(2 ^ 64) < i ∧ i < 2 ^ 64) ∨ (-(2 ^ 64) < j ∧ j < 2 ^ 64)
theorem CMul.ok {i j : Int} (h : CMul i j) : IntMulOk i j := by
  rcases h with ⟨h1, h2⟩ | ⟨h1, h2⟩
  · exact .of_left (intBits_le_64 h1 h2)
  · exact .of_right (intBits_le_64 h1 h2)
theorem op_add : OpR X (binaryOp .Add) (rI0 fun i j => .int (i + j)) := opI0 fun _ _ _ _ _ _ _ q => add_int q
theorem op_sub : OpR X (binaryOp .Sub) (rI0 fun i j => .int (i - j)) := opI0 fun _ _ _ _ _ _ _ q => sub_int q
theorem op_modN : OpR X (binaryOp .Mod) (rI (fun _ j => j ≠ 0) fun i j => .int (i.fmod j)) := opI fun _ _ _ _ _ _ _ hc q => mod_int' hc q
theorem op_pow : OpR X (binaryOp .Pow) (rI CPow fun i j => .int (i ^ j.toNat)) := opI fun _ _ _ _ _ _ _ hc q => pow_int_small hc.1 hc.2.1 hc.2.2 q
theorem unI {f : Value → Sem Value} {g : Int → Int}
    (rule : ∀ (i : Int) (t : Tok) (s : Shared) (Q : Value → Shared → Prop) (E : Value → Shared → Prop), Q (.int (g i) s.toks) { s with toks := s.toks + 1 } → wpAny (model X.prog X.w) X.A (f (.int i t)) Q E s) :
    UnR X f (rU fun i => .int (g i)) := by
  intro pins s σ H x v Q I rx h
  obtain ⟨i, rfl, q⟩ := h
  obtain ⟨t, rfl⟩ := rx
  exact rule i t s _ _ ⟨.int (g i), H, I.tok _, ⟨_, rfl⟩, q⟩
theorem un_neg : UnR X (unaryOp .USub) (rU fun i => .int (-i)) := unI fun _ _ _ _ _ q => neg_int q
end
section
variable {X : Cx} {a b c : Expr} {ta tb tc : TE} {pos : Pos}
theorem fin_bl {pins : List (Addr × Obj)} {σ : St} {H : Hp} {s : Shared} {Q : VK} {k k' : Bool} (I : Inv X pins σ H s) (q : Q (.bl k) H) (e : k = k') : EP X pins σ Q (.bool k') s := by
  subst e
  exact ⟨.bl k, H, I, rfl, q⟩
theorem op_lt : OpR X (compareOp .Lt) (rI0 fun i j => .bl (decide (i < j))) := opB0 fun _ _ _ _ _ _ _ q => lt_int q
theorem op_le : OpR X (compareOp .LtE) (rI0 fun i j => .bl (decide (i ≤ j))) := opB0 fun _ _ _ _ _ _ _ q => le_int q
theorem op_gt : OpR X (compareOp .Gt) (rI0 fun i j => .bl (decide (j < i))) := opB0 fun _ _ _ _ _ _ _ q => gt_int q
theorem op_ge : OpR X (compareOp .GtE) (rI0 fun i j => .bl (decide (j ≤ i))) := opB0 fun _ _ _ _ _ _ _ q => ge_int q
theorem op_in_str : OpR X (compareOp .In) (fun x y H Q => ∃ i j, x = .str i ∧ y = .str j ∧ Q (.bl (!(Builtin.Str.occurrences j i 0 j.length 1).isEmpty)) H) := by
  intro pins s σ H x y v u Q I rx ry h
  obtain ⟨i, j, rfl, rfl, q⟩ := h
  obtain ⟨t, rfl⟩ := rx
  obtain ⟨t', rfl⟩ := ry
  exact in_str (fin_bl I q rfl)
theorem op_isN : OpR X (compareOp .Is) (fun x y H Q => y = .non ∧ Q (.bl (decide (x = .non))) H) := by
  intro pins s σ H x y v u Q I rx ry h
  obtain ⟨rfl, q⟩ := h
  cases ry
  refine is_none_gen (fin_bl I q ?_)
  cases x <;> first
    | (cases rx; rfl)
    | (obtain ⟨t, rfl⟩ := rx; rfl)
theorem op_notN : OpR X (compareOp .IsNot) (fun x y H Q => y = .non ∧ Q (.bl (!decide (x = .non))) H) := by
  intro pins s σ H x y v u Q I rx ry h
  obtain ⟨rfl, q⟩ := h
  cases ry
  refine isnot_none_gen (fin_bl I q ?_)
  cases x <;> first
    | (cases rx; rfl)
    | (obtain ⟨t, rfl⟩ := rx; rfl)
theorem OpR.or {f : Value → Value → Sem Value} {r r' : R2} (h : OpR X f r) (h' : OpR X f r') : OpR X f (fun x y H Q => r x y H Q ∨ r' x y H Q) := by
  intro pins s σ H x y v u Q I rx ry q
  rcases q with q | q
  · exact h pins s σ H x y v u Q I rx ry q
  · exact h' pins s σ H x y v u Q I rx ry q
theorem pe_cmpR {op : CmpOp} {r : R2} (ho : OpR X (compareOp op) r) (ha : PE X a ta) (hb : PE X b tb) (hm : behindInMarks op b = false) : PE X (.Compare a [op] [b] pos) (tOp r ta tb) := by
  intro pins s σ H Q I h
  exact wpAny_Compare1 (binT ha hb I h fun v u s2 x y H2 I2 rx ry q => ho pins s2 σ H2 x y v u Q I2 rx ry q) hm
def tTest (t : TE) : TT := fun σ H Q => t σ H fun x H' => ∃ k, x = .bl k ∧ Q k H'
theorem pt_cmpR {op : CmpOp} {r : R2} (ho : OpR X (compareOp op) r) (ha : PE X a ta) (hb : PE X b tb) (hm : behindInMarks op b = false) : PT X (.Compare a [op] [b] pos) (tTest (tOp r ta tb)) := by
  intro pins s σ H Q I h
  refine wpAny_isTrue_Compare1 (thn (ha pins s σ H _ I h) fun v s1 ⟨x, H1, I1, r1, q1⟩ => thn (hb pins s1 σ H1 _ I1 q1) fun u s2 ⟨y, H2, I2, r2, q2⟩ =>
    thn (ho pins s2 σ H2 x y v u _ I2 r1 r2 q2) fun c s3 ⟨z, H3, I3, r3, k, e, q3⟩ => ?_) hm
  subst e
  cases r3
  exact wpAny_truthy_bool ⟨H3, I3, q3⟩
def tChain (r r' : R2) (ta tb tc : TE) : TE := fun σ H Q => ta σ H fun x H1 => tb σ H1 fun y H2 => r x y H2 fun z H3 => ∃ k, z = .bl k ∧
  (if k = true then tc σ H3 fun w' H4 => r' y w' H4 Q else Q (.bl false) H3)
theorem pt_chain {op op' : CmpOp} {r r' : R2} (ho : OpR X (compareOp op) r) (ho' : OpR X (compareOp op') r') (ha : PE X a ta) (hb : PE X b tb) (hc : PE X c tc)
    (hm : lastMarks [op, op'] [b, c] = false := by with_unfolding_all rfl) : PT X (.Compare a [op, op'] [b, c] pos) (tTest (tChain r r' ta tb tc)) := by
  intro pins s σ H Q I h
  refine isTrue_chain (thn (ha pins s σ H _ I h) fun v s1 ⟨x, H1, I1, r1, q1⟩ => test_link (thn (hb pins s1 σ H1 _ I1 q1) fun u s2 ⟨y, H2, I2, r2, q2⟩ =>
    thn (ho pins s2 σ H2 x y v u _ I2 r1 r2 q2) fun d s3 ⟨z, H3, I3, r3, k, e, q3⟩ => ?_)) hm
  subst e
  cases r3
  refine wpAny_truthy_bool ?_
  cases k with
  | false =>
    obtain ⟨k', e', q'⟩ := q3
    cases e'
    exact ite_ff ⟨H3, I3, q'⟩
  | true =>
    refine ite_tt (test_last (thn (hc pins s3 σ H3 _ I3 q3) fun w' s4 ⟨z', H4, I4, r4, q4⟩ => thn (ho' pins s4 σ H4 y z' u w' _ I4 r2 r4 q4) fun d' s5 ⟨z2, H5, I5, r5, k2, e2, q5⟩ => ?_))
    subst e2
    cases r5
    exact wpAny_truthy_bool ⟨H5, I5, q5⟩
def TruV (K : PySem.W.Frag) (x : V) (H : Hp) (k : Bool) : Prop :=
  match x with
  | .non => k = false
  | .bl b => k = b
  | .int i => k = (i != 0)
  | .str y => y.length ≤ sizeLine ∧ k = ((y.length : Int) != 0)
  | .byt y => y.size ≤ sizeLine ∧ k = ((y.size : Int) != 0)
  | .ref p => (∃ xs, SqL K H p xs ∧ k = !xs.isEmpty) ∨ (∃ xs, SqT K H p xs ∧ k = !xs.isEmpty) ∨ ∃ kvs, H p = some (.dK kvs) ∧ k = !kvs.isEmpty
  | _ => False
theorem isEmpty_kv {κ : Type} {kvs : List (κ × V)} {vs : List (κ × Value)} (r : KV kvs vs) : (!vs.isEmpty) = !kvs.isEmpty := by
  cases r <;> rfl
theorem isEmpty_of {xs : List V} {its : List Value} (r : Vals xs its) : (!its.toArray.isEmpty) = !xs.isEmpty := by
  cases r <;> simp
theorem line63 : (sizeLine : Nat) < 2 ^ 63 := by rw [sizeLine_eq]; decide
theorem tru_ok : TruR X (fun x H Q => ∃ k, TruV X.K x H k ∧ Q k H) := by
  intro pins s σ H x v Q I rx h
  obtain ⟨k, e, q⟩ := h
  have hl := line63
  have hs : sizeLine = 16777216 := sizeLine_eq
  cases x with
  | non =>
    cases rx
    have e' : k = false := e
    subst e'
    exact truthy_none ⟨H, I, q⟩
  | bl b =>
    cases rx
    have e' : k = b := e
    subst e'
    exact wpAny_truthy_bool ⟨H, I, q⟩
  | int i =>
    obtain ⟨t, rfl⟩ := rx
    have e' : k = (i != 0) := e
    subst e'
    exact PySem.P.truthy_int ⟨H, I, q⟩
  | str y =>
    obtain ⟨t, rfl⟩ := rx
    obtain ⟨hy, e'⟩ : y.length ≤ sizeLine ∧ k = ((y.length : Int) != 0) := e
    subst e'
    exact PySem.P.truthy_str (by omega) ⟨H, I.tok _, q⟩
  | byt y =>
    obtain ⟨t, rfl⟩ := rx
    obtain ⟨hy, e'⟩ : y.size ≤ sizeLine ∧ k = ((y.size : Int) != 0) := e
    subst e'
    exact PySem.W.truthy_bytes (by omega) ⟨H, I.tok _, q⟩
  | ref p =>
    cases rx
    have e' : (∃ xs, SqL X.K H p xs ∧ k = !xs.isEmpty) ∨ (∃ xs, SqT X.K H p xs ∧ k = !xs.isEmpty) ∨ ∃ kvs, H p = some (.dK kvs) ∧ k = !kvs.isEmpty := e
    rcases e' with ⟨xs, hx, e'⟩ | ⟨xs, hx, e'⟩ | ⟨kvs, hx, e'⟩
    · subst e'
      obtain ⟨its, r, pl, hz⟩ := I.list hx
      have hlen := r.length
      exact wpAny_truthy_list pl.isList (by simp only [List.size_toArray]; omega) ⟨H, I.tok _, by rw [isEmpty_of r]; exact q⟩
    · subst e'
      obtain ⟨its, r, pl, hz⟩ := I.tuple hx
      have hlen := r.length
      exact truthy_tuple pl (by simp only [List.size_toArray]; omega) ⟨H, I.tok _, by rw [isEmpty_of r]; exact q⟩
    · subst e'
      obtain ⟨hz, hS, vs, r, m⟩ : kvs.length ≤ sizeLine ∧ (p == sysModules) = false ∧ ∃ vs, KV kvs vs ∧ s.heap.DictOf (mixKind X.prog X.w) p vs := I.hok p _ hx
      have hlen : kvs.length = vs.length := Paired.length r
      exact wpAny_truthy_dict hS m (by omega) ⟨H, I.tok _, by rw [isEmpty_kv r]; exact q⟩
  | _ => exact (show False from e).elim
theorem op_add_str : OpR X (binaryOp .Add) (fun x y H Q => ∃ i j, x = .str i ∧ y = .str j ∧ i.length + j.length ≤ sizeLine ∧ Q (.str (i ++ j)) H) := by
  intro pins s σ H x y v u Q I rx ry h
  obtain ⟨i, j, rfl, rfl, hz, q⟩ := h
  obtain ⟨t, rfl⟩ := rx
  obtain ⟨t', rfl⟩ := ry
  exact add_str (fun t' tk => ⟨.str (i ++ j), H, I.tok _, ⟨_, rfl⟩, q⟩) hz
theorem vals1 {x : V} {us : List Value} (r : Vals [x] us) : ∃ u, us = [u] ∧ RelV x u := by
  cases r with
  | cons r1 r2 => cases r2; exact ⟨_, rfl, r1⟩
theorem vals2 {x y : V} {us : List Value} (r : Vals [x, y] us) : ∃ u w', us = [u, w'] ∧ RelV x u ∧ RelV y w' := by
  cases r with
  | cons r1 r2 =>
    cases r2 with
    | cons r3 r4 => cases r4; exact ⟨_, _, rfl, r1, r3⟩
theorem call_abs : CallR X (.builtin "abs") (fun xs H Q => ∃ i, xs = [.int i] ∧ Q (.int (if i < 0 then -i else i)) H) := by
  intro pins s σ H xs us Q I r h
  obtain ⟨i, rfl, q⟩ := h
  obtain ⟨u, rfl, t, rfl⟩ := vals1 r
  exact call_abs_int fun u tk => ⟨.int (if i < 0 then -i else i), H, I.tok _, ⟨_, rfl⟩, q⟩
theorem call_min2 (hc : X.calm = true) : CallR X (.builtin "min") (fun xs H Q => ∃ i j, xs = [.int i, .int j] ∧ Q (.int (if j < i then j else i)) H) := by
  intro pins s σ H xs us Q I r h
  obtain ⟨i, j, rfl, q⟩ := h
  obtain ⟨u, w', rfl, ⟨t, rfl⟩, ⟨t', rfl⟩⟩ := vals2 r
  refine min_two_ints (I.ok.hd hc) fun h' tk k => ⟨_, H, I.kept k, ?_, q⟩
  by_cases hj : j < i
  · rw [if_pos hj, if_pos hj]; exact ⟨_, rfl⟩
  · rw [if_neg hj, if_neg hj]; exact ⟨_, rfl⟩
def LenV (K : PySem.W.Frag) (x : V) (H : Hp) (n : Nat) : Prop :=
  match x with
  | .str y => y.length ≤ sizeLine ∧ n = y.length
  | .byt y => y.size ≤ sizeLine ∧ n = y.size
  | .ref p => (∃ xs, SqL K H p xs ∧ n = xs.length) ∨ ∃ xs, SqT K H p xs ∧ n = xs.length
  | _ => False
theorem call_len : CallR X (.builtin "len") (fun xs H Q => ∃ x n, xs = [x] ∧ LenV X.K x H n ∧ Q (.int n) H) := by
  intro pins s σ H xs us Q I r h
  obtain ⟨x, n, rfl, e, q⟩ := h
  obtain ⟨u, rfl, rx⟩ := vals1 r
  have hl := line63
  have hs : sizeLine = 16777216 := sizeLine_eq
  cases x with
  | str y =>
    obtain ⟨t, rfl⟩ := rx
    obtain ⟨hy, e'⟩ : y.length ≤ sizeLine ∧ n = y.length := e
    subst e'
    exact len_str (by omega) ⟨.int _, H, I.tok _, ⟨_, rfl⟩, q⟩
  | byt y =>
    obtain ⟨t, rfl⟩ := rx
    obtain ⟨hy, e'⟩ : y.size ≤ sizeLine ∧ n = y.size := e
    subst e'
    exact PySem.W.len_bytes (by omega) ⟨.int _, H, I.tok _, ⟨_, rfl⟩, q⟩
  | ref p =>
    cases rx
    have e' : (∃ xs, SqL X.K H p xs ∧ n = xs.length) ∨ ∃ xs, SqT X.K H p xs ∧ n = xs.length := e
    rcases e' with ⟨xs, hx, e'⟩ | ⟨xs, hx, e'⟩
    · subst e'
      obtain ⟨its, r', pl, hz⟩ := I.list hx
      have hlen := r'.length
      exact Calls.call_len_list pl.isList (by simp only [List.size_toArray]; omega) ⟨.int xs.length, H, I.tok _, ⟨_, by simp only [List.size_toArray]; rw [hlen]⟩, q⟩
    · subst e'
      obtain ⟨its, r', pl, hz⟩ := I.tuple hx
      have hlen := r'.length
      exact len_tuple pl (by simp only [List.size_toArray]; omega) ⟨.int xs.length, H, I.tok _, ⟨_, by simp only [List.size_toArray]; rw [hlen]⟩, q⟩
  | _ => exact (show False from e).elim
end
end L2
namespace L2
open PySem PySem.Spec PyProof.Rows
structure ObjM (h : Heap) (x dx C : Addr) (mA : Str → Option Value) : Prop where
  obj : h.get? x = some (PySem.W.instObj C dx)
  ns : h.Ns1 dx mA
  ne : dx ≠ x
theorem lookIn_ns {h : Heap} {dx : Addr} {mA : Str → Option Value} (n : h.Ns1 dx mA) : ∃ od, h.get? dx = some od ∧ ∀ name, PySem.W.lookIn name od = some (mA name) := by
  obtain ⟨o, es, ep, ho, hd, hk, _, hm⟩ := n
  refine ⟨o, ho, fun name => ?_⟩
  have e := hm name
  unfold nsFind findBy at e
  rw [← Array.find?_toList] at e
  unfold PySem.W.lookIn
  rw [hd]
  dsimp only
  split
  · rename_i y q
    rw [q] at e
    exact congrArg some e
  · rename_i q
    rw [q] at e
    have a : es.toList.any (·.refKey) = false := by
      rw [List.any_eq_false]
      intro y hy
      obtain ⟨z, t, hkey⟩ := hk y (Array.mem_toList_iff.mp hy)
      simp [DictEntry.refKey, hkey]
    have a' : ¬ es.toList.any (·.refKey) = true := by rw [a]; exact Bool.false_ne_true
    rw [if_neg a']
    exact congrArg some e
theorem ObjM.look {h : Heap} {x dx C : Addr} {mA : Str → Option Value} (I : ObjM h x dx C mA) : ∃ od, PySem.W.InstAt h x (PySem.W.instObj C dx) C (some od) ∧ ∀ name, PySem.W.lookIn name od = some (mA name) :=
  let ⟨od, ho, hl⟩ := lookIn_ns I.ns
  ⟨od, ⟨I.obj, rfl, rfl, ho⟩, hl⟩
section
variable {prog : Program} {w : World} {A : Around} {E : Value → Shared → Prop} {s : Shared} {K : PySem.W.Frag} {x dx C f : Addr} {mA : Str → Option Value} {name : Str} {v : Value}
end
section
variable {P : Program} {w : World} {H H' : Hp} {h h' : Heap} {a C dx : Addr} {fs fs' : List (Str × V)}
theorem ins_get (hok : HOk P w H h) (e : H a = some (.ins C dx fs)) : ∃ mA, ObjM h a dx C mA ∧ (∀ f, RelO (fs.lookup f) (mA f)) ∧ PySem.Within mA (fs.map (·.1)) ∧ fs.length ≤ 1000 ∧ H dx = some (.own a) := by
  obtain ⟨d, z, ne, ob, mA, n, r, q⟩ := (show ObjOk P w H h a (.ins C dx fs) from hok a _ e)
  exact ⟨mA, ⟨ob, n, ne⟩, r, q, z, d⟩
end
structure Cls (K : PySem.W.Frag) (C : Addr) : Prop where
  pg : PySem.W.plainGet K C Str.empty = true
  hd : PySem.W.hasDictIn K C = true
  po : PySem.W.plainOver K C = true
  sa : PySem.W.findIn K (.ref C) "__setattr__" = some (some (.builtin "object.__setattr__"))
theorem Cls.get {K : PySem.W.Frag} {C : Addr} (c : Cls K C) (f : Str) : PySem.W.plainGet K C f = true := c.pg
def NoAttr (K : PySem.W.Frag) (C : Addr) (f : Str) : Prop := PySem.W.findIn K (.ref C) f = some none
section
variable {X : Cx} {pins : List (Addr × Obj)} {σ : St} {H : Hp} {s : Shared} {a C dx : Addr} {fs : List (Str × V)} {f : Str} {v : V} {A : Around} {E : Value → Shared → Prop}
end
section
variable {X : Cx} {o e value : Expr} {f : Str} {pos pos' tpos : Pos} {ta tv : TE}
end
section
variable {X : Cx} {pins : List (Addr × Obj)} {σ : St} {H : Hp} {s : Shared} {A : Around} {E : Value → Shared → Prop} {Q : Value → Shared → Prop} {c : Value} {b : Bool}
inductive TyOf (K : PySem.W.Frag) (H : Hp) : V → Value → Prop where
  | non : TyOf K H .non (.type "NoneType")
  | bl (x : Bool) : TyOf K H (.bl x) (.type "bool")
  | int (i : Int) : TyOf K H (.int i) (.type "int")
  | str (x : Str) : TyOf K H (.str x) (.type "str")
  | flt (x : UInt64) : TyOf K H (.flt x) (.type "float")
  | lst {a : Addr} {xs : List V} (e : H a = some (.lst xs)) : TyOf K H (.ref a) (.type "list")
  | frz {a : Addr} {o : Obj} {xs : List V} (e : H a = some (.frz o (.lst xs))) : TyOf K H (.ref a) (.type "list")
  | tup {a : Addr} {xs : List V} (e : H a = some (.tup xs)) : TyOf K H (.ref a) (.type "tuple")
  | dK {a : Addr} {kvs : List (Key × V)} (e : H a = some (.dK kvs)) : TyOf K H (.ref a) (.type "dict")
  | dT {a : Addr} {kvs : List (List Key × V)} (e : H a = some (.dT kvs)) : TyOf K H (.ref a) (.type "dict")
  | ins {a C dx : Addr} {fs : List (Str × V)} (e : H a = some (.ins C dx fs)) (cl : Cls K C) (ha : PySem.W.findIn K (.ref C) "__class__" = some (some (.builtin "object.__class__")))
      (hn : PySem.W.specialIn K (.builtin "object.__class__") "__get__" = some (some (.builtin "getset_descriptor.__get__"))) (htk : PySem.W.takesIn K (.builtin "object.__class__") = some true)
      (hm : PySem.W.mroIn K C (.type "object") = some true) : TyOf K H (.ref a) (.ref C)
theorem isinst_ok {x : V} {u t : Value} (I : Inv X pins σ H s) (rx : RelV x u) (ty : TyOf X.K H x t) (e : PySem.W.kitOne X.K t c = some b) (h : ∀ tk, Q (.bool b) { s with toks := tk }) :
    wpAny (model X.prog X.w) A (call (.builtin "isinstance") [u, c]) Q E s := by
  cases ty with
  | non => cases (show u = Value.none from rx); exact PySem.W.kia_one PySem.W.kitx_none I.kIn True.intro e (fun z => nomatch z) h
  | bl y => cases (show u = Value.bool y from rx); exact PySem.W.kia_one PySem.W.kitx_bool I.kIn True.intro e (fun z => nomatch z) h
  | int i => obtain ⟨t, q⟩ := (show ∃ t, u = Value.int i t from rx); cases q; exact PySem.W.kia_one PySem.W.kitx_int I.kIn True.intro e (fun z => nomatch z) h
  | str y => obtain ⟨t, q⟩ := (show ∃ t, u = Value.str y t from rx); cases q; exact PySem.W.kia_one PySem.W.kitx_str I.kIn True.intro e (fun z => nomatch z) h
  | flt y => obtain ⟨t, q⟩ := (show ∃ t, u = Value.float y t from rx); cases q; exact PySem.W.kia_one PySem.W.kitx_float I.kIn True.intro e (fun z => nomatch z) h
  | @lst a xs ea =>
    cases (show u = Value.ref a from rx)
    obtain ⟨_, _, n, _, h1⟩ := (show ObjOk X.prog X.w H s.heap a (.lst xs) from I.hok a _ ea)
    exact PySem.W.kia_one PySem.W.kitx_list I.kIn ⟨_, h1, rfl⟩ e (fun z => nomatch z) h
  | @frz a ob xs ea =>
    cases (show u = Value.ref a from rx)
    obtain ⟨_, _, _, n, _, h1⟩ := (show ObjOk X.prog X.w H s.heap a (.frz ob (.lst xs)) from I.hok a _ ea)
    exact PySem.W.kia_one PySem.W.kitx_list I.kIn ⟨_, h1, rfl⟩ e (fun z => nomatch z) h
  | @tup a xs ea =>
    cases (show u = Value.ref a from rx)
    obtain ⟨_, _, _, p⟩ := (show ObjOk X.prog X.w H s.heap a (.tup xs) from I.hok a _ ea)
    obtain ⟨o, h1, h2, _⟩ := p
    exact PySem.W.kia_one PySem.W.kitx_tuple I.kIn ⟨o, h1, h2⟩ e (fun z => nomatch z) h
  | @dK a kvs ea =>
    cases (show u = Value.ref a from rx)
    obtain ⟨_, _, vs, _, p⟩ := (show ObjOk X.prog X.w H s.heap a (.dK kvs) from I.hok a _ ea)
    obtain ⟨o, es, ep, h1, h2, _⟩ := p
    exact PySem.W.kia_one PySem.W.kitx_dict I.kIn ⟨o, h1, h2.1⟩ e (fun z => nomatch z) h
  | @dT a kvs ea =>
    cases (show u = Value.ref a from rx)
    obtain ⟨_, _, xs, _, o, es, ep, h1, h2, _⟩ := (show ObjOk X.prog X.w H s.heap a (.dT kvs) from I.hok a _ ea)
    exact PySem.W.kia_one PySem.W.kitx_dict I.kIn ⟨o, h1, h2.1⟩ e (fun z => nomatch z) h
  | @ins a C dx fs ea cl ha hn htk hm =>
    cases (show u = Value.ref a from rx)
    obtain ⟨mA, O, _⟩ := ins_get I.hok ea
    obtain ⟨od, J, _⟩ := O.look
    exact PySem.W.kia_one (PySem.W.kitx_own (cl.get _) cl.hd ha hn htk hm) I.kIn J e (fun z => nomatch z) h
end
end L2
namespace L2
open PySem PySem.Spec PyProof.Rows
structure Room (k : Nat) (A : Around) : Prop where
  hd : A.handled = none
  dp : A.depth + 3 * k + 5 < recursionLimit
  un : A.units + 16 * k + 200 < cLine
theorem Room.mono {j k : Nat} {A : Around} (r : Room k A) (h : j ≤ k) : Room j A := ⟨r.hd, by have := r.dp; omega, by have := r.un; omega⟩
theorem Room.deeper {k : Nat} {A : Around} (r : Room (k + 1) A) (env : Env) : Room k (A.deeper env) :=
  ⟨r.hd, by have := r.dp; show A.depth + 1 + 3 * k + 5 < _; omega, by have := r.un; show A.units + 3 + 16 * k + 200 < _; omega⟩
theorem Room.depth {k : Nat} {A : Around} (r : Room k A) : A.depth < recursionLimit := by have := r.dp; omega
theorem Room.units {k : Nat} {A : Around} (r : Room k A) : A.units + 64 < cLine := by have := r.un; omega
def tNil : TA := fun _ H Q => Q [] H
def tCons (ta : TE) (tr : TA) : TA := fun σ H Q => ta σ H fun x H1 => tr σ H1 fun xs H2 => Q (x :: xs) H2
section
variable {X : Cx} {e : Expr} {es : List Expr} {te : TE} {t : TA} {pos : Pos}
theorem pa_nil : PA X [] tNil := fun _ _ _ _ H Q I h => Calls.spliced_nil ⟨[], H, I, .nil, h⟩
theorem pa_cons (ha : PE X e te) (hr : PA X es t) (hs : starEach (e :: es) X.env = (false, eval e X.env) :: starEach es X.env := by rfl) : PA X (e :: es) (tCons te t) := by
  intro pos pins s σ H Q I h
  rw [hs]
  show wpAny _ _ (spliced ((false, eval e X.env) :: backTo pos (starEach es X.env))) _ _ s
  refine Calls.spliced_cons (thn (ha pins s σ H _ I h) fun u s1 ⟨x, H1, I1, r1, q1⟩ => ?_)
  exact thn (hr pos pins s1 σ H1 _ I1 q1) fun us s2 ⟨xs, H2, I2, r2, q2⟩ => ⟨x :: xs, H2, I2, .cons r1 r2, q2⟩
def tTup (t : TA) : TE := fun σ H Q => t σ H fun xs H1 => xs.length ≤ sizeLine ∧ ∀ p, H1 p = none → Q (.ref p) (upd H1 p (.tup xs))
def tLst (t : TA) : TE := fun σ H Q => t σ H fun xs H1 => xs.length ≤ sizeLine ∧ ∀ p, H1 p = none → Q (.ref p) (upd H1 p (.lst xs))
theorem pe_tup {x1} (h : PA X es t) : PE X (.Tuple es x1 pos) (tTup t) := by
  intro pins s σ H Q I hq
  refine wpAny_Tuple_spliced (thn (h pos pins s σ H _ I hq) fun us s1 ⟨xs, H1, I1, r, z, q⟩ => ⟨by rw [← r.length]; exact z, ?_⟩)
  have hf : H1 s1.heap.objs.size = none := I1.hok.fresh (Nat.le_refl _)
  refine ⟨.ref s1.heap.objs.size, upd H1 s1.heap.objs.size (.tup xs), I1.laid (t' := s1.toks) (fun b u e => Heap.get?_push_of_some _ e) (Nat.le_refl _) ?_, rfl, q _ hf⟩
  exact ⟨z, us, r, ⟨_, Heap.get?_push_size _ rfl, rfl, _, rfl⟩⟩
theorem pe_lst (h : PA X es t) : PE X (.List es pos) (tLst t) := by
  intro pins s σ H Q I hq
  refine wpAny_List_spliced (thn (h pos pins s σ H _ I hq) fun us s1 ⟨xs, H1, I1, r, z, q⟩ => ⟨by rw [← r.length]; exact z, ?_⟩)
  have hf : H1 s1.heap.objs.size = none := I1.hok.fresh (Nat.le_refl _)
  refine ⟨.ref s1.heap.objs.size, upd H1 s1.heap.objs.size (.lst xs), I1.laid (t' := s1.toks) (fun b u e => Heap.get?_push_of_some _ e) (Nat.le_refl _) ?_, rfl, q _ hf⟩
  exact ⟨z, us, 0, r, Heap.get?_push_size _ rfl⟩
end
abbrev Sp := List V → Hp → VK → XK → Prop
abbrev CXT := List Env → Hp → Shared → XK → Value → Shared → Prop
structure Env0 (P : Program) (w : World) (K : PySem.W.Frag) (mg : Str → Option Value) (base : Heap) (A : Around) (outer : List Env) (s : Shared) (H : Hp) : Prop where
  frames : A.frames = some outer
  mod : Mod K mg base
  bs : ∀ b o, base.get? b = some o → s.heap.get? b = some o ∧ H b = none
  bsz : base.objs.size ≤ s.heap.objs.size
  funs : s.heap.FunFrames base outer
  frf : ∀ b ∈ frs outer, H b = none
  hok : HOk P w H s.heap
  bare : AllBare s.gens
def CE (outer : List Env) (P : Program) (w : World) (H : Hp) (s : Shared) (Q : VK) (u : Value) (s' : Shared) : Prop :=
  ∃ v H', s'.os = s.os ∧ AllBare s'.gens ∧ Un (frs outer) [] H H' s.heap s'.heap ∧ HOk P w H' s'.heap ∧ RelV v u ∧ Q v H'
def CR (CX : CXT) (outer : List Env) (P : Program) (w : World) (H : Hp) (s : Shared) (Q : VK) (E : XK) (r : Result) (s' : Shared) : Prop :=
  match r with
  | .ok (.ret u) => CE outer P w H s Q u s'
  | .ok _ => False
  | .error e => CX outer H s E e s'
structure FnOk (P : Program) (w : World) (K : PySem.W.Frag) (mg : Str → Option Value) (base : Heap) (CX : CXT) (k : Nat) (f : Addr) (fd : FuncData) (ps : List Str) (sp : Sp) : Prop where
  len : ∀ vs H Q E, sp vs H Q E → vs.length = ps.length
  run : ∀ (A : Around) (outer : List Env) (s : Shared) (H : Hp) (args : Args) (us : List Value) (vs : List V) (Q : VK) (E : XK), Room k A → Env0 P w K mg base A outer s H → BindsTo s fd args (ps.zip us) → Vals vs us → sp vs H Q E →
    codeAny (model P w) A (.call (.ref f) args) (CR CX outer P w H s Q E) s
theorem FnOk.mono {P : Program} {w : World} {K : PySem.W.Frag} {mg : Str → Option Value} {base : Heap} {CX : CXT} {j k : Nat} {f : Addr} {fd : FuncData} {ps : List Str} {sp : Sp} (F : FnOk P w K mg base CX j f fd ps sp) (h : j ≤ k) :
    FnOk P w K mg base CX k f fd ps sp := ⟨F.len, fun A outer s H args us vs Q E hr => F.run A outer s H args us vs Q E (hr.mono h)⟩
theorem FnOk.imp {P : Program} {w : World} {K : PySem.W.Frag} {mg : Str → Option Value} {base : Heap} {CX : CXT} {k : Nat} {f : Addr} {fd : FuncData} {ps : List Str} {sp sp' : Sp} (F : FnOk P w K mg base CX k f fd ps sp)
    (h : ∀ vs H Q E, sp' vs H Q E → sp vs H Q E) : FnOk P w K mg base CX k f fd ps sp' :=
  ⟨fun vs H Q E q => F.len vs H Q E (h _ _ _ _ q), fun A outer s H args us vs Q E hr he hb hv hs => F.run A outer s H args us vs Q E hr he hb hv (h _ _ _ _ hs)⟩
section
variable {X : Cx} {pins : List (Addr × Obj)} {σ : St} {H : Hp} {s s' : Shared}
theorem Inv.env0 (I : Inv X pins σ H s) : Env0 X.prog X.w X.K X.mg X.base X.A X.stack s H :=
  ⟨I.ok.frames, I.ok.mod, I.bs, Nat.le_trans I.ok.bsz I.sz, I.stack, I.stkFree, I.hok, I.bare⟩
theorem Inv.after {Q : VK} {u : Value} (I : Inv X pins σ H s) (h : CE X.stack X.prog X.w H s Q u s') : EP X pins σ Q u s' := by
  obtain ⟨v, H', os, bare, un, hok, r, q⟩ := h
  obtain ⟨hh, g, d, t, os'⟩ := s'
  obtain rfl : os' = s.os := os
  exact ⟨v, H', I.call (h' := hh) (g' := g) (d' := d) (t' := t) (ch := []) un hok bare (fun b z => absurd z (by simp)), r, q⟩
end
def tCall (sp : Sp) (dvs : List V) (E : XK) (t : TA) : TE := fun σ H Q => t σ H fun vs H1 => sp (vs ++ dvs) H1 Q E
def Binds (K : PySem.W.Frag) (fd : FuncData) (ps : List Str) (ds : List Value) : Prop :=
  ∀ (s : Shared) (us : List Value), K.In s.heap → (us ++ ds).length = ps.length → BindsTo s fd ⟨us, []⟩ (ps.zip (us ++ ds))
theorem Binds.all {K : PySem.W.Frag} {fd : FuncData} {ps : List Str} (h : ∀ us : List Value, us.length = ps.length → bindArgs fd ⟨us, []⟩ = pure (ps.zip us)) : Binds K fd ps [] := fun s us _ hl => by
  rw [List.append_nil] at hl ⊢
  exact .of_eq (h us hl)
def Passes (CX : CXT) (X : Cx) (E : XK) : Prop := ∀ (pins : List (Addr × Obj)) (σ : St) (H : Hp) (s : Shared) (e : Value) (s' : Shared), Inv X pins σ H s → CX X.stack H s E e s' → X.xe e s'
section
variable {X : Cx} {CX : CXT} {k : Nat} {f C : Addr} {fd : FuncData} {ps : List Str} {sp : Sp} {dvs : List V} {ds : List Value} {E : XK} {x m : Str} {p pos apos : Pos} {e o : Expr} {es : List Expr} {ta : TE} {t : TA}
theorem run_fn {pins : List (Addr × Obj)} {σ : St} {H : Hp} {s : Shared} {Q : VK} {us : List Value} {vs : List V} (F : FnOk X.prog X.w X.K X.mg X.base CX k f fd ps sp) (hr : Room k X.A) (hb : Binds X.K fd ps ds) (hd : Vals dvs ds) (hx : Passes CX X E)
    (I : Inv X pins σ H s) (r : Vals vs us) (h : sp (vs ++ dvs) H Q E) : wpAny (model X.prog X.w) X.A (call (.ref f) us) (EP X pins σ Q) X.xe s := by
  have r2 : Vals (vs ++ dvs) (us ++ ds) := r.append hd
  have hl : (us ++ ds).length = ps.length := by rw [← r2.length]; exact F.len _ _ _ _ h
  refine wpAny_call (codeAny_mono (F.run X.A X.stack s H ⟨us, []⟩ (us ++ ds) (vs ++ dvs) Q E hr I.env0 (hb s us I.kIn hl) r2 h) fun r s' hq => ?_)
  cases r with
  | error e => exact hx pins σ H s e s' I hq
  | ok fl =>
    cases fl with
    | ret u => exact I.after hq
    | next => exact False.elim hq
    | brk => exact False.elim hq
    | cont => exact False.elim hq
theorem pe_call (F : FnOk X.prog X.w X.K X.mg X.base CX k f fd ps sp) (hr : Room k X.A) (hg : Gl X x) (hm : X.mg x = some (.ref f)) (hk : PySem.W.keepIn X.K (.ref f) = true) (hb : Binds X.K fd ps ds) (hd : Vals dvs ds) (hx : Passes CX X E)
    (ha : PA X (e :: es) t) (hdb : (x == ("__debug__" : Str)) = false := by decide) (he : starEach (e :: es) X.env = (false, eval e X.env) :: starEach es X.env := by rfl) (hpl : (backTo pos (starEach es X.env)).any (·.1) = false := by rfl) :
    PE X (.Call (.Name x p) (e :: es) [] pos) (tCall sp dvs E t) := by
  intro pins s σ H Q I h
  refine wpAny_Call_Name_kw (ld_glob I hg hm ?_ hdb)
  refine PySem.W.callWith_K (h₀ := X.base) I.ok.mod.kin hk (thn (ha pos pins s σ H _ I h) fun us s1 ⟨vs, H1, I1, r, q⟩ => ⟨I1.kIn, ?_⟩) he hpl
  exact run_fn F hr hb hd hx I1 r q
end
section
variable {X : Cx} {CX : CXT} {k : Nat} {f C : Addr} {fd : FuncData} {ps ks : List Str} {sp : Sp} {E : XK} {x m : Str} {p pos apos kpos : Pos} {e o : Expr} {es : List Expr} {kws : List Keyword} {te ta : TE} {t tk : TA} {nm : Option Str}
variable {g : List Value → List Value → List Value} {gV : List V → List V → List V}
end
structure FnScope (N P : List Str) (sc : Scope) : Prop where
  kind : sc.kind = .function
  co : sc.isCoroutine = false
  gen : sc.isGenerator = false
  nd : N.Nodup
  pre : N.take P.length = P
  par : ∀ x ∈ P, sc.names.lookup x = some .local ∨ sc.names.lookup x = some .cell
  nofree : ∀ y ∈ sc.names, y.2 ≠ .free
theorem bindL_out {kindOf : Str → Option NameKind} {x : Str} : ∀ {binds : List (Str × Value)} {m : Str → Option Value}, (∀ v, (x, v) ∉ binds) → bindL kindOf binds m x = m x
  | [], _, _ => rfl
  | (n, v) :: r, m, h => by
    unfold bindL
    rw [bindL_out fun w hw => h w (List.mem_cons_of_mem _ hw)]
    split
    · have : x ≠ n := by rintro rfl; exact h v List.mem_cons_self
      simp [this]
    · rfl
theorem bindC_out {kindOf : Str → Option NameKind} {x : Str} : ∀ {binds : List (Str × Value)} {m : Str → Option Value}, (∀ v, (x, v) ∉ binds) → bindC kindOf binds m x = m x
  | [], _, _ => rfl
  | (n, v) :: r, m, h => by
    unfold bindC
    rw [bindC_out fun w hw => h w (List.mem_cons_of_mem _ hw)]
    split
    · rfl
    · have : x ≠ n := by rintro rfl; exact h v List.mem_cons_self
      simp [this]
theorem bindL_get {kindOf : Str → Option NameKind} {x : Str} {v : Value} : ∀ {P : List Str} {vs : List Value} {i : Nat} {m : Str → Option Value}, P.Nodup → P[i]? = some x → vs[i]? = some v → kindOf x = some .local →
    bindL kindOf (P.zip vs) m x = some v
  | [], _, _, _, _, h, _, _ => by simp at h
  | _ :: _, [], _, _, _, _, h, _ => by simp at h
  | p :: P, w :: vs, 0, m, nd, h1, h2, hk => by
    simp at h1 h2; subst h1; subst h2
    show bindL kindOf ((p, w) :: P.zip vs) m p = _
    unfold bindL
    rw [bindL_out fun v hv => (List.nodup_cons.mp nd).1 (List.of_mem_zip hv).1, if_pos hk]
    simp
  | p :: P, w :: vs, i + 1, m, nd, h1, h2, hk => by
    show bindL kindOf ((p, w) :: P.zip vs) m x = _
    unfold bindL
    exact bindL_get (i := i) (List.nodup_cons.mp nd).2 (by simpa using h1) (by simpa using h2) hk
theorem bindC_get {kindOf : Str → Option NameKind} {x : Str} {v : Value} : ∀ {P : List Str} {vs : List Value} {i : Nat} {m : Str → Option Value}, P.Nodup → P[i]? = some x → vs[i]? = some v → kindOf x ≠ some .local →
    bindC kindOf (P.zip vs) m x = some v
  | [], _, _, _, _, h, _, _ => by simp at h
  | _ :: _, [], _, _, _, _, h, _ => by simp at h
  | p :: P, w :: vs, 0, m, nd, h1, h2, hk => by
    simp at h1 h2; subst h1; subst h2
    show bindC kindOf ((p, w) :: P.zip vs) m p = _
    unfold bindC
    rw [bindC_out fun v hv => (List.nodup_cons.mp nd).1 (List.of_mem_zip hv).1, if_neg hk]
    simp
  | p :: P, w :: vs, i + 1, m, nd, h1, h2, hk => by
    show bindC kindOf ((p, w) :: P.zip vs) m x = _
    unfold bindC
    exact bindC_get (i := i) (List.nodup_cons.mp nd).2 (by simpa using h1) (by simpa using h2) hk
def start (N : List Str) (vs : List V) : St := vs.map some ++ List.replicate (N.length - vs.length) none
def cxOf (CX : CXT) (P : Program) (w : World) (K : PySem.W.Frag) (mg : Str → Option Value) (base : Heap) (N : List Str) (qual : Str) (scope : Scope) (f : Addr) (cd : Value) (A : Around) (outer : List Env) (s : Shared) (H : Hp) (E : XK) : Cx where
  prog := P
  w := w
  K := K
  mg := mg
  base := base
  A := A.deeper (envOfC qual scope s.heap.objs.size f cd)
  N := N
  s₀ := s
  H₀ := H
  env := envOfC qual scope s.heap.objs.size f cd
  outer := outer
  stack := envOfC qual scope s.heap.objs.size f cd :: outer
  ex := []
  calm := true
  fn := fun _ => true
  pn := []
  xe := fun e s' => wpAny (model P w) (A.deeper (envOfC qual scope s.heap.objs.size f cd)) (leaving (envOfC qual scope s.heap.objs.size f cd) e) (fun _ s'' => CX outer H s E e s'') (fun e' s'' => CX outer H s E e' s'') s'
theorem cell_has {sc : Scope} {n : Nat} {x : Str} (h : sc.names.lookup x = some .cell) : ∃ c, (cellsFrom n sc.names []).lookup x = some c := by
  have q := PySem.W.cellsFrom_some sc.names n [] (.inl h)
  exact Option.isSome_iff_exists.mp q
theorem inv_start {CX : CXT} {P : Program} {w : World} {K : PySem.W.Frag} {mg : Str → Option Value} {base : Heap} {N ps : List Str} {qual : Str} {scope : Scope} {f : Addr} {cd : Value} {A : Around} {outer : List Env} {s s1 : Shared} {H : Hp} {E : XK} {us : List Value} {vs : List V}
    (S : FnScope N ps scope) (hd : A.handled = none) (e0 : Env0 P w K mg base A outer s H) (hl : vs.length = ps.length) (r : Vals vs us)
    (x : InCallC s s.heap.objs.size (bindL (envOfC qual scope s.heap.objs.size f cd).kindOf (ps.zip us) fun _ => none) (cellsFrom (s.heap.objs.size + 1) scope.names []) (bindC (envOfC qual scope s.heap.objs.size f cd).kindOf (ps.zip us) fun _ => none) s1) :
    Inv (cxOf CX P w K mg base N qual scope f cd A outer s H E) [] (start N vs) H s1 := by
  have hpl : ps.length ≤ N.length := by have := congrArg List.length S.pre; rw [List.length_take] at this; omega
  obtain ⟨h1, tk, rfl, hk⟩ := x.done
  have noA : ∀ b : Addr, b ∉ (cxOf CX P w K mg base N qual scope f cd A outer s H E).ex := fun b z => absurd (show b ∈ ([] : List Addr) from z) (by simp)
  refine ⟨⟨e0.mod, S.kind, rfl, rfl, Nat.le_refl _, fun y z c h1 h2 => ?_, fun y hy => ?_, fun y c _ h => ?_, fun _ => hd, Around.frames_deeper e0.frames, .inr ⟨rfl, rfl⟩, fun b z => absurd z (noA b), e0.bs, e0.bsz, fun b _ _ => noA b, fun b z => absurd z (noA b), e0.funs, e0.frf⟩,
    rfl, e0.bare, Un.kept hk, ⟨_, x.toInCall.ns, fun i y v h1 h2 h3 => ?_⟩, fun y c h => ⟨_, x.cell y c h⟩, e0.hok.fresh (Nat.le_refl _), fun y c h => ?_, fun p hp => absurd (show p ∈ ([] : List (Addr × Obj)) from hp) (by simp), e0.hok.kept hk, ?_⟩
  · exact name_of_addr x.apart (PySem.mem_of_lookup h1) (PySem.mem_of_lookup h2)
  · have hy : scope.names.lookup y = some .cell ∨ scope.names.lookup y = some .free := hy
    rcases hy with hy | hy
    · exact cell_has hy
    · exact absurd rfl (S.nofree _ (PySem.mem_of_lookup hy))
  · exact Nat.le_of_lt (x.above y c (PySem.mem_of_lookup h))
  · have hi : i < vs.length := by
      unfold start at h2
      by_cases hi : i < vs.length
      · exact hi
      · rw [List.getElem?_append_right (by simpa using hi)] at h2
        rw [List.getElem?_replicate] at h2
        split at h2 <;> cases h2
    have ha : vs[i]? = some v := by
      unfold start at h2
      rw [List.getElem?_append_left (by simpa using hi), List.getElem?_map] at h2
      cases e : vs[i]? with
      | none => rw [e] at h2; cases h2
      | some a => rw [e] at h2; cases h2; rfl
    obtain ⟨u, hu, rv⟩ := r.get ha
    have hp : ps[i]? = some y := by
      rw [← S.pre, List.getElem?_take_of_lt (by omega)]; exact h1
    have ndP : ps.Nodup := by rw [← S.pre]; exact S.nd.sublist (List.take_sublist _ _)
    refine ⟨u, rv, ?_⟩
    rcases S.par y (List.mem_of_getElem? hp) with k | k
    · exact .inl ⟨k, bindL_get ndP hp hu k⟩
    · obtain ⟨c, e⟩ := cell_has (n := s.heap.objs.size + 1) k
      refine .inr ⟨.inl k, c, e, ?_⟩
      have q := x.cell y c e
      rw [bindC_get ndP hp hu (by show scope.names.lookup y ≠ _; rw [k]; decide)] at q
      exact q
  · exact e0.hok.fresh (Nat.le_of_lt (x.above y c (PySem.mem_of_lookup h)))
  · unfold start
    show _ = N.length
    rw [List.length_append, List.length_map, List.length_replicate]
    omega
theorem fn_of {CX : CXT} {P : Program} {w : World} {K : PySem.W.Frag} {mg : Str → Option Value} {base : Heap} {k : Nat} {f : Addr} {name qual : Str} {params : Arguments} {body : List Stmt} {scope : Scope} {dV kV doc pm cdv ct oc : Value} {an od : Option Addr}
    {osl : Array (Option Value)} {N ps : List Str} {sp : Sp} (lk : K.lookup f = some ⟨oc, od, .func (PySem.W.fnOf name qual params body scope dV kV doc pm an cdv ct), osl⟩) (hcd : PySem.W.codeIn K cdv qual = true) (S : FnScope N ps scope)
    (len : ∀ vs H Q E, sp vs H Q E → vs.length = ps.length)
    (hbody : ∀ (A : Around) (outer : List Env) (s : Shared) (H : Hp) (vs : List V) (Q : VK) (E : XK), Room k (A.deeper (envOfC qual scope s.heap.objs.size f cdv)) → sp vs H Q E →
      ∃ t, PSs (cxOf CX P w K mg base N qual scope f cdv A outer s H E) body t ∧ t { nx := fun _ H' => Q .non H', rt := Q } (start N vs) H) :
    FnOk P w K mg base CX (k + 1) f (PySem.W.fnOf name qual params body scope dV kV doc pm an cdv ct) ps sp := by
  refine ⟨len, fun A outer s H args us vs Q E hr e0 hb r hsp => ?_⟩
  have hl := len _ _ _ _ hsp
  have KX : K.In s.heap := e0.mod.kin.keeps fun b o e => (e0.bs b o e).1
  have lim : s.heap.NoLimit := e0.mod.nolimit.keeps fun b o e => (e0.bs b o e).1
  have hkind : ∀ y ∈ ps.zip us, scope.names.lookup y.1 = some .local ∨ (scope.names.lookup y.1 = some .cell ∧ ((cellsFrom (s.heap.objs.size + 1) scope.names []).lookup y.1).isSome = true) := fun ⟨n, v⟩ hy => by
    rcases S.par n (List.of_mem_zip hy).1 with q | q
    · exact .inl q
    · exact .inr ⟨q, PySem.W.cellsFrom_some _ _ _ (.inl q)⟩
  refine codeAny_call_function hr.depth (KX _ _ lk) rfl S.co S.gen rfl (PySem.W.codeRec_of KX hcd) (hb _ _ _ _ ?_)
  refine wpAny_newFunctionEnv_cells S.kind hkind fun env he s1 x => ?_
  subst he
  refine ⟨lim.keeps x.toInCall.keep, codeAny_func ?_⟩
  obtain ⟨t, ht, hq⟩ := hbody A outer s H vs Q E (hr.deeper _) hsp
  have I : Inv (cxOf CX P w K mg base N qual scope f cdv A outer s H E) [] (start N vs) H s1 := inv_start S hr.hd e0 hl r x
  refine wpAny_mono (ht [] s1 (start N vs) H _ I hq) (fun fl s' hs => ?_) fun e s' hs => hs
  have fin : ∀ {σ' : St} {H' : Hp} {v : V} {u : Value}, Inv (cxOf CX P w K mg base N qual scope f cdv A outer s H E) [] σ' H' s' → RelV v u → Q v H' → CE outer P w H s Q u s' :=
    fun {σ' H' v u} J rv q => ⟨v, H', J.os, J.bare, J.base, J.hok, rv, q⟩
  cases fl with
  | ret u =>
    obtain ⟨v, σ', H', J, rv, q⟩ := hs
    exact fin J rv q
  | next =>
    obtain ⟨σ', H', J, q⟩ := hs
    exact fin (v := V.non) (u := Value.none) J rfl q
  | brk =>
    obtain ⟨_, _, _, q⟩ := hs
    exact False.elim q
  | cont =>
    obtain ⟨_, _, _, q⟩ := hs
    exact False.elim q
end L2
namespace L2
open PySem PySem.Spec PyProof.Rows
section
variable {X : Cx} {x : Str} {p pos : Pos} {e : Expr} {es : List Expr} {t : TA} {id T : String} {r : List V → Hp → VK → Prop}
def tCB (r : List V → Hp → VK → Prop) (t : TA) : TE := fun σ H Q => t σ H fun vs H1 => r vs H1 Q
theorem pe_callB (hc : CallR X (.builtin id) r) (hg : Gl X x) (hm : X.mg x = none) (hv : bootBuiltins x = some (.builtin id)) (ha : PA X (e :: es) t) (hn : x ≠ "__name__" := by decide) (hdb : (x == ("__debug__" : Str)) = false := by decide)
    (he : starEach (e :: es) X.env = (false, eval e X.env) :: starEach es X.env := by rfl) (hpl : (backTo pos (starEach es X.env)).any (·.1) = false := by rfl) : PE X (.Call (.Name x p) (e :: es) [] pos) (tCB r t) := by
  intro pins s σ H Q I h
  refine wpAny_Call_Name_kw (ld_blt I hg hm hv ?_ hn hdb)
  exact PyProof.Rows.callWith_builtin1 (thn (ha pos pins s σ H _ I h) fun us s1 ⟨vs, H1, I1, r1, q1⟩ => hc pins s1 σ H1 vs us Q I1 r1 q1) he hpl
end
end L2
namespace HT
open PySem PyProof.Rows
section
open PySem.SeqAt
open PySem.AutoSeq1 (wpAny_loadPart')
open PySem.MeetsSeq PySem.MeetsSeq2 PySem.MeetsSeq3
end
section
variable {prog : Program} {w : World} {A : Around} {E : Value → Shared → Prop} {s : Shared}
theorem cat_tup {t b : Addr} {vs ws : List Value} {Q : Value → Shared → Prop} (ht : IsTup s.heap t vs.toArray) (hb : IsTup s.heap b ws.toArray) (hv : vs ≠ [])
    (h1 : ws = [] → Q (.ref t) s) (h2 : ws ≠ [] → Q (.ref s.heap.objs.size) { s with heap := s.heap.push { cls := .type "tuple", data := .seq (vs ++ ws).toArray } })
    (hsz : vs.length + ws.length ≤ sizeLine) : wpAny (model prog w) A (binaryOp .Add (.ref t) (.ref b)) Q E s := by
  obtain ⟨⟨cls, dd, data, sl⟩, ho, hc, n, hd⟩ := id ht
  obtain ⟨⟨cls2, dd2, data2, sl2⟩, ho2, hc2, n2, hd2⟩ := id hb
  simp only at hc hd hc2 hd2
  subst hc hd hc2 hd2
  have e : vs.toArray ++ ws.toArray = (vs ++ ws).toArray := by simp
  by_cases hw : ws = []
  · exact concat_meets ⟨_, ho, rfl⟩ ⟨_, ho2, rfl⟩ noFill_tuple_add seq_tuple_add PySem.F.slot_tuple_add PySem.F.entry_tuple_add (PySem.F.args_tuple_add_2 _ _)
      (tuple_addW1 t b vs.toArray ws.toArray n n2 dd dd2 sl sl2 (by simpa using hv) (by simp [hw])) ⟨ho, ho2, h1 hw⟩
  · refine concat_meets ⟨_, ho, rfl⟩ ⟨_, ho2, rfl⟩ noFill_tuple_add seq_tuple_add PySem.F.slot_tuple_add PySem.F.entry_tuple_add (PySem.F.args_tuple_add_2 _ _)
      (tuple_addW2 t b vs.toArray ws.toArray n n2 dd dd2 sl sl2 (by simpa using hv) (by simpa using hw) (by rw [List.size_toArray, List.size_toArray]; exact hsz)) ⟨ho, ho2, ?_⟩
    rw [e]
    exact h2 hw
def sIx (n d : Nat) : Option Int → Nat
  | none => d
  | some v => if v < 0 then (v + (n : Int)).toNat else min v.toNat n
theorem sIx_none (n d : Nat) : sIx n d none = d := rfl
theorem sIx_nat (n d k : Nat) : sIx n d (some (k : Int)) = min k n := by
  show (if (k : Int) < 0 then ((k : Int) + (n : Int)).toNat else min (k : Int).toNat n) = min k n
  rw [if_neg (by omega), Int.toNat_natCast]
theorem sIx_le (n d : Nat) (hd : d ≤ n) (o : Option Int) : sIx n d o ≤ n := by
  cases o with
  | none => exact hd
  | some v =>
    show (if v < 0 then (v + (n : Int)).toNat else min v.toNat n) ≤ n
    by_cases hv : v < 0
    · rw [if_pos hv]; omega
    · rw [if_neg hv]; exact Nat.min_le_right _ _
theorem clip_eq (v : Int) (n d : Nat) : (if v < 0 then max (v + (n : Int)) 0 else min v (n : Int)) = ((sIx n d (some v) : Nat) : Int) := by
  show (if v < 0 then max (v + (n : Int)) 0 else min v (n : Int)) = (((if v < 0 then (v + (n : Int)).toNat else min v.toNat n) : Nat) : Int)
  by_cases hv : v < 0
  · simp only [if_pos hv]; omega
  · simp only [if_neg hv]; omega
theorem adjust_gen (lo hi : Option Int) (n : Nat) : Builtin.Slice.sliceAdjust lo hi 1 (n : Int) = (((sIx n 0 lo : Nat) : Int), ((sIx n n hi : Nat) : Int)) := by
  have h1 : ¬ ((1 : Int) < 0) := by omega
  unfold Builtin.Slice.sliceAdjust
  simp only [h1, if_false]
  refine Prod.ext ?_ ?_
  · cases lo with
    | none => rfl
    | some v => exact clip_eq v n 0
  · cases hi with
    | none => rfl
    | some v => exact clip_eq v n n
theorem places_gen (i j : Nat) : Builtin.Slice.slicePlaces (i : Int) (j : Int) 1 = j - i := by
  unfold Builtin.Slice.slicePlaces
  have h1 : (1 : Int) > 0 := by omega
  simp only [h1, if_true, Int.ediv_one]
  split <;> omega
theorem slicePart_ {v : Value} {o : Option Int} {Q : Option Int → Shared → Prop} (p : IsPart v o) (h : Q o s) : wpAny (model prog w) A (Builtin.Slice.slicePartIndex v) Q E s := by
  cases p with
  | none => exact slicePart_none h
  | int i t => exact slicePart_int h
theorem sliceApplied_gen {sl : Addr} {vl vu : Value} {lo hi : Option Int} {n : Nat} {Q : Int × Int × Nat → Shared → Prop} (hs : s.heap.IsSliceOf sl vl vu .none) (pl : IsPart vl lo) (pu : IsPart vu hi)
    (h : Q (((sIx n 0 lo : Nat) : Int), 1, sIx n n hi - sIx n 0 lo) s) : wpAny (model prog w) A (Builtin.Slice.sliceApplied (.ref sl) (pure (n : Int))) Q E s := by
  obtain ⟨os, hos, hcs, hds⟩ := id hs
  unfold Builtin.Slice.sliceApplied Builtin.Slice.sliceFields
  refine wpAny_bind (wpAny_bind (wpAny_field hos hds (x := vl) rfl (wpAny_bind (wpAny_field hos hds (x := vu) rfl (wpAny_bind (wpAny_field hos hds (x := .none) rfl (wpAny_pure ?_)))))))
  refine wpAny_bind (slicePart_none ?_)
  show wpAny _ _ (if ((1 : Int) == 0) = true then _ else _) _ _ s
  rw [if_neg (by decide)]
  refine wpAny_bind (slicePart_ pl (wpAny_bind (slicePart_ pu (wpAny_bind (wpAny_pure ?_)))))
  show wpAny _ _ (match Builtin.Slice.sliceAdjust lo hi 1 (n : Int) with | (lo, hi) => pure (lo, (1 : Int), Builtin.Slice.slicePlaces lo hi 1)) _ _ s
  rw [adjust_gen lo hi n]
  show wpAny _ _ (pure (((sIx n 0 lo : Nat) : Int), (1 : Int), Builtin.Slice.slicePlaces ((sIx n 0 lo : Nat) : Int) ((sIx n n hi : Nat) : Int) 1)) _ _ s
  rw [places_gen]
  exact wpAny_pure h
theorem pick_gen (xs : Array Value) (i k : Nat) : ((List.range k).filterMap fun (m : Nat) => xs[((i : Int) + (m : Int) * 1).toNat]?).toArray = ((xs.toList.drop i).take k).toArray := by
  have e : (fun (m : Nat) => xs[((i : Int) + (m : Int) * 1).toNat]?) = fun m => xs[i + m]? := by
    funext m
    have : ((i : Int) + (m : Int) * 1).toNat = i + m := by omega
    rw [this]
  rw [e]
  have := pick_run xs i k
  rw [List.filterMap_map] at this
  have e2 : ((fun x => xs[x]?) ∘ fun x => i + x) = fun m => xs[i + m]? := rfl
  rw [e2] at this
  rw [this]
theorem getItem_tuple_cut {t sl : Addr} {items : Array Value} {vl vu : Value} {lo hi : Option Int} {Q : Value → Shared → Prop} (ht : IsTup s.heap t items) (hs : s.heap.IsSliceOf sl vl vu .none) (pl : IsPart vl lo) (pu : IsPart vu hi)
    (hw : ¬ (sIx items.size 0 lo = 0 ∧ sIx items.size items.size hi = items.size))
    (h : Q (.ref s.heap.objs.size) { s with heap := s.heap.push { cls := .type "tuple", data := .seq ((items.toList.drop (sIx items.size 0 lo)).take (sIx items.size items.size hi - sIx items.size 0 lo)).toArray } })
    (hsz : items.size ≤ sizeLine) : wpAny (model prog w) A (getItem (.ref t) (.ref sl)) Q E s := by
  have htake : sizeOk (.seq ((items.toList.drop (sIx items.size 0 lo)).take (sIx items.size items.size hi - sIx items.size 0 lo)).toArray) := by
    show ((items.toList.drop (sIx items.size 0 lo)).take (sIx items.size items.size hi - sIx items.size 0 lo)).toArray.size ≤ sizeLine
    rw [List.size_toArray, List.length_take, List.length_drop, Array.length_toList]
    omega
  have hj : sIx items.size items.size hi ≤ items.size := sIx_le _ _ (Nat.le_refl _) hi
  obtain ⟨os, hos, hcs, hds⟩ := id hs
  have hTs : s.TypeIs (.ref sl) "slice" := ⟨os, hos, hcs⟩
  unfold getItem
  try with_reducible refine wpAny_holding ?_
  first | refine wpAny_bind (wpAny_pure ?_) | skip
  refine wpAny_bind (wpAny_sequenceKey ht.typeIs (by decide) ?_)
  refine wpAny_bind (wpAny_callSpecial?_slot (name := Str.ofString "__getitem__") ht.typeIs PyProof.Rows.slot_tuple_getitem
    (wpAny_call_entry PyProof.Rows.slot_tuple_getitem ht.typeIs entry_tuple_getitem ?_ (args_tuple_getitem _ _)))
  show wpAny _ _ (Builtin.Tuple.tupleItemsOf (.ref t) >>= _) _ _ s
  refine wpAny_bind (tupleItemsOf_ ht ?_)
  refine wpAny_bind (wpAny_typeOf hTs ?_)
  rw [if_pos (by decide)]
  refine wpAny_bind (sliceApplied_gen hs pl pu ?_)
  have hno : ¬ ((((sIx items.size 0 lo : Nat) : Int) == 0 && (1 : Int) == 1 && (sIx items.size items.size hi - sIx items.size 0 lo) == items.size) = true) := by
    intro q
    rw [Bool.and_eq_true, Bool.and_eq_true] at q
    have q1 : ((sIx items.size 0 lo : Nat) : Int) = 0 := eq_of_beq q.1.1
    have q2 : sIx items.size items.size hi - sIx items.size 0 lo = items.size := eq_of_beq q.2
    exact hw ⟨by omega, by omega⟩
  show wpAny _ _ (if (((sIx items.size 0 lo : Nat) : Int) == 0 && (1 : Int) == 1 && (sIx items.size items.size hi - sIx items.size 0 lo) == items.size) = true then _ else _) _ _ s
  rw [if_neg hno, pick_gen]
  first
    | exact wpAny_bind (m := Builtin.Tuple.tupleExact _) (wpAny_newObj_type (wpAny_pure ⟨_, rfl, wpAny_pure h⟩) htake)
    | exact wpAny_bind (m := Builtin.Tuple.tupleExact _) (wpAny_newObj_type (wpAny_bind (wpAny_pure (wpAny_pure ⟨_, rfl, wpAny_pure h⟩))) htake)
    | exact wpAny_bind (wpAny_bind (m := Builtin.Tuple.tupleExact _) (wpAny_newObj_type (wpAny_pure (wpAny_pure ⟨_, rfl, wpAny_pure h⟩)) htake))
    | exact wpAny_bind (wpAny_bind (m := Builtin.Tuple.tupleExact _) (wpAny_newObj_type (wpAny_pure ⟨_, rfl, wpAny_pure h⟩) htake))
end
end HT
namespace L2
open PySem PySem.Spec PyProof.Rows
abbrev TO := St → Hp → (Option Int → Hp → Prop) → Prop
def PO (X : Cx) (e : Option Expr) (t : TO) : Prop :=
  ∀ (pins : List (Addr × Obj)) (s : Shared) (σ : St) (H : Hp) (Q : Option Int → Hp → Prop), Inv X pins σ H s → t σ H Q →
    wpAny (model X.prog X.w) X.A (evalPart e X.env) (fun u s' => ∃ o H', Inv X pins σ H' s' ∧ IsPart u o ∧ Q o H') X.xe s
def tNoPart : TO := fun _ H Q => Q none H
def tPart (t : TE) : TO := fun σ H Q => t σ H fun x H1 => ∃ i, x = .int i ∧ Q (some i) H1
section
variable {X : Cx} {e : Expr} {te : TE} {lo hi : Option Expr} {tl th : TO} {pos p2 : Pos}
theorem po_none : PO X none tNoPart := by
  intro pins s σ H Q I h
  rw [evalPart_none]
  exact wpAny_pure ⟨none, H, I, .none, h⟩
theorem po_some (h : PE X e te) : PO X (some e) (tPart te) := by
  intro pins s σ H Q I hw
  rw [evalPart_some]
  refine thn (h pins s σ H _ I hw) fun u s1 ⟨x, H1, I1, r1, q1⟩ => ?_
  obtain ⟨i, rfl, q⟩ := q1
  obtain ⟨t, rfl⟩ := r1
  exact ⟨some i, H1, I1, .int i t, q⟩
def SlR (X : Cx) (r : V → Option Int → Option Int → Hp → VK → Prop) : Prop :=
  ∀ (pins : List (Addr × Obj)) (s : Shared) (σ : St) (H : Hp) (x : V) (v vl vu : Value) (lo hi : Option Int) (sl : Addr) (Q : VK), Inv X pins σ H s → RelV x v → s.heap.IsSliceOf sl vl vu .none → IsPart vl lo → IsPart vu hi → r x lo hi H Q →
    ∃ T id, typeLookup (.type T) "__getitem__" = pure (some (.builtin id)) ∧ s.TypeIs v T ∧ wpAny (model X.prog X.w) X.A (getItem v (.ref sl)) (EP X pins σ Q) X.xe s
theorem SlR.or {r r' : V → Option Int → Option Int → Hp → VK → Prop} (h : SlR X r) (h' : SlR X r') : SlR X (fun x lo hi H Q => r x lo hi H Q ∨ r' x lo hi H Q) := by
  intro pins s σ H x v vl vu lo hi sl Q I rx hs pl pu q
  rcases q with q | q
  · exact h pins s σ H x v vl vu lo hi sl Q I rx hs pl pu q
  · exact h' pins s σ H x v vl vu lo hi sl Q I rx hs pl pu q
def tSl (r : V → Option Int → Option Int → Hp → VK → Prop) (te : TE) (tl th : TO) : TE := fun σ H Q => te σ H fun x H1 => tl σ H1 fun l H2 => th σ H2 fun u H3 => r x l u H3 Q
theorem pe_slice {r : V → Option Int → Option Int → Hp → VK → Prop} (hr : SlR X r) (he : PE X e te) (hl : PO X lo tl) (hu : PO X hi th) : PE X (.Subscript e (.Slice lo hi none p2) pos) (tSl r te tl th) := by
  intro pins s σ H Q I h
  refine Subscript_ (thn (he pins s σ H _ I h) fun v s1 ⟨x, H1, I1, r1, q1⟩ => ?_)
  refine wpAny_Slice (thn (hl pins s1 σ H1 _ I1 q1) fun vl s2 ⟨l, H2, I2, pl, q2⟩ => thn (hu pins s2 σ H2 _ I2 q2) fun vu s3 ⟨u, H3, I3, pu, q3⟩ => ?_)
  rw [evalPart_none]
  refine wpAny_pure ?_
  have I4 : Inv X pins σ H3 { s3 with heap := s3.heap.push { cls := .type "slice", data := .fields #[vl, vu, .none] } } := I3.kept (t' := s3.toks) fun b ob q => Heap.get?_push_of_some _ q
  obtain ⟨T, id, hT, ht, hg⟩ := hr pins { s3 with heap := s3.heap.push { cls := .type "slice", data := .fields #[vl, vu, .none] } } σ H3 x v vl vu l u s3.heap.objs.size Q I4 r1 (Heap.IsSliceOf.new ..) pl pu q3
  show wpAny (model X.prog X.w) X.A (subscriptTail e (.Slice lo hi none p2) v (.ref s3.heap.objs.size)) (EP X pins σ Q) X.xe { s3 with heap := s3.heap.push { cls := .type "slice", data := .fields #[vl, vu, .none] } }
  exact tail_any (ops := [.ref s3.heap.objs.size, v]) ht hT hg (by with_unfolding_all rfl)
def cutV (xs : List V) (lo hi : Option Int) : List V := (xs.drop (HT.sIx xs.length 0 lo)).take (HT.sIx xs.length xs.length hi - HT.sIx xs.length 0 lo)
theorem cutV_length (xs : List V) (lo hi : Option Int) : (cutV xs lo hi).length ≤ xs.length := by
  unfold cutV
  rw [List.length_take, List.length_drop]
  omega
def rSlT (K : PySem.W.Frag) : V → Option Int → Option Int → Hp → VK → Prop := fun x lo hi H Q => ∃ a xs, x = .ref a ∧ SqT K H a xs ∧
  ¬ (HT.sIx xs.length 0 lo = 0 ∧ HT.sIx xs.length xs.length hi = xs.length) ∧ ∀ p, H p = none → Q (.ref p) (upd H p (.tup (cutV xs lo hi)))
theorem sl_tup : SlR X (rSlT X.K) := by
  intro pins s σ H x v vl vu lo hi sl Q I rx hs pl pu h
  obtain ⟨a, xs, rfl, hx, hw, q⟩ := h
  cases rx
  obtain ⟨its, r, ht, hz⟩ := I.tuple hx
  have hlen : its.toArray.size = xs.length := by rw [List.size_toArray]; exact r.length.symm
  refine ⟨"tuple", _, PyProof.Rows.slot_tuple_getitem.lookup, ht.typeIs, ?_⟩
  refine HT.getItem_tuple_cut ht hs pl pu (by rw [hlen]; exact hw) ?_ (by rw [hlen]; exact hz)
  rw [hlen]
  refine ⟨.ref s.heap.objs.size, _, I.laid (t' := s.toks) (o := .tup (cutV xs lo hi)) (fun b ob q => Heap.get?_push_of_some _ q) (Nat.le_refl _) ?_, rfl, q _ (I.hok.fresh (Nat.le_refl _))⟩
  exact ⟨Nat.le_trans (cutV_length xs lo hi) hz, _, (r.drop (HT.sIx xs.length 0 lo)).take (HT.sIx xs.length xs.length hi - HT.sIx xs.length 0 lo), IsTup.new _ _⟩
def rCatT (K : PySem.W.Frag) : R2 := fun x y H Q => ∃ a b xs ys, x = .ref a ∧ y = .ref b ∧ SqT K H a xs ∧ SqT K H b ys ∧ xs ≠ [] ∧ xs.length + ys.length ≤ sizeLine ∧
  (ys = [] → Q (.ref a) H) ∧ (ys ≠ [] → ∀ p, H p = none → Q (.ref p) (upd H p (.tup (xs ++ ys))))
theorem Vals.nil_iff {xs : List V} {us : List Value} (r : Vals xs us) : us = [] ↔ xs = [] := by
  cases r with
  | nil => simp
  | cons _ _ => simp
theorem op_catT : OpR X (binaryOp .Add) (rCatT X.K) := by
  intro pins s σ H x y v u Q I rx ry h
  obtain ⟨a, b, xs, ys, rfl, rfl, ha, hb, hx, hz, q1, q2⟩ := h
  cases rx
  cases ry
  obtain ⟨its, r1, p1, _⟩ := I.tuple ha
  obtain ⟨its2, r2, p2, _⟩ := I.tuple hb
  refine HT.cat_tup p1 p2 (fun z => hx (r1.nil_iff.mp z)) (fun z => ⟨.ref a, H, I, rfl, q1 (r2.nil_iff.mp z)⟩) (fun z => ?_) (by rw [← r1.length, ← r2.length]; exact hz)
  refine ⟨.ref s.heap.objs.size, _, I.laid (t' := s.toks) (o := .tup (xs ++ ys)) (fun b ob q => Heap.get?_push_of_some _ q) (Nat.le_refl _) ?_, rfl, q2 (fun w => z (r2.nil_iff.mpr w)) _ (I.hok.fresh (Nat.le_refl _))⟩
  exact ⟨by rw [List.length_append]; exact hz, _, r1.append r2, IsTup.new _ _⟩
end
end L2
namespace L2
open PySem PySem.Spec PyProof.Rows
def ixN (n : Nat) (i : Int) : Option Nat := if 0 ≤ i then (if i < n then some i.toNat else none) else if -(n : Int) ≤ i then some (i + n).toNat else none
def atI {α : Type} (xs : List α) (i : Int) : Option α := (ixN xs.length i).bind fun j => xs[j]?
theorem ixN_seq {n : Nat} {i : Int} {j : Nat} (h : ixN n i = some j) : seqIndex? i n = some j ∧ j < n ∧ -(n : Int) ≤ i ∧ i < n := by
  unfold ixN at h
  by_cases h0 : 0 ≤ i
  · rw [if_pos h0] at h
    by_cases h1 : i < n
    · rw [if_pos h1] at h
      have e : i.toNat = j := Option.some.inj h
      exact ⟨by rw [seqIndex_of h0 h1, e], by omega, by omega, h1⟩
    · rw [if_neg h1] at h; cases h
  · rw [if_neg h0] at h
    by_cases h1 : -(n : Int) ≤ i
    · rw [if_pos h1] at h
      have e : (i + n).toNat = j := Option.some.inj h
      exact ⟨by rw [seqIndex_neg (by omega) h1, e], by omega, h1, by omega⟩
    · rw [if_neg h1] at h; cases h
theorem atI_get {α : Type} {xs : List α} {i : Int} {v : α} (h : atI xs i = some v) : ∃ j, seqIndex? i xs.length = some j ∧ xs[j]? = some v ∧ j < xs.length ∧ -(xs.length : Int) ≤ i ∧ i < xs.length := by
  unfold atI at h
  cases e : ixN xs.length i with
  | none => rw [e] at h; cases h
  | some j =>
    rw [e] at h
    obtain ⟨h1, h2, h3, h4⟩ := ixN_seq e
    exact ⟨j, h1, h, h2, h3, h4⟩
theorem atI_nat {α : Type} {xs : List α} {j : Nat} {v : α} (h : xs[j]? = some v) : atI xs (j : Int) = some v := by
  have hj : j < xs.length := (List.getElem?_eq_some_iff.mp h).1
  have e : ixN xs.length (j : Int) = some j := by
    unfold ixN
    rw [if_pos (by omega), if_pos (by omega)]; simp
  unfold atI; rw [e]; exact h
def PlainIx (b : Expr) : Prop := ∀ o i, subscripted b false o i = operate [o, i] (getItem o i)
def IxR (X : Cx) (r : R2) : Prop :=
  ∀ (value slice : Expr) (pins : List (Addr × Obj)) (s : Shared) (σ : St) (H : Hp) (x y : V) (v u : Value) (Q : VK), Inv X pins σ H s → RelV x v → RelV y u → r x y H Q →
    subscripted slice false v u = operate [v, u] (getItem v u) → wpAny (model X.prog X.w) X.A (subscriptTail value slice v u) (EP X pins σ Q) X.xe s
def MtR (X : Cx) (id : String) (r : V → List V → Hp → VK → Prop) : Prop :=
  ∀ (pins : List (Addr × Obj)) (s : Shared) (σ : St) (H : Hp) (x : V) (xs : List V) (v : Value) (us : List Value) (Q : VK), Inv X pins σ H s → RelV x v → Vals xs us → r x xs H Q →
    wpAny (model X.prog X.w) X.A (call (.builtin id) (v :: us)) (EP X pins σ Q) X.xe s
section
variable {X : Cx} {a b : Expr} {ta tb : TE} {pos : Pos}
theorem IxR.or {r r' : R2} (h : IxR X r) (h' : IxR X r') : IxR X (fun x y H Q => r x y H Q ∨ r' x y H Q) := by
  intro value slice pins s σ H x y v u Q I rx ry q hs
  rcases q with q | q
  · exact h value slice pins s σ H x y v u Q I rx ry q hs
  · exact h' value slice pins s σ H x y v u Q I rx ry q hs
theorem pe_ix {r : R2} (hr : IxR X r) (ha : PE X a ta) (hb : PE X b tb) (hs : PlainIx b) : PE X (.Subscript a b pos) (tOp r ta tb) := by
  intro pins s σ H Q I h
  exact Subscript_ (binT ha hb I h fun v u s2 x y H2 I2 rx ry q => hr a b pins s2 σ H2 x y v u Q I2 rx ry q (hs _ _))
def rIxL (K : PySem.W.Frag) : R2 := fun x y H Q => ∃ p xs i v, x = .ref p ∧ y = .int i ∧ SqL K H p xs ∧ atI xs i = some v ∧ Q v H
def rIxT (K : PySem.W.Frag) : R2 := fun x y H Q => ∃ p xs i v, x = .ref p ∧ y = .int i ∧ SqT K H p xs ∧ atI xs i = some v ∧ Q v H
def rIxS : R2 := fun x y H Q => ∃ z i c, x = .str z ∧ y = .int i ∧ z.length ≤ sizeLine ∧ atI z.cps.toList i = some c ∧ Q (.str ⟨#[c]⟩) H
theorem ix_list : IxR X (rIxL X.K) := by
  intro value slice pins s σ H x y v u Q I rx ry h hs
  obtain ⟨p, xs, i, z, rfl, rfl, hq, he, q⟩ := h
  cases rx
  obtain ⟨t, rfl⟩ := ry
  obtain ⟨its, r, pl, hz⟩ := I.list hq
  obtain ⟨j, h1, h2, h3, h4, h5⟩ := atI_get he
  obtain ⟨w, ew, rw'⟩ := r.get h2
  have hl := r.length
  have hn := line63
  have fin : EP X pins σ Q w s := ⟨z, H, I, rw', q⟩
  by_cases h0 : 0 ≤ i
  · have hj : i.toNat = j := by
      rw [seqIndex_of h0 h5] at h1
      exact Option.some.inj h1
    exact item_listR pl.isList h0 (by omega) (by rw [hj]; simpa using ew) fin hs
  · have hj : (i + (its.toArray.size : Int)).toNat = j := by
      rw [seqIndex_neg (by omega) h4] at h1
      rw [List.size_toArray, ← hl]
      exact Option.some.inj h1
    exact subscriptTail_builtinR (x := w) pl.isList.typeIs slot_list_getitem.lookup
      (wpAny_getItem_list_neg (Q := fun r s' => r = w ∧ EP X pins σ Q r s') pl.isList (by omega) (by rw [List.size_toArray] <;> omega) (by omega) (by rw [hj]; simpa using ew) ⟨rfl, fin⟩) hs
theorem ix_tup : IxR X (rIxT X.K) := by
  intro value slice pins s σ H x y v u Q I rx ry h hs
  obtain ⟨p, xs, i, z, rfl, rfl, hq, he, q⟩ := h
  cases rx
  obtain ⟨t, rfl⟩ := ry
  obtain ⟨its, r, pl, hz⟩ := I.tuple hq
  obtain ⟨j, h1, h2, h3, h4, h5⟩ := atI_get he
  obtain ⟨w, ew, rw'⟩ := r.get h2
  have hl := r.length
  have hn := line63
  have fin : EP X pins σ Q w s := ⟨z, H, I, rw', q⟩
  exact subscriptTail_builtinR (x := w) pl.typeIs slot_tuple_getitem.lookup
    (getItem_tuple (j := j) (Q := fun r s' => r = w ∧ EP X pins σ Q r s') pl (by omega) (by omega) (by rw [List.size_toArray, ← hl]; exact h1) (by simpa using ew) ⟨rfl, fin⟩) hs
theorem ix_str : IxR X rIxS := by
  intro value slice pins s σ H x y v u Q I rx ry h hs
  obtain ⟨z, i, c, rfl, rfl, hz, he, q⟩ := h
  obtain ⟨t, rfl⟩ := rx
  obtain ⟨t', rfl⟩ := ry
  obtain ⟨j, h1, h2, h3, h4, h5⟩ := atI_get he
  have hl : z.cps.toList.length = z.length := by simp [Str.length]
  rw [hl] at h1 h4 h5
  have hn := line63
  exact tail_any (typeIs_str s z t) slot_str_getitem.lookup (getItem_str (c := c) (by
    have e1 : decide (i < -(2 ^ 63 : Int)) = false := decide_eq_false (by omega)
    have e2 : decide (i ≥ 2 ^ 63) = false := decide_eq_false (by omega)
    rw [e1, e2, Bool.or_false]) (by rw [h1]; simpa using h2) ⟨.str ⟨#[c]⟩, H, I.tok _, ⟨_, rfl⟩, q⟩) hs
def rIx (K : PySem.W.Frag) : R2 := fun x y H Q => rIxL K x y H Q ∨ rIxT K x y H Q ∨ rIxS x y H Q
theorem ix_seq : IxR X (rIx X.K) := ix_list.or (ix_tup.or ix_str)
theorem slice_bounds (lo hi : Option Int) (n : Nat) : (sliceBounds lo hi none n).1 = ((HT.sIx n 0 lo : Nat) : Int) ∧ (sliceBounds lo hi none n).2.1 = ((HT.sIx n n hi : Nat) : Int) ∧ (sliceBounds lo hi none n).2.2 = 1 := by
  refine ⟨?_, ?_, rfl⟩
  · cases lo with
    | none => simp [sliceBounds, HT.sIx]
    | some i =>
      simp only [sliceBounds, HT.sIx, Option.getD_none, show (1 : Int) > 0 by decide, if_true]
      by_cases h : i < 0
      · simp only [h, if_true] <;> omega
      · simp only [h, if_false] <;> omega
  · cases hi with
    | none => simp [sliceBounds, HT.sIx]
    | some i =>
      simp only [sliceBounds, HT.sIx, Option.getD_none, show (1 : Int) > 0 by decide, if_true]
      by_cases h : i < 0
      · simp only [h, if_true] <;> omega
      · simp only [h, if_false] <;> omega
theorem slicePick_cut (its : List Value) (lo hi : Option Int) : slicePick its.toArray lo hi none = ((its.drop (HT.sIx its.length 0 lo)).take (HT.sIx its.length its.length hi - HT.sIx its.length 0 lo)).toArray := by
  obtain ⟨h1, h2, h3⟩ := slice_bounds lo hi its.toArray.size
  unfold slicePick
  rw [h1, h2, h3]
  simp only [sliceRange_one, pick_run, List.size_toArray] <;> rfl
def rSlL (K : PySem.W.Frag) : V → Option Int → Option Int → Hp → VK → Prop := fun x lo hi H Q => ∃ a xs, x = .ref a ∧ SqL K H a xs ∧ ∀ p, H p = none → Q (.ref p) (upd H p (.lst (cutV xs lo hi)))
theorem sl_list : SlR X (rSlL X.K) := by
  intro pins s σ H x v vl vu lo hi sl Q I rx hs pl pu h
  obtain ⟨a, xs, rfl, hx, q⟩ := h
  cases rx
  obtain ⟨its, r, ht, hz⟩ := I.list hx
  have hlen := r.length
  refine ⟨"list", _, slot_list_getitem.lookup, ht.isList.typeIs, ?_⟩
  refine wpAny_getItem_list_slice ht.isList hs pl pu .none (by simp) ?_ (by rw [List.size_toArray] <;> omega)
  rw [slicePick_cut, ← hlen]
  refine ⟨.ref s.heap.objs.size, _, I.laid (t' := s.toks) (o := .lst (cutV xs lo hi)) (fun b ob q => Heap.get?_push_of_some _ q) (Nat.le_refl _) ?_, rfl, q _ (I.hok.fresh (Nat.le_refl _))⟩
  exact ⟨Nat.le_trans (cutV_length xs lo hi) hz, _, 0, (r.drop (HT.sIx xs.length 0 lo)).take (HT.sIx xs.length xs.length hi - HT.sIx xs.length 0 lo), Heap.get?_push_size _ rfl⟩
theorem op_notIn_str : OpR X (compareOp .NotIn) (fun x y H Q => ∃ i j, x = .str i ∧ y = .str j ∧ Q (.bl (!(!(Builtin.Str.occurrences j i 0 j.length 1).isEmpty))) H) := by
  intro pins s σ H x y v u Q I rx ry h
  obtain ⟨i, j, rfl, rfl, q⟩ := h
  obtain ⟨t, rfl⟩ := rx
  obtain ⟨t', rfl⟩ := ry
  exact notIn_str ⟨.bl _, H, I, rfl, q⟩
def tyV (K : PySem.W.Frag) (T : String) (x : V) (H : Hp) : Prop := match x with
  | .str _ => T = "str"
  | .int _ => T = "int"
  | .ref p => (T = "list" ∧ ∃ xs, SqL K H p xs) ∨ (T = "tuple" ∧ ∃ o, K.lookup p = some o ∧ o.cls = .type "tuple" ∧ o.dict = none) ∨
      (T = "dict" ∧ ((∃ kvs, H p = some (.dK kvs)) ∨ ∃ kvs, H p = some (.dT kvs))) ∨ (T = "set" ∧ ∃ S n, H p = some (.set S n))
  | _ => False
theorem tyV_is {pins : List (Addr × Obj)} {σ : St} {H : Hp} {s : Shared} {T : String} {x : V} {v : Value} (I : Inv X pins σ H s) (r : RelV x v) (ty : tyV X.K T x H) :
    s.TypeIs v T ∧ ∀ a, v = .ref a → ∃ ob, s.heap.get? a = some ob ∧ ob.dict = none := by
  cases x with
  | str z =>
    obtain ⟨t, rfl⟩ := r
    cases (show T = "str" from ty)
    exact ⟨typeIs_str s z t, fun _ e => nomatch e⟩
  | int i =>
    obtain ⟨t, rfl⟩ := r
    cases (show T = "int" from ty)
    exact ⟨typeIs_int s i t, fun _ e => nomatch e⟩
  | ref p =>
    cases r
    rcases ty with ⟨rfl, xs, hq⟩ | ⟨rfl, o, hk, hc, hd⟩ | ⟨rfl, hk⟩ | ⟨rfl, S, n, hk⟩
    · obtain ⟨its, _, pl, _⟩ := I.list hq
      refine ⟨pl.isList.typeIs, fun a e => ?_⟩
      cases e
      obtain ⟨o, n, e, c, hd, _⟩ := pl
      exact ⟨o, e, hd⟩
    · refine ⟨⟨o, I.kIn p o hk, hc⟩, fun a e => ?_⟩
      cases e
      exact ⟨o, I.kIn _ o hk, hd⟩
    · have z : ∃ o, s.heap.get? p = some o ∧ o.ExactDict := by
        rcases hk with ⟨kvs, hk⟩ | ⟨kvs, hk⟩
        · obtain ⟨_, _, _, _, o, _, _, e, ex, _⟩ := I.hok p _ hk
          exact ⟨o, e, ex⟩
        · obtain ⟨_, _, _, _, o, _, _, e, ex, _⟩ := I.hok p _ hk
          exact ⟨o, e, ex⟩
      obtain ⟨o, e, ex⟩ := z
      refine ⟨⟨o, e, ex.1⟩, fun a e2 => ?_⟩
      cases e2
      exact ⟨o, e, ex.2.1⟩
    · obtain ⟨o, _, _, _, e, ex, _⟩ := I.hok p _ hk
      refine ⟨⟨o, e, ex.1⟩, fun a e2 => ?_⟩
      cases e2
      exact ⟨o, e, ex.2.1⟩
  | _ => exact False.elim ty
def tBM0 (K : PySem.W.Frag) (T : String) (r : V → List V → Hp → VK → Prop) (to : TE) : TE := fun σ H Q => to σ H fun x H1 => tyV K T x H1 ∧ r x [] H1 Q
def tBM (K : PySem.W.Frag) (T : String) (r : V → List V → Hp → VK → Prop) (to : TE) (t : TA) : TE := fun σ H Q => to σ H fun x H1 => tyV K T x H1 ∧ t σ H1 fun xs H2 => r x xs H2 Q
variable {o e : Expr} {es : List Expr} {to : TE} {t : TA} {name : Str} {apos cpos : Pos} {T id : String} {r : V → List V → Hp → VK → Prop}
theorem pe_bm0 (pa : PlainAttrs T) (slot : Slot T name id) (hty : typeOf (.builtin id) = pure (.type "method_descriptor")) (hm : MtR X id r) (ho : PE X o to)
    (hbase : attributeBase o name X.env (eval o X.env) = eval o X.env := by rfl) (hline : (apos.endLine == cpos.line) = true := by rfl) : PE X (.Call (.Attribute o name apos) [] [] cpos) (tBM0 X.K T r to) := by
  intro pins s σ H Q I h
  refine wpAny_Call_method0_late hbase hline (thn (ho pins s σ H _ I h) fun v s1 ⟨x, H1, I1, r1, ty, q1⟩ => ?_)
  obtain ⟨h1, h2⟩ := tyV_is I1 r1 ty
  exact ⟨T, id, pa, slot, hty, h1, h2, Calls.callWith_builtin rfl (PySem.evalArgs_none (hm pins s1 σ H1 x [] v [] Q I1 r1 .nil q1))⟩
theorem pe_bm (pa : PlainAttrs T) (slot : Slot T name id) (hty : typeOf (.builtin id) = pure (.type "method_descriptor")) (hm : MtR X id r) (ho : PE X o to) (ha : PA X (e :: es) t)
    (hbase : attributeBase o name X.env (eval o X.env) = eval o X.env := by rfl)
    (hfew : ((backTo cpos (starEach (e :: es) X.env)).all (fun x => !x.1) && (backToKw cpos (keywordEach [] X.env)).all (fun x => x.1.isSome)
      && decide ((e :: es).length + ([] : List Keyword).length + (if ([] : List Keyword).isEmpty then 0 else 1) < 30)) = true := by rfl)
    (hline : (apos.endLine == cpos.line) = true := by rfl) (hs : starEach (e :: es) X.env = (false, eval e X.env) :: starEach es X.env := by rfl) (hplain : (backTo cpos (starEach es X.env)).any (·.1) = false := by rfl) :
    PE X (.Call (.Attribute o name apos) (e :: es) [] cpos) (tBM X.K T r to t) := by
  intro pins s σ H Q I h
  refine wpAny_Call_method_late hbase hfew hline rfl (thn (ho pins s σ H _ I h) fun v s1 ⟨x, H1, I1, r1, ty, q1⟩ => ?_)
  obtain ⟨h1, h2⟩ := tyV_is I1 r1 ty
  refine ⟨T, id, pa, slot, hty, h1, h2, ?_⟩
  have hA := ha cpos pins s1 σ H1 _ I1 q1
  rw [hs] at hA ⊢
  refine Calls.callWith_builtin (by show (false || (backTo cpos (starEach es X.env)).any (·.1)) = false; rw [hplain] <;> rfl) (Calls.evalArgs_plain ?_)
  exact thn hA fun us s2 ⟨vs, H2, I2, r2, q2⟩ => hm pins s2 σ H2 x vs v us Q I2 r1 r2 q2
end
end L2
namespace L2
open PySem PySem.Spec PyProof.Rows
def MtM (X : Cx) (id : String) (r : V → List V → Hp → VK → Prop) : Prop :=
  ∀ (pins : List (Addr × Obj)) (s : Shared) (σ : St) (H : Hp) (x : V) (xs : List V) (v : Value) (us : List Value) (Q : VK), Inv X pins σ H s → RelV x v → Vals xs us → r x xs H Q →
    wpAny (model X.prog X.w) X.A (call (.builtin id) (v :: us)) (EP X pins σ Q) X.xe s
theorem Vals.one : ∀ {x : V} {us : List Value}, Vals [x] us → ∃ u, us = [u] ∧ RelV x u
  | _, _, .cons r .nil => ⟨_, rfl, r⟩
theorem Vals.zero : ∀ {us : List Value}, Vals [] us → us = []
  | _, .nil => rfl
theorem Vals.dropLast {xs : List V} {us : List Value} (h : Vals xs us) : Vals xs.dropLast us.dropLast := by
  induction h with
  | nil => exact .nil
  | cons r t ih =>
    cases t with
    | nil => exact .nil
    | cons q t' => exact .cons r ih
theorem Vals.reverse {xs : List V} {us : List Value} (h : Vals xs us) : Vals xs.reverse us.reverse := by
  induction h with
  | nil => exact .nil
  | cons r t ih => rw [List.reverse_cons, List.reverse_cons]; exact Vals.append ih (.cons r .nil)
theorem Vals.rep {xs : List V} {us : List Value} (h : Vals xs us) : ∀ k : Nat, Vals (List.replicate k xs).flatten (List.replicate k us).flatten
  | 0 => .nil
  | k + 1 => by
    rw [List.replicate_succ, List.replicate_succ, List.flatten_cons, List.flatten_cons]
    exact Vals.append h (Vals.rep h k)
theorem erase_last {α : Type} (l : List α) : l.eraseIdx (l.length - 1) = l.dropLast := by
  induction l with
  | nil => rfl
  | cons a r ih =>
    cases r with
    | nil => rfl
    | cons b r =>
      have e : (a :: b :: r).length - 1 = ((b :: r).length - 1) + 1 := by
        have h1 : (a :: b :: r).length = r.length + 2 := rfl
        have h2 : (b :: r).length = r.length + 1 := rfl
        omega
      rw [e, List.eraseIdx_cons_succ, ih]
      all_goals rfl
theorem foldl_rep (its : List Value) : ∀ (k : Nat) (acc : List Value),
    List.foldl (fun x1 x2 => x1 ++ x2) acc.toArray (List.replicate k its.toArray) = (acc ++ (List.replicate k its).flatten).toArray
  | 0, acc => by simp
  | k + 1, acc => by
    have e : acc.toArray ++ its.toArray = (acc ++ its).toArray := by simp
    have e2 : (acc ++ its) ++ (List.replicate k its).flatten = acc ++ (List.replicate (k + 1) its).flatten := by
      rw [List.replicate_succ, List.flatten_cons, List.append_assoc]
    rw [← e2, ← foldl_rep its k (acc ++ its), ← e, List.replicate_succ, List.foldl_cons]
section
variable {X : Cx} {pins : List (Addr × Obj)} {σ : St} {H : Hp} {s : Shared} {l b : Addr} {xs ys zs : List V}
theorem Inv.lset {its its' : List Value} {n : Nat} {f : Array Value → Array Value} {t' : Nat} (I : Inv X pins σ H s) (hH : H l = some (.lst xs))
    (e : s.heap.get? l = some { cls := .type "list", data := .seq its.toArray n }) (hf : f its.toArray = its'.toArray) (hv : Vals ys its') (hz : ys.length ≤ sizeLine) :
    Inv X pins σ (upd H l (.lst ys)) { s with heap := s.heap.update l (Obj.mapSeq f), toks := t' } := by
  have q := PySem.IsL.update e f
  rw [hf] at q
  refine I.write (x := l) (e := l) (by rw [hH]; exact trivial) (.inl rfl) (fun b' u hb hu => (Heap.get?_update_other s.heap (Obj.mapSeq f) (Ne.symm hb)).trans hu) ⟨_, q⟩ ?_
  exact ⟨hz, its', _, hv, q⟩
theorem Inv.lnew {its : List Value} {t' : Nat} (I : Inv X pins σ H s) (hv : Vals ys its) (hz : ys.length ≤ sizeLine) :
    Inv X pins σ (upd H s.heap.objs.size (.lst ys)) { s with heap := s.heap.push { cls := .type "list", data := .seq its.toArray }, toks := t' } :=
  I.laid (fun _ _ q => Heap.get?_push_of_some _ q) (Nat.le_refl _) ⟨hz, its, 0, hv, Heap.get?_push_size _ rfl⟩
theorem Inv.fresh (I : Inv X pins σ H s) : H s.heap.objs.size = none := I.hok.fresh (Nat.le_refl _)
theorem Inv.lstM (I : Inv X pins σ H s) (hH : H l = some (.lst xs)) : xs.length ≤ sizeLine ∧ ∃ (its : List Value) (n : Nat), Vals xs its ∧ xs.length = its.length ∧ s.heap.get? l = some { cls := .type "list", data := .seq its.toArray n } := by
  obtain ⟨z, its, n, r, e⟩ := I.hok l _ hH
  exact ⟨z, its, n, r, r.length, e⟩
theorem notLongL {n : Nat} (h : n ≤ sizeLine) : Builtin.List.listTooLong n = false := by
  unfold Builtin.List.listTooLong
  exact decide_eq_false (by omega)
end
section
variable {X : Cx}
def rAppend : V → List V → Hp → VK → Prop := fun x vs H Q => ∃ l xs y, x = .ref l ∧ vs = [y] ∧ H l = some (.lst xs) ∧ xs.length < sizeLine ∧ Q .non (upd H l (.lst (xs ++ [y])))
theorem mt_append : MtM X "list.append" rAppend := by
  intro pins s σ H x vs v us Q I rx rv h
  obtain ⟨l, xs, y, rfl, rfl, hH, hz, q⟩ := h
  cases rx
  obtain ⟨u, rfl, ru⟩ := rv.one
  obtain ⟨z, its, n, r, hl, e⟩ := I.lstM hH
  refine call_meets F.slot_list_append ⟨_, e, rfl⟩ F.entry_list_append (F.args_list_append_2 _ _) (PySem.list_append l its.toArray n u (by rw [List.size_toArray]; omega)) ⟨e, ?_⟩
  refine ⟨.non, _, I.lset (its' := its ++ [u]) hH e (by simp) (r.append (.cons ru .nil)) ?_, rfl, q⟩
  rw [List.length_append, List.length_singleton]
  omega
def rPop : V → List V → Hp → VK → Prop := fun x vs H Q => ∃ l xs y, x = .ref l ∧ vs = [] ∧ H l = some (.lst xs) ∧ xs[xs.length - 1]? = some y ∧ Q y (upd H l (.lst xs.dropLast))
theorem mt_pop : MtM X "list.pop" rPop := by
  intro pins s σ H x vs v us Q I rx rv h
  obtain ⟨l, xs, y, rfl, rfl, hH, hy, q⟩ := h
  cases rx
  have hus := rv.zero
  subst hus
  obtain ⟨z, its, n, r, hl, e⟩ := I.lstM hH
  obtain ⟨u, hu, ru⟩ := r.get hy
  have hy' : its.toArray[its.toArray.size - 1]? = some u := by
    show its.toArray[its.length - 1]? = some u
    rw [← Array.getElem?_toList, ← hl]
    exact hu
  refine call_meets F.slot_list_pop ⟨_, e, rfl⟩ F.entry_list_pop (F.args_list_pop_1 _) (MeetsSeq.list_pop_last l its.toArray n u hy' (by rw [List.size_toArray]; omega)) ⟨e, ?_⟩
  refine ⟨y, _, I.lset (its' := its.dropLast) hH e ?_ r.dropLast ?_, ru, q⟩
  · show its.toArray.eraseIdxIfInBounds (its.toArray.size - 1) = its.dropLast.toArray
    rw [List.size_toArray, List.eraseIdxIfInBounds_toArray, erase_last]
  · rw [List.length_dropLast]
    omega
def rReverse : V → List V → Hp → VK → Prop := fun x vs H Q => ∃ l xs, x = .ref l ∧ vs = [] ∧ H l = some (.lst xs) ∧ Q .non (upd H l (.lst xs.reverse))
theorem mt_reverse : MtM X "list.reverse" rReverse := by
  intro pins s σ H x vs v us Q I rx rv h
  obtain ⟨l, xs, rfl, rfl, hH, q⟩ := h
  cases rx
  have hus := rv.zero
  subst hus
  obtain ⟨z, its, n, r, hl, e⟩ := I.lstM hH
  refine call_meets F.slot_list_reverse ⟨_, e, rfl⟩ F.entry_list_reverse (F.args_list_reverse_1 _) (AutoSeq1.list_reverse_list_0 l its.toArray n (by rw [List.size_toArray]; omega)) ⟨e, ?_⟩
  refine ⟨.non, _, I.lset (its' := its.reverse) hH e (by simp) r.reverse ?_, rfl, q⟩
  rw [List.length_reverse]
  omega
def rRep : R2 := fun x y H Q => ∃ l k xs, x = .ref l ∧ y = .int k ∧ H l = some (.lst xs) ∧ -(2 ^ 63) ≤ k ∧ k < 2 ^ 63 ∧ xs.length * k.toNat ≤ sizeLine ∧
  ∀ p, H p = none → Q (.ref p) (upd H p (.lst (List.replicate k.toNat xs).flatten))
theorem len_rep {α : Type} (xs : List α) (k : Nat) : (List.replicate k xs).flatten.length = k * xs.length := by
  induction k with
  | zero => simp
  | succ k ih => rw [List.replicate_succ, List.flatten_cons, List.length_append, ih, Nat.succ_mul, Nat.add_comm]
theorem op_rep : OpR X (binaryOp .Mult) rRep := by
  intro pins s σ H x y v u Q I rx ry h
  obtain ⟨l, k, xs, rfl, rfl, hH, h1, h2, hz, q⟩ := h
  cases rx
  obtain ⟨t, rfl⟩ := ry
  obtain ⟨z, its, n, r, hl, e⟩ := I.lstM hH
  have hlen : its.toArray.size * k.toNat ≤ sizeLine := by rw [List.size_toArray, ← hl]; exact hz
  have hcap : ¬ its.toArray.size * k.toNat > (2 ^ 63 - 1) / 8 := by
    have : (sizeLine : Nat) ≤ (2 ^ 63 - 1) / 8 := by decide
    omega
  have hfit : ¬ (!Builtin.List.listFitsIndex k) = true := by
    rw [fitsIndex_both h1 h2]
    exact Bool.false_ne_true
  have hlong : ¬ Builtin.List.listTooLong (its.toArray.size * k.toNat) = true := by
    rw [notLongL hlen]
    exact Bool.false_ne_true
  have hnew : List.foldl (fun x1 x2 => x1 ++ x2) #[] (List.replicate (if its.toArray.isEmpty = true then 0 else k.toNat) its.toArray) = (List.replicate k.toNat its).flatten.toArray := by
    have f0 : ∀ m : Nat, List.foldl (fun x1 x2 => x1 ++ x2) #[] (List.replicate m its.toArray) = (List.replicate m its).flatten.toArray := fun m => by
      have := foldl_rep its m []
      rw [List.nil_append] at this
      exact this
    rw [f0]
    cases its with
    | nil => simp
    | cons a r' => rw [if_neg (by simp)]
  refine wpAny_binaryOp_repeat_ref (T := "list") (U := "int") (by decide) ⟨_, e, rfl⟩ (fun s' => typeIs_int s' k t) noFill_list_mul F.fills_int_mul F.slot_int_rmul repeat_list F.slot_int_index.lookup
    (call_meets F.slot_int_rmul (typeIs_int s k t) F.entry_int_rmul (F.args_int_rmul_2 _ _) (int___rmul___int_list k t l its.toArray n)
      ⟨e, rfl, ⟨_, e, rfl⟩, call_meets F.slot_list_mul ⟨_, e, rfl⟩ F.entry_list_mul (F.args_list_mul_2 _ _) (AutoListH.list___mul___list_int_3 l its.toArray n k t hfit hcap hlong) ⟨e, ?_⟩⟩)
  rw [hnew]
  exact ⟨.ref _, _, I.lnew (t' := s.toks) (r.rep k.toNat) (by rw [len_rep, Nat.mul_comm]; exact hz), rfl, q _ I.fresh⟩
end
section
variable {prog : Program} {w : World} {A : Around} {E : Value → Shared → Prop} {s : Shared}
set_option maxRecDepth 100000 in
end
section
variable {X : Cx}
end
end L2
namespace Att
open PySem PySem.W PySem.Calls PyProof.Rows
theorem ints_of_wellAll {P : Params} {h : Heap} : ∀ (ns : List Int) (vs : List Value), WellAll P h vs (ns.map WData.int) → IntsAre vs ns := by
  intro ns
  induction ns with
  | nil =>
    intro vs w
    rw [List.map_nil] at w
    cases w
    exact .nil
  | cons n ns ih =>
    intro vs w
    rw [List.map_cons] at w
    cases w with
    | cons a b =>
      cases a
      exact .cons _ _ (ih _ b)
theorem script_of {l : OpenLaw} {n : Nat} (hn : l.most = some n) {P : Params} {h : Heap} {args : List WData} {vals : List Value}
    (hpre : l.row.toRowW.claim.pre args = true) (hwl : WellAll P h vals args) :
    ∃ a vs ns, vals = [Value.ref a] ∧ args = [WData.list (ns.map WData.int)] ∧ h.get? a = some { cls := .type "list", data := .seq vs.toArray } ∧ IntsAre vs ns ∧ ns.length ≤ n := by
  have hsh : WShape.hasAll [] args [.list .int] = true := (pre_splitW hpre).1
  have hc : l.pre.holds [] { args := args } = true := (pre_splitW hpre).2
  obtain ⟨d, r, rfl, h1, h2⟩ := hasAllW_cons hsh
  obtain rfl := hasAllW_nil h2
  obtain ⟨xs, rfl, h3⟩ := hasW_list h1
  obtain ⟨ns, rfl⟩ := items_int h3
  have hlen : ns.length ≤ n := by
    unfold OpenLaw.pre at hc
    have h4 : (WTm.not (.lt (.lit (.int (n : Int))) (.len (.arg 0)))).holds [] { args := [.list (ns.map .int)] } = true := by
      have h4 := (holds_andW hc).1
      rw [hn] at h4
      exact h4
    have h5 := condW_of h4 (w_not (w_lt w_lit (w_len_list (w_arg rfl))))
    rw [List.length_map] at h5
    refine Nat.le_of_not_lt fun q => ?_
    have q' : (n : Int) < ((ns.length : Nat) : Int) := by omega
    first
      | (rw [decide_eq_true q'] at h5; exact absurd h5 (by decide))
      | (simp at h5; omega)
  cases hwl with
  | cons w1 w2 =>
    cases w2
    cases w1 with
    | list ho hall => exact ⟨_, _, ns, rfl, rfl, ho, ints_of_wellAll ns _ hall, hlen⟩
theorem post_true (l : OpenLaw) (args : List WData) : l.row.toRowW.claim.post args (.bool true) args = true :=
  postW_of (r := l.row.toRowW) (X := (true == true))
    (show WShape.has [] (.bool true) .bool = true by first | rfl | decide | simp [WShape.has, WShape.arms, WShape.armsAll])
    (show (WTm.eq .res (.lit (.bool true))).value [] { args := args, res := some (.bool true), after := args } = some (.bool (true == true)) from w_eq_bool (w_res rfl) w_lit) rfl
theorem attach_call {l : OpenLaw} {n : Nat} {q : Program} {loose : List Str} {XP : (Str → Option Value) → Heap → Prop} {YP : World → Heap → Prop} {d : DefRec}
    (hn : l.most = some n) (hdf : d.params.defaults = [])
    (call : ∀ (w : World) (s₀ s₁ : Shared) (mg mb : Str → Option Value) (fa : Addr) (o : Obj) (pm cd doc : Value) (a : Addr) (vs : List Value) (ns : List Int),
      Ground q loose [] XP w s₀ mg mb s₁.heap → YP w s₁.heap →
      s₁.heap.get? fa = some o → o.data = .func (docDef d.name d.params d.body d.scope pm cd doc) → s₁.heap.CodeRec cd d.name → mg d.name = some (.ref fa) →
      s₁.heap.get? a = some { cls := .type "list", data := .seq vs.toArray } → IntsAre vs ns → ns.length ≤ n → s₁.gens = #[] →
      codeAny (model l.prog w) callerA (.call (.ref fa) ⟨[.ref a], []⟩) (fun r s' => r = .ok (.ret (.bool true)) ∧ OldK s₁.heap s'.heap ∧ s'.os = s₁.os ∧ AllBare s'.gens) s₁) :
    WalkO q loose XP YP l.row.toRowW d [] (fun f vs => PySem.call f vs) := by
  intro w s₀ s₁ mg mb G Y fa o pm cd doc dV kV ho hd hcd hD hmg hg args vals as hpre hlay hrd hwl hlo
  obtain rfl : dV = .none := Dflts.none hD hdf
  obtain rfl : kV = .none := Dflts.noKw hD
  obtain ⟨a, vs, ns, rfl, rfl, hobj, hints, hlen⟩ := script_of hn hpre hwl
  refine enter_call (codeAny_mono (call w s₀ s₁ mg mb fa o pm cd doc a vs ns G Y ho (fd_plain hd) hcd hmg hobj hints hlen hg) fun r s' hq => ?_)
  obtain ⟨rfl, h2, h3, h4⟩ := hq
  exact ⟨.inl ⟨.bool true, .bool true, [], rfl, fun _ => rfl, .bool true, post_true l _, fun _ => ⟨List.Pairwise.nil, fun _ hm => (nomatch hm)⟩⟩, h2, h3, h4⟩
section
variable {prog : Program} {w : World} {A : Around} {E : Value → Shared → Prop} {s : Shared} {K : Frag}
end
end Att
namespace L2
open PySem PySem.Spec PyProof.Rows
theorem vals_ints : ∀ {vs : List Value} {ns : List Int}, IntsAre vs ns → Vals (ns.map V.int) vs
  | _, _, .nil => .nil
  | _, _, .cons n t h => .cons ⟨t, rfl⟩ (vals_ints h)
def Only (H : Hp) : Prop := ∀ b, H b = none ∨ ∃ o xs, H b = some (.frz o (.lst xs))
theorem law_call {P : Program} {w : World} {K : PySem.W.Frag} {mg mb : Str → Option Value} {CX : CXT} {k : Nat} {fa a : Addr} {fd : FuncData} {x : Str} {sp : Sp} {s₁ : Shared} {vs : List Value} {ns : List Int}
    (KX : K.In s₁.heap) (hns : s₁.heap.Ns mainGlobals mg) (hb : s₁.heap.Ns builtinsNs mb) (hbb : ∀ x : Str, x ≠ "__name__" → mb x = bootBuiltins x) (hlim : s₁.heap.NoLimit) (hg : s₁.gens = #[])
    (ha : s₁.heap.get? a = some { cls := .type "list", data := .seq vs.toArray }) (hi : IntsAre vs ns) (hl : ns.length ≤ sizeLine) (hr : Room k callerA)
    (F : ∀ base : Heap, K.In base → base.Ns mainGlobals mg → FnOk P w K mg base CX k fa fd [x] sp) (hbind : ∀ (s : Shared) (u : Value), BindsTo s fd ⟨[u], []⟩ [(x, u)])
    (hsp : ∀ H : Hp, Only H → SqL K H a (ns.map V.int) → sp [.ref a] H (fun v _ => v = .bl true) fun _ _ _ => False)
    (hCX : ∀ H e s', CX [] H s₁ (fun _ _ _ => False) e s' → False) :
    codeAny (model P w) callerA (.call (.ref fa) ⟨[.ref a], []⟩) (fun r s' => r = .ok (.ret (.bool true)) ∧ OldK s₁.heap s'.heap ∧ s'.os = s₁.os ∧ AllBare s'.gens) s₁ := by
  have rv := vals_ints hi
  have lenV := hi.length
  have core : ∀ H : Hp, Only H → SqL K H a (ns.map V.int) → HOk P w H s₁.heap → (∀ b, H b ≠ none → b = a) → (H a ≠ none → K.lookup a = none) →
      codeAny (model P w) callerA (.call (.ref fa) ⟨[.ref a], []⟩) (fun r s' => r = .ok (.ret (.bool true)) ∧ OldK s₁.heap s'.heap ∧ s'.os = s₁.os ∧ AllBare s'.gens) s₁ := by
    intro H hO hS hok hA hK
    have base_of : ∀ {b : Addr} {o : Obj}, s₁.heap.get? b = some o → H b = none → (hidT s₁.heap H).get? b = some o := fun e n => hidT_get e n
    have noA : ∀ {b : Addr} {o : Obj} {es : Array DictEntry} {ep : Nat}, s₁.heap.get? b = some o → o.data = .dict es ep → H b = none := fun {b o es ep} e d => by
      cases q : H b with
      | none => rfl
      | some u =>
        have e' : b = a := hA b (by rw [q]; simp)
        subst e'
        rw [ha] at e; cases e
        have d' : Data.seq vs.toArray _ = Data.dict es ep := d
        cases d'
    have nsK : ∀ {b : Addr} {m : Str → Option Value}, s₁.heap.Ns b m → (hidT s₁.heap H).Ns b m := fun {b m} ⟨o, es, ep, e, d, r⟩ => ⟨o, es, ep, base_of e (noA e d), d, r⟩
    have hKb : K.In (hidT s₁.heap H) := fun b o e => base_of (KX b o e) (by
      cases q : H b with
      | none => rfl
      | some u =>
        have e' : b = a := hA b (by rw [q]; simp)
        subst e'
        rw [hK (by rw [q]; simp)] at e; cases e)
    have hM : Mod K mg (hidT s₁.heap H) := ⟨hKb, nsK hns, ⟨mb, nsK hb, hbb⟩, let ⟨mc, h1, h2⟩ := hlim; ⟨mc, nsK h1, h2⟩⟩
    have e0 : Env0 P w K mg (hidT s₁.heap H) callerA [] s₁ H := ⟨rfl, hM, fun b o e => of_hidT e, Nat.le_of_eq (hidT_size _ _), trivial, fun b hb => absurd (show b ∈ ([] : List Addr) from hb) (by simp), hok, .of_eq hg⟩
    refine codeAny_mono ((F _ hKb (nsK hns)).run callerA [] s₁ H ⟨[.ref a], []⟩ [.ref a] [.ref a] _ _ hr e0 (hbind s₁ (.ref a)) (.cons rfl .nil) (hsp H hO hS)) fun r s' h => ?_
    cases r with
    | error e => exact (hCX H e s' h).elim
    | ok fl =>
      cases fl with
      | next => exact False.elim h
      | brk => exact False.elim h
      | cont => exact False.elim h
      | ret u =>
        obtain ⟨v, H', os, bare, un, hok', r', q⟩ := h
        have q' : v = .bl true := q
        subst q'
        obtain rfl : u = Value.bool true := r'
        refine ⟨rfl, OldK.of_keep fun b o e => ?_, os, bare⟩
        cases q : H b with
        | none => exact un.keep b o e q (by intro z; exact absurd (show b ∈ ([] : List Addr) from z) (by simp)) (by simp)
        | some u =>
          rcases hO b with z | ⟨ob, xs, z⟩
          · rw [q] at z; cases z
          · have z2 := un.frzs b ob _ z
            obtain ⟨e1, _⟩ := hok b _ z
            obtain ⟨e2, _⟩ := hok' b _ z2
            rw [e] at e1; cases e1
            exact e2
  cases hk : K.lookup a with
  | some o =>
    have e := KX a o hk
    rw [ha] at e
    cases e
    refine core (fun _ => none) (fun _ => .inl rfl) (.inr ⟨_, vs.toArray, _, hk, rfl, rfl, rfl, by rw [List.size_toArray, lenV]; exact hl, by simpa using rv⟩) (fun b u z => by have z' : (none : Option HO) = some u := z; cases z') (fun b z => absurd rfl z) fun z => absurd rfl z
  | none =>
    refine core (fun b => if b = a then some (.frz { cls := .type "list", data := .seq vs.toArray } (.lst (ns.map V.int))) else none) (fun b => ?_) (.inl (.inr ⟨{ cls := .type "list", data := .seq vs.toArray }, if_pos rfl⟩)) (fun b u z => ?_) (fun b z => ?_) fun _ => hk
    · by_cases hb : b = a
      · exact .inr ⟨_, _, if_pos hb⟩
      · exact .inl (if_neg hb)
    · by_cases hb : b = a
      · have z' := (if_pos hb).symm.trans z
        cases z'
        subst hb
        exact ⟨ha, by rw [List.length_map]; exact hl, vs, _, rv, ha⟩
      · have z' := (if_neg hb).symm.trans z
        cases z'
    · by_cases hb : b = a
      · exact hb
      · exact absurd (if_neg hb) z
end L2
namespace L2
open PySem PySem.Spec PyProof.Rows
abbrev KOf {K : PySem.W.Frag} {h : Heap} (_ : K.In h) : PySem.W.Frag := K
theorem walk_of {l : PySem.W.OpenLaw} {n k : Nat} {q : Program} {loose : List Str} {XP : (Str → Option Value) → Heap → Prop} {YP : World → Heap → Prop} {d : DefRec} {K : Params → PySem.W.Frag} {CX : World → CXT} {sp : World → Sp} {x : Str}
    (hn : l.most = some n) (hn2 : n ≤ sizeLine) (hdf : d.params.defaults = []) (hr : Room k callerA)
    (hY : ∀ (w : World) (h : Heap), YP w h → (K w.params).In h)
    (F : ∀ (w : World) (mg : Str → Option Value) (fa : Addr) (h : Heap), (K w.params).In h → h.Ns mainGlobals mg → mg d.name = some (.ref fa) →
      ∃ fd : FuncData, (∀ (s : Shared) (u : Value), BindsTo s fd ⟨[u], []⟩ [(x, u)]) ∧
        ∀ base : Heap, (K w.params).In base → base.Ns mainGlobals mg → FnOk l.prog w (K w.params) mg base (CX w) k fa fd [x] (sp w))
    (hsp : ∀ (w : World) (H : Hp) (a : Addr) (ns : List Int), ns.length ≤ n → Only H → SqL (K w.params) H a (ns.map V.int) → sp w [.ref a] H (fun v _ => v = .bl true) fun _ _ _ => False)
    (hCX : ∀ (w : World) (H : Hp) (s : Shared) (e : Value) (s' : Shared), CX w [] H s (fun _ _ _ => False) e s' → False) :
    PySem.W.WalkO q loose XP YP l.row.toRowW d [] (fun f vs => PySem.call f vs) := by
  refine Att.attach_call hn hdf fun w s₀ s₁ mg mb fa o pm cd doc a vs ns G Y ho hd hcd hmg hobj hints hlen hg => ?_
  have KX := hY w _ Y
  obtain ⟨fd, hb, hF⟩ := F w mg fa _ KX G.T.g hmg
  exact law_call KX G.T.g G.T.b G.T.builtins G.T.nolimit hg hobj hints (Nat.le_trans hlen hn2) hr hF hb (fun H hO hS => hsp w H a ns hlen hO hS) fun H e s' => hCX w H s₁ e s'
theorem walk_ofK {l : PySem.W.OpenLaw} {n k : Nat} {q : Program} {loose : List Str} {XP : (Str → Option Value) → Heap → Prop} {YP : World → Heap → Prop} {d : DefRec} {K : Params → PySem.W.Frag} {CX : CXT} {sp : PySem.W.Frag → Sp} {x : Str}
    (hn : l.most = some n) (hn2 : n ≤ sizeLine) (hdf : d.params.defaults = []) (hr : Room k callerA)
    (hY : ∀ (w : World) (h : Heap), YP w h → (K w.params).In h)
    (F : ∀ (w : World) (mg : Str → Option Value) (fa : Addr) (h : Heap), (K w.params).In h → h.Ns mainGlobals mg → mg d.name = some (.ref fa) →
      ∃ fd : FuncData, (∀ (s : Shared) (u : Value), BindsTo s fd ⟨[u], []⟩ [(x, u)]) ∧
        ∀ base : Heap, (K w.params).In base → base.Ns mainGlobals mg → FnOk l.prog w (K w.params) mg base CX k fa fd [x] (sp (K w.params)))
    (hsp : ∀ (K : PySem.W.Frag) (H : Hp) (a : Addr) (ns : List Int), ns.length ≤ n → Only H → SqL K H a (ns.map V.int) → sp K [.ref a] H (fun v _ => v = .bl true) fun _ _ _ => False)
    (hCX : ∀ (H : Hp) (s : Shared) (e : Value) (s' : Shared), CX [] H s (fun _ _ _ => False) e s' → False) :
    PySem.W.WalkO q loose XP YP l.row.toRowW d [] (fun f vs => PySem.call f vs) :=
  walk_of (K := K) (CX := fun _ => CX) (sp := fun w => sp (K w.params)) hn hn2 hdf hr hY F (fun w H a ns h1 h2 h3 => hsp (K w.params) H a ns h1 h2 h3) fun _ H s e s' => hCX H s e s'
end L2
namespace L2
open PySem PySem.Spec PyProof.Rows
def defArgs (s : Stmt) : Arguments := match s with
  | .FunctionDef _ a _ _ _ _ _ _ _ _ => a
  | _ => { posonlyargs := [], args := [], vararg := none, kwonlyargs := [], kw_defaults := [], kwarg := none, defaults := [] }
def defBody (s : Stmt) : List Stmt := match s with
  | .FunctionDef _ _ b _ _ _ _ _ _ _ => b
  | _ => []
def defScope (s : Stmt) : Scope := match s with
  | .FunctionDef _ _ _ _ _ _ sc _ _ _ => sc
  | _ => { kind := .function, names := [], isGenerator := false, isCoroutine := false }
abbrev CX0 : CXT := fun _ _ _ _ _ _ => False
abbrev E0 : XK := fun _ _ _ => False
theorem pass0 {X : Cx} : Passes CX0 X E0 := fun _ _ _ _ _ _ _ h => h.elim
structure Fun (K : PySem.W.Frag) (x qual : Str) (st : Stmt) (f : Addr) (fd : FuncData) : Prop where
  ex : ∃ (oc : Value) (od : Option Addr) (kV doc pm : Value) (an : Option Addr) (cdv ct : Value) (osl : Array (Option Value)),
    fd = PySem.W.fnOf x qual (defArgs st) (defBody st) (defScope st) .none kV doc pm an cdv ct ∧ K.lookup f = some ⟨oc, od, .func fd, osl⟩ ∧ PySem.W.codeIn K cdv qual = true
  kp : PySem.W.keepIn K (.ref f) = true
section
variable {P : Program} {w : World} {K : PySem.W.Frag} {mg : Str → Option Value} {base : Heap}
theorem Fun.ok {x qual : Str} {st : Stmt} {f : Addr} {fd : FuncData} {N ps : List Str} {k : Nat} {sp : Sp} (F : Fun K x qual st f fd) (S : FnScope N ps (defScope st)) (len : ∀ vs H Q E, sp vs H Q E → vs.length = ps.length)
    (hbody : ∀ (cdv : Value) (A : Around) (outer : List Env) (s : Shared) (H : Hp) (vs : List V) (Q : VK) (E : XK), Room k (A.deeper (envOfC qual (defScope st) s.heap.objs.size f cdv)) → sp vs H Q E →
      ∃ t, PSs (cxOf CX0 P w K mg base N qual (defScope st) f cdv A outer s H E).nox (defBody st) t ∧ t { nx := fun _ H' => Q .non H', rt := Q } (start N vs) H) : FnOk P w K mg base CX0 (k + 1) f fd ps sp := by
  obtain ⟨oc, od, kV, doc, pm, an, cdv, ct, osl, rfl, lk, hcd⟩ := F.ex
  refine fn_of lk hcd S len fun A outer s H vs Q E hr hsp => ?_
  obtain ⟨t, h, q⟩ := hbody cdv A outer s H vs Q E hr hsp
  exact ⟨t, h.nox, q⟩
theorem Fun.binds {x qual : Str} {st : Stmt} {f : Addr} {fd : FuncData} {ps : List Str} (F : Fun K x qual st f fd)
    (h : ∀ (kV doc pm : Value) (an : Option Addr) (cdv ct : Value) (us : List Value), us.length = ps.length → bindArgs (PySem.W.fnOf x qual (defArgs st) (defBody st) (defScope st) .none kV doc pm an cdv ct) ⟨us, []⟩ = pure (ps.zip us)) : Binds K fd ps [] := by
  obtain ⟨oc, od, kV, doc, pm, an, cdv, ct, osl, rfl, lk, hcd⟩ := F.ex
  exact .all (h kV doc pm an cdv ct)
theorem fun_mk {x qual : Str} {st : Stmt} {f : Addr} {oc : Value} {od an : Option Addr} {osl : Array (Option Value)} {kV doc pm cdv ct : Value} (l : K.lookup f = some ⟨oc, od, .func (PySem.W.fnOf x qual (defArgs st) (defBody st) (defScope st) .none kV doc pm an cdv ct), osl⟩)
    (c : PySem.W.codeIn K cdv qual = true) (k : PySem.W.keepIn K (.ref f) = true) : Fun K x qual st f (PySem.W.fnOf x qual (defArgs st) (defBody st) (defScope st) .none kV doc pm an cdv ct) := ⟨⟨oc, od, kV, doc, pm, an, cdv, ct, osl, rfl, l, c⟩, k⟩
end
section
variable {X : Cx}
end
def Same (H H' : Hp) : Prop := ∀ b o, H b = some o → H' b = some o
theorem Same.refl (H : Hp) : Same H H := fun _ _ h => h
theorem Same.trans {H H1 H2 : Hp} (a : Same H H1) (b : Same H1 H2) : Same H H2 := fun c o h => b c o (a c o h)
theorem Same.free {H H' : Hp} (e : Same H H') {l : Addr} (h : H' l = Option.none) : H l = Option.none := by
  cases q : H l with
  | none => rfl
  | some o =>
    rw [e l o q] at h
    cases h
end L2
set_option Elab.async false
set_option linter.all false
set_option maxRecDepth 100000
namespace DL
open PySem PySem.Spec PySem.Calls PySem.W PyProof.Rows Builtin Builtin.ObjectAttr Builtin.Getset_descriptor
section
variable {prog : Program} {w : World} {A : Around} {E : Value → Shared → Prop} {h : Heap} {g : Array GenState} {d : Drawn} {t : Nat} {os : OsState} {a C : Addr} {o : Obj} {K : Frag}
structure ExcK (K : Frag) (C : Addr) : Prop where
  cls : findIn K (.ref C) "__class__" = some (some (.builtin "object.__class__"))
  ga : findIn K (.ref C) "__getattribute__" = some (some (.builtin "BaseException.__getattribute__"))
  gt : findIn K (.ref C) "__getattr__" = some none
  ob : mroIn K C (.type "object") = some true
  be : subIn K (.ref C) (.type "BaseException") = some true
theorem xc_get {R : Result → Shared → Prop} {tp : Value} (X : K.In h) (Z : ExcK K C) (hx : h.get? a = some o) (hc : o.cls = .ref C) (hq : R (.ok (.ret (.ref C))) ⟨h, g, d, t, os⟩) :
    codeAny (model prog w) A (.call (.builtin "getset_descriptor.__get__") ⟨[.builtin "object.__class__", .ref a, tp], []⟩) R ⟨h, g, d, t, os⟩ := by
  have L0 : Looks (model prog w) h (typeOf (.ref a)) (.ref C) := hc ▸ (Looks.ld hx).andThen .now
  have L1 := looks_mroIn (M := model prog w) X Z.ob
  refine codeAny_call_builtin KF.slot_gs.plain KF.entry_gs (KF.slot_gs.check _ _ _ _ _ _ _ _ KF.type_class (KF.args_gs _ _ _) ?_)
  unfold Builtin.«getset_descriptor.__get__» descrGet
  rw [dga_obj]
  refine wpAny_bind (wpAny_pure ?_)
  unfold descrGetter descrCheckInstance descrNameAndClass isInstance
  simp only [KF.owner_class]
  repeat lk
  refine ⟨Code.quiet_builtin _ (by decide +kernel), codeAny_builtin KF.entry_class ?_⟩
  unfold Builtin.«object.__class__» shownTypeOf
  repeat lk
  exact hq
theorem xc_check {M : Model} {nameV : Value} {Q : Unit → Shared → Prop} (X : K.In h) (Z : ExcK K C) (hx : h.get? a = some o) (hc : o.cls = .ref C) (hq : Q () ⟨h, g, d, t, os⟩) : wpAny M A (checkBuiltinCall "BaseException.__getattribute__" ⟨[.ref a, nameV], []⟩) Q E ⟨h, g, d, t, os⟩ := by
  have hk : builtinKind "BaseException.__getattribute__" = some .slot := by decide +kernel
  have hsplit : splitId "BaseException.__getattribute__" = some ("BaseException", "__getattribute__") := by decide +kernel
  have ha := F.args_bexc_ga (.ref a) nameV
  have LS : Looks M h (isSubtype (.ref C) (.type "BaseException")) true := looks_subIn X Z.be
  simp only [checkBuiltinCall, hk, hsplit]
  refine wpAny_bind ?_
  · unfold isInstance
    repeat (first | (with_reducible refine wpAny_loadPart_at hx ?_; rw [hc]) | (with_reducible refine LS.at ?_) | wp_step)
    exact hq
theorem xc_entry {tk : Tok} {Q : Fin → Shared → Prop} (X : K.In h) (Z : ExcK K C) (hx : h.get? a = some o) (hc : o.cls = .ref C) (hq : Q (.done (.ret (.ref C))) ⟨h, g, d, t, os⟩) :
    wpAny (model prog w) A (Builtin.«object.__getattribute__» ⟨[.ref a, .str "__class__" tk], []⟩) Q E ⟨h, g, d, t, os⟩ := by
  have hT5 : (⟨h, g, d, t, os⟩ : Shared).TypeIs (.builtin "object.__class__") "getset_descriptor" := F.typeOf_object_class
  have f5 := F.typeOf_object_class
  have f6 := F.slot_gs_get.lookup
  have f7 := F.slot_gs_set.lookup
  have LC : Looks (model prog w) h (typeLookup (.ref C) "__class__") (some (.builtin "object.__class__")) := looks_findIn X Z.cls
  repeat (any_goals (first | assumption | (with_reducible refine wpAny_loadPart_at hx ?_; rw [hc]) | (with_reducible refine LC.at ?_) | wp_step))
  refine xc_get X Z hx hc ?_
  repeat (any_goals (first | assumption | wp_step))
theorem xc_call {tk : Tok} {R : Result → Shared → Prop} (X : K.In h) (Z : ExcK K C) (hx : h.get? a = some o) (hc : o.cls = .ref C) (hq : R (.ok (.ret (.ref C))) ⟨h, g, d, t, os⟩) :
    codeAny (model prog w) A (.call (.builtin "BaseException.__getattribute__") ⟨[.ref a, .str "__class__" tk], []⟩) R ⟨h, g, d, t, os⟩ :=
  codeAny_call_builtin F.attr_ValueError.ga.plain F.entry_bexc_ga (xc_check X Z hx hc (xc_entry X Z hx hc hq))
theorem xc_by {tk : Tok} {Q : Value → Shared → Prop} (X : K.In h) (Z : ExcK K C) (hx : h.get? a = some o) (hc : o.cls = .ref C) (hq : Q (.ref C) ⟨h, g, d, t, os⟩) :
    wpAny (model prog w) A (getAttrBy (.ref a) (.str "__class__" tk) false) Q E ⟨h, g, d, t, os⟩ := by
  have f3 := F.attr_ValueError.ga.bind (.ref a)
  have hx2 : (Value.builtin "BaseException.__getattribute__" == Value.builtin "object.__getattribute__") = false := by decide +kernel
  have hx1 : (onTheHeap (Value.ref C) && Value.builtin "BaseException.__getattribute__" == Value.builtin "object.__getattribute__") = false := by rw [hx2]; rfl
  have L1 : Looks (model prog w) h (typeLookup (.ref C) "__getattribute__") (some (.builtin "BaseException.__getattribute__")) := looks_findIn X Z.ga
  have L2 : Looks (model prog w) h (typeLookup (.ref C) "__getattr__") none := looks_findIn X Z.gt
  repeat (any_goals (first | assumption | (with_reducible refine wpAny_loadPart_at hx ?_; rw [hc]) | (with_reducible refine L1.at ?_) | (with_reducible refine L2.at ?_) | wp_step))
  refine xc_call X Z hx hc ?_
  repeat (any_goals (first | assumption | wp_step))
theorem xc_attr {Q : Option Value → Shared → Prop} (X : K.In h) (Z : ExcK K C) (hx : h.get? a = some o) (hc : o.cls = .ref C) (hq : Q (some (.ref C)) ⟨h, g, d, t + 1, os⟩) : wpAny (model prog w) A (getAttr? (.ref a) "__class__") Q E ⟨h, g, d, t, os⟩ := by
  unfold getAttr? getAttrBy?
  repeat (any_goals (first | assumption | with_reducible apply xc_by X Z hx hc | wp_step))
end
def ExAt (a C : Addr) : Heap → Prop := fun h => ∃ o vs, h.get? a = some o ∧ o.cls = .ref C ∧ o.data = .fields vs
theorem kitx_exc {K : Frag} {a C : Addr} (Z : ExcK K C) (hC : (clsIn K C).isSome = true) : KitX K (.ref a) (.ref C) (ExAt a C) where
  ty := fun _ _ _ ⟨o, _, h1, h2, _⟩ => h2 ▸ (Looks.ld h1).andThen .now
  it := fun _ _ X _ => by
    obtain ⟨cd, hcD⟩ := Option.isSome_iff_exists.mp hC
    unfold clsIn at hcD
    split at hcD
    · rename_i c' d' cd' sl' ho
      intro A' Q' E' s' k q
      unfold isType loadHead
      exact wpAny_bind (wpAny_loadPart (k _ _ (X _ _ ho)) (wpAny_pure q))
    · cases hcD
  ne := fun h tp dd its n sl X htp => by
    obtain ⟨cd, hcD⟩ := Option.isSome_iff_exists.mp hC
    refine Bool.eq_false_iff.mpr fun q => ?_
    have e : C = tp := Value.ref.inj (beq_iff_eq.mp q)
    subst e
    unfold clsIn at hcD
    split at hcD
    · rename_i c' d' cd' sl' ho
      have z := (X _ _ ho).symm.trans htp
      cases z
    · cases hcD
  ca := fun {_ _ _ _ _ s} X ⟨o, _, h1, h2, _⟩ k => by
    obtain ⟨h, g, d, t, os⟩ := s
    exact xc_attr X Z h1 h2 k
theorem ExcK.isCls {K : Frag} {C : Addr} (Z : ExcK K C) : (clsIn K C).isSome = true := by
  obtain ⟨cd, a, b⟩ := Option.bind_eq_some_iff.mp Z.ob
  rw [a]; rfl
def bltTys : List String := ["NoneType", "bool", "int", "str", "tuple", "list", "dict"]
structure XC (K : Frag) (x : Str) (C : Addr) : Prop where
  ns : nsIn K mainGlobals x = some (some (.ref C))
  ek : ExcK K C
  bt : ∀ T ∈ bltTys, kitOne K (.ref C) (.type T) = some false
end DL
set_option Elab.async false
set_option linter.all false
set_option maxRecDepth 100000
namespace L2
open PySem PySem.Spec PyProof.Rows
section
variable {κ : Type} [DecidableEq κ]
def putK (kvs : List (κ × V)) (k : κ) (v : V) : List (κ × V) :=
  if (kvs.any fun kv => decide (kv.1 = k)) = true then kvs.map (fun kv => if kv.1 = k then (kv.1, v) else kv) else kvs ++ [(k, v)]
end
section
variable {P : Program} {w : World} {H : Hp} {h : Heap} {a : Addr}
end
section
variable {X : Cx} {pins : List (Addr × Obj)} {σ : St} {H : Hp} {s : Shared} {a : Addr} {y v : V} {u r : Value} {o : Option V} {A : Around} {E : Value → Shared → Prop}
end
section
variable {X : Cx} {pins : List (Addr × Obj)} {σ : St} {H : Hp} {s : Shared} {a : Addr} {kvs : List (Key × V)} {k : Key} {u : Value} {A : Around} {E : Value → Shared → Prop}
end
section
variable {X : Cx} {o i e value : Expr} {pos pos' tpos : Pos} {td ty tv : TE}
end
section
variable {X : Cx} {pos : Pos}
end
section
variable {X : Cx} {pins : List (Addr × Obj)} {σ : St} {H : Hp} {s : Shared} {a : Addr} {y d : V} {u r : Value} {o : Option V} {A : Around} {E : Value → Shared → Prop}
end
section
variable {X : Cx} {o e f : Expr} {apos cpos : Pos} {td ty tx : TE}
end
section
variable {X : Cx} {pins : List (Addr × Obj)} {σ : St} {H : Hp} {s : Shared} {a : Addr} {kvs : List (Key × V)} {A : Around} {E : Value → Shared → Prop}
end
section
variable {X : Cx} {pins : List (Addr × Obj)} {σ : St} {H : Hp} {s : Shared} {a : Addr} {y : V} {u : Value} {A : Around} {E : Value → Shared → Prop}
end
end L2
set_option Elab.async false
set_option linter.all false
set_option maxRecDepth 100000
namespace DL
open PySem PySem.Spec PyProof.Rows L2
def nst : Expr → Bool
  | .Starred _ _ => false
  | _ => true
theorem star_cons {e : Expr} {es : List Expr} {env : PySem.Env} (h : nst e = true) : starEach (e :: es) env = (false, eval e env) :: starEach es env := by
  cases e <;> first | (rw [starEach]; intros; contradiction) | rw [starEach] | (cases h)
theorem star_one {e : Expr} {env : PySem.Env} (h : nst e = true) : starEach [e] env = [(false, eval e env)] := by
  rw [star_cons h, starEach]
theorem any_star {env : PySem.Env} {pos : Pos} : ∀ {es : List Expr}, es.all nst = true → (backTo pos (starEach es env)).any (·.1) = false
  | [], _ => by rw [starEach]; rfl
  | e :: es, h => by
    rw [List.all_cons, Bool.and_eq_true] at h
    rw [star_cons h.1]
    have := any_star (env := env) (pos := pos) h.2
    show (false || (backTo pos (starEach es env)).any (·.1)) = false
    rw [this]; rfl
theorem few_star {e : Expr} {env : PySem.Env} {pos : Pos} (h : nst e = true) : ((backTo pos (starEach [e] env)).all (fun x => !x.1) && (backToKw pos (keywordEach [] env)).all (fun x => x.1.isSome)
      && decide ([e].length + ([] : List Keyword).length + (if ([] : List Keyword).isEmpty then 0 else 1) < 30)) = true := by
  rw [star_one h, keywordEach]; rfl
inductive Kd where
  | ins (c : Str) (ks : List Str) | dint (ks : List Int)
inductive D where
  | non | bl (b : Bool) | int (i : Int) | str (x : Str) | tup (xs : List D) | lst (xs : List D) | dic (ks : List Str) (xs : List D) | exc (x : Str) | ob (k : Kd) (xs : List D)
structure RecC (K : PySem.W.Frag) (ks : List Str) (C : Addr) : Prop where
  cls : Cls K C
  no : ∀ f ∈ ks, NoAttr K C f
  gc : PySem.W.findIn K (.ref C) "__class__" = some (some (.builtin "object.__class__"))
  gn : PySem.W.specialIn K (.builtin "object.__class__") "__get__" = some (some (.builtin "getset_descriptor.__get__"))
  tk : PySem.W.takesIn K (.builtin "object.__class__") = some true
  mo : PySem.W.mroIn K C (.type "object") = some true
  bt : ∀ T ∈ bltTys, PySem.W.kitOne K (.ref C) (.type T) = some false
def KRep (K : PySem.W.Frag) (H : Hp) : Kd → Addr → List V → Prop
  | .ins c ks, a, vs => ∃ C dx, PySem.W.nsIn K mainGlobals c = some (some (.ref C)) ∧ RecC K ks C ∧ H a = some (.ins C dx (ks.zip vs)) ∧ ks.length = vs.length
  | .dint ks, a, vs => ∃ kvs, Rd H a (.dK kvs) ∧ kvs = (ks.map Sum.inl).zip vs ∧ ks.length = vs.length
structure Exn where
  cls : Str
  flds : List (Str × D)
inductive Res (α : Type) where
  | ok (a : α) | exn (x : Exn) | stuck
def Res.bind {α β : Type} (r : Res α) (f : α → Res β) : Res β := match r with
  | .ok a => f a
  | .exn x => .exn x
  | .stuck => .stuck
mutual
def Rep (K : PySem.W.Frag) (H : Hp) : D → V → Prop
  | .non, v => v = .non
  | .bl b, v => v = .bl b
  | .int i, v => v = .int i
  | .str x, v => v = .str x
  | .tup ds, v => ∃ a vs, v = .ref a ∧ SqT K H a vs ∧ Reps K H ds vs
  | .lst ds, v => ∃ a vs, v = .ref a ∧ SqL K H a vs ∧ Reps K H ds vs
  | .dic ks ds, v => ∃ a kvs vs, v = .ref a ∧ Rd H a (.dK kvs) ∧ kvs = (ks.map Sum.inr).zip vs ∧ ks.length = vs.length ∧ Reps K H ds vs
  | .exc x, v => ∃ a C, v = .ref a ∧ XC K x C ∧ Rd H a (.ext (ExAt a C))
  | .ob k ds, v => ∃ a vs, v = .ref a ∧ KRep K H k a vs ∧ Reps K H ds vs
def Reps (K : PySem.W.Frag) (H : Hp) : List D → List V → Prop
  | [], vs => vs = []
  | d :: ds, vs => ∃ v r, vs = v :: r ∧ Rep K H d v ∧ Reps K H ds r
end
theorem Same.rd {H H' : Hp} (e : Same H H') {a : Addr} {o : HO} (h : Rd H a o) : Rd H' a o := by
  rcases h with h | ⟨o', h⟩
  · exact .inl (e _ _ h)
  · exact .inr ⟨o', e _ _ h⟩
theorem Same.sqT {K : PySem.W.Frag} {H H' : Hp} (e : Same H H') {a : Addr} {xs : List V} (h : SqT K H a xs) : SqT K H' a xs := by
  rcases h with h | h
  · exact .inl (Same.rd e h)
  · exact .inr h
theorem Same.sqL {K : PySem.W.Frag} {H H' : Hp} (e : Same H H') {a : Addr} {xs : List V} (h : SqL K H a xs) : SqL K H' a xs := by
  rcases h with h | h
  · exact .inl (Same.rd e h)
  · exact .inr h
theorem KRep.mono {K : PySem.W.Frag} {H H' : Hp} (e : Same H H') : ∀ {k : Kd} {a : Addr} {vs : List V}, KRep K H k a vs → KRep K H' k a vs
  | .ins c ks, a, vs, ⟨C, dx, h0, h1, h2, h3⟩ => ⟨C, dx, h0, h1, e _ _ h2, h3⟩
  | .dint ks, a, vs, ⟨kvs, h1, h2, h3⟩ => ⟨kvs, Same.rd e h1, h2, h3⟩
mutual
theorem Rep.mono {K : PySem.W.Frag} {H H' : Hp} (e : Same H H') : ∀ {d : D} {v : V}, Rep K H d v → Rep K H' d v
  | .non, _, h => by unfold Rep at h ⊢; exact h
  | .bl _, _, h => by unfold Rep at h ⊢; exact h
  | .int _, _, h => by unfold Rep at h ⊢; exact h
  | .str _, _, h => by unfold Rep at h ⊢; exact h
  | .tup ds, _, h => by
    unfold Rep at h ⊢
    obtain ⟨a, vs, e1, e2, e3⟩ := h
    exact ⟨a, vs, e1, Same.sqT e e2, Reps.mono e e3⟩
  | .lst ds, _, h => by
    unfold Rep at h ⊢
    obtain ⟨a, vs, e1, e2, e3⟩ := h
    exact ⟨a, vs, e1, Same.sqL e e2, Reps.mono e e3⟩
  | .dic ks ds, _, h => by
    unfold Rep at h ⊢
    obtain ⟨a, kvs, vs, e1, e2, e3, e4, e5⟩ := h
    exact ⟨a, kvs, vs, e1, Same.rd e e2, e3, e4, Reps.mono e e5⟩
  | .exc x, _, h => by
    unfold Rep at h ⊢
    obtain ⟨a, C, e1, e2, e3⟩ := h
    exact ⟨a, C, e1, e2, Same.rd e e3⟩
  | .ob k ds, _, h => by
    unfold Rep at h ⊢
    obtain ⟨a, vs, e1, e2, e3⟩ := h
    exact ⟨a, vs, e1, e2.mono e, Reps.mono e e3⟩
theorem Reps.mono {K : PySem.W.Frag} {H H' : Hp} (e : Same H H') : ∀ {ds : List D} {vs : List V}, Reps K H ds vs → Reps K H' ds vs
  | [], _, h => by unfold Reps at h ⊢; exact h
  | d :: ds, _, h => by
    unfold Reps at h ⊢
    obtain ⟨v, r, e1, e2, e3⟩ := h
    exact ⟨v, r, e1, Rep.mono e e2, Reps.mono e e3⟩
end
section
variable {K : PySem.W.Frag} {H : Hp} {v : V} {vs : List V} {d : D} {ds : List D}
theorem Rep.non_iff : Rep K H .non v ↔ v = .non := by unfold Rep; exact Iff.rfl
theorem Rep.bl_iff {b} : Rep K H (.bl b) v ↔ v = .bl b := by unfold Rep; exact Iff.rfl
theorem Rep.int_iff {i} : Rep K H (.int i) v ↔ v = .int i := by unfold Rep; exact Iff.rfl
theorem Rep.str_iff {x} : Rep K H (.str x) v ↔ v = .str x := by unfold Rep; exact Iff.rfl
theorem Rep.tup_iff : Rep K H (.tup ds) v ↔ ∃ a vs, v = .ref a ∧ SqT K H a vs ∧ Reps K H ds vs := by rw [Rep]
theorem Rep.lst_iff : Rep K H (.lst ds) v ↔ ∃ a vs, v = .ref a ∧ SqL K H a vs ∧ Reps K H ds vs := by rw [Rep]
theorem Rep.exc_iff {x} : Rep K H (.exc x) v ↔ ∃ a C, v = .ref a ∧ XC K x C ∧ Rd H a (.ext (ExAt a C)) := by rw [Rep]
theorem Rep.ob_iff {k} : Rep K H (.ob k ds) v ↔ ∃ a vs, v = .ref a ∧ KRep K H k a vs ∧ Reps K H ds vs := by rw [Rep]
theorem Reps.nil_iff : Reps K H [] vs ↔ vs = [] := by unfold Reps; exact Iff.rfl
theorem Reps.cons_iff : Reps K H (d :: ds) vs ↔ ∃ v r, vs = v :: r ∧ Rep K H d v ∧ Reps K H ds r := by rw [Reps]
theorem Reps.nil : Reps K H [] [] := Reps.nil_iff.mpr rfl
theorem Reps.cons (h : Rep K H d v) (h' : Reps K H ds vs) : Reps K H (d :: ds) (v :: vs) := Reps.cons_iff.mpr ⟨_, _, rfl, h, h'⟩
end
theorem Reps.length {K : PySem.W.Frag} {H : Hp} : ∀ {ds : List D} {vs : List V}, Reps K H ds vs → ds.length = vs.length
  | [], _, h => by rw [Reps.nil_iff.mp h]; rfl
  | d :: ds, _, h => by
    obtain ⟨v, r, rfl, _, h⟩ := Reps.cons_iff.mp h
    simp [Reps.length h]
theorem Reps.get {K : PySem.W.Frag} {H : Hp} : ∀ {ds : List D} {vs : List V} {i : Nat} {d : D}, Reps K H ds vs → ds[i]? = some d → ∃ v, vs[i]? = some v ∧ Rep K H d v
  | [], _, _, _, h, e => by simp at e
  | x :: ds, _, 0, d, h, e => by
    obtain ⟨v, r, rfl, h1, _⟩ := Reps.cons_iff.mp h
    simp at e; subst e; exact ⟨v, rfl, h1⟩
  | x :: ds, _, i + 1, d, h, e => by
    obtain ⟨v, r, rfl, _, h2⟩ := Reps.cons_iff.mp h
    obtain ⟨u, e1, e2⟩ := Reps.get (i := i) h2 (by simpa using e)
    exact ⟨u, by simpa using e1, e2⟩
theorem Reps.app {K : PySem.W.Frag} {H : Hp} : ∀ {ds es : List D} {vs us : List V}, Reps K H ds vs → Reps K H es us → Reps K H (ds ++ es) (vs ++ us)
  | [], _, _, _, h, h' => by rw [Reps.nil_iff.mp h]; exact h'
  | d :: ds, _, _, _, h, h' => by
    obtain ⟨v, r, rfl, h1, h2⟩ := Reps.cons_iff.mp h
    exact Reps.cons h1 (Reps.app h2 h')
theorem Reps.take {K : PySem.W.Frag} {H : Hp} : ∀ {ds : List D} {vs : List V} (n : Nat), Reps K H ds vs → Reps K H (ds.take n) (vs.take n)
  | _, _, 0, _ => by simp; exact Reps.nil
  | [], _, n + 1, h => by rw [Reps.nil_iff.mp h]; exact Reps.nil
  | d :: ds, _, n + 1, h => by
    obtain ⟨v, r, rfl, h1, h2⟩ := Reps.cons_iff.mp h
    exact Reps.cons h1 (Reps.take n h2)
theorem Reps.drop {K : PySem.W.Frag} {H : Hp} : ∀ {ds : List D} {vs : List V} (n : Nat), Reps K H ds vs → Reps K H (ds.drop n) (vs.drop n)
  | _, _, 0, h => by simpa using h
  | [], _, n + 1, h => by rw [Reps.nil_iff.mp h]; exact Reps.nil
  | d :: ds, _, n + 1, h => by
    obtain ⟨v, r, rfl, h1, h2⟩ := Reps.cons_iff.mp h
    exact Reps.drop n h2
theorem Reps.ints {K : PySem.W.Frag} {H : Hp} : ∀ (ns : List Int), Reps K H (ns.map D.int) (ns.map V.int)
  | [] => Reps.nil
  | n :: r => Reps.cons (Rep.int_iff.mpr rfl) (Reps.ints r)
structure Grow (H H₀ H' H₀' : Hp) : Prop where
  s : Same H H'
  z : Same H₀ H₀'
  sub : Same H₀' H'
  nw : ∀ a, H₀' a ≠ none → H₀ a = none → H a = none
theorem Grow.refl {H H₀ : Hp} (h : Same H₀ H) : Grow H H₀ H H₀ := ⟨Same.refl _, Same.refl _, h, fun a h1 h2 => absurd h2 h1⟩
theorem Grow.trans {H H₀ H1 H01 H2 H02 : Hp} (a : Grow H H₀ H1 H01) (b : Grow H1 H01 H2 H02) : Grow H H₀ H2 H02 :=
  ⟨a.s.trans b.s, a.z.trans b.z, b.sub, fun x h1 h2 => by
    cases q : H01 x with
    | none => exact a.s.free (b.nw x h1 q)
    | some o => exact a.nw x (by rw [q]; simp) h2⟩
theorem Grow.alloc {H H₀ : Hp} {p : Addr} {o : HO} (hs : Same H₀ H) (hp : H p = none) : Grow H H₀ (upd H p o) (upd H₀ p o) :=
  ⟨same_new hp o, same_new (hs.free hp) o, fun b u e => by
    by_cases hb : b = p
    · subst hb; rw [upd_same] at e ⊢; exact e
    · rw [upd_ne hb] at e ⊢; exact hs _ _ e, fun a h1 h2 => by
    by_cases hb : a = p
    · subst hb; exact hp
    · rw [upd_ne hb] at h1; exact absurd h2 h1⟩
where
  same_new {H : Hp} {p : Addr} (h : H p = none) (o : HO) : Same H (upd H p o) := fun b u q => by rw [upd_ne (ne_of_none q h)]; exact q
inductive Sl where
  | no | sh (d : D) | ow (d : D) | ox (j : Nat) (ds : List D)
abbrev Ev := List Sl
def Reads (K : PySem.W.Frag) (H₀ : Hp) (σ : L2.St) (ρ : Ev) : Prop := ∀ (i : Nat) (d : D), ρ[i]? = some (.sh d) → ∃ v, σ[i]? = some (some v) ∧ Rep K H₀ d v
theorem Reads.mono {K : PySem.W.Frag} {H H' : Hp} {σ : L2.St} {ρ : Ev} (e : Same H H') (r : Reads K H σ ρ) : Reads K H' σ ρ := fun i d h =>
  let ⟨v, h1, h2⟩ := r i d h
  ⟨v, h1, h2.mono e⟩
def ExR (K : PySem.W.Frag) (H : Hp) (x : Exn) (C : Value) (ox : Option Addr) : Prop :=
  (∃ c, C = .ref c ∧ XC K x.cls c) ∧ match ox with
    | none => x.flds = []
    | some a => ∃ fs, H a = some (.xd fs) ∧ ∀ n d, x.flds.lookup n = some d → ∃ v, fs.lookup n = some v ∧ Rep K H d v
def post (K : PySem.W.Frag) (E : XK) (H H₀ : Hp) (r : Res D) (Q : VK) : Prop := match r with
  | .ok d => ∀ v H' H₀', Grow H H₀ H' H₀' → Rep K H₀' d v → Q v H'
  | .exn x => ∀ C ox H' H₀', Grow H H₀ H' H₀' → ExR K H₀' x C ox → E C ox H'
  | .stuck => False
def posts (K : PySem.W.Frag) (E : XK) (H H₀ : Hp) (r : Res (List D)) (Q : List V → Hp → Prop) : Prop := match r with
  | .ok ds => ∀ vs H' H₀', Grow H H₀ H' H₀' → Reps K H₀' ds vs → Q vs H'
  | .exn x => ∀ C ox H' H₀', Grow H H₀ H' H₀' → ExR K H₀' x C ox → E C ox H'
  | .stuck => False
def postT (K : PySem.W.Frag) (E : XK) (H H₀ : Hp) (r : Res D) (Q : Bool → Hp → Prop) : Prop := match r with
  | .ok (.bl b) => ∀ H' H₀', Grow H H₀ H' H₀' → Q b H'
  | .ok _ => False
  | .exn x => ∀ C ox H' H₀', Grow H H₀ H' H₀' → ExR K H₀' x C ox → E C ox H'
  | .stuck => False
section
variable {K : PySem.W.Frag} {E : XK} {H H₀ H1 H01 : Hp}
theorem post.grow {r : Res D} {Q : VK} (h : post K E H H₀ r Q) (g : Grow H H₀ H1 H01) : post K E H1 H01 r Q := by
  cases r with
  | ok d => exact fun v H' H₀' g' => h v H' H₀' (g.trans g')
  | exn x => exact fun C ox H' H₀' g' => h C ox H' H₀' (g.trans g')
  | stuck => exact h
theorem posts.grow {r : Res (List D)} {Q : List V → Hp → Prop} (h : posts K E H H₀ r Q) (g : Grow H H₀ H1 H01) : posts K E H1 H01 r Q := by
  cases r with
  | ok d => exact fun v H' H₀' g' => h v H' H₀' (g.trans g')
  | exn x => exact fun C ox H' H₀' g' => h C ox H' H₀' (g.trans g')
  | stuck => exact h
theorem postT.grow {r : Res D} {Q : Bool → Hp → Prop} (h : postT K E H H₀ r Q) (g : Grow H H₀ H1 H01) : postT K E H1 H01 r Q := by
  cases r with
  | ok d =>
    cases d with
    | bl b => exact fun H' H₀' g' => h H' H₀' (g.trans g')
    | _ => exact h
  | exn x => exact fun C ox H' H₀' g' => h C ox H' H₀' (g.trans g')
  | stuck => exact h
end
def tD (K : PySem.W.Frag) (E : XK) (f : Ev → Res D) : TE := fun σ H Q => ∃ H₀ ρ, Same H₀ H ∧ Reads K H₀ σ ρ ∧ post K E H H₀ (f ρ) Q
def tDA (K : PySem.W.Frag) (E : XK) (f : Ev → Res (List D)) : TA := fun σ H Q => ∃ H₀ ρ, Same H₀ H ∧ Reads K H₀ σ ρ ∧ posts K E H H₀ (f ρ) Q
def tDT (K : PySem.W.Frag) (E : XK) (f : Ev → Res D) : TT := fun σ H Q => ∃ H₀ ρ, Same H₀ H ∧ Reads K H₀ σ ρ ∧ postT K E H H₀ (f ρ) Q
structure DE (X : Cx) (E : XK) (e : Expr) (f : Ev → Res D) : Prop where
  o : PE X e (tD X.K E f)
structure DA (X : Cx) (E : XK) (es : List Expr) (f : Ev → Res (List D)) : Prop where
  o : PA X es (tDA X.K E f)
structure DT (X : Cx) (E : XK) (e : Expr) (f : Ev → Res D) : Prop where
  o : PT X e (tDT X.K E f)
structure DW (X : Cx) (E : XK) (e : Expr) (f : Ev → Res D) : Prop where
  o : PW X e (tDT X.K E f)
section
variable {X : Cx} {E : XK} {e a b : Expr} {es : List Expr} {f g : Ev → Res D} {fa : Ev → Res (List D)} {pos : Pos}
theorem pe_weak {t t' : TE} (h : PE X e t) (w : ∀ σ H Q, t' σ H Q → t σ H Q) : PE X e t' := fun pins s σ H Q I q => h pins s σ H Q I (w σ H Q q)
theorem pa_weak {t t' : TA} (h : PA X es t) (w : ∀ σ H Q, t' σ H Q → t σ H Q) : PA X es t' := fun pos pins s σ H Q I q => h pos pins s σ H Q I (w σ H Q q)
theorem pt_weak {t t' : TT} (h : PT X e t) (w : ∀ σ H Q, t' σ H Q → t σ H Q) : PT X e t' := fun pins s σ H Q I q => h pins s σ H Q I (w σ H Q q)
theorem pw_weak {t t' : TT} (h : PW X e t) (w : ∀ σ H Q, t' σ H Q → t σ H Q) : PW X e t' := fun wh pins s σ H Q I q => h wh pins s σ H Q I (w σ H Q q)
def dVar (i : Nat) : Ev → Res D := fun ρ => match ρ[i]? with
  | some (.sh d) => .ok d
  | _ => .stuck
def dC (d : D) : Ev → Res D := fun _ => .ok d
theorem de_var {i : Nat} {x : Str} (hN : X.N[i]? = some x) (hv : Vis X.env.scope x) (hd : (x == ("__debug__" : Str)) = false := by decide) (hcd : (x == ("__classdict__" : Str)) = false := by decide) : DE X E (.Name x pos) (dVar i) := by
  refine ⟨?_⟩
  refine pe_weak (pe_var hN hv hd hcd) fun σ H Q ⟨H₀, ρ, hs, hr, q⟩ => ?_
  unfold dVar at q
  cases e : ρ[i]? with
  | none => rw [e] at q; exact q.elim
  | some s =>
    rw [e] at q
    cases s with
    | sh d =>
      obtain ⟨v, e1, e2⟩ := hr i d e
      exact ⟨v, e1, q v H H₀ (Grow.refl hs) e2⟩
    | no => exact q.elim
    | ow d => exact q.elim
    | ox j ds => exact q.elim
theorem de_int {i j} : DE X E (.Constant (.int i) j pos) (dC (.int i)) := ⟨pe_weak pe_int fun σ H Q ⟨H₀, ρ, hs, hr, q⟩ => q _ H H₀ (Grow.refl hs) (Rep.int_iff.mpr rfl)⟩
theorem de_bl {i j} : DE X E (.Constant (.bool i) j pos) (dC (.bl i)) := ⟨pe_weak pe_bl fun σ H Q ⟨H₀, ρ, hs, hr, q⟩ => q _ H H₀ (Grow.refl hs) (Rep.bl_iff.mpr rfl)⟩
theorem de_non {j} : DE X E (.Constant .none j pos) (dC .non) := ⟨pe_weak pe_non fun σ H Q ⟨H₀, ρ, hs, hr, q⟩ => q _ H H₀ (Grow.refl hs) (Rep.non_iff.mpr rfl)⟩
theorem de_str {x j} : DE X E (.Constant (.str x) j pos) (dC (.str x)) := ⟨pe_weak pe_str fun σ H Q ⟨H₀, ρ, hs, hr, q⟩ => q _ H H₀ (Grow.refl hs) (Rep.str_iff.mpr rfl)⟩
theorem de_glob {x : Str} {v : V} {u : Value} {d : D} (hg : Gl X x) (hm : X.mg x = some u) (r : RelV v u) (hr : ∀ H, Rep X.K H d v) (hd : (x == ("__debug__" : Str)) = false := by decide) : DE X E (.Name x pos) (dC d) :=
  ⟨pe_weak (pe_glob hg hm r hd) fun σ H Q ⟨H₀, ρ, hs, hr', q⟩ => q _ H H₀ (Grow.refl hs) (hr H₀)⟩
def bind2 (f g : Ev → Res D) (op : D → D → Res D) : Ev → Res D := fun ρ => (f ρ).bind fun x => (g ρ).bind fun y => op x y
def bind1 (f : Ev → Res D) (op : D → Res D) : Ev → Res D := fun ρ => (f ρ).bind op
def OpD (K : PySem.W.Frag) (E : XK) (r : R2) (op : D → D → Res D) : Prop := ∀ (x y : D) (v u : V) (H H₀ : Hp) (Q : VK), Same H₀ H → Rep K H₀ x v → Rep K H₀ y u → post K E H H₀ (op x y) Q → r v u H Q
theorem two_steps {r : R2} {op : D → D → Res D} (ho : OpD X.K E r op) (σ : L2.St) (H : Hp) (Q : VK) (h : tD X.K E (bind2 f g op) σ H Q) : tOp r (tD X.K E f) (tD X.K E g) σ H Q := by
  obtain ⟨H₀, ρ, hs, hr, q⟩ := h
  refine ⟨H₀, ρ, hs, hr, ?_⟩
  unfold bind2 at q
  cases e1 : f ρ with
  | stuck => rw [e1] at q; exact q
  | exn x => rw [e1] at q; exact q
  | ok x =>
    rw [e1] at q
    intro v H1 H01 g1 r1
    refine ⟨H01, ρ, g1.sub, hr.mono g1.z, ?_⟩
    replace q : post X.K E H H₀ ((g ρ).bind fun y => op x y) Q := q
    replace q := q.grow g1
    cases e2 : g ρ with
    | stuck => rw [e2] at q; exact q
    | exn x => rw [e2] at q; exact q
    | ok y =>
      rw [e2] at q
      intro u H2 H02 g2 r2
      exact ho x y v u H2 H02 Q g2.sub (r1.mono g2.z) r2 (post.grow (r := op x y) q g2)
theorem de_op {op : Operator} {r : R2} {o : D → D → Res D} (h : OpR X (binaryOp op) r) (ho : OpD X.K E r o) (ha : DE X E a f) (hb : DE X E b g) : DE X E (.BinOp a op b pos) (bind2 f g o) :=
  ⟨pe_weak (pe_op h ha.o hb.o) (two_steps ho)⟩
theorem de_cmp {op : CmpOp} {r : R2} {o : D → D → Res D} (h : OpR X (compareOp op) r) (ho : OpD X.K E r o) (ha : DE X E a f) (hb : DE X E b g) (hm : behindInMarks op b = false) : DE X E (.Compare a [op] [b] pos) (bind2 f g o) :=
  ⟨pe_weak (pe_cmpR h ha.o hb.o hm) (two_steps ho)⟩
theorem de_ix {r : R2} {o : D → D → Res D} (h : IxR X r) (ho : OpD X.K E r o) (ha : DE X E a f) (hb : DE X E b g) (hs : PlainIx b) : DE X E (.Subscript a b pos) (bind2 f g o) :=
  ⟨pe_weak (pe_ix h ha.o hb.o hs) (two_steps ho)⟩
def UnD (K : PySem.W.Frag) (E : XK) (r : V → Hp → VK → Prop) (op : D → Res D) : Prop := ∀ (x : D) (v : V) (H H₀ : Hp) (Q : VK), Same H₀ H → Rep K H₀ x v → post K E H H₀ (op x) Q → r v H Q
theorem de_un {op : UnaryOp} {r : V → Hp → VK → Prop} {o : D → Res D} (h : UnR X (unaryOp op) r) (ho : UnD X.K E r o) (ha : DE X E a f) : DE X E (.UnaryOp op a pos) (bind1 f o) := by
  refine ⟨?_⟩
  refine pe_weak (pe_un h ha.o) fun σ H Q ⟨H₀, ρ, hs, hr, q⟩ => ⟨H₀, ρ, hs, hr, ?_⟩
  unfold bind1 at q
  cases e1 : f ρ with
  | stuck => rw [e1] at q; exact q
  | exn x => rw [e1] at q; exact q
  | ok x =>
    rw [e1] at q
    intro v H1 H01 g1 r1
    exact ho x v H1 H01 Q g1.sub r1 (post.grow (r := o x) q g1)
def aNil : Ev → Res (List D) := fun _ => .ok []
def aCons (f : Ev → Res D) (fa : Ev → Res (List D)) : Ev → Res (List D) := fun ρ => (f ρ).bind fun x => (fa ρ).bind fun xs => .ok (x :: xs)
theorem da_nil : DA X E [] aNil := ⟨pa_weak pa_nil fun σ H Q ⟨H₀, ρ, hs, hr, q⟩ => q [] H H₀ (Grow.refl hs) Reps.nil⟩
theorem da_cons (ha : DE X E e f) (hr : DA X E es fa) (hs : starEach (e :: es) X.env = (false, eval e X.env) :: starEach es X.env := by exact star_cons rfl) : DA X E (e :: es) (aCons f fa) := by
  refine ⟨?_⟩
  refine pa_weak (pa_cons ha.o hr.o hs) fun σ H Q ⟨H₀, ρ, hs, hr, q⟩ => ⟨H₀, ρ, hs, hr, ?_⟩
  unfold aCons at q
  cases e1 : f ρ with
  | stuck => rw [e1] at q; exact q
  | exn x => rw [e1] at q; exact q
  | ok x =>
    rw [e1] at q
    intro v H1 H01 g1 r1
    refine ⟨H01, ρ, g1.sub, hr.mono g1.z, ?_⟩
    replace q : posts X.K E H H₀ ((fa ρ).bind fun xs => .ok (x :: xs)) Q := q
    replace q := q.grow g1
    cases e2 : fa ρ with
    | stuck => rw [e2] at q; exact q
    | exn x => rw [e2] at q; exact q
    | ok xs =>
      rw [e2] at q
      intro us H2 H02 g2 r2
      exact q (v :: us) H2 H02 g2 (Reps.cons (r1.mono g2.z) r2)
def line : Nat := 1000000
theorem line_le {n : Nat} (h : n ≤ line) : n ≤ sizeLine := Nat.le_trans h (by decide)
def bindA (fa : Ev → Res (List D)) (m : List D → Res D) : Ev → Res D := fun ρ => (fa ρ).bind m
def mTup : List D → Res D := fun ds => if ds.length ≤ line then .ok (.tup ds) else .stuck
def mLst : List D → Res D := fun ds => if ds.length ≤ line then .ok (.lst ds) else .stuck
theorem arg_steps {m : List D → Res D} {r : List V → Hp → VK → Prop} (ho : ∀ (ds : List D) (vs : List V) (H H₀ : Hp) (Q : VK), Same H₀ H → Reps X.K H₀ ds vs → post X.K E H H₀ (m ds) Q → r vs H Q)
    (σ : L2.St) (H : Hp) (Q : VK) (h : tD X.K E (bindA fa m) σ H Q) : tDA X.K E fa σ H fun vs H1 => r vs H1 Q := by
  obtain ⟨H₀, ρ, hs, hr, q⟩ := h
  refine ⟨H₀, ρ, hs, hr, ?_⟩
  unfold bindA at q
  cases e1 : fa ρ with
  | stuck => rw [e1] at q; exact q
  | exn x => rw [e1] at q; exact q
  | ok x =>
    rw [e1] at q
    intro v H1 H01 g1 r1
    exact ho x v H1 H01 Q g1.sub r1 (post.grow (r := m x) q g1)
theorem de_tup {x1} (h : DA X E es fa) : DE X E (.Tuple es x1 pos) (bindA fa mTup) := by
  refine ⟨?_⟩
  refine pe_weak (pe_tup h.o) (arg_steps (r := fun xs H1 Q => xs.length ≤ sizeLine ∧ ∀ p, H1 p = none → Q (.ref p) (upd H1 p (.tup xs))) fun ds vs H H₀ Q hs hr q => ?_)
  unfold mTup at q
  by_cases hl : ds.length ≤ line
  · rw [if_pos hl] at q
    refine ⟨by rw [← hr.length]; exact line_le hl, fun p hp => q _ _ _ (Grow.alloc hs hp) (Rep.tup_iff.mpr ⟨p, vs, rfl, SqT.of upd_same, hr.mono (Grow.alloc hs hp).z⟩)⟩
  · rw [if_neg hl] at q; exact q.elim
theorem de_lst (h : DA X E es fa) : DE X E (.List es pos) (bindA fa mLst) := by
  refine ⟨?_⟩
  refine pe_weak (pe_lst h.o) (arg_steps (r := fun xs H1 Q => xs.length ≤ sizeLine ∧ ∀ p, H1 p = none → Q (.ref p) (upd H1 p (.lst xs))) fun ds vs H H₀ Q hs hr q => ?_)
  unfold mLst at q
  by_cases hl : ds.length ≤ line
  · rw [if_pos hl] at q
    refine ⟨by rw [← hr.length]; exact line_le hl, fun p hp => q _ _ _ (Grow.alloc hs hp) (Rep.lst_iff.mpr ⟨p, vs, rfl, SqL.of upd_same, hr.mono (Grow.alloc hs hp).z⟩)⟩
  · rw [if_neg hl] at q; exact q.elim
def spD (K : PySem.W.Frag) (n : Nat) (m : List D → Res D) : Sp := fun vs H Q E => vs.length = n ∧ ∃ H₀ ds, Same H₀ H ∧ Reps K H₀ ds vs ∧ post K E H H₀ (m ds) Q
theorem de_call {CX : CXT} {k n : Nat} {fn : Addr} {fd : FuncData} {ps : List Str} {m : List D → Res D} {x : Str} {p : Pos} (F : FnOk X.prog X.w X.K X.mg X.base CX k fn fd ps (spD X.K n m)) (hr : Room k X.A) (hg : Gl X x) (hm : X.mg x = some (.ref fn))
    (hk : PySem.W.keepIn X.K (.ref fn) = true) (hb : Binds X.K fd ps []) (hx : Passes CX X E) (ha : DA X E (e :: es) fa) (hn : (e :: es).length = n := by rfl) (hl : ∀ ρ ds, fa ρ = .ok ds → ds.length = (e :: es).length)
    (hdb : (x == ("__debug__" : Str)) = false := by decide) (he : starEach (e :: es) X.env = (false, eval e X.env) :: starEach es X.env := by exact star_cons rfl) (hpl : (backTo pos (starEach es X.env)).any (·.1) = false := by exact any_star rfl) :
    DE X E (.Call (.Name x p) (e :: es) [] pos) (bindA fa m) := by
  refine ⟨?_⟩
  refine pe_weak (pe_call F hr hg hm hk hb .nil hx ha.o hdb he hpl) fun σ H Q h => ?_
  obtain ⟨H₀, ρ, hs, hr, q⟩ := h
  refine ⟨H₀, ρ, hs, hr, ?_⟩
  unfold bindA at q
  cases e1 : fa ρ with
  | stuck => rw [e1] at q; exact q
  | exn x => rw [e1] at q; exact q
  | ok ds =>
    rw [e1] at q
    intro v H1 H01 g1 r1
    refine ⟨?_, H01, ds, g1.sub, by simpa using r1, post.grow (r := m ds) q g1⟩
    have := r1.length
    have := hl ρ ds e1
    simp only [List.append_nil]
    omega
theorem aNil_len {ρ : Ev} {ds : List D} (h : aNil ρ = .ok ds) : ds.length = 0 := by cases h; rfl
theorem aCons_len {ρ : Ev} {ds : List D} {n : Nat} (hr : ∀ es, fa ρ = .ok es → es.length = n) (h : aCons f fa ρ = .ok ds) : ds.length = n + 1 := by
  unfold aCons at h
  cases e1 : f ρ with
  | stuck => rw [e1] at h; cases h
  | exn x => rw [e1] at h; cases h
  | ok x =>
    rw [e1] at h
    replace h : ((fa ρ).bind fun xs => Res.ok (x :: xs)) = .ok ds := h
    cases e2 : fa ρ with
    | stuck => rw [e2] at h; cases h
    | exn x => rw [e2] at h; cases h
    | ok xs =>
      rw [e2] at h
      cases h
      simp [hr xs e2]
def CallD (X : Cx) (E : XK) (r : List V → Hp → VK → Prop) (m : List D → Res D) : Prop := ∀ (ds : List D) (vs : List V) (H H₀ : Hp) (Q : VK), Same H₀ H → Reps X.K H₀ ds vs → post X.K E H H₀ (m ds) Q → r vs H Q
theorem de_callB {id : String} {r : List V → Hp → VK → Prop} {m : List D → Res D} {x : Str} {p : Pos} (hc : CallR X (.builtin id) r) (hd : CallD X E r m) (hg : Gl X x) (hm : X.mg x = none) (hv : bootBuiltins x = some (.builtin id)) (ha : DA X E (e :: es) fa) (hn : x ≠ "__name__" := by decide) (hdb : (x == ("__debug__" : Str)) = false := by decide)
    (he : starEach (e :: es) X.env = (false, eval e X.env) :: starEach es X.env := by exact star_cons rfl) (hpl : (backTo pos (starEach es X.env)).any (·.1) = false := by exact any_star rfl) : DE X E (.Call (.Name x p) (e :: es) [] pos) (bindA fa m) :=
  ⟨pe_weak (pe_callB hc hg hm hv ha.o hn hdb he hpl) (arg_steps hd)⟩
theorem dt_of_tB (h : PT X e (tB (tD X.K E f))) : DT X E e f := by
  refine ⟨?_⟩
  refine pt_weak h fun σ H Q ⟨H₀, ρ, hs, hr, q⟩ => ⟨H₀, ρ, hs, hr, ?_⟩
  cases e1 : f ρ with
  | stuck => rw [e1] at q; exact q
  | exn x => rw [e1] at q; exact q
  | ok d =>
    rw [e1] at q
    intro v H1 H01 g1 r1
    cases d with
    | bl b => rw [Rep.bl_iff.mp r1]; exact ⟨b, rfl, q H1 H01 g1⟩
    | _ => exact q.elim
theorem dt_val (h : DE X E e f) (he : ∀ whole, isTrue e X.env whole = (do let v ← whole; standAt e.pos; holding [v] (truthy v)) := by intro _; rfl) : DT X E e f := dt_of_tB (pt_val h.o he)
theorem dt_cmp {op : CmpOp} {r : R2} {o : D → D → Res D} (h : OpR X (compareOp op) r) (ho : OpD X.K E r o) (ha : DE X E a f) (hb : DE X E b g) (hm : behindInMarks op b = false) : DT X E (.Compare a [op] [b] pos) (bind2 f g o) := by
  refine ⟨?_⟩
  refine pt_weak (pt_cmpR h ha.o hb.o hm) fun σ H Q h => ?_
  have w : tD X.K E (bind2 f g o) σ H fun x H' => ∃ k, x = .bl k ∧ Q k H' := by
    obtain ⟨H₀, ρ, hs, hr, q⟩ := h
    refine ⟨H₀, ρ, hs, hr, ?_⟩
    cases e1 : bind2 f g o ρ with
    | stuck => rw [e1] at q; exact q
    | exn x => rw [e1] at q; exact q
    | ok d =>
      rw [e1] at q
      intro v H1 H01 g1 r1
      cases d with
      | bl b => rw [Rep.bl_iff.mp r1]; exact ⟨b, rfl, q H1 H01 g1⟩
      | _ => exact q.elim
  exact two_steps ho σ H _ w
def dNot (f : Ev → Res D) : Ev → Res D := bind1 f fun x => match x with
  | .bl b => .ok (.bl (!b))
  | _ => .stuck
def dAnd (f g : Ev → Res D) : Ev → Res D := fun ρ => (f ρ).bind fun x => match x with
  | .bl true => g ρ
  | .bl false => .ok (.bl false)
  | _ => .stuck
def dOr (f g : Ev → Res D) : Ev → Res D := fun ρ => (f ρ).bind fun x => match x with
  | .bl true => .ok (.bl true)
  | .bl false => g ρ
  | _ => .stuck
theorem dt_not (ha : DT X E a f) : DT X E (.UnaryOp .Not a pos) (dNot f) := by
  refine ⟨?_⟩
  refine pt_weak (pt_not ha.o) fun σ H Q ⟨H₀, ρ, hs, hr, q⟩ => ⟨H₀, ρ, hs, hr, ?_⟩
  unfold dNot bind1 at q
  cases e1 : f ρ with
  | stuck => rw [e1] at q; exact q
  | exn x => rw [e1] at q; exact q
  | ok d =>
    rw [e1] at q
    cases d with
    | bl b => exact q
    | _ => exact q.elim
theorem de_not (ha : DE X E a f) : DE X E (.UnaryOp .Not a pos) (dNot f) := by
  refine ⟨?_⟩
  refine pe_weak (pe_not ha.o) fun σ H Q ⟨H₀, ρ, hs, hr, q⟩ => ⟨H₀, ρ, hs, hr, ?_⟩
  unfold dNot bind1 at q
  cases e1 : f ρ with
  | stuck => rw [e1] at q; exact q
  | exn x => rw [e1] at q; exact q
  | ok d =>
    rw [e1] at q
    intro v H1 H01 g1 r1
    cases d with
    | bl b => rw [Rep.bl_iff.mp r1]; exact ⟨b, rfl, q (.bl !b) H1 H01 g1 (Rep.bl_iff.mpr rfl)⟩
    | _ => exact q.elim
variable {rest : List Expr}
theorem dw_one_and (ha : DT X E a f) : DW X E (.BoolOp .And [a] pos) f := ⟨pw_and1 ha.o⟩
theorem dw_one_or (ha : DT X E a f) : DW X E (.BoolOp .Or [a] pos) f := ⟨pw_or1 ha.o⟩
theorem dw_and (ha : DT X E a f) (hb : DW X E (.BoolOp .And (b :: rest) pos) g) : DW X E (.BoolOp .And (a :: b :: rest) pos) (dAnd f g) := by
  refine ⟨?_⟩
  refine pw_weak (pw_and ha.o hb.o) fun σ H Q ⟨H₀, ρ, hs, hr, q⟩ => ⟨H₀, ρ, hs, hr, ?_⟩
  unfold dAnd at q
  cases e1 : f ρ with
  | stuck => rw [e1] at q; exact q
  | exn x => rw [e1] at q; exact q
  | ok d =>
    rw [e1] at q
    cases d with
    | bl b =>
      cases b with
      | true => exact fun H1 H01 g1 => ⟨H01, ρ, g1.sub, hr.mono g1.z, postT.grow (r := g ρ) q g1⟩
      | false => exact fun H1 H01 g1 => q H1 H01 g1
    | _ => exact q.elim
theorem dw_or (ha : DT X E a f) (hb : DW X E (.BoolOp .Or (b :: rest) pos) g) : DW X E (.BoolOp .Or (a :: b :: rest) pos) (dOr f g) := by
  refine ⟨?_⟩
  refine pw_weak (pw_or ha.o hb.o) fun σ H Q ⟨H₀, ρ, hs, hr, q⟩ => ⟨H₀, ρ, hs, hr, ?_⟩
  unfold dOr at q
  cases e1 : f ρ with
  | stuck => rw [e1] at q; exact q
  | exn x => rw [e1] at q; exact q
  | ok d =>
    rw [e1] at q
    cases d with
    | bl b =>
      cases b with
      | false => exact fun H1 H01 g1 => ⟨H01, ρ, g1.sub, hr.mono g1.z, postT.grow (r := g ρ) q g1⟩
      | true => exact fun H1 H01 g1 => q H1 H01 g1
    | _ => exact q.elim
theorem DW.dt (h : DW X E e f) : DT X E e f := ⟨PW.pt h.o⟩
theorem de_one {op} (h : DE X E a f) : DE X E (.BoolOp op [a] pos) f := ⟨pe_one h.o⟩
theorem de_and (ha : DE X E a f) (hb : DE X E (.BoolOp .And (b :: rest) pos) g) : DE X E (.BoolOp .And (a :: b :: rest) pos) (dAnd f g) := by
  refine ⟨?_⟩
  refine pe_weak (pe_and ha.o hb.o) fun σ H Q ⟨H₀, ρ, hs, hr, q⟩ => ⟨H₀, ρ, hs, hr, ?_⟩
  unfold dAnd at q
  cases e1 : f ρ with
  | stuck => rw [e1] at q; exact q
  | exn x => rw [e1] at q; exact q
  | ok d =>
    rw [e1] at q
    intro v H1 H01 g1 r1
    cases d with
    | bl b =>
      rw [Rep.bl_iff.mp r1]
      cases b with
      | true => exact ⟨true, rfl, H01, ρ, g1.sub, hr.mono g1.z, post.grow (r := g ρ) q g1⟩
      | false => exact ⟨false, rfl, q (.bl false) H1 H01 g1 (Rep.bl_iff.mpr rfl)⟩
    | _ => exact q.elim
theorem de_or (ha : DE X E a f) (hb : DE X E (.BoolOp .Or (b :: rest) pos) g) : DE X E (.BoolOp .Or (a :: b :: rest) pos) (dOr f g) := by
  refine ⟨?_⟩
  refine pe_weak (pe_or ha.o hb.o) fun σ H Q ⟨H₀, ρ, hs, hr, q⟩ => ⟨H₀, ρ, hs, hr, ?_⟩
  unfold dOr at q
  cases e1 : f ρ with
  | stuck => rw [e1] at q; exact q
  | exn x => rw [e1] at q; exact q
  | ok d =>
    rw [e1] at q
    intro v H1 H01 g1 r1
    cases d with
    | bl b =>
      rw [Rep.bl_iff.mp r1]
      cases b with
      | false => exact ⟨false, rfl, H01, ρ, g1.sub, hr.mono g1.z, post.grow (r := g ρ) q g1⟩
      | true => exact ⟨true, rfl, q (.bl true) H1 H01 g1 (Rep.bl_iff.mpr rfl)⟩
    | _ => exact q.elim
def dIf (c f g : Ev → Res D) : Ev → Res D := fun ρ => (c ρ).bind fun x => match x with
  | .bl true => f ρ
  | .bl false => g ρ
  | _ => .stuck
theorem de_ifExp {c : Expr} {fc : Ev → Res D} (hc : DT X E c fc) (ha : DE X E a f) (hb : DE X E b g) : DE X E (.IfExp c a b pos) (dIf fc f g) := by
  refine ⟨?_⟩
  refine pe_weak (pe_ifExp hc.o ha.o hb.o) fun σ H Q ⟨H₀, ρ, hs, hr, q⟩ => ⟨H₀, ρ, hs, hr, ?_⟩
  unfold dIf at q
  cases e1 : fc ρ with
  | stuck => rw [e1] at q; exact q
  | exn x => rw [e1] at q; exact q
  | ok d =>
    rw [e1] at q
    cases d with
    | bl b =>
      cases b with
      | true => exact fun H1 H01 g1 => ⟨H01, ρ, g1.sub, hr.mono g1.z, post.grow (r := f ρ) q g1⟩
      | false => exact fun H1 H01 g1 => ⟨H01, ρ, g1.sub, hr.mono g1.z, post.grow (r := g ρ) q g1⟩
    | _ => exact q.elim
end
end DL
set_option Elab.async false
set_option linter.all false
set_option maxRecDepth 100000
namespace DL
open PySem PySem.Spec PyProof.Rows L2
def OwnR (K : PySem.W.Frag) (H₀ H : Hp) (a : Addr) (d : D) : Prop := match d with
  | .lst ds => ∃ vs, H a = some (.lst vs) ∧ Reps K H₀ ds vs
  | _ => False
def OXr (K : PySem.W.Frag) (He H₀ H : Hp) (a : Addr) (j : Nat) (ds : List D) (p : Addr) : Prop := ∃ vs es us, He a = none ∧ H a = some (.tup vs) ∧ He p = none ∧ H₀ p = none ∧ ds[j]? = some (.lst es) ∧ vs[j]? = some (.ref p) ∧ H p = some (.lst us) ∧ Reps K H₀ es us ∧ ds.length = vs.length ∧ ∀ k d v, k ≠ j → ds[k]? = some d → vs[k]? = some v → Rep K H₀ d v
def OX (K : PySem.W.Frag) (He H₀ : Hp) (σ : L2.St) (H : Hp) (ρ : Ev) : Prop := ∀ (i j : Nat) (ds : List D), ρ[i]? = some (.ox j ds) → ∃ a p, σ[i]? = some (some (.ref a)) ∧ OXr K He H₀ H a j ds p ∧ (∀ (k : Nat) (d : D), ρ[k]? = some (.ow d) → σ[k]? ≠ some (some (.ref p))) ∧ ∀ (k j' : Nat) (ds' : List D), ρ[k]? = some (.ox j' ds') → k = i
theorem OX.upd {K : PySem.W.Frag} {He H₀ H₀' H H' : Hp} {σ σ' : L2.St} {ρ ρ' : Ev} (h : OX K He H₀ σ H ρ)
    (hk : ∀ (j : Nat) (s : Sl), ρ'[j]? = some s → (ρ[j]? = some s ∧ σ'[j]? = σ[j]?) ∨ (∃ d, s = .sh d) ∨ s = .no ∨ ∃ d q, s = .ow d ∧ σ'[j]? = some (some (.ref q)) ∧ ∀ (i j : Nat) (ds : List D) (a p : Addr), ρ[i]? = some (.ox j ds) → σ[i]? = some (some (.ref a)) → OXr K He H₀ H a j ds p → q ≠ p)
    (hz : Same H₀ H₀') (ht : ∀ a vs, He a = none → H a = some (.tup vs) → H' a = some (.tup vs))
    (hl : ∀ p us, He p = none → H₀ p = none → H p = some (.lst us) → (∀ (k : Nat) (d : D), ρ[k]? = some (.ow d) → σ[k]? ≠ some (some (.ref p))) → H' p = some (.lst us) ∧ H₀' p = none) : OX K He H₀' σ' H' ρ' := fun i j ds e => by
  have old : ρ[i]? = some (.ox j ds) ∧ σ'[i]? = σ[i]? := by
    rcases hk i _ e with h1 | ⟨d, h1⟩ | h1 | ⟨d, q, h1, _⟩
    · exact h1
    · cases h1
    · cases h1
    · cases h1
  obtain ⟨a, p, h1, h2, h3, h4⟩ := h i j ds old.1
  have h2' := h2
  obtain ⟨vs, es, us, r1, r2, r3, r4, r5, r6, r7, r8, r9, r10⟩ := h2
  obtain ⟨l1, l2⟩ := hl p us r3 r4 r7 h3
  refine ⟨a, p, old.2.trans h1, ⟨vs, es, us, r1, ht a vs r1 r2, r3, l2, r5, r6, l1, r8.mono hz, r9, fun k d v hk e1 e2 => (r10 k d v hk e1 e2).mono hz⟩, fun k d ek z => ?_, fun k j' ds' ek => ?_⟩
  · rcases hk k _ ek with h1' | ⟨d', h1'⟩ | h1' | ⟨d', q, h1', h2'', h3'⟩
    · exact h3 k d h1'.1 (by rw [← h1'.2]; exact z)
    · cases h1'
    · cases h1'
    · rw [h2''] at z
      cases z
      exact h3' i j ds a p old.1 h1 h2' rfl
  · rcases hk k _ ek with h1' | ⟨d', h1'⟩ | h1' | ⟨d', q, h1', _⟩
    · exact h4 k j' ds' h1'.1
    · cases h1'
    · cases h1'
    · cases h1'
theorem OX.none {K : PySem.W.Frag} {He H₀ H : Hp} {σ : L2.St} {ρ : Ev} (h : ∀ (i j : Nat) (ds : List D), ρ[i]? ≠ some (.ox j ds)) : OX K He H₀ σ H ρ := fun i j ds e => absurd e (h i j ds)
theorem reps_at {K : PySem.W.Frag} {H : Hp} : ∀ {ds : List D} {vs : List V}, ds.length = vs.length → (∀ (k : Nat) (d : D) (v : V), ds[k]? = some d → vs[k]? = some v → Rep K H d v) → Reps K H ds vs
  | [], [], _, _ => Reps.nil
  | d :: ds, v :: vs, hl, h => Reps.cons (h 0 d v rfl rfl) (reps_at (by simpa using hl) fun k d' v' e1 e2 => h (k + 1) d' v' e1 e2)
structure SRx (K : PySem.W.Frag) (He H0e H₀ : Hp) (σ : L2.St) (H : Hp) (ρ : Ev) : Prop where
  g : Grow He H0e H H₀
  rd : Reads K H₀ σ ρ
  ow : ∀ (i : Nat) (d : D), ρ[i]? = some (.ow d) → ∃ a, σ[i]? = some (some (.ref a)) ∧ He a = none ∧ H₀ a = none ∧ OwnR K H₀ H a d
  ap : ∀ (i j : Nat) (d d' : D), i ≠ j → ρ[i]? = some (.ow d) → ρ[j]? = some (.ow d') → σ[i]? ≠ σ[j]?
  ln : ρ.length = σ.length
  ex : OX K He H₀ σ H ρ
inductive Fl where
  | nx (ρ : Ev) | rt (d : D) | bk (ρ : Ev) | ct (ρ : Ev)
def postS (K : PySem.W.Frag) (E : XK) (He H0e H₀ : Hp) (r : Res Fl) (D : Ends) : Prop := match r with
  | .ok (.nx ρ) => ∀ σ H H₀', Same H₀ H₀' → SRx K He H0e H₀' σ H ρ → D.nx σ H
  | .ok (.rt d) => ∀ v H H₀', Grow He H0e H H₀' → Rep K H₀' d v → D.rt v H
  | .ok (.bk ρ) => ∀ σ H H₀', Same H₀ H₀' → SRx K He H0e H₀' σ H ρ → D.bk σ H
  | .ok (.ct ρ) => ∀ σ H H₀', Same H₀ H₀' → SRx K He H0e H₀' σ H ρ → D.ct σ H
  | .exn x => ∀ C ox H H₀', Grow He H0e H H₀' → ExR K H₀' x C ox → E C ox H
  | .stuck => False
theorem postS.grow {K : PySem.W.Frag} {E : XK} {He H0e H₀ H₁ : Hp} {r : Res Fl} {D : Ends} (h : postS K E He H0e H₀ r D) (s : Same H₀ H₁) : postS K E He H0e H₁ r D := by
  cases r with
  | ok f =>
    cases f with
    | nx ρ => exact fun σ H H₀' s' => h σ H H₀' (s.trans s')
    | rt d => exact h
    | bk ρ => exact fun σ H H₀' s' => h σ H H₀' (s.trans s')
    | ct ρ => exact fun σ H H₀' s' => h σ H H₀' (s.trans s')
  | exn x => exact h
  | stuck => exact h
def tS (K : PySem.W.Frag) (E : XK) (He H0e : Hp) (g : Ev → Res Fl) : TS := fun D σ H => ∃ H₀ ρ, SRx K He H0e H₀ σ H ρ ∧ postS K E He H0e H₀ (g ρ) D
structure DS (X : Cx) (E : XK) (He H0e : Hp) (st : Stmt) (g : Ev → Res Fl) : Prop where
  o : PS X st (tS X.K E He H0e g)
structure DSs (X : Cx) (E : XK) (He H0e : Hp) (st : List Stmt) (g : Ev → Res Fl) : Prop where
  o : PSs X st (tS X.K E He H0e g)
def shr (ρ : Ev) : Ev := ρ.map fun s => match s with
  | .ow d => .sh d
  | .ox _ ds => .sh (.tup ds)
  | x => x
def frz (He H₀ H : Hp) : Hp := fun a => match He a with
  | none => H a
  | some _ => H₀ a
section
variable {K : PySem.W.Frag} {E : XK} {He H0e H₀ H H1 : Hp} {σ : L2.St} {ρ : Ev}
theorem SRx.same (h : SRx K He H0e H₀ σ H ρ) (s : Same H H1) : SRx K He H0e H₀ σ H1 ρ :=
  ⟨⟨h.g.s.trans s, h.g.z, h.g.sub.trans s, h.g.nw⟩, h.rd, fun i d e => by
    obtain ⟨a, h1, h2, h3, h4⟩ := h.ow i d e
    refine ⟨a, h1, h2, h3, ?_⟩
    cases d with
    | lst ds => obtain ⟨vs, h5, h6⟩ := h4; exact ⟨vs, s _ _ h5, h6⟩
    | _ => exact h4, h.ap, h.ln, h.ex.upd (fun j s' e => .inl ⟨e, rfl⟩) (Same.refl _) (fun a vs _ e => s _ _ e) fun p us _ h0 hp _ => ⟨s _ _ hp, h0⟩⟩
theorem SRx.grow {H01 : Hp} (h : SRx K He H0e H₀ σ H ρ) (s : Grow H H₀ H1 H01) : SRx K He H0e H01 σ H1 ρ :=
  ⟨h.g.trans s, h.rd.mono s.z, fun i d e => by
    obtain ⟨a, h1, h2, h3, h4⟩ := h.ow i d e
    have ha : H01 a = none := by
      cases q : H01 a with
      | none => rfl
      | some o =>
        have := s.nw a (by rw [q]; simp) h3
        cases d with
        | lst ds => obtain ⟨vs, h5, _⟩ := h4; rw [h5] at this; cases this
        | _ => exact h4.elim
    refine ⟨a, h1, h2, ha, ?_⟩
    cases d with
    | lst ds => obtain ⟨vs, h5, h6⟩ := h4; exact ⟨vs, s.s _ _ h5, h6.mono s.z⟩
    | _ => exact h4, h.ap, h.ln, h.ex.upd (fun j s' e => .inl ⟨e, rfl⟩) s.z (fun a vs _ e => s.s _ _ e) fun p us _ h0 hp _ => ⟨s.s _ _ hp, by
      cases q : H01 p with
      | none => rfl
      | some o => have := s.nw p (by rw [q]; simp) h0; rw [hp] at this; cases this⟩⟩
theorem SRx.frz_sub (h : SRx K He H0e H₀ σ H ρ) : Same H₀ (frz He H₀ H) := fun b o e => by
  unfold frz
  cases q : He b with
  | none => exact h.g.sub _ _ e
  | some _ => exact e
theorem SRx.frz_le (h : SRx K He H0e H₀ σ H ρ) : Same (frz He H₀ H) H := fun b o e => by
  unfold frz at e
  cases q : He b with
  | none => rw [q] at e; exact e
  | some _ => rw [q] at e; exact h.g.sub _ _ e
theorem SRx.frz_grow (h : SRx K He H0e H₀ σ H ρ) : Grow He H0e H (frz He H₀ H) :=
  ⟨h.g.s, h.g.z.trans h.frz_sub, h.frz_le, fun a h1 h2 => by
    cases q : He a with
    | none => rfl
    | some o =>
      unfold frz at h1
      rw [q] at h1
      have := h.g.nw a h1 h2
      rw [q] at this; cases this⟩
theorem SRx.looks (h : SRx K He H0e H₀ σ H ρ) : Reads K (frz He H₀ H) σ (shr ρ) := fun i d e => by
  unfold shr at e
  rw [List.getElem?_map] at e
  cases q : ρ[i]? with
  | none => rw [q] at e; cases e
  | some s =>
    rw [q] at e
    cases s with
    | no => cases e
    | sh d' =>
      cases e
      obtain ⟨v, h1, h2⟩ := h.rd i d q
      exact ⟨v, h1, h2.mono h.frz_sub⟩
    | ow d' =>
      cases e
      obtain ⟨a, h1, h2, h3, h4⟩ := h.ow i d q
      refine ⟨_, h1, ?_⟩
      cases d with
      | lst ds =>
        obtain ⟨vs, h5, h6⟩ := h4
        exact Rep.lst_iff.mpr ⟨a, vs, rfl, SqL.of (by unfold frz; rw [h2]; exact h5), h6.mono h.frz_sub⟩
      | _ => exact h4.elim
    | ox j ds =>
      cases e
      obtain ⟨a, p, h1, ⟨vs, es, us, r1, r2, r3, r4, r5, r6, r7, r8, r9, r10⟩, _⟩ := h.ex i j ds q
      refine ⟨_, h1, Rep.tup_iff.mpr ⟨a, vs, rfl, SqT.of (by unfold frz; rw [r1]; exact r2), reps_at r9 fun k d v e1 e2 => ?_⟩⟩
      by_cases hk : k = j
      · subst hk
        rw [r5] at e1; cases e1
        rw [r6] at e2; cases e2
        exact Rep.lst_iff.mpr ⟨p, us, rfl, SqL.of (by unfold frz; rw [r3]; exact r7), r8.mono h.frz_sub⟩
      · exact (r10 k d v hk e1 e2).mono h.frz_sub
theorem SRx.put (h : SRx K He H0e H₀ σ H ρ) {i : Nat} {d : D} {v : V} (r : Rep K H₀ d v) : SRx K He H0e H₀ (σ.set i (some v)) H (ρ.set i (.sh d)) := by
  have key : ∀ (j : Nat) (s : Sl), (ρ.set i (.sh d))[j]? = some s → (j = i ∧ s = .sh d ∧ i < σ.length) ∨ (j ≠ i ∧ ρ[j]? = some s) := fun j s e => by
    by_cases hj : i = j
    · subst hj
      rw [List.getElem?_set_self'] at e
      cases q : ρ[i]? with
      | none => rw [q] at e; cases e
      | some s' =>
        rw [q] at e
        cases e
        refine .inl ⟨rfl, rfl, ?_⟩
        rw [← h.ln]
        exact (List.getElem?_eq_some_iff.mp q).1
    · rw [List.getElem?_set_ne hj] at e
      exact .inr ⟨fun z => hj z.symm, e⟩
  refine ⟨h.g, fun j d' e => ?_, fun j d' e => ?_, fun j k d1 d2 hn e1 e2 => ?_, by simp [h.ln], h.ex.upd (fun j s e => ?_) (Same.refl _) (fun a vs _ e => e) fun p us _ h0 hp _ => ⟨hp, h0⟩⟩
  rotate_left 3
  · rcases key j _ e with ⟨rfl, e', hl⟩ | ⟨hj, e'⟩
    · exact .inr (.inl ⟨d, e'⟩)
    · exact .inl ⟨e', by rw [List.getElem?_set_ne (Ne.symm hj)]⟩
  · rcases key j _ e with ⟨rfl, e', hl⟩ | ⟨hj, e'⟩
    · cases e'
      exact ⟨v, by rw [List.getElem?_set_self hl], r⟩
    · obtain ⟨v', h1, h2⟩ := h.rd j d' e'
      exact ⟨v', by rw [List.getElem?_set_ne (Ne.symm hj)]; exact h1, h2⟩
  · rcases key j _ e with ⟨rfl, e', hl⟩ | ⟨hj, e'⟩
    · cases e'
    · obtain ⟨a, h1, h2⟩ := h.ow j d' e'
      exact ⟨a, by rw [List.getElem?_set_ne (Ne.symm hj)]; exact h1, h2⟩
  · rcases key j _ e1 with ⟨_, e', _⟩ | ⟨hj, e1'⟩
    · cases e'
    rcases key k _ e2 with ⟨_, e', _⟩ | ⟨hk, e2'⟩
    · cases e'
    rw [List.getElem?_set_ne (Ne.symm hj), List.getElem?_set_ne (Ne.symm hk)]
    exact h.ap j k d1 d2 hn e1' e2'
theorem SRx.putOwn (h : SRx K He H0e H₀ σ H ρ) {i : Nat} {ds : List D} {vs : List V} {p : Addr} (hp : ∀ (j : Nat) (a : Addr), σ[j]? = some (some (V.ref a)) → a = p → ∀ d : D, ρ[j]? ≠ some (Sl.ow d)) (he : He p = none) (h0 : H₀ p = none) (hv : H p = some (.lst vs)) (r : Reps K H₀ ds vs) (hx : ∀ (i j : Nat) (ds : List D) (a q : Addr), ρ[i]? = some (.ox j ds) → σ[i]? = some (some (.ref a)) → OXr K He H₀ H a j ds q → p ≠ q) :
    SRx K He H0e H₀ (σ.set i (some (.ref p))) H (ρ.set i (.ow (.lst ds))) := by
  have key : ∀ (j : Nat) (s : Sl), (ρ.set i (.ow (.lst ds)))[j]? = some s → (j = i ∧ s = .ow (.lst ds) ∧ i < σ.length) ∨ (j ≠ i ∧ ρ[j]? = some s) := fun j s e => by
    by_cases hj : i = j
    · subst hj
      rw [List.getElem?_set_self'] at e
      cases q : ρ[i]? with
      | none => rw [q] at e; cases e
      | some s' =>
        rw [q] at e
        cases e
        refine .inl ⟨rfl, rfl, ?_⟩
        rw [← h.ln]
        exact (List.getElem?_eq_some_iff.mp q).1
    · rw [List.getElem?_set_ne hj] at e
      exact .inr ⟨fun z => hj z.symm, e⟩
  have other : ∀ (k : Nat) (d2 : D), k ≠ i → ρ[k]? = some (.ow d2) → some (some (V.ref p)) ≠ σ[k]? := fun k d2 hk e2 z => by
    obtain ⟨a, h1, _⟩ := h.ow k d2 e2
    rw [h1] at z
    cases z
    exact hp k p h1 rfl d2 e2
  refine ⟨h.g, fun j d' e => ?_, fun j d' e => ?_, fun j k d1 d2 hn e1 e2 => ?_, by simp [h.ln], h.ex.upd (fun j s e => ?_) (Same.refl _) (fun a vs _ e => e) fun p us _ h0 hp _ => ⟨hp, h0⟩⟩
  rotate_left 3
  · rcases key j _ e with ⟨rfl, e', hl⟩ | ⟨hj, e'⟩
    · exact .inr (.inr (.inr ⟨.lst ds, p, e', by rw [List.getElem?_set_self hl], hx⟩))
    · exact .inl ⟨e', by rw [List.getElem?_set_ne (Ne.symm hj)]⟩
  · rcases key j _ e with ⟨rfl, e', hl⟩ | ⟨hj, e'⟩
    · cases e'
    · obtain ⟨v', h1, h2⟩ := h.rd j d' e'
      exact ⟨v', by rw [List.getElem?_set_ne (Ne.symm hj)]; exact h1, h2⟩
  · rcases key j _ e with ⟨rfl, e', hl⟩ | ⟨hj, e'⟩
    · cases e'
      exact ⟨p, by rw [List.getElem?_set_self hl], he, h0, vs, hv, r⟩
    · obtain ⟨a, h1, h2⟩ := h.ow j d' e'
      exact ⟨a, by rw [List.getElem?_set_ne (Ne.symm hj)]; exact h1, h2⟩
  · rcases key j _ e1 with ⟨rfl, _, hl⟩ | ⟨hj, e1'⟩
    · rcases key k _ e2 with ⟨rfl, _, _⟩ | ⟨hk, e2'⟩
      · exact absurd rfl hn
      · rw [List.getElem?_set_self hl, List.getElem?_set_ne (Ne.symm hk)]
        exact other k d2 hk e2'
    · rcases key k _ e2 with ⟨rfl, _, hl⟩ | ⟨hk, e2'⟩
      · rw [List.getElem?_set_self hl, List.getElem?_set_ne (Ne.symm hj)]
        exact fun z => other j d1 hj e1' z.symm
      · rw [List.getElem?_set_ne (Ne.symm hj), List.getElem?_set_ne (Ne.symm hk)]
        exact h.ap j k d1 d2 hn e1' e2'
theorem SRx.fresh_x {H01 : Hp} {p : Addr} (h : SRx K He H0e H₀ σ H ρ) (s : Same H H1) (hp : H p = none) : ∀ (i j : Nat) (ds : List D) (a q : Addr), ρ[i]? = some (.ox j ds) → σ[i]? = some (some (.ref a)) → OXr K He H01 H1 a j ds q → p ≠ q := fun i j ds a q x1 x2 x3 => by
  obtain ⟨a2, p2, y1, ⟨vs2, _, us2, _, z3, _, _, _, z4, z5, _⟩, _⟩ := h.ex i j ds x1
  rw [x2] at y1; cases y1
  obtain ⟨vs1, _, _, _, z1, _, _, _, z2, _⟩ := x3
  have := s _ _ z3
  rw [z1] at this; cases this
  rw [z2] at z4; cases z4
  intro z; subst z
  rw [hp] at z5; cases z5
theorem SRx.write (h : SRx K He H0e H₀ σ H ρ) {i : Nat} {d : D} {p : Addr} {ds : List D} {vs : List V} (e : ρ[i]? = some (.ow d)) (es : σ[i]? = some (some (.ref p))) (r : Reps K H₀ ds vs) :
    SRx K He H0e H₀ σ (upd H p (.lst vs)) (ρ.set i (.ow (.lst ds))) := by
  obtain ⟨a, h1, h2, h3, h4⟩ := h.ow i d e
  rw [h1] at es; cases es
  have hil : i < ρ.length := (List.getElem?_eq_some_iff.mp e).1
  have key : ∀ (j : Nat) (s : Sl), (ρ.set i (.ow (.lst ds)))[j]? = some s → (j = i ∧ s = .ow (.lst ds)) ∨ (j ≠ i ∧ ρ[j]? = some s) := fun j s e => by
    by_cases hj : i = j
    · subst hj
      rw [List.getElem?_set_self hil] at e
      cases e
      exact .inl ⟨rfl, rfl⟩
    · rw [List.getElem?_set_ne hj] at e
      exact .inr ⟨fun z => hj z.symm, e⟩
  refine ⟨⟨fun b o eb => ?_, h.g.z, fun b o eb => ?_, h.g.nw⟩, fun j d' e' => ?_, fun j d' e' => ?_, fun j k d1 d2 hn e1 e2 => ?_, by simp [h.ln], h.ex.upd (fun j s e' => ?_) (Same.refl _) (fun b us _ eb => ?_) fun q us _ q0 hq hd => ?_⟩
  rotate_left 5
  · rcases key j _ e' with ⟨rfl, e''⟩ | ⟨hj, e''⟩
    · exact .inr (.inr (.inr ⟨.lst ds, p, e'', h1, fun i' j' ds' a' p' x1 x2 x3 => by
        obtain ⟨a2, p2, y1, y2, y3, _⟩ := h.ex i' j' ds' x1
        rw [x2] at y1; cases y1
        have : p2 = p' := by
          obtain ⟨vs1, _, _, _, z1, _, _, _, z2, _⟩ := x3
          obtain ⟨vs2, _, _, _, z3, _, _, _, z4, _⟩ := y2
          rw [z1] at z3; cases z3
          rw [z2] at z4; cases z4; rfl
        subst this
        intro zz; subst zz
        exact y3 j d e h1⟩))
    · exact .inl ⟨e'', rfl⟩
  · rw [upd_ne (by
      intro z; subst z
      cases d with
      | lst ds' => obtain ⟨vs', h5, _⟩ := h4; rw [h5] at eb; cases eb
      | _ => exact h4)]; exact eb
  · have hq' : q ≠ p := by
      intro z; subst z
      exact hd i d e h1
    exact ⟨by rw [upd_ne hq']; exact hq, q0⟩
  · rw [upd_ne (by intro z; subst z; rw [h2] at eb; cases eb)]; exact h.g.s _ _ eb
  · rw [upd_ne (by intro z; subst z; rw [h3] at eb; cases eb)]; exact h.g.sub _ _ eb
  · rcases key j _ e' with ⟨rfl, e''⟩ | ⟨hj, e''⟩
    · cases e''
    · exact h.rd j d' e''
  · rcases key j _ e' with ⟨rfl, e''⟩ | ⟨hj, e''⟩
    · cases e''
      exact ⟨p, h1, h2, h3, vs, upd_same, r⟩
    · obtain ⟨b, k1, k2, k3, k4⟩ := h.ow j d' e''
      refine ⟨b, k1, k2, k3, ?_⟩
      have hb : b ≠ p := by
        intro z; subst z
        exact h.ap j i d' d hj e'' e (by rw [k1, h1])
      cases d' with
      | lst ds' =>
        obtain ⟨vs', h5, h6⟩ := k4
        exact ⟨vs', by rw [upd_ne hb]; exact h5, h6⟩
      | _ => exact k4.elim
  · rcases key j _ e1 with ⟨rfl, e1'⟩ | ⟨hj, e1'⟩
    · rcases key k _ e2 with ⟨rfl, _⟩ | ⟨hk, e2'⟩
      · exact absurd rfl hn
      · exact h.ap j k d d2 hn e e2'
    · rcases key k _ e2 with ⟨rfl, _⟩ | ⟨hk, e2'⟩
      · exact h.ap j k d1 d hn e1' e
      · exact h.ap j k d1 d2 hn e1' e2'
end
mutual
def flat : D → Bool
  | .lst _ => false
  | .dic _ _ => false
  | .exc _ => false
  | .ob _ _ => false
  | .tup ds => flats ds
  | _ => true
def flats : List D → Bool
  | [] => true
  | d :: ds => flat d && flats ds
end
mutual
theorem Rep.flat_to {K : PySem.W.Frag} {H H' : Hp} (e : ∀ a vs, Rd H a (.tup vs) → Rd H' a (.tup vs)) : ∀ {d : D} {v : V}, flat d = true → Rep K H d v → Rep K H' d v
  | .non, _, _, h => by unfold Rep at h ⊢; exact h
  | .bl _, _, _, h => by unfold Rep at h ⊢; exact h
  | .int _, _, _, h => by unfold Rep at h ⊢; exact h
  | .str _, _, _, h => by unfold Rep at h ⊢; exact h
  | .tup ds, _, f, h => by
    unfold flat at f
    obtain ⟨a, vs, e1, e2, e3⟩ := Rep.tup_iff.mp h
    refine Rep.tup_iff.mpr ⟨a, vs, e1, ?_, Reps.flat_to e f e3⟩
    rcases e2 with e2 | e2
    · exact .inl (e _ _ e2)
    · exact .inr e2
  | .lst ds, _, f, h => by unfold flat at f; cases f
  | .dic ks ds, _, f, h => by unfold flat at f; cases f
  | .exc x, _, f, h => by unfold flat at f; cases f
  | .ob k ds, _, f, h => by unfold flat at f; cases f
theorem Reps.flat_to {K : PySem.W.Frag} {H H' : Hp} (e : ∀ a vs, Rd H a (.tup vs) → Rd H' a (.tup vs)) : ∀ {ds : List D} {vs : List V}, flats ds = true → Reps K H ds vs → Reps K H' ds vs
  | [], _, _, h => by unfold Reps at h ⊢; exact h
  | d :: ds, _, f, h => by
    unfold flats at f
    rw [Bool.and_eq_true] at f
    obtain ⟨v, r, e1, e2, e3⟩ := Reps.cons_iff.mp h
    exact Reps.cons_iff.mpr ⟨v, r, e1, Rep.flat_to e f.1 e2, Reps.flat_to e f.2 e3⟩
end
def addT (H₀ J : Hp) : Hp := fun a => match H₀ a with
  | some o => some o
  | none => match J a with
    | some (.tup vs) => some (.tup vs)
    | some (.frz o (.tup vs)) => some (.frz o (.tup vs))
    | _ => none
section
variable {K : PySem.W.Frag} {E : XK} {He H0e H₀ H H1 J : Hp} {σ : L2.St} {ρ : Ev}
theorem addT_le (h : Same H₀ J) : ∀ a o, addT H₀ J a = some o → J a = some o := fun a o e => by
  unfold addT at e
  cases q : H₀ a with
  | some u => rw [q] at e; cases e; exact h _ _ q
  | none =>
    rw [q] at e
    cases q2 : J a with
    | none => rw [q2] at e; cases e
    | some u =>
      rw [q2] at e
      cases u with
      | tup vs => cases e; rfl
      | frz o u' =>
        cases u' with
        | tup vs => cases e; rfl
        | _ => cases e
      | _ => cases e
theorem addT_rd (h : Same H₀ J) (a : Addr) (vs : List V) (e : Rd J a (.tup vs)) : Rd (addT H₀ J) a (.tup vs) := by
  rcases e with e | ⟨o, e⟩
  · refine .inl ?_
    unfold addT
    cases q : H₀ a with
    | some u => have := h _ _ q; rw [e] at this; cases this; rfl
    | none => rw [e]
  · refine .inr ⟨o, ?_⟩
    unfold addT
    cases q : H₀ a with
    | some u => have := h _ _ q; rw [e] at this; cases this; rfl
    | none => rw [e]
theorem SRx.behind (h : SRx K He H0e H₀ σ H ρ) (g : Grow H (frz He H₀ H) H1 J) : SRx K He H0e (addT H₀ J) σ H1 ρ := by
  have hJ : Same H₀ J := h.frz_sub.trans g.z
  have le := addT_le (H₀ := H₀) (J := J) hJ
  have z : Same H₀ (addT H₀ J) := fun b o e => by unfold addT; rw [e]
  refine ⟨⟨h.g.s.trans g.s, h.g.z.trans z, fun b o e => g.sub _ _ (le b o e), fun a h1 h2 => ?_⟩, h.rd.mono z, fun i d e => ?_, h.ap, h.ln, h.ex.upd (fun j s e => .inl ⟨e, rfl⟩) z (fun a vs _ e => g.s _ _ e) fun p us hp h0 hl _ => ⟨g.s _ _ hl, by
    have : frz He H₀ H p = some (.lst us) := by unfold frz; rw [hp]; exact hl
    have := g.z _ _ this
    unfold addT
    rw [h0, this]⟩⟩
  · cases q : addT H₀ J a with
    | none => exact absurd q h1
    | some o =>
      have hj := le a o q
      exact (h.frz_grow.trans g).nw a (by rw [hj]; simp) h2
  · obtain ⟨a, k1, k2, k3, k4⟩ := h.ow i d e
    refine ⟨a, k1, k2, ?_, ?_⟩
    · cases d with
      | lst ds =>
        obtain ⟨vs, h5, _⟩ := k4
        have : frz He H₀ H a = some (.lst vs) := by unfold frz; rw [k2]; exact h5
        have := g.z _ _ this
        unfold addT
        rw [k3, this]
      | _ => exact k4.elim
    · cases d with
      | lst ds => obtain ⟨vs, h5, h6⟩ := k4; exact ⟨vs, g.s _ _ h5, h6.mono z⟩
      | _ => exact k4.elim
end
end DL
set_option Elab.async false
set_option linter.all false
set_option maxRecDepth 100000
namespace DL
open PySem PySem.Spec PyProof.Rows L2
section
variable {X : Cx} {E : XK} {He H0e : Hp} {st : Stmt} {rest : List Stmt} {e a b : Expr} {es : List Expr} {f g : Ev → Res D} {fa : Ev → Res (List D)} {s t : Ev → Res Fl} {pos : Pos}
theorem ps_weak {t t' : TS} (h : PS X st t) (w : ∀ D σ H, t' D σ H → t D σ H) : PS X st t' := fun pins s σ H D I q => h pins s σ H D I (w D σ H q)
theorem pss_weak {t t' : TS} (h : PSs X rest t) (w : ∀ D σ H, t' D σ H → t D σ H) : PSs X rest t' := fun pins s σ H D I q => h pins s σ H D I (w D σ H q)
def sNext : Ev → Res Fl := fun ρ => .ok (.nx ρ)
def sSeq (s t : Ev → Res Fl) : Ev → Res Fl := fun ρ => (s ρ).bind fun r => match r with
  | .nx ρ' => t ρ'
  | r => .ok r
theorem dss_nil : DSs X E He H0e [] sNext := ⟨pss_weak pss_nil fun D σ H ⟨H₀, ρ, h, q⟩ => q σ H H₀ (Same.refl _) h⟩
theorem dss_cons (h1 : DS X E He H0e st s) (h2 : DSs X E He H0e rest t) : DSs X E He H0e (st :: rest) (sSeq s t) := by
  refine ⟨?_⟩
  refine pss_weak (pss_cons h1.o h2.o) fun D σ H ⟨H₀, ρ, h, q⟩ => ⟨H₀, ρ, h, ?_⟩
  unfold sSeq at q
  cases e1 : s ρ with
  | stuck => rw [e1] at q; exact q
  | exn x => rw [e1] at q; exact q
  | ok r =>
    rw [e1] at q
    cases r with
    | nx ρ' => exact fun σ' H' H₀' s' h' => ⟨H₀', ρ', h', postS.grow (r := t ρ') q s'⟩
    | rt d => exact q
    | bk ρ' => exact q
    | ct ρ' => exact q
def sStuck : Ev → Res Fl := fun _ => .stuck
theorem ds_never : DS X E He H0e st sStuck := ⟨ps_weak ps_never fun D σ H ⟨H₀, ρ, h, q⟩ => q⟩
theorem plain {K : PySem.W.Frag} {H₀ H : Hp} {σ : L2.St} {ρ : Ev} {k : D → Res Fl} {D' : Ends} (h : SRx K He H0e H₀ σ H ρ) {r : Res D} {Q : VK}
    (q : postS K E He H0e H₀ (r.bind k) D') (hk : ∀ d v H' H₀', r = .ok d → Grow H H₀ H' H₀' → Rep K H₀' d v → postS K E He H0e H₀' (k d) D' → Q v H') : post K E H H₀ r Q := by
  cases r with
  | stuck => exact q
  | exn x => exact fun C ox H' H₀' g ex => q C ox H' H₀' (h.g.trans g) ex
  | ok d => exact fun v H' H₀' g rp => hk d v H' H₀' rfl g rp (postS.grow (r := k d) q g.z)
theorem look {K : PySem.W.Frag} {H₀ H : Hp} {σ : L2.St} {ρ : Ev} {k : D → Res Fl} {D' : Ends} (h : SRx K He H0e H₀ σ H ρ) {r : Res D} {Q : VK}
    (q : postS K E He H0e H₀ (r.bind k) D') (hk : ∀ d v H' J, r = .ok d → Grow H (frz He H₀ H) H' J → Rep K J d v → postS K E He H0e H₀ (k d) D' → Q v H') : post K E H (frz He H₀ H) r Q := by
  cases r with
  | stuck => exact q
  | exn x => exact fun C ox H' H₀' g ex => q C ox H' H₀' (h.frz_grow.trans g) ex
  | ok d => exact fun v H' J g rp => hk d v H' J rfl g rp q
theorem lookT {K : PySem.W.Frag} {H₀ H : Hp} {σ : L2.St} {ρ : Ev} {k : Bool → Res Fl} {D' : Ends} (h : SRx K He H0e H₀ σ H ρ) {r : Res D} {Q : Bool → Hp → Prop}
    (q : postS K E He H0e H₀ (r.bind fun x => match x with | .bl b => k b | _ => .stuck) D') (hk : ∀ b H', Same H H' → postS K E He H0e H₀ (k b) D' → Q b H') : postT K E H (frz He H₀ H) r Q := by
  cases r with
  | stuck => exact q
  | exn x => exact fun C ox H' H₀' g ex => q C ox H' H₀' (h.frz_grow.trans g) ex
  | ok d =>
    cases d with
    | bl b => exact fun H' J g => hk b H' g.s q
    | _ => exact q.elim
def sSet (i : Nat) (f : Ev → Res D) : Ev → Res Fl := fun ρ => (f ρ).bind fun d => .ok (.nx (ρ.set i (.sh d)))
def sSetL (i : Nat) (f : Ev → Res D) : Ev → Res Fl := fun ρ => (f (shr ρ)).bind fun d => if flat d = true then .ok (.nx (ρ.set i (.sh d))) else .stuck
def sRet (f : Ev → Res D) : Ev → Res Fl := fun ρ => (f (shr ρ)).bind fun d => .ok (.rt d)
def sDrop (f : Ev → Res D) : Ev → Res Fl := fun ρ => (f (shr ρ)).bind fun _ => .ok (.nx ρ)
def sIf (c : Ev → Res D) (s t : Ev → Res Fl) : Ev → Res Fl := fun ρ => (c (shr ρ)).bind fun x => match x with
  | .bl b => if b = true then s ρ else t ρ
  | _ => .stuck
theorem ds_set {i : Nat} {x : Str} {pos' : Pos} (hN : X.N.Nodup) (hi : X.N[i]? = some x) (hx : Loc X.env.scope x) (he : DE X E e f) (hs : swapsWith e (some (.Name x pos')) pos.line X.env = pure false := by rfl)
    (hf : X.fn x = true ∨ X.env.scope.names.lookup x = some .local := by first | exact .inl rfl | exact .inr rfl | assumption) : DS X E He H0e (.Assign [.Name x pos'] e pos) (sSet i f) := by
  refine ⟨?_⟩
  refine ps_weak (ps_set hN hi hx he.o hs hf) fun D σ H ⟨H₀, ρ, h, q⟩ => ⟨H₀, ρ, h.g.sub, h.rd, ?_⟩
  refine plain h q fun d v H' H₀' _ g rp q' => ?_
  exact q' _ H' H₀' (Same.refl _) ((h.grow g).put rp)
theorem ds_setL {i : Nat} {x : Str} {pos' : Pos} (hN : X.N.Nodup) (hi : X.N[i]? = some x) (hx : Loc X.env.scope x) (he : DE X E e f) (hs : swapsWith e (some (.Name x pos')) pos.line X.env = pure false := by rfl)
    (hf : X.fn x = true ∨ X.env.scope.names.lookup x = some .local := by first | exact .inl rfl | exact .inr rfl | assumption) : DS X E He H0e (.Assign [.Name x pos'] e pos) (sSetL i f) := by
  refine ⟨?_⟩
  refine ps_weak (ps_set hN hi hx he.o hs hf) fun D σ H ⟨H₀, ρ, h, q⟩ => ⟨frz He H₀ H, shr ρ, h.frz_le, h.looks, ?_⟩
  refine look h q fun d v H' J _ g rp q' => ?_
  by_cases fl : flat d = true
  · rw [if_pos fl] at q'
    have hJ : Same H₀ J := h.frz_sub.trans g.z
    refine q' _ H' (addT H₀ J) (fun b o e => by unfold addT; rw [e]) ((h.behind g).put (rp.flat_to (addT_rd hJ) fl))
  · rw [if_neg fl] at q'; exact q'.elim
theorem ds_ret (he : DE X E e f) : DS X E He H0e (.Return (some e) pos) (sRet f) := by
  refine ⟨?_⟩
  refine ps_weak (ps_ret he.o) fun D σ H ⟨H₀, ρ, h, q⟩ => ⟨frz He H₀ H, shr ρ, h.frz_le, h.looks, ?_⟩
  exact look h q fun d v H' J _ g rp q' => q' v H' J (h.frz_grow.trans g) rp
def sRetN : Ev → Res Fl := fun _ => .ok (.rt .non)
theorem ds_drop (he : DE X E e f) (hs : swapsWith e none pos.line X.env = pure false := by rfl) : DS X E He H0e (.Expr e pos) (sDrop f) := by
  refine ⟨?_⟩
  refine ps_weak (ps_expr he.o hs) fun D σ H ⟨H₀, ρ, h, q⟩ => ⟨frz He H₀ H, shr ρ, h.frz_le, h.looks, ?_⟩
  exact look h q fun d v H' J _ g rp q' => q' σ H' H₀ (Same.refl _) (h.same g.s)
theorem ds_if {c : Expr} {fc : Ev → Res D} {sa sb : List Stmt} (hc : DT X E c fc) (ha : DSs X E He H0e sa s) (hb : DSs X E He H0e sb t) : DS X E He H0e (.If c sa sb pos) (sIf fc s t) := by
  refine ⟨?_⟩
  refine ps_weak (ps_if hc.o ha.o hb.o) fun D σ H ⟨H₀, ρ, h, q⟩ => ⟨frz He H₀ H, shr ρ, h.frz_le, h.looks, ?_⟩
  refine lookT (k := fun b => if b = true then s ρ else t ρ) h q fun b H' hs q' => ?_
  cases b with
  | true => rw [if_pos rfl] at q' ⊢; exact ⟨H₀, ρ, h.same hs, q'⟩
  | false => rw [if_neg Bool.false_ne_true] at q' ⊢; exact ⟨H₀, ρ, h.same hs, q'⟩
def tF (K : PySem.W.Frag) (E : XK) (f : Ev → Res D) : TE := fun σ H Q => ∃ H₀ ρ, Same H₀ H ∧ Reads K H₀ σ ρ ∧ match f ρ with
  | .ok (.lst ds) => ∀ p vs H' H₀', Grow H H₀ H' H₀' → H p = none → H₀' p = none → H' p = some (.lst vs) → Reps K H₀' ds vs → Q (.ref p) H'
  | .ok _ => False
  | .exn x => ∀ C ox H' H₀', Grow H H₀ H' H₀' → ExR K H₀' x C ox → E C ox H'
  | .stuck => False
structure DF (X : Cx) (E : XK) (e : Expr) (f : Ev → Res D) : Prop where
  o : PE X e (tF X.K E f)
def sOwn (i : Nat) (f : Ev → Res D) : Ev → Res Fl := fun ρ => (f ρ).bind fun d => match d with
  | .lst ds => .ok (.nx (ρ.set i (.ow (.lst ds))))
  | _ => .stuck
theorem ds_own {i : Nat} {x : Str} {pos' : Pos} (hN : X.N.Nodup) (hi : X.N[i]? = some x) (hx : Loc X.env.scope x) (he : DF X E e f) (hs : swapsWith e (some (.Name x pos')) pos.line X.env = pure false := by rfl)
    (hf : X.fn x = true ∨ X.env.scope.names.lookup x = some .local := by first | exact .inl rfl | exact .inr rfl | assumption) : DS X E He H0e (.Assign [.Name x pos'] e pos) (sOwn i f) := by
  refine ⟨?_⟩
  refine ps_weak (ps_set hN hi hx he.o hs hf) fun D σ H ⟨H₀, ρ, h, q⟩ => ⟨H₀, ρ, h.g.sub, h.rd, ?_⟩
  unfold sOwn at q
  cases e1 : f ρ with
  | stuck => rw [e1] at q; exact q
  | exn x => rw [e1] at q; exact fun C ox H' H₀' g ex => q C ox H' H₀' (h.g.trans g) ex
  | ok d =>
    rw [e1] at q
    cases d with
    | lst ds =>
      intro p vs H' H₀' g hp h0 hv rp
      refine q _ H' H₀' g.z ((h.grow g).putOwn (fun j a ej ea d ed => ?_) (h.g.s.free hp) h0 hv rp (h.fresh_x g.s hp))
      subst ea
      obtain ⟨a', k1, _, _, k4⟩ := h.ow j d ed
      rw [ej] at k1; cases k1
      cases d with
      | lst ds' => obtain ⟨vs', h5, _⟩ := k4; rw [hp] at h5; cases h5
      | _ => exact k4.elim
    | _ => exact q.elim
theorem df_lst (h : DA X E es fa) : DF X E (.List es pos) (bindA fa mLst) := by
  refine ⟨?_⟩
  refine pe_weak (pe_lst h.o) fun σ H Q h => ?_
  obtain ⟨H₀, ρ, hs, hr, q⟩ := h
  refine ⟨H₀, ρ, hs, hr, ?_⟩
  unfold bindA at q
  cases e1 : fa ρ with
  | stuck => rw [e1] at q; exact q
  | exn x => rw [e1] at q; exact q
  | ok ds =>
    rw [e1] at q
    intro vs H1 H01 g1 r1
    replace q : match mLst ds with
      | .ok (.lst ds) => ∀ p vs H' H₀', Grow H H₀ H' H₀' → H p = none → H₀' p = none → H' p = some (.lst vs) → Reps X.K H₀' ds vs → Q (.ref p) H'
      | .ok _ => False
      | .exn x => ∀ C ox H' H₀', Grow H H₀ H' H₀' → ExR X.K H₀' x C ox → E C ox H'
      | .stuck => False := q
    unfold mLst at q
    by_cases hl : ds.length ≤ line
    · rw [if_pos hl] at q
      refine ⟨by rw [← r1.length]; exact line_le hl, fun p hp => ?_⟩
      have h0 : H01 p = none := g1.sub.free hp
      refine q p vs _ H01 (g1.trans ⟨fun b o q => by rw [upd_ne (ne_of_none q hp)]; exact q, Same.refl _, fun b o q => ?_, fun a h1 h2 => absurd h2 h1⟩) (g1.s.free hp) h0 upd_same r1
      rw [upd_ne (by intro z; subst z; rw [h0] at q; cases q)]; exact g1.sub _ _ q
    · rw [if_neg hl] at q; exact q.elim
def ownAt (ρ : Ev) (i : Nat) (k : List D → Res Fl) : Res Fl := match ρ[i]? with
  | some (.ow (.lst ds)) => k ds
  | _ => .stuck
def sAppend (i : Nat) (f : Ev → Res D) : Ev → Res Fl := fun ρ => ownAt ρ i fun ds => (f ρ).bind fun d => if ds.length < line then .ok (.nx (ρ.set i (.ow (.lst (ds ++ [d]))))) else .stuck
def sAppendL (i : Nat) (f : Ev → Res D) : Ev → Res Fl := fun ρ => ownAt ρ i fun ds => (f (shr ρ)).bind fun d => if flat d = true ∧ ds.length < line then .ok (.nx (ρ.set i (.ow (.lst (ds ++ [d]))))) else .stuck
theorem ownAt_of {K : PySem.W.Frag} {H₀ H : Hp} {σ : L2.St} {ρ : Ev} {i : Nat} {k : List D → Res Fl} {D' : Ends} (h : SRx K He H0e H₀ σ H ρ) (q : postS K E He H0e H₀ (ownAt ρ i k) D') :
    ∃ ds p vs, ρ[i]? = some (.ow (.lst ds)) ∧ σ[i]? = some (some (.ref p)) ∧ He p = none ∧ H₀ p = none ∧ H p = some (.lst vs) ∧ Reps K H₀ ds vs ∧ postS K E He H0e H₀ (k ds) D' := by
  unfold ownAt at q
  cases e : ρ[i]? with
  | none => rw [e] at q; exact q.elim
  | some s =>
    rw [e] at q
    cases s with
    | no => exact q.elim
    | sh d => exact q.elim
    | ox j ds => exact q.elim
    | ow d =>
      cases d with
      | lst ds =>
        obtain ⟨p, h1, h2, h3, vs, h4, h5⟩ := h.ow i _ e
        exact ⟨ds, p, vs, rfl, h1, h2, h3, h4, h5, q⟩
      | _ => exact q.elim
theorem ds_append {i : Nat} {x : Str} {p1 p2 p3 : Pos} (hN : X.N[i]? = some x) (hv : Vis X.env.scope x) (he : DE X E e f)
    (hd : (x == ("__debug__" : Str)) = false := by decide) (hcd : (x == ("__classdict__" : Str)) = false := by decide)
    (hbase : attributeBase (.Name x p1) "append" X.env (eval (.Name x p1) X.env) = eval (.Name x p1) X.env := by rfl)
    (hfew : ((backTo p3 (starEach [e] X.env)).all (fun x => !x.1) && (backToKw p3 (keywordEach [] X.env)).all (fun x => x.1.isSome)
      && decide ([e].length + ([] : List Keyword).length + (if ([] : List Keyword).isEmpty then 0 else 1) < 30)) = true := by exact few_star rfl)
    (hline : (p2.endLine == p3.line) = true := by rfl) (hs : starEach [e] X.env = (false, eval e X.env) :: starEach [] X.env := by exact star_cons rfl) (hplain : (backTo p3 (starEach [] X.env)).any (·.1) = false := by exact any_star rfl)
    (hw : swapsWith (.Call (.Attribute (.Name x p1) "append" p2) [e] [] p3) none pos.line X.env = pure false := by rfl) :
    DS X E He H0e (.Expr (.Call (.Attribute (.Name x p1) "append" p2) [e] [] p3) pos) (sAppend i f) := by
  refine ⟨?_⟩
  refine ps_weak (ps_expr (pe_bm PySem.F.plainAttrs_list PySem.F.slot_list_append PySem.F.type_list_append mt_append (pe_var hN hv hd hcd) (pa_cons he.o pa_nil hs) hbase hfew hline hs hplain) hw) fun D σ H ⟨H₀, ρ, h, q⟩ => ?_
  obtain ⟨ds, p, vs, e1, e2, e3, e4, e5, e6, q⟩ := ownAt_of h q
  refine ⟨.ref p, e2, .inl ⟨rfl, vs, SqL.of e5⟩, ?_⟩
  refine ⟨H₀, ρ, h.g.sub, h.rd, plain h q fun d v H' H₀' _ g rp q' => ?_⟩
  by_cases hl : ds.length < line
  · rw [if_pos hl] at q'
    have e5' : H' p = some (.lst vs) := g.s _ _ e5
    refine ⟨p, vs, v, rfl, rfl, e5', by rw [← e6.length]; exact Nat.lt_of_lt_of_le hl (by decide), ?_⟩
    exact q' σ _ H₀' (Same.refl _) ((h.grow g).write e1 e2 ((e6.mono g.z).app (Reps.cons rp Reps.nil)))
  · rw [if_neg hl] at q'; exact q'.elim
def putAt (ρ : Ev) (i : Nat) (ds : List D) (d : D) (j : D) : Res Fl := match j with
  | .int j => match ixN ds.length j with
    | some n => .ok (.nx (ρ.set i (.ow (.lst (ds.set n d)))))
    | none => .stuck
  | _ => .stuck
def sPut (i : Nat) (f k : Ev → Res D) : Ev → Res Fl := fun ρ => ownAt ρ i fun ds => (f ρ).bind fun d => (k ρ).bind fun j => putAt ρ i ds d j
def sPutL (i : Nat) (f k : Ev → Res D) : Ev → Res Fl := fun ρ => ownAt ρ i fun ds => (f (shr ρ)).bind fun d => (k (shr ρ)).bind fun j => if flat d = true then putAt ρ i ds d j else .stuck
section
variable {i : Nat} {x : Str} {p1 p2 : Pos} {k : Ev → Res D}
end
def forD (tg : Ev → D → Res Ev) (body : Ev → Res Fl) : List D → Ev → Res Fl
  | [], ρ => .ok (.nx ρ)
  | d :: r, ρ => (tg ρ d).bind fun ρ1 => (body ρ1).bind fun x => match x with
    | .nx ρ2 => forD tg body r ρ2
    | .ct ρ2 => forD tg body r ρ2
    | .bk ρ2 => .ok (.nx ρ2)
    | .rt d => .ok (.rt d)
def tG (K : PySem.W.Frag) (He H0e : Hp) (tg : Ev → D → Res Ev) : TG := fun v σ H Q => ∃ H₀ ρ d, SRx K He H0e H₀ σ H ρ ∧ Rep K H₀ d v ∧ match tg ρ d with
    | .ok ρ' => ∀ σ' H' H₀', Same H₀ H₀' → SRx K He H0e H₀' σ' H' ρ' → Q σ' H'
    | _ => False
structure DG (X : Cx) (E : XK) (He H0e : Hp) (target : Expr) (tg : Ev → D → Res Ev) : Prop where
  o : PG X target (tG X.K He H0e tg)
def gSet (i : Nat) : Ev → D → Res Ev := fun ρ d => .ok (ρ.set i (.sh d))
theorem pg_weak {tgt : Expr} {t t' : TG} (h : PG X tgt t) (w : ∀ v σ H Q, t' v σ H Q → t v σ H Q) : PG X tgt t' := fun pins s σ H v u Q I r q => h pins s σ H v u Q I r (w v σ H Q q)
theorem dg_name {i : Nat} {x : Str} (hN : X.N.Nodup) (hi : X.N[i]? = some x) (hx : Loc X.env.scope x) (hf : X.fn x = true ∨ X.env.scope.names.lookup x = some .local := by first | exact .inl rfl | exact .inr rfl | assumption) : DG X E He H0e (.Name x pos) (gSet i) :=
  ⟨pg_weak (pg_name hN hi hx hf) fun v σ H Q ⟨H₀, ρ, d, h, rp, q⟩ => q _ H H₀ (Same.refl _) (h.put rp)⟩
def LoopI (K : PySem.W.Frag) (E : XK) (He H0e H₁ : Hp) (tg : Ev → D → Res Ev) (s : Ev → Res Fl) (ds : List D) (D' : Ends) (i : Nat) (σ : L2.St) (H : Hp) : Prop :=
  ∃ H₀ ρ, Same H₁ H₀ ∧ SRx K He H0e H₀ σ H ρ ∧ postS K E He H0e H₀ (forD tg s (ds.drop i) ρ) D'
theorem LoopI.step {K : PySem.W.Frag} {H₁ : Hp} {tg : Ev → D → Res Ev} {ds : List D} {D' : Ends} {i : Nat} {σ : L2.St} {H : Hp} {d : D} {v : V} (h : LoopI K E He H0e H₁ tg s ds D' i σ H) (hd : ds[i]? = some d) (rv : Rep K H₁ d v)
    (he : ∀ ρ, tg ρ d = .stuck ∨ ∃ ρ', tg ρ d = .ok ρ') :
    tG K He H0e tg v σ H fun σ2 H2 => tS K E He H0e s { D' with nx := LoopI K E He H0e H₁ tg s ds D' (i + 1), ct := LoopI K E He H0e H₁ tg s ds D' (i + 1), bk := D'.nx } σ2 H2 := by
  obtain ⟨H₀, ρ, z, h, q⟩ := h
  have hi : i < ds.length := (List.getElem?_eq_some_iff.mp hd).1
  have hdr : ds.drop i = d :: ds.drop (i + 1) := by
    rw [List.drop_eq_getElem_cons hi]
    rw [List.getElem?_eq_getElem hi] at hd
    cases hd; rfl
  rw [hdr] at q
  refine ⟨H₀, ρ, d, h, rv.mono z, ?_⟩
  unfold forD at q
  rcases he ρ with e1 | ⟨ρ1, e1⟩
  · rw [e1] at q; exact q.elim
  · rw [e1] at q ⊢
    intro σ' H' H₀' z' h'
    refine ⟨H₀', ρ1, h', ?_⟩
    replace q := postS.grow (r := (s ρ1).bind fun x => match x with
      | .nx ρ2 => forD tg s (ds.drop (i + 1)) ρ2
      | .ct ρ2 => forD tg s (ds.drop (i + 1)) ρ2
      | .bk ρ2 => .ok (.nx ρ2)
      | .rt d => .ok (.rt d)) q z'
    cases e2 : s ρ1 with
    | stuck => rw [e2] at q; exact q
    | exn x => rw [e2] at q; exact q
    | ok r =>
      rw [e2] at q
      cases r with
      | nx ρ2 => exact fun σ3 H3 H03 z3 h3 => ⟨H03, ρ2, (z.trans z').trans z3, h3, postS.grow (r := forD tg s (ds.drop (i + 1)) ρ2) q z3⟩
      | ct ρ2 => exact fun σ3 H3 H03 z3 h3 => ⟨H03, ρ2, (z.trans z').trans z3, h3, postS.grow (r := forD tg s (ds.drop (i + 1)) ρ2) q z3⟩
      | bk ρ2 => exact q
      | rt d => exact q
theorem LoopI.done {K : PySem.W.Frag} {H₁ : Hp} {tg : Ev → D → Res Ev} {ds : List D} {D' : Ends} {σ : L2.St} {H : Hp} (h : LoopI K E He H0e H₁ tg s ds D' ds.length σ H) : D'.nx σ H := by
  obtain ⟨H₀, ρ, z, h, q⟩ := h
  rw [List.drop_length] at q
  unfold forD at q
  exact q σ H H₀ (Same.refl _) h
def Total (tg : Ev → D → Res Ev) : Prop := ∀ ρ d, tg ρ d = .stuck ∨ ∃ ρ', tg ρ d = .ok ρ'
theorem total_set {i : Nat} : Total (gSet i) := fun ρ d => .inr ⟨_, rfl⟩
def sFor (f : Ev → Res D) (tg : Ev → D → Res Ev) (s : Ev → Res Fl) : Ev → Res Fl := fun ρ => (f ρ).bind fun d => match d with
  | .lst ds => forD tg s ds ρ
  | _ => .stuck
theorem ds_for {tgt iter : Expr} {body : List Stmt} {tg : Ev → D → Res Ev} (hp : PassesOwn (model X.prog X.w) X.A X.env X.xe) (hc : X.calm = true) (hi : DE X E iter f) (hg : DG X E He H0e tgt tg) (ht : Total tg) (hb : DSs X E He H0e body s)
    (hs : ∀ x, foldedSetIterable iter X.env x = pure x := by intro _; rfl) : DS X E He H0e (.For tgt iter body [] pos) (sFor f tg s) := by
  refine ⟨?_⟩
  refine ps_weak (ps_for hp hc (pi_list hi.o) hg.o hb.o hs) fun D' σ H ⟨H₀, ρ, h, q⟩ => ⟨H₀, ρ, h.g.sub, h.rd, ?_⟩
  refine plain h q fun d v H1 H01 _ g rp q1 => ?_
  cases d with
  | lst ds =>
    obtain ⟨a, vs, rfl, hv, hr⟩ := Rep.lst_iff.mp rp
    refine ⟨a, rfl, ⟨vs, Same.sqL g.sub hv⟩, ?_⟩
    refine for_list (K := X.K) (a := a) (g := tG X.K He H0e tg) (tb := tS X.K E He H0e s) (D := D') (xs := vs) (LoopI X.K E He H0e H01 tg s ds D') ⟨H01, ρ, Same.refl _, h.grow g, q1⟩ ?_ ?_ ?_
    · rintro i σ' H' _ ⟨H₀', ρ', z, h', _⟩
      exact Same.sqL (z.trans h'.g.sub) hv
    · intro i x σ' H' hx hI
      have hil : i < ds.length := by rw [hr.length]; exact (List.getElem?_eq_some_iff.mp hx).1
      obtain ⟨u, e1, e2⟩ := hr.get (List.getElem?_eq_getElem hil)
      rw [hx] at e1; cases e1
      exact hI.step (List.getElem?_eq_getElem hil) e2 fun ρ => ht ρ _
    · intro σ' H' hI
      rw [← hr.length] at hI
      exact hI.done
  | _ => exact q1.elim
def intsFrom (lo : Int) (n : Nat) : List D := (List.range n).map fun (k : Nat) => D.int (lo + (k : Int))
def sForR (f : Ev → Res D) (tg : Ev → D → Res Ev) (s : Ev → Res Fl) : Ev → Res Fl := fun ρ => (f (shr ρ)).bind fun d => match d with
  | .int j => if -4611686018427387904 ≤ j ∧ j < 4611686018427387904 then forD tg s (intsFrom 0 j.toNat) ρ else .stuck
  | _ => .stuck
theorem ds_forR {tgt iter : Expr} {p pos2 : Pos} {body : List Stmt} {tg : Ev → D → Res Ev} (hp : PassesOwn (model X.prog X.w) X.A X.env X.xe) (hc : X.calm = true) (hgl : Gl X "range") (hm : X.mg "range" = none) (hi : DE X E iter f) (hg : DG X E He H0e tgt tg) (ht : Total tg) (hb : DSs X E He H0e body s)
    (hst : starEach [iter] X.env = [(false, eval iter X.env)] := by exact star_one rfl) (hs : ∀ x, foldedSetIterable (.Call (.Name "range" p) [iter] [] pos2) X.env x = pure x := by intro _; rfl) : DS X E He H0e (.For tgt (.Call (.Name "range" p) [iter] [] pos2) body [] pos) (sForR f tg s) := by
  refine ⟨?_⟩
  refine ps_weak (ps_for hp hc (pi_range1 hgl hm (pa_cons hi.o pa_nil hst) hst) hg.o hb.o hs) fun D' σ H ⟨H₀, ρ, h, q⟩ => ?_
  refine ⟨frz He H₀ H, shr ρ, h.frz_le, h.looks, look h q fun d v H1 J _ g rp q1 => ?_⟩
  cases d with
  | int j =>
    rw [Rep.int_iff.mp rp]
    replace q1 : postS X.K E He H0e H₀ (if -4611686018427387904 ≤ j ∧ j < 4611686018427387904 then forD tg s (intsFrom 0 j.toNat) ρ else .stuck) D' := q1
    by_cases hj : -4611686018427387904 ≤ j ∧ j < 4611686018427387904
    · rw [if_pos hj] at q1
      refine ⟨j, rfl, by omega, by omega, ?_⟩
      have hlen : (intsFrom 0 j.toNat).length = j.toNat := by unfold intsFrom; simp
      refine for_range (lo := 0) (n := j.toNat) (g := tG X.K He H0e tg) (tb := tS X.K E He H0e s) (D := D') (LoopI X.K E He H0e H₀ tg s (intsFrom 0 j.toNat) D') ⟨H₀, ρ, Same.refl _, h.same g.s, q1⟩ ?_ ?_
      · intro i σ' H' hlt hI
        refine hI.step (d := .int (0 + i)) ?_ (Rep.int_iff.mpr rfl) fun ρ => ht ρ _
        unfold intsFrom
        simp [hlt]
      · intro σ' H' hI
        exact LoopI.done (ds := intsFrom 0 j.toNat) (by rw [hlen]; exact hI)
    · rw [if_neg hj] at q1; exact q1.elim
  | _ => exact q1.elim
def whileD (c : Ev → Res D) (s : Ev → Res Fl) : Nat → Ev → Res Fl
  | 0, _ => .stuck
  | n + 1, ρ => (c (shr ρ)).bind fun x => match x with
    | .bl b => if b = true then (s ρ).bind fun x => match x with
        | .nx ρ2 => whileD c s n ρ2
        | .ct ρ2 => whileD c s n ρ2
        | .bk ρ2 => .ok (.nx ρ2)
        | .rt d => .ok (.rt d)
      else .ok (.nx ρ)
    | _ => .stuck
def sWhile (fuel : Ev → Nat) (c : Ev → Res D) (s : Ev → Res Fl) : Ev → Res Fl := fun ρ => whileD c s (fuel ρ) ρ
theorem ds_while (fuel : Ev → Nat) {c : Expr} {body : List Stmt} {fc : Ev → Res D} (hp : PassesOwn (model X.prog X.w) X.A X.env X.xe) (hc : DT X E c fc) (hb : DSs X E He H0e body s) : DS X E He H0e (.While c body [] pos) (sWhile fuel fc s) := by
  refine ⟨?_⟩
  refine ps_weak (ps_while hp hc.o hb.o) fun D' σ H ⟨H₀, ρ, h, q⟩ => ?_
  refine ⟨fun m σ H => ∃ H₀ ρ, SRx X.K He H0e H₀ σ H ρ ∧ postS X.K E He H0e H₀ (whileD fc s m ρ) D', ⟨fuel ρ, H₀, ρ, h, q⟩, ?_⟩
  rintro m σ1 H1 ⟨H01, ρ1, h1, q1⟩
  cases m with
  | zero => exact q1.elim
  | succ m =>
    refine ⟨frz He H01 H1, shr ρ1, h1.frz_le, h1.looks, ?_⟩
    unfold whileD at q1
    refine lookT (k := fun b => if b = true then (s ρ1).bind fun x => match x with
        | .nx ρ2 => whileD fc s m ρ2
        | .ct ρ2 => whileD fc s m ρ2
        | .bk ρ2 => .ok (.nx ρ2)
        | .rt d => .ok (.rt d)
      else .ok (.nx ρ1)) h1 q1 fun b H2 hs q2 => ?_
    cases b with
    | false =>
      rw [if_neg Bool.false_ne_true] at q2 ⊢
      exact q2 σ1 H2 H01 (Same.refl _) (h1.same hs)
    | true =>
      rw [if_pos rfl] at q2 ⊢
      refine ⟨fun σ' H' => ∃ m', m' < m + 1 ∧ ∃ H₀ ρ, SRx X.K He H0e H₀ σ' H' ρ ∧ postS X.K E He H0e H₀ (whileD fc s m' ρ) D', fun σ' H' z => z, H01, ρ1, h1.same hs, ?_⟩
      cases e2 : s ρ1 with
      | stuck => rw [e2] at q2; exact q2
      | exn x => rw [e2] at q2; exact q2
      | ok r =>
        rw [e2] at q2
        cases r with
        | nx ρ2 => exact fun σ3 H3 H03 z3 h3 => ⟨m, Nat.lt_succ_self _, H03, ρ2, h3, postS.grow (r := whileD fc s m ρ2) q2 z3⟩
        | ct ρ2 => exact fun σ3 H3 H03 z3 h3 => ⟨m, Nat.lt_succ_self _, H03, ρ2, h3, postS.grow (r := whileD fc s m ρ2) q2 z3⟩
        | bk ρ2 => exact q2
        | rt d => exact q2
end
def runD (n : Nat) (s : Ev → Res Fl) (ds : List D) : Res D := (s (ds.map Sl.sh ++ List.replicate (n - ds.length) .no)).bind fun r => match r with
  | .nx _ => .ok .non
  | .rt d => .ok d
  | _ => .stuck
theorem start_reads {K : PySem.W.Frag} {H₀ : Hp} {N : List Str} {ds : List D} {vs : List V} (h : Reps K H₀ ds vs) : Reads K H₀ (start N vs) (ds.map Sl.sh ++ List.replicate (N.length - ds.length) .no) := by
  intro i d e
  have hl := h.length
  by_cases hi : i < ds.length
  · rw [List.getElem?_append_left (by simpa using hi), List.getElem?_map] at e
    cases q : ds[i]? with
    | none => rw [q] at e; cases e
    | some d' =>
      rw [q] at e; cases e
      obtain ⟨v, h1, h2⟩ := h.get q
      refine ⟨v, ?_, h2⟩
      unfold L2.start
      rw [List.getElem?_append_left (by simp; omega), List.getElem?_map, h1]
      rfl
  · rw [List.getElem?_append_right (by simpa using hi), List.getElem?_replicate] at e
    split at e <;> cases e
theorem start_nox {ds : List D} {n : Nat} (i j : Nat) (es : List D) : (ds.map Sl.sh ++ List.replicate n Sl.no)[i]? ≠ some (.ox j es) := fun e => by
  have := List.mem_of_getElem? e
  rw [List.mem_append] at this
  rcases this with h | h
  · obtain ⟨_, _, h⟩ := List.mem_map.mp h; cases h
  · have := List.eq_of_mem_replicate h; cases this
theorem fn_mirror {P : Program} {w : World} {K : PySem.W.Frag} {mg : Str → Option Value} {base : Heap} {x qual : Str} {st : Stmt} {f : Addr} {fd : FuncData} {N ps : List Str} {k : Nat} {s : Ev → Res Fl} (F : Fun K x qual st f fd) (S : FnScope N ps (defScope st))
    (hbody : ∀ (cdv : Value) (A : Around) (outer : List PySem.Env) (s0 : Shared) (H H₀ : Hp) (E : XK), Room k (A.deeper (envOfC qual (defScope st) s0.heap.objs.size f cdv)) →
      DSs (cxOf CX0 P w K mg base N qual (defScope st) f cdv A outer s0 H E).nox E H H₀ (defBody st) s) : FnOk P w K mg base CX0 (k + 1) f fd ps (spD K ps.length (runD N.length s)) := by
  have hpl : ps.length ≤ N.length := by have := congrArg List.length S.pre; rw [List.length_take] at this; omega
  refine F.ok S (fun vs H Q E h => h.1) fun cdv A outer s0 H vs Q E hr h => ?_
  obtain ⟨hn, H₀, ds, hs, hv, q⟩ := h
  refine ⟨_, (hbody cdv A outer s0 H H₀ E hr).o, H₀, ds.map Sl.sh ++ List.replicate (N.length - ds.length) .no, ?_, ?_⟩
  · refine ⟨Grow.refl hs, start_reads hv, fun i d e => ?_, fun i j d d' hij e => ?_, ?_, OX.none start_nox⟩
    · by_cases hi : i < ds.length
      · rw [List.getElem?_append_left (by simpa using hi), List.getElem?_map] at e
        cases q : ds[i]? with
        | none => rw [q] at e; cases e
        | some d' => rw [q] at e; cases e
      · rw [List.getElem?_append_right (by simpa using hi), List.getElem?_replicate] at e
        split at e <;> cases e
    · by_cases hi : i < ds.length
      · rw [List.getElem?_append_left (by simpa using hi), List.getElem?_map] at e
        cases q : ds[i]? with
        | none => rw [q] at e; cases e
        | some d' => rw [q] at e; cases e
      · rw [List.getElem?_append_right (by simpa using hi), List.getElem?_replicate] at e
        split at e <;> cases e
    · unfold L2.start
      have := hv.length
      simp only [List.length_append, List.length_map, List.length_replicate]
      omega
  · unfold runD at q
    cases e1 : s (ds.map Sl.sh ++ List.replicate (N.length - ds.length) .no) with
    | stuck => rw [e1] at q; exact q
    | exn x => rw [e1] at q; exact q
    | ok r =>
      rw [e1] at q
      cases r with
      | nx ρ' => exact fun σ' H' H₀' _ h' => q .non H' H₀' h'.g (Rep.non_iff.mpr rfl)
      | rt d => exact fun v H' H₀' g rp => q v H' H₀' g rp
      | bk ρ' => exact q.elim
      | ct ρ' => exact q.elim
end DL
set_option Elab.async false
set_option linter.all false
set_option maxRecDepth 100000
namespace DL
open PySem PySem.Spec PyProof.Rows L2
mutual
def eqD : D → D → Bool
  | .non, .non => true
  | .bl a, .bl b => a == b
  | .bl a, .int b => (if a then 1 else 0) == b
  | .int a, .bl b => a == (if b then 1 else 0)
  | .int a, .int b => a == b
  | .str a, .str b => a == b
  | .tup xs, .tup ys => eqDs xs ys
  | .lst xs, .lst ys => eqDs xs ys
  | _, _ => false
def eqDs : List D → List D → Bool
  | [], [] => true
  | x :: xs, y :: ys => eqD x y && eqDs xs ys
  | _, _ => false
end
def shal : Nat → D → Bool
  | _, .non => true
  | _, .bl _ => true
  | _, .int _ => true
  | _, .str _ => true
  | n + 1, .tup ds => ds.all (shal n)
  | n + 1, .lst ds => ds.all (shal n)
  | _, _ => false
theorem eqDs_refl {ds : List D} (h : ∀ d ∈ ds, eqD d d = true) : eqDs ds ds = true := by
  induction ds with
  | nil => simp [eqDs]
  | cons d r ih =>
    unfold eqDs
    rw [h d List.mem_cons_self, ih fun x hx => h x (List.mem_cons_of_mem _ hx)]
    rfl
theorem eqD_refl : ∀ (n : Nat) (d : D), shal n d = true → eqD d d = true
  | _, .non, _ => by simp [eqD]
  | _, .bl b, _ => by simp [eqD]
  | _, .int b, _ => by simp [eqD]
  | _, .str b, _ => by simp [eqD]
  | n + 1, .tup ds, h => by
    unfold shal at h
    unfold eqD
    exact eqDs_refl fun d hd => eqD_refl n d (List.all_eq_true.mp h d hd)
  | n + 1, .lst ds, h => by
    unfold shal at h
    unfold eqD
    exact eqDs_refl fun d hd => eqD_refl n d (List.all_eq_true.mp h d hd)
  | 0, .tup ds, h => by unfold shal at h; cases h
  | 0, .lst ds, h => by unfold shal at h; cases h
  | 0, .dic ks ds, h => by unfold shal at h; cases h
  | n + 1, .dic ks ds, h => by unfold shal at h; cases h
  | 0, .exc x, h => by unfold shal at h; cases h
  | 0, .ob k x, h => by unfold shal at h; cases h
  | n + 1, .ob k x, h => by unfold shal at h; cases h
  | n + 1, .exc x, h => by unfold shal at h; cases h
theorem eqD_tup {xs ys : List D} : eqD (.tup xs) (.tup ys) = eqDs xs ys := by rw [eqD]
theorem eqD_lst {xs ys : List D} : eqD (.lst xs) (.lst ys) = eqDs xs ys := by rw [eqD]
theorem eqDs_range : ∀ (xs ys : List D), xs.length = ys.length → eqDs xs ys = (List.range xs.length).all fun j => eqD (xs.getD j .non) (ys.getD j .non)
  | [], [], _ => by simp [eqDs]
  | x :: xs, y :: ys, h => by
    have ih := eqDs_range xs ys (by simpa using h)
    unfold eqDs
    rw [ih, List.length_cons, List.range_succ_eq_map, List.all_cons, List.all_map]
    rfl
  | [], _ :: _, h => by simp at h
  | _ :: _, [], h => by simp at h
theorem eqDs_len : ∀ (xs ys : List D), xs.length ≠ ys.length → eqDs xs ys = false
  | [], [], h => absurd rfl h
  | x :: xs, y :: ys, h => by
    unfold eqDs
    rw [eqDs_len xs ys (by simpa using h), Bool.and_false]
  | [], _ :: _, h => by simp [eqDs]
  | _ :: _, [], h => by simp [eqDs]
section
variable {X : Cx} {pins : List (Addr × Obj)} {σ : L2.St} {H : Hp} {s : Shared}
theorem Rep.tup_get (I : Inv X pins σ H s) {ds : List D} {v : V} {u : Value} (r : Rep X.K H (.tup ds) v) (rv : RelV v u) : ∃ a vs its, v = .ref a ∧ u = .ref a ∧ SqT X.K H a vs ∧ Reps X.K H ds vs ∧ Vals vs its ∧ IsTup s.heap a its.toArray ∧ ds.length = its.length := by
  obtain ⟨a, vs, rfl, h1, h2⟩ := Rep.tup_iff.mp r
  obtain rfl : u = Value.ref a := rv
  obtain ⟨its, h3, h4, _⟩ := I.tuple h1
  exact ⟨a, vs, its, rfl, rfl, h1, h2, h3, h4, h2.length.trans h3.length⟩
theorem Rep.lst_get (I : Inv X pins σ H s) {ds : List D} {v : V} {u : Value} (r : Rep X.K H (.lst ds) v) (rv : RelV v u) : ∃ a vs its, v = .ref a ∧ u = .ref a ∧ SqL X.K H a vs ∧ Reps X.K H ds vs ∧ Vals vs its ∧ s.heap.IsList a its.toArray ∧ ds.length = its.length := by
  obtain ⟨a, vs, rfl, h1, h2⟩ := Rep.lst_iff.mp r
  obtain rfl : u = Value.ref a := rv
  obtain ⟨its, h3, h4, _⟩ := I.list h1
  exact ⟨a, vs, its, rfl, rfl, h1, h2, h3, h4.isList, h2.length.trans h3.length⟩
theorem reps_inj {n : Nat} (ih : ∀ (d d' : D) (v : V), shal n d = true → shal n d' = true → Rep X.K H d v → Rep X.K H d' v → d = d') : ∀ (ds ds' : List D) (vs : List V), ds.all (shal n) = true → ds'.all (shal n) = true → Reps X.K H ds vs → Reps X.K H ds' vs → ds = ds'
  | [], ds', vs, _, _, h, h' => by
    rw [Reps.nil_iff.mp h] at h'
    cases ds' with
    | nil => rfl
    | cons d r => obtain ⟨_, _, e, _⟩ := Reps.cons_iff.mp h'; cases e
  | d :: ds, ds', vs, a, a', h, h' => by
    obtain ⟨v, r, rfl, h1, h2⟩ := Reps.cons_iff.mp h
    cases ds' with
    | nil => cases Reps.nil_iff.mp h'
    | cons d' ds' =>
      obtain ⟨v', r', e, h1', h2'⟩ := Reps.cons_iff.mp h'
      cases e
      rw [List.all_cons, Bool.and_eq_true] at a a'
      rw [ih d d' v a.1 a'.1 h1 h1', reps_inj ih ds ds' r a.2 a'.2 h2 h2']
theorem Rep.inj (I : Inv X pins σ H s) : ∀ (n : Nat) (d d' : D) (v : V), shal n d = true → shal n d' = true → Rep X.K H d v → Rep X.K H d' v → d = d' := by
  have atom : ∀ (n : Nat) (d d' : D) (v : V), (∀ ds, d ≠ .tup ds) → (∀ ds, d ≠ .lst ds) → shal n d = true → shal n d' = true → Rep X.K H d v → Rep X.K H d' v → d = d' := by
    intro n d d' v n1 n2 s1 s2 h h'
    have nd : ∀ m ks ds, shal m (.dic ks ds) = true → False := fun m ks ds h => by cases m <;> (unfold shal at h; cases h)
    have nx : ∀ m x, shal m (.exc x) = true → False := fun m x h => by cases m <;> (unfold shal at h; cases h)
    have nb : ∀ m k x, shal m (.ob k x) = true → False := fun m k x h => by cases m <;> (unfold shal at h; cases h)
    cases d with
    | tup ds => exact absurd rfl (n1 ds)
    | lst ds => exact absurd rfl (n2 ds)
    | dic ks ds => exact (nd _ _ _ s1).elim
    | exc x => exact (nx _ _ s1).elim
    | ob k x => exact (nb _ _ _ s1).elim
    | non =>
      rw [Rep.non_iff.mp h] at h'
      cases d' with
      | non => rfl
      | bl b => cases Rep.bl_iff.mp h'
      | int b => cases Rep.int_iff.mp h'
      | str b => cases Rep.str_iff.mp h'
      | tup ds => obtain ⟨_, _, e, _⟩ := Rep.tup_iff.mp h'; cases e
      | lst ds => obtain ⟨_, _, e, _⟩ := Rep.lst_iff.mp h'; cases e
      | dic ks ds => exact (nd _ _ _ s2).elim
      | exc x => exact (nx _ _ s2).elim
      | ob k x => exact (nb _ _ _ s2).elim
    | bl x =>
      rw [Rep.bl_iff.mp h] at h'
      cases d' with
      | non => cases Rep.non_iff.mp h'
      | bl b => cases Rep.bl_iff.mp h'; rfl
      | int b => cases Rep.int_iff.mp h'
      | str b => cases Rep.str_iff.mp h'
      | tup ds => obtain ⟨_, _, e, _⟩ := Rep.tup_iff.mp h'; cases e
      | lst ds => obtain ⟨_, _, e, _⟩ := Rep.lst_iff.mp h'; cases e
      | dic ks ds => exact (nd _ _ _ s2).elim
      | exc x => exact (nx _ _ s2).elim
      | ob k x => exact (nb _ _ _ s2).elim
    | int x =>
      rw [Rep.int_iff.mp h] at h'
      cases d' with
      | non => cases Rep.non_iff.mp h'
      | bl b => cases Rep.bl_iff.mp h'
      | int b => cases Rep.int_iff.mp h'; rfl
      | str b => cases Rep.str_iff.mp h'
      | tup ds => obtain ⟨_, _, e, _⟩ := Rep.tup_iff.mp h'; cases e
      | lst ds => obtain ⟨_, _, e, _⟩ := Rep.lst_iff.mp h'; cases e
      | dic ks ds => exact (nd _ _ _ s2).elim
      | exc x => exact (nx _ _ s2).elim
      | ob k x => exact (nb _ _ _ s2).elim
    | str x =>
      rw [Rep.str_iff.mp h] at h'
      cases d' with
      | non => cases Rep.non_iff.mp h'
      | bl b => cases Rep.bl_iff.mp h'
      | int b => cases Rep.int_iff.mp h'
      | str b => cases Rep.str_iff.mp h'; rfl
      | tup ds => obtain ⟨_, _, e, _⟩ := Rep.tup_iff.mp h'; cases e
      | lst ds => obtain ⟨_, _, e, _⟩ := Rep.lst_iff.mp h'; cases e
      | dic ks ds => exact (nd _ _ _ s2).elim
      | exc x => exact (nx _ _ s2).elim
      | ob k x => exact (nb _ _ _ s2).elim
  intro n
  induction n with
  | zero =>
    intro d d' v s1 s2 h h'
    exact atom 0 d d' v (fun ds e => by subst e; unfold shal at s1; cases s1) (fun ds e => by subst e; unfold shal at s1; cases s1) s1 s2 h h'
  | succ n ih =>
    intro d d' v s1 s2 h h'
    by_cases t1 : ∃ ds, d = .tup ds
    · obtain ⟨ds, rfl⟩ := t1
      by_cases t2 : ∃ ds', d' = .tup ds'
      · obtain ⟨ds', rfl⟩ := t2
        obtain ⟨a, vs, rfl, h1, h2⟩ := Rep.tup_iff.mp h
        obtain ⟨a', vs', e, h1', h2'⟩ := Rep.tup_iff.mp h'
        cases e
        rw [I.tuple_inj h1' h1] at h2'
        unfold shal at s1 s2
        rw [reps_inj ih ds ds' vs s1 s2 h2 h2']
      · by_cases t3 : ∃ ds', d' = .lst ds'
        · obtain ⟨ds', rfl⟩ := t3
          obtain ⟨a0, _, ev, _, _⟩ := Rep.tup_iff.mp h; subst ev
          obtain ⟨a, vs, its, ea, _, h1, h2, h3, h4, _⟩ := Rep.tup_get I h rfl; cases ea
          obtain ⟨a', vs', its', e, _, h1', h2', h3', h4', _⟩ := Rep.lst_get I h' rfl
          cases e
          exact absurd rfl (SeqAt.ne_of_list_tuple h4' h4)
        · exact (atom (n + 1) d' _ v (fun ds e => t2 ⟨ds, e⟩) (fun ds e => t3 ⟨ds, e⟩) s2 s1 h' h).symm
    · by_cases t1' : ∃ ds, d = .lst ds
      · obtain ⟨ds, rfl⟩ := t1'
        by_cases t2 : ∃ ds', d' = .lst ds'
        · obtain ⟨ds', rfl⟩ := t2
          obtain ⟨a, vs, rfl, h1, h2⟩ := Rep.lst_iff.mp h
          obtain ⟨a', vs', e, h1', h2'⟩ := Rep.lst_iff.mp h'
          cases e
          rw [I.list_inj h1' h1] at h2'
          unfold shal at s1 s2
          rw [reps_inj ih ds ds' vs s1 s2 h2 h2']
        · by_cases t3 : ∃ ds', d' = .tup ds'
          · obtain ⟨ds', rfl⟩ := t3
            obtain ⟨a0, _, ev, _, _⟩ := Rep.lst_iff.mp h; subst ev
            obtain ⟨a, vs, its, ea, _, h1, h2, h3, h4, _⟩ := Rep.lst_get I h rfl; cases ea
            obtain ⟨a', vs', its', e, _, h1', h2', h3', h4', _⟩ := Rep.tup_get I h' rfl
            cases e
            exact absurd rfl (SeqAt.ne_of_list_tuple h4 h4')
          · exact (atom (n + 1) d' _ v (fun ds e => t3 ⟨ds, e⟩) (fun ds e => t2 ⟨ds, e⟩) s2 s1 h' h).symm
      · exact atom (n + 1) d d' v (fun ds e => t1 ⟨ds, e⟩) (fun ds e => t1' ⟨ds, e⟩) s1 s2 h h'
theorem items_eq {n : Nat} {A : Around} {xs ys : List D} {vs us : List V} {is js : List Value}
    (ih : ∀ (x y : D) (v u : V) (a b : Value), shal n x = true → shal n y = true → Rep X.K H x v → Rep X.K H y u → RelV v a → RelV u b → SeqAt.EqAt A.in1 s a b (eqD x y))
    (sx : xs.all (shal n) = true) (sy : ys.all (shal n) = true) (rx : Reps X.K H xs vs) (ry : Reps X.K H ys us) (qx : Vals vs is) (qy : Vals us js) :
    ∀ j (h1 : j < is.toArray.size) (h2 : j < js.toArray.size), SeqAt.EqAt A.in1 s is.toArray[j] js.toArray[j] (eqD (xs.getD j .non) (ys.getD j .non)) := by
  intro j h1 h2
  have lx := rx.length
  have ly := ry.length
  have kx := qx.length
  have ky := qy.length
  have h1' : j < is.length := by simpa using h1
  have h2' : j < js.length := by simpa using h2
  have hx : j < xs.length := by omega
  have hy : j < ys.length := by omega
  obtain ⟨v, e1, r1⟩ := rx.get (List.getElem?_eq_getElem hx)
  obtain ⟨u, e2, r2⟩ := ry.get (List.getElem?_eq_getElem hy)
  obtain ⟨a, e3, r3⟩ := qx.get e1
  obtain ⟨b, e4, r4⟩ := qy.get e2
  have ea : is.toArray[j] = a := by
    rw [List.getElem?_eq_getElem h1'] at e3
    simpa using Option.some.inj e3
  have eb : js.toArray[j] = b := by
    rw [List.getElem?_eq_getElem h2'] at e4
    simpa using Option.some.inj e4
  rw [ea, eb]
  have gx : xs.getD j .non = xs[j] := by simp [List.getD, List.getElem?_eq_getElem hx]
  have gy : ys.getD j .non = ys[j] := by simp [List.getD, List.getElem?_eq_getElem hy]
  rw [gx, gy]
  exact ih _ _ v u a b (List.all_eq_true.mp sx _ (List.getElem_mem hx)) (List.all_eq_true.mp sy _ (List.getElem_mem hy)) r1 r2 r3 r4
theorem rc_mixed (I : Inv X pins σ H s) {A : Around} (hu : A.units < cLine) {x y : D} {v u : V} {a b : Value} (rx : Rep X.K H x v) (ry : Rep X.K H y u) (qx : RelV v a) (qy : RelV u b)
    (n1 : ∀ ds ds', ¬ (x = .lst ds ∧ y = .lst ds')) (n2 : ∀ ds ds', ¬ (x = .tup ds ∧ y = .tup ds')) (d1 : ∀ ks ds, x ≠ .dic ks ds) (d2 : ∀ ks ds, y ≠ .dic ks ds) (x1 : ∀ c, x ≠ .exc c) (x2 : ∀ c, y ≠ .exc c) (o1 : ∀ k c, x ≠ .ob k c) (o2 : ∀ k c, y ≠ .ob k c) :
    SeqAt.RcAt A s a b (eqD x y) ∧ SeqAt.EqAt A s a b (eqD x y) ∧ SeqAt.RcNeAt A s a b (!(eqD x y)) := by
  cases x with
  | non =>
    cases y with
    | non =>
      obtain rfl := Rep.non_iff.mp rx; obtain rfl : a = Value.none := qx
      obtain rfl := Rep.non_iff.mp ry; obtain rfl : b = Value.none := qy
      unfold eqD
      exact ⟨SeqAt.RcAt.none_none , SeqAt.EqAt.same _, SeqAt.RcNeAt.none_none ⟩
    | bl y =>
      obtain rfl := Rep.non_iff.mp rx; obtain rfl : a = Value.none := qx
      obtain rfl := Rep.bl_iff.mp ry; obtain rfl : b = Value.bool _ := qy
      unfold eqD
      exact ⟨SeqAt.RcAt.none_bool _, SeqAt.EqAt.none_bool _, SeqAt.RcNeAt.none_bool _⟩
    | int y =>
      obtain rfl := Rep.non_iff.mp rx; obtain rfl : a = Value.none := qx
      obtain rfl := Rep.int_iff.mp ry; obtain ⟨ty, rfl⟩ : ∃ t, b = Value.int _ t := qy
      unfold eqD
      exact ⟨SeqAt.RcAt.none_int _ _, SeqAt.EqAt.none_int _ _, SeqAt.RcNeAt.none_int _ _⟩
    | str y =>
      obtain rfl := Rep.non_iff.mp rx; obtain rfl : a = Value.none := qx
      obtain rfl := Rep.str_iff.mp ry; obtain ⟨ty, rfl⟩ : ∃ t, b = Value.str _ t := qy
      unfold eqD
      exact ⟨SeqAt.RcAt.none_str _ _, SeqAt.EqAt.none_str _ _, SeqAt.RcNeAt.none_str _ _⟩
    | lst y =>
      obtain rfl := Rep.non_iff.mp rx; obtain rfl : a = Value.none := qx
      obtain ⟨ly, _, _, rfl, rfl, _, _, _, hy, _⟩ := Rep.lst_get I ry qy
      unfold eqD
      exact ⟨SeqAt.RcAt.none_list  hy hu, SeqAt.EqAt.none_list  hy hu, SeqAt.RcNeAt.none_list  hy hu⟩
    | tup y =>
      obtain rfl := Rep.non_iff.mp rx; obtain rfl : a = Value.none := qx
      obtain ⟨ly, _, _, rfl, rfl, _, _, _, hy, _⟩ := Rep.tup_get I ry qy
      unfold eqD
      exact ⟨SeqAt.RcAt.none_tuple  hy hu, SeqAt.EqAt.none_tuple  hy hu, SeqAt.RcNeAt.none_tuple  hy hu⟩
    | dic ks ds => exact absurd rfl (d2 ks ds)
    | exc c => exact absurd rfl (x2 c)
    | ob k c => exact absurd rfl (o2 k c)
  | bl x =>
    cases y with
    | non =>
      obtain rfl := Rep.bl_iff.mp rx; obtain rfl : a = Value.bool _ := qx
      obtain rfl := Rep.non_iff.mp ry; obtain rfl : b = Value.none := qy
      unfold eqD
      exact ⟨SeqAt.RcAt.bool_none _, SeqAt.EqAt.bool_none _, SeqAt.RcNeAt.bool_none _⟩
    | bl y =>
      obtain rfl := Rep.bl_iff.mp rx; obtain rfl : a = Value.bool _ := qx
      obtain rfl := Rep.bl_iff.mp ry; obtain rfl : b = Value.bool _ := qy
      unfold eqD
      exact ⟨SeqAt.RcAt.bool_bool _ _, SeqAt.EqAt.bool_bool _ _, SeqAt.RcNeAt.bool_bool _ _⟩
    | int y =>
      obtain rfl := Rep.bl_iff.mp rx; obtain rfl : a = Value.bool _ := qx
      obtain rfl := Rep.int_iff.mp ry; obtain ⟨ty, rfl⟩ : ∃ t, b = Value.int _ t := qy
      unfold eqD
      exact ⟨SeqAt.RcAt.bool_int _ _ _, SeqAt.EqAt.bool_int _ _ _, SeqAt.RcNeAt.bool_int _ _ _⟩
    | str y =>
      obtain rfl := Rep.bl_iff.mp rx; obtain rfl : a = Value.bool _ := qx
      obtain rfl := Rep.str_iff.mp ry; obtain ⟨ty, rfl⟩ : ∃ t, b = Value.str _ t := qy
      unfold eqD
      exact ⟨SeqAt.RcAt.bool_str _ _ _, SeqAt.EqAt.bool_str _ _ _, SeqAt.RcNeAt.bool_str _ _ _⟩
    | lst y =>
      obtain rfl := Rep.bl_iff.mp rx; obtain rfl : a = Value.bool _ := qx
      obtain ⟨ly, _, _, rfl, rfl, _, _, _, hy, _⟩ := Rep.lst_get I ry qy
      unfold eqD
      exact ⟨SeqAt.RcAt.bool_list _ hy hu, SeqAt.EqAt.bool_list _ hy hu, SeqAt.RcNeAt.bool_list _ hy hu⟩
    | tup y =>
      obtain rfl := Rep.bl_iff.mp rx; obtain rfl : a = Value.bool _ := qx
      obtain ⟨ly, _, _, rfl, rfl, _, _, _, hy, _⟩ := Rep.tup_get I ry qy
      unfold eqD
      exact ⟨SeqAt.RcAt.bool_tuple _ hy hu, SeqAt.EqAt.bool_tuple _ hy hu, SeqAt.RcNeAt.bool_tuple _ hy hu⟩
    | dic ks ds => exact absurd rfl (d2 ks ds)
    | exc c => exact absurd rfl (x2 c)
    | ob k c => exact absurd rfl (o2 k c)
  | int x =>
    cases y with
    | non =>
      obtain rfl := Rep.int_iff.mp rx; obtain ⟨tx, rfl⟩ : ∃ t, a = Value.int _ t := qx
      obtain rfl := Rep.non_iff.mp ry; obtain rfl : b = Value.none := qy
      unfold eqD
      exact ⟨SeqAt.RcAt.int_none _ _, SeqAt.EqAt.int_none _ _, SeqAt.RcNeAt.int_none _ _⟩
    | bl y =>
      obtain rfl := Rep.int_iff.mp rx; obtain ⟨tx, rfl⟩ : ∃ t, a = Value.int _ t := qx
      obtain rfl := Rep.bl_iff.mp ry; obtain rfl : b = Value.bool _ := qy
      unfold eqD
      exact ⟨SeqAt.RcAt.int_bool _ _ _, SeqAt.EqAt.int_bool _ _ _, SeqAt.RcNeAt.int_bool _ _ _⟩
    | int y =>
      obtain rfl := Rep.int_iff.mp rx; obtain ⟨tx, rfl⟩ : ∃ t, a = Value.int _ t := qx
      obtain rfl := Rep.int_iff.mp ry; obtain ⟨ty, rfl⟩ : ∃ t, b = Value.int _ t := qy
      unfold eqD
      exact ⟨SeqAt.RcAt.int_int _ _ _ _, SeqAt.EqAt.int_int _ _ _ _, SeqAt.RcNeAt.int_int _ _ _ _⟩
    | str y =>
      obtain rfl := Rep.int_iff.mp rx; obtain ⟨tx, rfl⟩ : ∃ t, a = Value.int _ t := qx
      obtain rfl := Rep.str_iff.mp ry; obtain ⟨ty, rfl⟩ : ∃ t, b = Value.str _ t := qy
      unfold eqD
      exact ⟨SeqAt.RcAt.int_str _ _ _ _, SeqAt.EqAt.int_str _ _ _ _, SeqAt.RcNeAt.int_str _ _ _ _⟩
    | lst y =>
      obtain rfl := Rep.int_iff.mp rx; obtain ⟨tx, rfl⟩ : ∃ t, a = Value.int _ t := qx
      obtain ⟨ly, _, _, rfl, rfl, _, _, _, hy, _⟩ := Rep.lst_get I ry qy
      unfold eqD
      exact ⟨SeqAt.RcAt.int_list _ _ hy hu, SeqAt.EqAt.int_list _ _ hy hu, SeqAt.RcNeAt.int_list _ _ hy hu⟩
    | tup y =>
      obtain rfl := Rep.int_iff.mp rx; obtain ⟨tx, rfl⟩ : ∃ t, a = Value.int _ t := qx
      obtain ⟨ly, _, _, rfl, rfl, _, _, _, hy, _⟩ := Rep.tup_get I ry qy
      unfold eqD
      exact ⟨SeqAt.RcAt.int_tuple _ _ hy hu, SeqAt.EqAt.int_tuple _ _ hy hu, SeqAt.RcNeAt.int_tuple _ _ hy hu⟩
    | dic ks ds => exact absurd rfl (d2 ks ds)
    | exc c => exact absurd rfl (x2 c)
    | ob k c => exact absurd rfl (o2 k c)
  | str x =>
    cases y with
    | non =>
      obtain rfl := Rep.str_iff.mp rx; obtain ⟨tx, rfl⟩ : ∃ t, a = Value.str _ t := qx
      obtain rfl := Rep.non_iff.mp ry; obtain rfl : b = Value.none := qy
      unfold eqD
      exact ⟨SeqAt.RcAt.str_none _ _, SeqAt.EqAt.str_none _ _, SeqAt.RcNeAt.str_none _ _⟩
    | bl y =>
      obtain rfl := Rep.str_iff.mp rx; obtain ⟨tx, rfl⟩ : ∃ t, a = Value.str _ t := qx
      obtain rfl := Rep.bl_iff.mp ry; obtain rfl : b = Value.bool _ := qy
      unfold eqD
      exact ⟨SeqAt.RcAt.str_bool _ _ _, SeqAt.EqAt.str_bool _ _ _, SeqAt.RcNeAt.str_bool _ _ _⟩
    | int y =>
      obtain rfl := Rep.str_iff.mp rx; obtain ⟨tx, rfl⟩ : ∃ t, a = Value.str _ t := qx
      obtain rfl := Rep.int_iff.mp ry; obtain ⟨ty, rfl⟩ : ∃ t, b = Value.int _ t := qy
      unfold eqD
      exact ⟨SeqAt.RcAt.str_int _ _ _ _, SeqAt.EqAt.str_int _ _ _ _, SeqAt.RcNeAt.str_int _ _ _ _⟩
    | str y =>
      obtain rfl := Rep.str_iff.mp rx; obtain ⟨tx, rfl⟩ : ∃ t, a = Value.str _ t := qx
      obtain rfl := Rep.str_iff.mp ry; obtain ⟨ty, rfl⟩ : ∃ t, b = Value.str _ t := qy
      unfold eqD
      exact ⟨SeqAt.RcAt.str_str _ _ _ _, SeqAt.EqAt.str_str _ _ _ _, SeqAt.RcNeAt.str_str _ _ _ _⟩
    | lst y =>
      obtain rfl := Rep.str_iff.mp rx; obtain ⟨tx, rfl⟩ : ∃ t, a = Value.str _ t := qx
      obtain ⟨ly, _, _, rfl, rfl, _, _, _, hy, _⟩ := Rep.lst_get I ry qy
      unfold eqD
      exact ⟨SeqAt.RcAt.str_list _ _ hy hu, SeqAt.EqAt.str_list _ _ hy hu, SeqAt.RcNeAt.str_list _ _ hy hu⟩
    | tup y =>
      obtain rfl := Rep.str_iff.mp rx; obtain ⟨tx, rfl⟩ : ∃ t, a = Value.str _ t := qx
      obtain ⟨ly, _, _, rfl, rfl, _, _, _, hy, _⟩ := Rep.tup_get I ry qy
      unfold eqD
      exact ⟨SeqAt.RcAt.str_tuple _ _ hy hu, SeqAt.EqAt.str_tuple _ _ hy hu, SeqAt.RcNeAt.str_tuple _ _ hy hu⟩
    | dic ks ds => exact absurd rfl (d2 ks ds)
    | exc c => exact absurd rfl (x2 c)
    | ob k c => exact absurd rfl (o2 k c)
  | lst x =>
    cases y with
    | non =>
      obtain ⟨lx, _, _, rfl, rfl, _, _, _, hx, _⟩ := Rep.lst_get I rx qx
      obtain rfl := Rep.non_iff.mp ry; obtain rfl : b = Value.none := qy
      unfold eqD
      exact ⟨SeqAt.RcAt.list_none  hx hu, SeqAt.EqAt.list_none  hx hu, SeqAt.RcNeAt.list_none  hx hu⟩
    | bl y =>
      obtain ⟨lx, _, _, rfl, rfl, _, _, _, hx, _⟩ := Rep.lst_get I rx qx
      obtain rfl := Rep.bl_iff.mp ry; obtain rfl : b = Value.bool _ := qy
      unfold eqD
      exact ⟨SeqAt.RcAt.list_bool _ hx hu, SeqAt.EqAt.list_bool _ hx hu, SeqAt.RcNeAt.list_bool _ hx hu⟩
    | int y =>
      obtain ⟨lx, _, _, rfl, rfl, _, _, _, hx, _⟩ := Rep.lst_get I rx qx
      obtain rfl := Rep.int_iff.mp ry; obtain ⟨ty, rfl⟩ : ∃ t, b = Value.int _ t := qy
      unfold eqD
      exact ⟨SeqAt.RcAt.list_int _ _ hx hu, SeqAt.EqAt.list_int _ _ hx hu, SeqAt.RcNeAt.list_int _ _ hx hu⟩
    | str y =>
      obtain ⟨lx, _, _, rfl, rfl, _, _, _, hx, _⟩ := Rep.lst_get I rx qx
      obtain rfl := Rep.str_iff.mp ry; obtain ⟨ty, rfl⟩ : ∃ t, b = Value.str _ t := qy
      unfold eqD
      exact ⟨SeqAt.RcAt.list_str _ _ hx hu, SeqAt.EqAt.list_str _ _ hx hu, SeqAt.RcNeAt.list_str _ _ hx hu⟩
    | lst y =>
      exact absurd ⟨rfl, rfl⟩ (n1 x y)
    | tup y =>
      obtain ⟨lx, _, _, rfl, rfl, _, _, _, hx, _⟩ := Rep.lst_get I rx qx
      obtain ⟨ly, _, _, rfl, rfl, _, _, _, hy, _⟩ := Rep.tup_get I ry qy
      unfold eqD
      exact ⟨SeqAt.RcAt.list_tuple  hx hy hu, SeqAt.EqAt.list_tuple  hx hy hu, SeqAt.RcNeAt.list_tuple  hx hy hu⟩
    | dic ks ds => exact absurd rfl (d2 ks ds)
    | exc c => exact absurd rfl (x2 c)
    | ob k c => exact absurd rfl (o2 k c)
  | tup x =>
    cases y with
    | non =>
      obtain ⟨lx, _, _, rfl, rfl, _, _, _, hx, _⟩ := Rep.tup_get I rx qx
      obtain rfl := Rep.non_iff.mp ry; obtain rfl : b = Value.none := qy
      unfold eqD
      exact ⟨SeqAt.RcAt.tuple_none  hx hu, SeqAt.EqAt.tuple_none  hx hu, SeqAt.RcNeAt.tuple_none  hx hu⟩
    | bl y =>
      obtain ⟨lx, _, _, rfl, rfl, _, _, _, hx, _⟩ := Rep.tup_get I rx qx
      obtain rfl := Rep.bl_iff.mp ry; obtain rfl : b = Value.bool _ := qy
      unfold eqD
      exact ⟨SeqAt.RcAt.tuple_bool _ hx hu, SeqAt.EqAt.tuple_bool _ hx hu, SeqAt.RcNeAt.tuple_bool _ hx hu⟩
    | int y =>
      obtain ⟨lx, _, _, rfl, rfl, _, _, _, hx, _⟩ := Rep.tup_get I rx qx
      obtain rfl := Rep.int_iff.mp ry; obtain ⟨ty, rfl⟩ : ∃ t, b = Value.int _ t := qy
      unfold eqD
      exact ⟨SeqAt.RcAt.tuple_int _ _ hx hu, SeqAt.EqAt.tuple_int _ _ hx hu, SeqAt.RcNeAt.tuple_int _ _ hx hu⟩
    | str y =>
      obtain ⟨lx, _, _, rfl, rfl, _, _, _, hx, _⟩ := Rep.tup_get I rx qx
      obtain rfl := Rep.str_iff.mp ry; obtain ⟨ty, rfl⟩ : ∃ t, b = Value.str _ t := qy
      unfold eqD
      exact ⟨SeqAt.RcAt.tuple_str _ _ hx hu, SeqAt.EqAt.tuple_str _ _ hx hu, SeqAt.RcNeAt.tuple_str _ _ hx hu⟩
    | lst y =>
      obtain ⟨lx, _, _, rfl, rfl, _, _, _, hx, _⟩ := Rep.tup_get I rx qx
      obtain ⟨ly, _, _, rfl, rfl, _, _, _, hy, _⟩ := Rep.lst_get I ry qy
      unfold eqD
      exact ⟨SeqAt.RcAt.tuple_list  hx hy hu, SeqAt.EqAt.tuple_list  hx hy hu, SeqAt.RcNeAt.tuple_list  hx hy hu⟩
    | tup y =>
      exact absurd ⟨rfl, rfl⟩ (n2 x y)
    | dic ks ds => exact absurd rfl (d2 ks ds)
    | exc c => exact absurd rfl (x2 c)
    | ob k c => exact absurd rfl (o2 k c)
  | dic ks ds => exact absurd rfl (d1 ks ds)
  | exc c => exact absurd rfl (x1 c)
  | ob k c => exact absurd rfl (o1 k c)
theorem rc_D (I : Inv X pins σ H s) : ∀ (n : Nat) (A : Around), A.units + n < cLine → ∀ (x y : D) (v u : V) (a b : Value), shal n x = true → shal n y = true → Rep X.K H x v → Rep X.K H y u → RelV v a → RelV u b →
    SeqAt.RcAt A s a b (eqD x y) ∧ SeqAt.EqAt A s a b (eqD x y) ∧ SeqAt.RcNeAt A s a b (!(eqD x y)) := by
  have nd : ∀ m ks ds, shal m (.dic ks ds) = true → False := fun m ks ds h => by cases m <;> (unfold shal at h; cases h)
  have nx : ∀ m x, shal m (.exc x) = true → False := fun m x h => by cases m <;> (unfold shal at h; cases h)
  have nb : ∀ m k x, shal m (.ob k x) = true → False := fun m k x h => by cases m <;> (unfold shal at h; cases h)
  intro n
  induction n with
  | zero =>
    intro A hu x y v u a b sx sy rx ry qa qb
    refine rc_mixed I (by omega) rx ry qa qb (fun ds ds' z => ?_) (fun ds ds' z => ?_) (fun ks ds z => ?_) (fun ks ds z => ?_) (fun c z => nx _ _ (z ▸ sx)) (fun c z => nx _ _ (z ▸ sy)) (fun k c z => nb _ _ _ (z ▸ sx)) (fun k c z => nb _ _ _ (z ▸ sy))
    · rw [z.1] at sx; unfold shal at sx; cases sx
    · rw [z.1] at sx; unfold shal at sx; cases sx
    · rw [z] at sx; exact nd _ _ _ sx
    · rw [z] at sy; exact nd _ _ _ sy
  | succ n ih =>
    intro A hu x y v u a b sx sy rx ry qa qb
    have ih' : ∀ (x y : D) (v u : V) (a b : Value), shal n x = true → shal n y = true → Rep X.K H x v → Rep X.K H y u → RelV v a → RelV u b → SeqAt.EqAt A.in1 s a b (eqD x y) :=
      fun x y v u a b s1 s2 r1 r2 q1 q2 => (ih A.in1 (by show A.units + 1 + n < cLine; omega) x y v u a b s1 s2 r1 r2 q1 q2).2.1
    by_cases t1 : ∃ ds ds', x = .tup ds ∧ y = .tup ds'
    · obtain ⟨xs, ys, rfl, rfl⟩ := t1
      obtain ⟨l, vs, is, rfl, rfl, h1, h2, h3, h4, h5⟩ := Rep.tup_get I rx qa
      obtain ⟨m, us, js, rfl, rfl, k1, k2, k3, k4, k5⟩ := Rep.tup_get I ry qb
      have hsx := sx
      have hsy := sy
      unfold shal at sx sy
      have each := items_eq (A := A) ih' sx sy h2 k2 h3 k3
      have eall : eqD (.tup xs) (.tup ys) = ((List.range (min is.toArray.size js.toArray.size)).all (fun j => eqD (xs.getD j .non) (ys.getD j .non)) && is.toArray.size == js.toArray.size) := by
        rw [eqD_tup]
        simp only [List.size_toArray, ← h5, ← k5]
        by_cases hl : xs.length = ys.length
        · rw [eqDs_range xs ys hl, ← hl, Nat.min_self, beq_self_eq_true, Bool.and_true]
        · rw [eqDs_len xs ys hl, beq_eq_false_iff_ne.mpr hl, Bool.and_false]
      refine ⟨?_, ?_, ?_⟩
      · rw [eall]; exact SeqAt.RcAt.tuples h4 k4 (by omega) each
      · by_cases hlm : l = m
        · subst hlm
          rw [Rep.inj I (n + 1) _ _ _ hsx hsy rx ry, eqD_refl (n + 1) _ hsy]
          exact SeqAt.EqAt.same _
        · refine SeqAt.EqAt.of_refs hlm ?_
          rw [eall]; exact SeqAt.RcAt.tuples h4 k4 (by omega) each
      · rw [eall]; exact SeqAt.RcNeAt.tuples h4 k4 (by omega) each
    · by_cases t2 : ∃ ds ds', x = .lst ds ∧ y = .lst ds'
      · obtain ⟨xs, ys, rfl, rfl⟩ := t2
        obtain ⟨l, vs, is, rfl, rfl, h1, h2, h3, h4, h5⟩ := Rep.lst_get I rx qa
        obtain ⟨m, us, js, rfl, rfl, k1, k2, k3, k4, k5⟩ := Rep.lst_get I ry qb
        have hsx := sx
        have hsy := sy
        unfold shal at sx sy
        have each := items_eq (A := A) ih' sx sy h2 k2 h3 k3
        by_cases hl : xs.length = ys.length
        · have hsz : is.toArray.size = js.toArray.size := by simp only [List.size_toArray]; omega
          have eall : eqD (.lst xs) (.lst ys) = (List.range is.toArray.size).all (fun j => eqD (xs.getD j .non) (ys.getD j .non)) := by
            rw [eqD_lst]
            simp only [List.size_toArray, ← h5]
            exact eqDs_range xs ys hl
          refine ⟨?_, ?_, ?_⟩
          · rw [eall]; exact SeqAt.RcAt.lists h4 k4 hsz (by omega) each
          · by_cases hlm : l = m
            · subst hlm
              rw [Rep.inj I (n + 1) _ _ _ hsx hsy rx ry, eqD_refl (n + 1) _ hsy]
              exact SeqAt.EqAt.same _
            · refine SeqAt.EqAt.of_refs hlm ?_
              rw [eall]; exact SeqAt.RcAt.lists h4 k4 hsz (by omega) each
          · rw [eall]; exact SeqAt.RcNeAt.lists h4 k4 hsz (by omega) each
        · have hsz : (is.toArray.size != js.toArray.size) = true := by simp only [List.size_toArray, bne_iff_ne, ne_eq]; omega
          have eall : eqD (.lst xs) (.lst ys) = false := by rw [eqD_lst]; exact eqDs_len xs ys hl
          rw [eall]
          refine ⟨SeqAt.RcAt.lists_lengths h4 k4 hsz (by omega), ?_, SeqAt.RcNeAt.lists_lengths h4 k4 hsz (by omega)⟩
          refine SeqAt.EqAt.of_refs (fun e => ?_) (SeqAt.RcAt.lists_lengths h4 k4 hsz (by omega))
          subst e
          have := Rep.inj I (n + 1) _ _ _ hsx hsy rx ry
          cases this
          exact hl rfl
      · exact rc_mixed I (by omega) rx ry qa qb (fun ds ds' z => t2 ⟨ds, ds', z⟩) (fun ds ds' z => t1 ⟨ds, ds', z⟩) (fun ks ds z => by rw [z] at sx; exact nd _ _ _ sx) (fun ks ds z => by rw [z] at sy; exact nd _ _ _ sy) (fun c z => nx _ _ (z ▸ sx)) (fun c z => nx _ _ (z ▸ sy)) (fun k c z => nb _ _ _ (z ▸ sx)) (fun k c z => nb _ _ _ (z ▸ sy))
end
section
variable {X : Cx} {E : XK}
def dEq (x y : D) : Res D := if shal 40 x = true ∧ shal 40 y = true then .ok (.bl (eqD x y)) else .stuck
def dNe (x y : D) : Res D := if shal 40 x = true ∧ shal 40 y = true then .ok (.bl (!(eqD x y))) else .stuck
def rEqD (K : PySem.W.Frag) : R2 := fun v u H Q => ∃ x y, Rep K H x v ∧ Rep K H y u ∧ shal 40 x = true ∧ shal 40 y = true ∧ Q (.bl (eqD x y)) H
def rNeD (K : PySem.W.Frag) : R2 := fun v u H Q => ∃ x y, Rep K H x v ∧ Rep K H y u ∧ shal 40 x = true ∧ shal 40 y = true ∧ Q (.bl (!(eqD x y))) H
theorem op_eqD (hu : X.A.units + 64 < cLine) : OpR X (compareOp .Eq) (rEqD X.K) := by
  intro pins s σ H x y v u Q I rx ry h
  obtain ⟨d, d', h1, h2, s1, s2, q⟩ := h
  exact (rc_D I 40 X.A (by omega) d d' x y v u s1 s2 h1 h2 rx ry).1 _ _ _ _ ⟨.bl _, H, I, rfl, q⟩
theorem op_neD (hu : X.A.units + 64 < cLine) : OpR X (compareOp .NotEq) (rNeD X.K) := by
  intro pins s σ H x y v u Q I rx ry h
  obtain ⟨d, d', h1, h2, s1, s2, q⟩ := h
  exact (rc_D I 40 X.A (by omega) d d' x y v u s1 s2 h1 h2 rx ry).2.2 _ _ _ _ ⟨.bl _, H, I, rfl, q⟩
theorem od_eq : OpD X.K E (rEqD X.K) dEq := by
  intro x y v u H H₀ Q hs r1 r2 q
  unfold dEq at q
  by_cases c : shal 40 x = true ∧ shal 40 y = true
  · rw [if_pos c] at q
    exact ⟨x, y, r1.mono hs, r2.mono hs, c.1, c.2, q _ H H₀ (Grow.refl hs) (Rep.bl_iff.mpr rfl)⟩
  · rw [if_neg c] at q; exact q.elim
theorem od_ne : OpD X.K E (rNeD X.K) dNe := by
  intro x y v u H H₀ Q hs r1 r2 q
  unfold dNe at q
  by_cases c : shal 40 x = true ∧ shal 40 y = true
  · rw [if_pos c] at q
    exact ⟨x, y, r1.mono hs, r2.mono hs, c.1, c.2, q _ H H₀ (Grow.refl hs) (Rep.bl_iff.mpr rfl)⟩
  · rw [if_neg c] at q; exact q.elim
open Classical in
noncomputable def eqOf (K : PySem.W.Frag) (H : Hp) (ds : List D) (x : D) (u : Value) : Bool :=
  if h : ∃ d, d ∈ ds ∧ ∃ v, Rep K H d v ∧ RelV v u then eqD h.choose x else false
theorem eqOf_of {pins : List (Addr × Obj)} {σ : L2.St} {H : Hp} {s : Shared} (I : Inv X pins σ H s) {ds : List D} {x d : D} {v : V} {u : Value} (sd : ds.all (shal 40) = true) (hd : d ∈ ds) (r : Rep X.K H d v) (q : RelV v u) : eqOf X.K H ds x u = eqD d x := by
  have h : ∃ d, d ∈ ds ∧ ∃ v, Rep X.K H d v ∧ RelV v u := ⟨d, hd, v, r, q⟩
  unfold eqOf
  rw [dif_pos h]
  obtain ⟨h1, v', h2, h3⟩ := h.choose_spec
  have e : v' = v := h3.inj q
  subst e
  rw [Rep.inj I 40 _ _ _ (List.all_eq_true.mp sd _ h1) (List.all_eq_true.mp sd _ hd) h2 r]
def rInD (K : PySem.W.Frag) (neg : Bool) : R2 := fun v u H Q => ∃ x ds, Rep K H x v ∧ (Rep K H (.lst ds) u ∨ Rep K H (.tup ds) u) ∧ shal 40 x = true ∧ ds.all (shal 40) = true ∧ Q (.bl (if neg then !(ds.any fun d => eqD d x) else ds.any fun d => eqD d x)) H
theorem any_eqOf {pins : List (Addr × Obj)} {σ : L2.St} {H : Hp} {s : Shared} (I : Inv X pins σ H s) {x : D} {es : List D} (se : es.all (shal 40) = true) : ∀ {ds : List D} {vs : List V} {us : List Value}, (∀ d ∈ ds, d ∈ es) → Reps X.K H ds vs → Vals vs us → us.any (eqOf X.K H es x) = ds.any fun d => eqD d x
  | [], _, _, _, h, q => by
    rw [Reps.nil_iff.mp h] at q
    cases q
    rfl
  | d :: ds, _, _, hm, h, q => by
    obtain ⟨v, r, rfl, h1, h2⟩ := Reps.cons_iff.mp h
    cases q with
    | cons q1 q2 =>
      rw [List.any_cons, List.any_cons, eqOf_of I se (hm d List.mem_cons_self) h1 q1, any_eqOf I se (fun x hx => hm x (List.mem_cons_of_mem _ hx)) h2 q2]
theorem each_eqOf {pins : List (Addr × Obj)} {σ : L2.St} {H : Hp} {s : Shared} (I : Inv X pins σ H s) (hu : X.A.units + 64 < cLine) {x : D} {v : V} {u : Value} (sx : shal 40 x = true) (rx : Rep X.K H x v) (qx : RelV v u) {es : List D} (se : es.all (shal 40) = true) : ∀ {ds : List D} {vs : List V} {us : List Value}, (∀ d ∈ ds, d ∈ es) → Reps X.K H ds vs → Vals vs us → ∀ y ∈ us, SeqAt.EqAt X.A.in1 s y u (eqOf X.K H es x y)
  | [], _, _, _, h, q => fun y hy => by
    rw [Reps.nil_iff.mp h] at q
    cases q
    cases hy
  | d :: ds, _, _, hm, h, q => fun y hy => by
    obtain ⟨w, r, rfl, h1, h2⟩ := Reps.cons_iff.mp h
    cases q with
    | cons q1 q2 =>
      rcases List.mem_cons.mp hy with rfl | hy
      · rw [eqOf_of I se (hm d List.mem_cons_self) h1 q1]
        exact (rc_D I 40 X.A.in1 (by show X.A.units + 1 + 40 < cLine; omega) d x w v _ u (List.all_eq_true.mp se _ (hm d List.mem_cons_self)) sx h1 rx q1 qx).2.1
      · exact each_eqOf I hu sx rx qx se (fun x hx => hm x (List.mem_cons_of_mem _ hx)) h2 q2 y hy
theorem op_inD (hu : X.A.units + 64 < cLine) : OpR X (compareOp .In) (rInD X.K false) := by
  intro pins s σ H x y v u Q I rx ry h
  obtain ⟨d, ds, h1, h2, s1, s2, q⟩ := h
  rcases h2 with h2 | h2
  · obtain ⟨a, vs, its, rfl, rfl, k1, k2, k3, k4, k5⟩ := Rep.lst_get I h2 ry
    refine SeqAt.in_listAt (eqOf X.K H ds d) k4 (fun w hw => each_eqOf I hu s1 h1 rx s2 (fun _ z => z) k2 k3 w (by simpa using hw)) ⟨.bl _, H, I, rfl, ?_⟩
    rw [show its.toArray.any (eqOf X.K H ds d) = its.any (eqOf X.K H ds d) by simp, any_eqOf I s2 (fun _ z => z) k2 k3]
    exact q
  · obtain ⟨a, vs, its, rfl, rfl, k1, k2, k3, k4, k5⟩ := Rep.tup_get I h2 ry
    refine SeqAt.in_tupleAt (eqOf X.K H ds d) k4 (fun w hw => each_eqOf I hu s1 h1 rx s2 (fun _ z => z) k2 k3 w (by simpa using hw)) ⟨.bl _, H, I, rfl, ?_⟩
    rw [show its.toArray.any (eqOf X.K H ds d) = its.any (eqOf X.K H ds d) by simp, any_eqOf I s2 (fun _ z => z) k2 k3]
    exact q
theorem op_notInD (hu : X.A.units + 64 < cLine) : OpR X (compareOp .NotIn) (rInD X.K true) := by
  intro pins s σ H x y v u Q I rx ry h
  obtain ⟨d, ds, h1, h2, s1, s2, q⟩ := h
  rcases h2 with h2 | h2
  · obtain ⟨a, vs, its, rfl, rfl, k1, k2, k3, k4, k5⟩ := Rep.lst_get I h2 ry
    refine SeqAt.notIn_listAt (eqOf X.K H ds d) k4 (fun w hw => each_eqOf I hu s1 h1 rx s2 (fun _ z => z) k2 k3 w (by simpa using hw)) ⟨.bl _, H, I, rfl, ?_⟩
    rw [show its.toArray.any (eqOf X.K H ds d) = its.any (eqOf X.K H ds d) by simp, any_eqOf I s2 (fun _ z => z) k2 k3]
    exact q
  · obtain ⟨a, vs, its, rfl, rfl, k1, k2, k3, k4, k5⟩ := Rep.tup_get I h2 ry
    refine SeqAt.notIn_tupleAt (eqOf X.K H ds d) k4 (fun w hw => each_eqOf I hu s1 h1 rx s2 (fun _ z => z) k2 k3 w (by simpa using hw)) ⟨.bl _, H, I, rfl, ?_⟩
    rw [show its.toArray.any (eqOf X.K H ds d) = its.any (eqOf X.K H ds d) by simp, any_eqOf I s2 (fun _ z => z) k2 k3]
    exact q
def occ (i j : Str) : Bool := !(Builtin.Str.occurrences j i 0 j.length 1).isEmpty
def inD (x y : D) : Option Bool := match y with
  | .lst ds => if shal 40 x = true ∧ ds.all (shal 40) = true then some (ds.any fun d => eqD d x) else none
  | .tup ds => if shal 40 x = true ∧ ds.all (shal 40) = true then some (ds.any fun d => eqD d x) else none
  | .str j => match x with
    | .str i => some (occ i j)
    | _ => none
  | _ => none
def dIn (x y : D) : Res D := match inD x y with
  | some b => .ok (.bl b)
  | none => .stuck
def dNotIn (x y : D) : Res D := match inD x y with
  | some b => .ok (.bl (!b))
  | none => .stuck
def rInS (neg : Bool) : R2 := fun x y H Q => ∃ i j, x = .str i ∧ y = .str j ∧ Q (.bl (if neg then !(occ i j) else occ i j)) H
theorem op_in (hu : X.A.units + 64 < cLine) : OpR X (compareOp .In) (fun v u H Q => rInD X.K false v u H Q ∨ rInS false v u H Q) := OpR.or (op_inD hu) (by
  intro pins s σ H x y v u Q I rx ry h
  obtain ⟨i, j, rfl, rfl, q⟩ := h
  exact op_in_str pins s σ H _ _ v u Q I rx ry ⟨i, j, rfl, rfl, q⟩)
theorem op_notIn (hu : X.A.units + 64 < cLine) : OpR X (compareOp .NotIn) (fun v u H Q => rInD X.K true v u H Q ∨ rInS true v u H Q) := OpR.or (op_notInD hu) (by
  intro pins s σ H x y v u Q I rx ry h
  obtain ⟨i, j, rfl, rfl, q⟩ := h
  exact op_notIn_str pins s σ H _ _ v u Q I rx ry ⟨i, j, rfl, rfl, q⟩)
theorem od_inAny {neg : Bool} {x y : D} {v u : V} {H H₀ : Hp} {Q : VK} (hs : Same H₀ H) (r1 : Rep X.K H₀ x v) (r2 : Rep X.K H₀ y u)
    (q : post X.K E H H₀ (match inD x y with | some b => .ok (.bl (if neg then !b else b)) | none => .stuck) Q) : rInD X.K neg v u H Q ∨ rInS neg v u H Q := by
  cases y with
  | lst ds =>
    simp only [inD] at q
    by_cases c : shal 40 x = true ∧ ds.all (shal 40) = true
    · rw [if_pos c] at q
      exact .inl ⟨x, ds, r1.mono hs, .inl (r2.mono hs), c.1, c.2, q _ H H₀ (Grow.refl hs) (Rep.bl_iff.mpr rfl)⟩
    · rw [if_neg c] at q; exact q.elim
  | tup ds =>
    simp only [inD] at q
    by_cases c : shal 40 x = true ∧ ds.all (shal 40) = true
    · rw [if_pos c] at q
      exact .inl ⟨x, ds, r1.mono hs, .inr (r2.mono hs), c.1, c.2, q _ H H₀ (Grow.refl hs) (Rep.bl_iff.mpr rfl)⟩
    · rw [if_neg c] at q; exact q.elim
  | str j =>
    cases x with
    | str i => exact .inr ⟨i, j, Rep.str_iff.mp r1, Rep.str_iff.mp r2, q _ H H₀ (Grow.refl hs) (Rep.bl_iff.mpr rfl)⟩
    | _ => exact q.elim
  | _ => exact q.elim
theorem od_in : OpD X.K E (fun v u H Q => rInD X.K false v u H Q ∨ rInS false v u H Q) dIn := fun x y v u H H₀ Q hs r1 r2 q => od_inAny (neg := false) (E := E) hs r1 r2 (by
  unfold dIn at q
  cases e : inD x y with
  | none => rw [e] at q; exact q
  | some b => rw [e] at q; exact q)
theorem od_notIn : OpD X.K E (fun v u H Q => rInD X.K true v u H Q ∨ rInS true v u H Q) dNotIn := fun x y v u H H₀ Q hs r1 r2 q => od_inAny (neg := true) (E := E) hs r1 r2 (by
  unfold dNotIn at q
  cases e : inD x y with
  | none => rw [e] at q; exact q
  | some b => rw [e] at q; exact q)
end
end DL
set_option Elab.async false
set_option linter.all false
set_option maxRecDepth 100000
namespace DL
open PySem PySem.Spec PyProof.Rows L2
@[irreducible] def B9 : Nat := 2 ^ 9000
@[irreducible] def B13 : Nat := 2 ^ 13500
@[irreducible] def B60 : Nat := 2 ^ 60000
theorem B9_eq : B9 = 2 ^ 9000 := by unfold B9; rfl
theorem B13_eq : B13 = 2 ^ 13500 := by unfold B13; rfl
theorem B60_eq : B60 = 2 ^ 60000 := by unfold B60; rfl
theorem log2_lt_of {n k : Nat} (h : n < 2 ^ k) (hk : 0 < k) : n.log2 < k := by
  by_cases h0 : n = 0
  · rw [h0]
    have : Nat.log2 0 = 0 := by decide
    omega
  · exact (Nat.log2_lt h0).mpr h
theorem noPy9 {x y : Int} (h : y.natAbs < B9) : Builtin.divisionGoesByPylong x y = false := by
  rw [B9_eq] at h
  exact PyProof.noPylong_of_log2 (log2_lt_of h (by omega))
theorem noPy13 {x y : Int} (h : x.natAbs < B13) : Builtin.divisionGoesByPylong x y = false := by
  rw [B13_eq] at h
  have hx : x.natAbs.log2 < 13500 := log2_lt_of h (by omega)
  show (decide ((if y == 0 then 0 else y.natAbs.log2 / 30 + 1) > 300) && decide ((if x == 0 then 0 else x.natAbs.log2 / 30 + 1) > (if y == 0 then 0 else y.natAbs.log2 / 30 + 1) + 150)) = false
  have k : (if x == 0 then 0 else x.natAbs.log2 / 30 + 1) ≤ 450 := by
    by_cases hx0 : (x == 0) = true
    · rw [if_pos hx0]; omega
    · rw [if_neg hx0]; omega
  by_cases c : (if y == 0 then 0 else y.natAbs.log2 / 30 + 1) > 300
  · rw [Bool.and_eq_false_iff]; right; exact decide_eq_false (by omega)
  · rw [Bool.and_eq_false_iff]; left; exact decide_eq_false c
def divOk (i j : Int) : Bool := decide (j ≠ 0) && (decide (j.natAbs < B9) || decide (i.natAbs < B13))
def mulOk (i j : Int) : Bool := decide (i.natAbs < B60) && decide (j.natAbs < B60)
theorem divOk.ok {i j : Int} (h : divOk i j = true) : j ≠ 0 ∧ Builtin.divisionGoesByPylong i j = false := by
  unfold divOk at h
  rw [Bool.and_eq_true, Bool.or_eq_true] at h
  refine ⟨of_decide_eq_true h.1, ?_⟩
  rcases h.2 with h | h
  · exact noPy9 (of_decide_eq_true h)
  · exact noPy13 (of_decide_eq_true h)
theorem mulOk.ok {i j : Int} (h : mulOk i j = true) : IntMulOk i j := by
  unfold mulOk at h
  rw [Bool.and_eq_true] at h
  have h1 := of_decide_eq_true h.1
  have h2 := of_decide_eq_true h.2
  rw [B60_eq] at h1 h2
  exact PyProof.Rows.mulOk_of_bits (m := 60000) (n := 60000) (PySem.intBits_le_iff.mpr h1) (PySem.intBits_le_iff.mpr h2) (by decide)
section
variable {X : Cx} {E : XK} {e a b c : Expr} {es : List Expr} {f g k : Ev → Res D} {fa : Ev → Res (List D)} {pos : Pos}
theorem done_at {K : PySem.W.Frag} {H H₀ : Hp} {d : D} {v : V} {Q : VK} (hs : Same H₀ H) (q : post K E H H₀ (.ok d) Q) (r : Rep K H₀ d v) : Q v H := q v H H₀ (Grow.refl hs) r
def iop (c : Int → Int → Bool) (g : Int → Int → D) (x y : D) : Res D := match x, y with
  | .int i, .int j => if c i j = true then .ok (g i j) else .stuck
  | _, _ => .stuck
theorem od_iop {C : Int → Int → Prop} {c : Int → Int → Bool} {gv : Int → Int → V} {g : Int → Int → D} (hc : ∀ i j, c i j = true → C i j) (hg : ∀ K H i j, Rep K H (g i j) (gv i j)) : OpD X.K E (rI C gv) (iop c g) := by
  intro x y v u H H₀ Q hs r1 r2 q
  unfold iop at q
  cases x with
  | int i =>
    cases y with
    | int j =>
      by_cases h : c i j = true
      · simp only [if_pos h] at q
        exact ⟨i, j, Rep.int_iff.mp r1, Rep.int_iff.mp r2, hc i j h, done_at hs q (hg _ _ i j)⟩
      · simp only [if_neg h] at q; exact q.elim
    | _ => exact q.elim
  | _ => exact q.elim
theorem od_iop0 {gv : Int → Int → V} {g : Int → Int → D} (hg : ∀ K H i j, Rep K H (g i j) (gv i j)) : OpD X.K E (rI0 gv) (iop (fun _ _ => true) g) := by
  intro x y v u H H₀ Q hs r1 r2 q
  unfold iop at q
  cases x with
  | int i =>
    cases y with
    | int j => simp only [if_pos] at q; exact ⟨i, j, Rep.int_iff.mp r1, Rep.int_iff.mp r2, done_at hs q (hg _ _ i j)⟩
    | _ => exact q.elim
  | _ => exact q.elim
theorem ri {K : PySem.W.Frag} {H : Hp} (n : Int) : Rep K H (.int n) (.int n) := Rep.int_iff.mpr rfl
theorem rb {K : PySem.W.Frag} {H : Hp} (n : Bool) : Rep K H (.bl n) (.bl n) := Rep.bl_iff.mpr rfl
abbrev dSub := iop (fun _ _ => true) fun i j => .int (i - j)
abbrev dDiv := iop divOk fun i j => .int (i.fdiv j)
abbrev dMod := iop (fun _ j => decide (j ≠ 0)) fun i j => .int (i.fmod j)
abbrev dPow := iop (fun i j => decide (0 ≤ j) && decide (j ≤ 1000000) && decide (i.natAbs < 18446744073709551616)) fun i j => .int (i ^ j.toNat)
abbrev dLt := iop (fun _ _ => true) fun i j => .bl (decide (i < j))
abbrev dLe := iop (fun _ _ => true) fun i j => .bl (decide (i ≤ j))
abbrev dGt := iop (fun _ _ => true) fun i j => .bl (decide (j < i))
abbrev dGe := iop (fun _ _ => true) fun i j => .bl (decide (j ≤ i))
theorem op_mulB : OpR X (binaryOp .Mult) (rI IntMulOk fun i j => .int (i * j)) := opI fun _ _ _ _ _ _ _ hc q => mul_int q hc
theorem op_divB : OpR X (binaryOp .FloorDiv) (rI (fun i j => j ≠ 0 ∧ Builtin.divisionGoesByPylong i j = false) fun i j => .int (i.fdiv j)) := opI fun _ _ _ _ _ _ _ hc q => floordiv_int hc.1 q (.inl hc.2)
theorem de_sub (ha : DE X E a f) (hb : DE X E b g) : DE X E (.BinOp a .Sub b pos) (bind2 f g dSub) := de_op op_sub (od_iop0 fun _ _ _ _ => ri _) ha hb
theorem de_div (ha : DE X E a f) (hb : DE X E b g) : DE X E (.BinOp a .FloorDiv b pos) (bind2 f g dDiv) := de_op op_divB (od_iop (fun _ _ h => divOk.ok h) fun _ _ _ _ => ri _) ha hb
theorem de_mod (ha : DE X E a f) (hb : DE X E b g) : DE X E (.BinOp a .Mod b pos) (bind2 f g dMod) := de_op op_modN (od_iop (fun _ _ h => of_decide_eq_true h) fun _ _ _ _ => ri _) ha hb
theorem de_pow (ha : DE X E a f) (hb : DE X E b g) : DE X E (.BinOp a .Pow b pos) (bind2 f g dPow) := de_op op_pow (od_iop (fun i j h => by
  rw [Bool.and_eq_true, Bool.and_eq_true] at h
  exact ⟨of_decide_eq_true h.1.1, of_decide_eq_true h.1.2, of_decide_eq_true h.2⟩) fun _ _ _ _ => ri _) ha hb
theorem nm {op : CmpOp} {b : Expr} (h1 : op ≠ .In := by decide) (h2 : op ≠ .NotIn := by decide) : behindInMarks op b = false := nobehind _ h1 h2
def dNeg (x : D) : Res D := match x with
  | .int i => .ok (.int (-i))
  | _ => .stuck
theorem de_neg (ha : DE X E a f) : DE X E (.UnaryOp .USub a pos) (bind1 f dNeg) := de_un un_neg (by
  intro x v H H₀ Q hs r q
  cases x with
  | int i => exact ⟨i, Rep.int_iff.mp r, done_at hs q (ri _)⟩
  | _ => exact q.elim) ha
theorem op_catL : OpR X (binaryOp .Add) (fun x y H Q => ∃ l b xs zs, x = .ref l ∧ y = .ref b ∧ SqL X.K H l xs ∧ SqL X.K H b zs ∧ xs.length + zs.length ≤ sizeLine ∧ ∀ p, H p = none → Q (.ref p) (upd H p (.lst (xs ++ zs)))) := by
  intro pins s σ H x y v u Q I rx ry h
  obtain ⟨l, b, xs, zs, rfl, rfl, hH, hB, hz, q⟩ := h
  cases rx
  cases ry
  obtain ⟨its, r, pl, z⟩ := I.list hH
  obtain ⟨its2, r2, pl2, z2⟩ := I.list hB
  obtain ⟨⟨cls, dd, data, sl⟩, ho, hc, n, hd⟩ := pl.isList
  obtain ⟨⟨cls2, dd2, data2, sl2⟩, ho2, hc2, n2, hd2⟩ := pl2.isList
  simp only at hc hd hc2 hd2
  subst hc hd hc2 hd2
  have e : its.toArray ++ its2.toArray = (its ++ its2).toArray := by simp
  have l1 := r.length
  have l2 := r2.length
  refine concat_meets ⟨_, ho, rfl⟩ ⟨_, ho2, rfl⟩ noFill_list_add seq_list_add PySem.F.slot_list_add PySem.F.entry_list_add (PySem.F.args_list_add_2 _ _) (list_addW l b its.toArray its2.toArray n n2 dd dd2 sl sl2 (by simp only [List.size_toArray]; omega)) ⟨ho, ho2, ?_⟩
  rw [e]
  exact ⟨.ref _, _, I.lnew (t' := s.toks) (r.append r2) (by rw [List.length_append]; omega), rfl, q _ I.fresh⟩
def dAdd (x y : D) : Res D := match x, y with
  | .int i, .int j => .ok (.int (i + j))
  | .str i, .str j => if i.length + j.length ≤ line then .ok (.str (i ++ j)) else .stuck
  | .lst ds, .lst es => if ds.length + es.length ≤ line then .ok (.lst (ds ++ es)) else .stuck
  | .tup ds, .tup es => if ds.isEmpty = false ∧ ds.length + es.length ≤ line then .ok (.tup (ds ++ es)) else .stuck
  | _, _ => .stuck
theorem de_add (ha : DE X E a f) (hb : DE X E b g) : DE X E (.BinOp a .Add b pos) (bind2 f g dAdd) := de_op (OpR.or op_add (OpR.or op_add_str (OpR.or op_catL op_catT))) (by
  intro x y v u H H₀ Q hs r1 r2 q
  unfold dAdd at q
  cases x with
  | int i =>
    cases y with
    | int j => exact .inl ⟨i, j, Rep.int_iff.mp r1, Rep.int_iff.mp r2, done_at hs q (ri _)⟩
    | _ => exact q.elim
  | str i =>
    cases y with
    | str j =>
      by_cases h : i.length + j.length ≤ line
      · simp only [if_pos h] at q
        exact .inr (.inl ⟨i, j, Rep.str_iff.mp r1, Rep.str_iff.mp r2, line_le h, done_at hs q (Rep.str_iff.mpr rfl)⟩)
      · simp only [if_neg h] at q; exact q.elim
    | _ => exact q.elim
  | lst ds =>
    cases y with
    | lst es =>
      by_cases h : ds.length + es.length ≤ line
      · simp only [if_pos h] at q
        obtain ⟨l, vs, rfl, h1, h2⟩ := Rep.lst_iff.mp r1
        obtain ⟨m, us, rfl, k1, k2⟩ := Rep.lst_iff.mp r2
        refine .inr (.inr (.inl ⟨l, m, vs, us, rfl, rfl, Same.sqL hs h1, Same.sqL hs k1, by rw [← h2.length, ← k2.length]; exact line_le h, fun p hp => ?_⟩))
        exact q _ _ _ (Grow.alloc hs hp) (Rep.lst_iff.mpr ⟨p, _, rfl, SqL.of upd_same, (h2.app k2).mono (Grow.alloc hs hp).z⟩)
      · simp only [if_neg h] at q; exact q.elim
    | _ => exact q.elim
  | tup ds =>
    cases y with
    | tup es =>
      by_cases h : ds.isEmpty = false ∧ ds.length + es.length ≤ line
      · simp only [if_pos h] at q
        obtain ⟨l, vs, rfl, h1, h2⟩ := Rep.tup_iff.mp r1
        obtain ⟨m, us, rfl, k1, k2⟩ := Rep.tup_iff.mp r2
        refine .inr (.inr (.inr ⟨l, m, vs, us, rfl, rfl, Same.sqT hs h1, Same.sqT hs k1, fun z => ?_, by rw [← h2.length, ← k2.length]; exact line_le h.2, fun z => ?_, fun z p hp => ?_⟩))
        · have := h2.length
          rw [z] at this
          have e : ds = [] := List.length_eq_zero_iff.mp this
          rw [e] at h; exact absurd h.1 (by decide)
        · have := k2.length
          rw [z] at this
          have e : es = [] := List.length_eq_zero_iff.mp this
          rw [e, List.append_nil] at q
          exact done_at hs q r1
        · exact q _ _ _ (Grow.alloc hs hp) (Rep.tup_iff.mpr ⟨p, _, rfl, SqT.of upd_same, (h2.app k2).mono (Grow.alloc hs hp).z⟩)
      · simp only [if_neg h] at q; exact q.elim
    | _ => exact q.elim
  | _ => exact q.elim) ha hb
def dIx (x y : D) : Res D := match y with
  | .int i => match x with
    | .lst ds => match atI ds i with
      | some d => .ok d
      | none => .stuck
    | .tup ds => match atI ds i with
      | some d => .ok d
      | none => .stuck
    | .str z => if z.length ≤ line then match atI z.cps.toList i with
      | some c => .ok (.str ⟨#[c]⟩)
      | none => .stuck else .stuck
    | _ => .stuck
  | _ => .stuck
theorem Reps.atI {K : PySem.W.Frag} {H : Hp} {ds : List D} {vs : List V} {i : Int} {d : D} (h : Reps K H ds vs) (e : atI ds i = some d) : ∃ v, L2.atI vs i = some v ∧ Rep K H d v := by
  unfold L2.atI at e ⊢
  rw [← h.length]
  cases q : ixN ds.length i with
  | none => rw [q] at e; cases e
  | some j =>
    rw [q] at e
    exact h.get e
theorem od_ix : OpD X.K E (rIx X.K) dIx := by
  intro x y v u H H₀ Q hs r1 r2 q
  unfold dIx at q
  cases y with
  | int i =>
    cases x with
    | lst ds =>
      obtain ⟨l, vs, rfl, h1, h2⟩ := Rep.lst_iff.mp r1
      cases e : atI ds i with
      | none => simp only [e] at q; exact q.elim
      | some d =>
        simp only [e] at q
        obtain ⟨w, e1, e2⟩ := h2.atI e
        exact .inl ⟨l, vs, i, w, rfl, Rep.int_iff.mp r2, Same.sqL hs h1, e1, done_at hs q e2⟩
    | tup ds =>
      obtain ⟨l, vs, rfl, h1, h2⟩ := Rep.tup_iff.mp r1
      cases e : atI ds i with
      | none => simp only [e] at q; exact q.elim
      | some d =>
        simp only [e] at q
        obtain ⟨w, e1, e2⟩ := h2.atI e
        exact .inr (.inl ⟨l, vs, i, w, rfl, Rep.int_iff.mp r2, Same.sqT hs h1, e1, done_at hs q e2⟩)
    | str z =>
      by_cases hz : z.length ≤ line
      · simp only [if_pos hz] at q
        cases e : atI z.cps.toList i with
        | none => simp only [e] at q; exact q.elim
        | some c =>
          simp only [e] at q
          exact .inr (.inr ⟨z, i, c, Rep.str_iff.mp r1, Rep.int_iff.mp r2, line_le hz, e, done_at hs q (Rep.str_iff.mpr rfl)⟩)
      · simp only [if_neg hz] at q; exact q.elim
    | _ => exact q.elim
  | _ => exact q.elim
theorem de_item (ha : DE X E a f) (hb : DE X E b g) (hs : PlainIx b := by intro _ _; rfl) : DE X E (.Subscript a b pos) (bind2 f g dIx) := de_ix ix_seq od_ix ha hb hs
def oNone : Ev → Res (Option Int) := fun _ => .ok none
def oSome (f : Ev → Res D) : Ev → Res (Option Int) := fun ρ => (f ρ).bind fun x => match x with
  | .int i => .ok (some i)
  | _ => .stuck
def tDO (K : PySem.W.Frag) (E : XK) (f : Ev → Res (Option Int)) : TO := fun σ H Q => ∃ H₀ ρ, Same H₀ H ∧ Reads K H₀ σ ρ ∧ match f ρ with
  | .ok o => ∀ H' H₀', Grow H H₀ H' H₀' → Q o H'
  | .exn x => ∀ C ox H' H₀', Grow H H₀ H' H₀' → ExR K H₀' x C ox → E C ox H'
  | .stuck => False
structure DO (X : Cx) (E : XK) (e : Option Expr) (f : Ev → Res (Option Int)) : Prop where
  o : PO X e (tDO X.K E f)
theorem po_weak {eo : Option Expr} {t t' : TO} (h : PO X eo t) (w : ∀ σ H Q, t' σ H Q → t σ H Q) : PO X eo t' := fun pins s σ H Q I q => h pins s σ H Q I (w σ H Q q)
theorem do_none : DO X E none oNone := ⟨po_weak po_none fun σ H Q ⟨H₀, ρ, hs, hr, q⟩ => q H H₀ (Grow.refl hs)⟩
theorem do_some (ha : DE X E a f) : DO X E (some a) (oSome f) := by
  refine ⟨?_⟩
  refine po_weak (po_some ha.o) fun σ H Q ⟨H₀, ρ, hs, hr, q⟩ => ⟨H₀, ρ, hs, hr, ?_⟩
  unfold oSome at q
  cases e1 : f ρ with
  | stuck => rw [e1] at q; exact q
  | exn x => rw [e1] at q; exact q
  | ok d =>
    rw [e1] at q
    intro v H1 H01 g1 r1
    cases d with
    | int i => exact ⟨i, Rep.int_iff.mp r1, q H1 H01 g1⟩
    | _ => exact q.elim
def cutD (xs : List D) (lo hi : Option Int) : List D := (xs.drop (HT.sIx xs.length 0 lo)).take (HT.sIx xs.length xs.length hi - HT.sIx xs.length 0 lo)
theorem Reps.cut {K : PySem.W.Frag} {H : Hp} {ds : List D} {vs : List V} (h : Reps K H ds vs) (lo hi : Option Int) : Reps K H (cutD ds lo hi) (cutV vs lo hi) := by
  unfold cutD cutV
  rw [← h.length]
  exact (h.drop _).take _
theorem slice_steps {r : V → Option Int → Option Int → Hp → VK → Prop} {lo hi : Ev → Res (Option Int)} {m : D → Option Int → Option Int → Res D}
    (ho : ∀ x v l h H H₀ Q, Same H₀ H → Rep X.K H₀ x v → post X.K E H H₀ (m x l h) Q → r v l h H Q) (σ : L2.St) (H : Hp) (Q : VK)
    (h : tD X.K E (fun ρ => (f ρ).bind fun x => (lo ρ).bind fun l => (hi ρ).bind fun h => m x l h) σ H Q) : tSl r (tD X.K E f) (tDO X.K E lo) (tDO X.K E hi) σ H Q := by
  obtain ⟨H₀, ρ, hs, hr, q⟩ := h
  refine ⟨H₀, ρ, hs, hr, ?_⟩
  replace q : post X.K E H H₀ ((f ρ).bind fun x => (lo ρ).bind fun l => (hi ρ).bind fun h => m x l h) Q := q
  cases e1 : f ρ with
  | stuck => rw [e1] at q; exact q
  | exn x => rw [e1] at q; exact q
  | ok x =>
    rw [e1] at q
    intro v H1 H01 g1 r1
    refine ⟨H01, ρ, g1.sub, hr.mono g1.z, ?_⟩
    replace q : post X.K E H H₀ ((lo ρ).bind fun l => (hi ρ).bind fun h => m x l h) Q := q
    replace q := q.grow g1
    cases e2 : lo ρ with
    | stuck => rw [e2] at q; exact q
    | exn x => rw [e2] at q; exact q
    | ok l =>
      rw [e2] at q
      intro H2 H02 g2
      refine ⟨H02, ρ, g2.sub, (hr.mono g1.z).mono g2.z, ?_⟩
      replace q : post X.K E H1 H01 ((hi ρ).bind fun h => m x l h) Q := q
      replace q := q.grow g2
      cases e3 : hi ρ with
      | stuck => rw [e3] at q; exact q
      | exn x => rw [e3] at q; exact q
      | ok h =>
        rw [e3] at q
        intro H3 H03 g3
        exact ho x v l h H3 H03 Q g3.sub ((r1.mono g2.z).mono g3.z) (post.grow (r := m x l h) q g3)
def m1 (m : D → Res D) (ds : List D) : Res D := match ds with
  | [x] => m x
  | _ => .stuck
def m2 (m : D → D → Res D) (ds : List D) : Res D := match ds with
  | [x, y] => m x y
  | _ => .stuck
theorem call1 {r : List V → Hp → VK → Prop} {m : D → Res D} (h : ∀ x v H H₀ Q, Same H₀ H → Rep X.K H₀ x v → post X.K E H H₀ (m x) Q → r [v] H Q) : CallD X E r (m1 m) := by
  intro ds vs H H₀ Q hs hr q
  unfold m1 at q
  match ds, hr, q with
  | [x], hr, q =>
    obtain ⟨v, r', rfl, h1, h2⟩ := Reps.cons_iff.mp hr
    rw [Reps.nil_iff.mp h2]
    exact h x v H H₀ Q hs h1 q
  | [], _, q => exact q.elim
  | _ :: _ :: _, _, q => exact q.elim
theorem call2 {r : List V → Hp → VK → Prop} {m : D → D → Res D} (h : ∀ x y v u H H₀ Q, Same H₀ H → Rep X.K H₀ x v → Rep X.K H₀ y u → post X.K E H H₀ (m x y) Q → r [v, u] H Q) : CallD X E r (m2 m) := by
  intro ds vs H H₀ Q hs hr q
  unfold m2 at q
  match ds, hr, q with
  | [x, y], hr, q =>
    obtain ⟨v, r', rfl, h1, h2⟩ := Reps.cons_iff.mp hr
    obtain ⟨u, r'', rfl, h3, h4⟩ := Reps.cons_iff.mp h2
    rw [Reps.nil_iff.mp h4]
    exact h x y v u H H₀ Q hs h1 h3 q
  | [], _, q => exact q.elim
  | [_], _, q => exact q.elim
  | _ :: _ :: _ :: _, _, q => exact q.elim
def dAbs (x : D) : Res D := match x with
  | .int i => .ok (.int (if i < 0 then -i else i))
  | _ => .stuck
def dMax (x y : D) : Res D := match x, y with
  | .int i, .int j => .ok (.int (if j > i then j else i))
  | _, _ => .stuck
def dLen (x : D) : Res D := match x with
  | .lst ds => .ok (.int ds.length)
  | .tup ds => .ok (.int ds.length)
  | .str z => if z.length ≤ line then .ok (.int z.length) else .stuck
  | _ => .stuck
def dIntOf (x : D) : Res D := match x with
  | .int i => .ok (.int i)
  | .bl b => .ok (.int (if b then 1 else 0))
  | _ => .stuck
def dList (x : D) : Res D := match x with
  | .lst ds => .ok (.lst ds)
  | .tup ds => .ok (.lst ds)
  | _ => .stuck
theorem cd_abs : CallD X E (fun xs H Q => ∃ i, xs = [.int i] ∧ Q (.int (if i < 0 then -i else i)) H) (m1 dAbs) := call1 fun x v H H₀ Q hs r q => by
  cases x with
  | int i => exact ⟨i, by rw [Rep.int_iff.mp r], done_at hs q (ri _)⟩
  | _ => exact q.elim
theorem cd_len : CallD X E (fun xs H Q => ∃ x n, xs = [x] ∧ LenV X.K x H n ∧ Q (.int n) H) (m1 dLen) := call1 fun x v H H₀ Q hs r q => by
  cases x with
  | lst ds =>
    obtain ⟨p, vs, rfl, h1, h2⟩ := Rep.lst_iff.mp r
    refine ⟨_, vs.length, rfl, .inl ⟨vs, Same.sqL hs h1, rfl⟩, ?_⟩
    rw [← h2.length]; exact done_at hs q (ri _)
  | tup ds =>
    obtain ⟨p, vs, rfl, h1, h2⟩ := Rep.tup_iff.mp r
    refine ⟨_, vs.length, rfl, .inr ⟨vs, Same.sqT hs h1, rfl⟩, ?_⟩
    rw [← h2.length]; exact done_at hs q (ri _)
  | str z =>
    unfold dLen at q
    by_cases hz : z.length ≤ line
    · simp only [if_pos hz] at q
      rw [Rep.str_iff.mp r]
      exact ⟨_, z.length, rfl, ⟨line_le hz, rfl⟩, done_at hs q (ri _)⟩
    · simp only [if_neg hz] at q; exact q.elim
  | _ => exact q.elim
def isNon : D → Bool
  | .non => true
  | _ => false
def dIsN (x y : D) : Res D := match y with
  | .non => .ok (.bl (isNon x))
  | _ => .stuck
def dNotN (x y : D) : Res D := match y with
  | .non => .ok (.bl (!(isNon x)))
  | _ => .stuck
theorem Rep.is_non {K : PySem.W.Frag} {H : Hp} {x : D} {v : V} (r : Rep K H x v) : decide (v = .non) = isNon x := by
  cases x with
  | non => rw [Rep.non_iff.mp r]; rfl
  | bl b => rw [Rep.bl_iff.mp r]; rfl
  | int b => rw [Rep.int_iff.mp r]; rfl
  | str b => rw [Rep.str_iff.mp r]; rfl
  | tup ds => obtain ⟨_, _, e, _⟩ := Rep.tup_iff.mp r; rw [e]; rfl
  | lst ds => obtain ⟨_, _, e, _⟩ := Rep.lst_iff.mp r; rw [e]; rfl
  | dic ks ds => rw [Rep] at r; obtain ⟨_, _, _, e, _⟩ := r; rw [e]; rfl
  | exc x => obtain ⟨_, _, e, _⟩ := Rep.exc_iff.mp r; rw [e]; rfl
  | ob k x => obtain ⟨_, _, e, _⟩ := Rep.ob_iff.mp r; rw [e]; rfl
theorem od_isN : OpD X.K E (fun x y H Q => y = .non ∧ Q (.bl (decide (x = .non))) H) dIsN := by
  intro x y v u H H₀ Q hs r1 r2 q
  unfold dIsN at q
  cases y with
  | non => exact ⟨Rep.non_iff.mp r2, by rw [r1.is_non]; exact done_at hs q (rb _)⟩
  | _ => exact q.elim
theorem od_notN : OpD X.K E (fun x y H Q => y = .non ∧ Q (.bl (!decide (x = .non))) H) dNotN := by
  intro x y v u H H₀ Q hs r1 r2 q
  unfold dNotN at q
  cases y with
  | non =>
    refine ⟨Rep.non_iff.mp r2, ?_⟩
    rw [r1.is_non]
    exact done_at hs q (rb _)
  | _ => exact q.elim
def tyD : D → String
  | .non => "NoneType"
  | .bl _ => "bool"
  | .int _ => "int"
  | .str _ => "str"
  | .tup _ => "tuple"
  | .lst _ => "list"
  | .dic _ _ => "dict"
  | .exc _ => "<exc>"
  | .ob (.ins _ _) _ => "<exc>"
  | .ob (.dint _) _ => "dict"
def dIsI (T : String) (x : D) : Res D := .ok (.bl (tyD x == T || (tyD x == "bool" && T == "int")))
def KitOk (K : PySem.W.Frag) (T : String) : Prop := ∀ S, S ∈ ["NoneType", "bool", "int", "str", "tuple", "list", "dict"] → PySem.W.kitOne K (.type S) (.type T) = some (S == T || (S == "bool" && T == "int"))
theorem isinst_D {pins : List (Addr × Obj)} {σ : L2.St} {H : Hp} {s : Shared} {A : Around} {Q : Value → Shared → Prop} {x : D} {v : V} {u : Value} {T : String} (I : Inv X pins σ H s) (r : Rep X.K H x v) (q : RelV v u) (hk : KitOk X.K T) (hT : T ∈ bltTys) (h : ∀ tk, Q (.bool (tyD x == T || (tyD x == "bool" && T == "int"))) { s with toks := tk }) :
    wpAny (model X.prog X.w) A (call (.builtin "isinstance") [u, .type T]) Q X.xe s := by
  cases x with
  | non => rw [Rep.non_iff.mp r] at q; exact isinst_ok I q .non (hk _ (by simp)) h
  | bl b => rw [Rep.bl_iff.mp r] at q; exact isinst_ok I q (.bl b) (hk _ (by simp)) h
  | int b => rw [Rep.int_iff.mp r] at q; exact isinst_ok I q (.int b) (hk _ (by simp)) h
  | str b => rw [Rep.str_iff.mp r] at q; exact isinst_ok I q (.str b) (hk _ (by simp)) h
  | tup ds =>
    obtain ⟨a, vs, its, rfl, rfl, h1, h2, h3, h4, _⟩ := Rep.tup_get I r q
    obtain ⟨o, k1, k2, _⟩ := h4
    exact PySem.W.kia_one PySem.W.kitx_tuple I.kIn ⟨o, k1, k2⟩ (hk _ (by simp)) (fun z => nomatch z) h
  | lst ds =>
    obtain ⟨a, vs, its, rfl, rfl, h1, h2, h3, h4, _⟩ := Rep.lst_get I r q
    obtain ⟨o, k1, k2, _⟩ := h4
    exact PySem.W.kia_one PySem.W.kitx_list I.kIn ⟨o, k1, k2⟩ (hk _ (by simp)) (fun z => nomatch z) h
  | dic ks ds =>
    rw [Rep] at r
    obtain ⟨a, kvs, vs, rfl, h1, h2, _⟩ := r
    cases (show u = Value.ref a from q)
    obtain ⟨_, _, vs', _, p⟩ := h1.ok I.hok
    obtain ⟨o, es, ep, k1, k2, _⟩ := p
    exact PySem.W.kia_one PySem.W.kitx_dict I.kIn ⟨o, k1, k2.1⟩ (hk _ (by simp)) (fun z => nomatch z) h
  | exc x =>
    obtain ⟨a, C, rfl, hc, h1⟩ := Rep.exc_iff.mp r
    cases (show u = Value.ref a from q)
    obtain ⟨p, _, _⟩ := h1.ok I.hok
    have e : (tyD (.exc x) == T || (tyD (.exc x) == "bool" && T == "int")) = false := by
      have : ∀ T ∈ bltTys, (tyD (.exc x) == T || (tyD (.exc x) == "bool" && T == "int")) = false := by show ∀ T ∈ bltTys, ("<exc>" == T || ("<exc>" == "bool" && T == "int")) = false; decide
      exact this T hT
    rw [e] at h
    exact PySem.W.kia_one (kitx_exc hc.ek hc.ek.isCls) I.kIn p (hc.bt T hT) (fun z => nomatch z) h
  | ob k xs =>
    obtain ⟨a, vs, rfl, h1, _⟩ := Rep.ob_iff.mp r
    cases (show u = Value.ref a from q)
    cases k with
    | ins c ks =>
      obtain ⟨C, dx, _, hc, h2, _⟩ := h1
      obtain ⟨mA, O, _⟩ := ins_get I.hok h2
      obtain ⟨od, O', _⟩ := O.look
      have e : (tyD (.ob (.ins c ks) xs) == T || (tyD (.ob (.ins c ks) xs) == "bool" && T == "int")) = false := by
        have : ∀ T ∈ bltTys, (tyD (.ob (.ins c ks) xs) == T || (tyD (.ob (.ins c ks) xs) == "bool" && T == "int")) = false := by show ∀ T ∈ bltTys, ("<exc>" == T || ("<exc>" == "bool" && T == "int")) = false; decide
        exact this T hT
      rw [e] at h
      exact PySem.W.kia_one (PySem.W.kitx_own (hc.cls.get _) hc.cls.hd hc.gc hc.gn hc.tk hc.mo) I.kIn O' (hc.bt T hT) (fun z => nomatch z) h
    | dint ks =>
      obtain ⟨kvs, h2, _⟩ := h1
      obtain ⟨_, _, vs', _, p⟩ := h2.ok I.hok
      obtain ⟨o, es, ep, k1, k2, _⟩ := p
      exact PySem.W.kia_one PySem.W.kitx_dict I.kIn ⟨o, k1, k2.1⟩ (hk _ (by simp)) (fun z => nomatch z) h
theorem de_isinst {T : String} {x : Str} {p1 p2 : Pos} (hk : KitOk X.K T) (hgi : Gl X "isinstance") (hmi : X.mg "isinstance" = none) (hg : Gl X x) (hm : X.mg x = none) (hv : bootBuiltins x = some (.type T)) (ha : DE X E a f)
    (hn : x ≠ "__name__" := by decide) (hdb : (x == ("__debug__" : Str)) = false := by decide) (hT : T ∈ bltTys := by decide)
    (he : starEach [a, .Name x p2] X.env = (false, eval a X.env) :: starEach [.Name x p2] X.env := by exact star_cons rfl) (he2 : starEach [.Name x p2] X.env = (false, eval (.Name x p2) X.env) :: starEach [] X.env := by exact star_cons rfl) (hpl : (backTo pos (starEach [.Name x p2] X.env)).any (·.1) = false := by exact any_star rfl) :
    DE X E (.Call (.Name "isinstance" p1) [a, .Name x p2] [] pos) (bind1 f (dIsI T)) := by
  refine ⟨?_⟩
  refine pe_weak (pe_callB (r := fun vs H Q => ∃ d v, vs = [v, .ty T] ∧ Rep X.K H d v ∧ Q (.bl (tyD d == T || (tyD d == "bool" && T == "int"))) H) ?_ hgi hmi PyProof.Rows.Boot.«isinstance» (pa_cons ha.o (pa_cons (pe_bltn (v := .ty T) hg hm hv rfl hn hdb) pa_nil he2) he) (by decide) (by decide) he hpl) fun σ H Q ⟨H₀, ρ, hs, hr, q⟩ => ⟨H₀, ρ, hs, hr, ?_⟩
  · intro pins s σ H xs us Q I r h
    obtain ⟨d, v, rfl, h1, q⟩ := h
    cases r with
    | cons r1 r2 =>
      cases r2 with
      | cons r3 r4 =>
        cases r4
        rename_i u1 u2
        obtain rfl : u2 = Value.type T := r3
        exact isinst_D I h1 r1 hk hT fun tk => ⟨.bl _, H, I.tok _, rfl, q⟩
  · unfold bind1 at q
    cases e1 : f ρ with
    | stuck => rw [e1] at q; exact q
    | exn x => rw [e1] at q; exact q
    | ok d =>
      rw [e1] at q
      intro v H1 H01 g1 r1
      exact ⟨d, v, rfl, r1.mono g1.sub, q _ H1 H01 g1 (rb _)⟩
end
theorem draw_list {prog : Program} {w : World} {A : Around} {E : Value → Shared → Prop} {it t : Addr} {items : Array Value} (hne : t ≠ it) : ∀ (n i : Nat) (s : Shared) (Q : List Value → Shared → Prop), s.heap.IsListIter it t i → s.heap.IsList t items → i + n ≤ items.size →
    (∀ h', h'.IsListIter it t (i + n) → Heap.SameBut it s.heap h' → Q ((items.toList.drop i).take n) { s with heap := h' }) → wpAny (model prog w) A (draw (.ref it) n) Q E s
  | 0, i, s, Q, hit, _, _, hQ => by
    show wpAny _ _ (pure []) Q E s
    exact wpAny_pure (by simpa using hQ s.heap hit (Heap.SameBut.refl ..))
  | n + 1, i, s, Q, hit, ht, hle, hQ => by
    have hlt : i < items.size := by omega
    show wpAny _ _ (pyNext (.ref it) >>= _) Q E s
    refine wpAny_bind (wpAny_pyNext_list_item hit ht (x := items[i]) (by simp [hlt]) fun h₁ hit₁ hs₁ => ?_)
    have ht₁ : h₁.IsList t items := by
      obtain ⟨o, k1, k2⟩ := ht
      exact ⟨o, (hs₁.2 t hne).trans k1, k2⟩
    refine wpAny_bind (wpAny_holding (draw_list hne n (i + 1) _ _ hit₁ ht₁ (by omega) fun h₂ hit₂ hs₂ => wpAny_pure ?_))
    have hd : items.toList.drop i = items[i] :: items.toList.drop (i + 1) := by simp [List.drop_eq_getElem_cons, hlt]
    have := hQ h₂ (by rw [show i + (n + 1) = i + 1 + n by omega]; exact hit₂) (hs₁.trans hs₂)
    rw [hd, List.take_succ_cons] at this
    exact this
theorem unpackItems_list {prog : Program} {w : World} {A : Around} {E : Value → Shared → Prop} {s : Shared} {t : Addr} {items : Array Value} {Q : List Value → Shared → Prop} (hh : A.handled = none) (ht : s.heap.IsList t items)
    (hQ : ∀ h', Heap.ExtBut s.heap.objs.size s.heap h' → Q items.toList { s with heap := h' }) : wpAny (model prog w) A (unpackItems (.ref t) items.size none) Q E s := by
  have hlt : t ≠ s.heap.objs.size := by obtain ⟨o, ho, _⟩ := ht; exact Nat.ne_of_lt (Heap.lt_size ho)
  unfold unpackItems
  refine wpAny_bind ?_
  · unfold notIterableAtAll
    refine wpAny_bind (wpAny_specialOf ht.typeIs slot_list_iter.lookup ?_)
    refine wpAny_pure ?_
    simp only [Bool.false_eq_true, if_false]
    refine wpAny_bind (wpAny_holding (wpAny_pyIter_list ht ?_))
    have ht0 : (s.heap.push { cls := .type "list_iterator", data := .fields #[.ref t, .int 0 0] }).IsList t items := by
      obtain ⟨o, k1, k2⟩ := ht
      exact ⟨o, Heap.get?_push_of_some _ k1, k2⟩
    refine wpAny_bind (wpAny_holding (draw_list hlt items.size 0 _ _ ⟨_, Heap.get?_push_size _ rfl, rfl, rfl⟩ ht0 (by omega) fun h₁ hit₁ hs₁ => ?_))
    have hall : List.take items.size (List.drop 0 items.toList) = items.toList := by
      rw [List.drop_zero]; exact List.take_of_length_le (by simp)
    rw [hall]
    rw [if_neg (by simp)]
    have ht₁ : h₁.IsList t items := by
      obtain ⟨o, k1, k2⟩ := ht0
      exact ⟨o, (hs₁.2 t hlt).trans k1, k2⟩
    refine wpAny_bind (wpAny_holding (wpAny_pyNext_list_end hh hit₁ ht₁ (by simp) fun h₂ he₂ => ?_))
    simp only [Option.isSome_none, Bool.false_eq_true, if_false]
    refine wpAny_pure (hQ h₂ fun b o hb e => he₂ b o hb (hs₁.extBut b o hb (Heap.get?_push_of_some _ e)))
end DL
set_option Elab.async false
set_option linter.all false
set_option maxRecDepth 100000
namespace DL
open PySem PySem.Spec PyProof.Rows L2
def setV (σ : L2.St) : List Nat → List V → L2.St
  | i :: is, v :: vs => setV (σ.set i (some v)) is vs
  | _, _ => σ
def setAll (ρ : Ev) : List Nat → List D → Ev
  | i :: is, d :: ds => setAll (ρ.set i (.sh d)) is ds
  | _, _ => ρ
theorem SRx.putAll {K : PySem.W.Frag} {He H0e H₀ H : Hp} : ∀ {is : List Nat} {ds : List D} {vs : List V} {σ : L2.St} {ρ : Ev}, SRx K He H0e H₀ σ H ρ → Reps K H₀ ds vs → SRx K He H0e H₀ (setV σ is vs) H (setAll ρ is ds)
  | [], _, _, _, _, h, _ => by unfold setV setAll; exact h
  | _ :: _, [], _, _, _, h, r => by rw [Reps.nil_iff.mp r]; unfold setV setAll; exact h
  | i :: is, d :: ds, _, _, _, h, r => by
    obtain ⟨v, vs, rfl, h1, h2⟩ := Reps.cons_iff.mp r
    unfold setV setAll
    exact SRx.putAll (h.put h1) h2
section
variable {X : Cx} {E : XK} {He H0e : Hp} {e a b : Expr} {es : List Expr} {f g : Ev → Res D} {fa : Ev → Res (List D)} {pos : Pos} {is : List Nat}
def tVs (is : List Nat) : TGs := fun vs σ H Q => vs.length = is.length ∧ Q (setV σ is vs) H
theorem pgs_weak {t t' : TGs} (h : PGs X es t) (w : ∀ vs σ H Q, t' vs σ H Q → t vs σ H Q) : PGs X es t' := fun pins s σ H vs us Q I r q => h pins s σ H vs us Q I r (w vs σ H Q q)
theorem dgs_nil : PGs X [] (tVs []) := pgs_weak pgs_nil fun vs σ H Q ⟨h, q⟩ => by
  have e : vs = [] := List.length_eq_zero_iff.mp h
  subst e
  exact ⟨rfl, q⟩
theorem dgs_cons {i : Nat} {x : Str} {p : Pos} (hN : X.N.Nodup) (hi : X.N[i]? = some x) (hx : Loc X.env.scope x) (h : PGs X es (tVs is)) (hf : X.fn x = true ∨ X.env.scope.names.lookup x = some .local := by first | exact .inl rfl | exact .inr rfl | assumption)
    (hs : (assignEach (.Name x p :: es) X.env).map (·.2) = assign (.Name x p) X.env :: (assignEach es X.env).map (·.2) := by rfl) : PGs X (.Name x p :: es) (tVs (i :: is)) :=
  pgs_weak (pgs_cons (pg_name hN hi hx hf) h hs) fun vs σ H Q ⟨h, q⟩ => by
    cases vs with
    | nil => simp at h
    | cons v vs => exact ⟨v, vs, rfl, by simpa using h, q⟩
theorem pg_list {k : Nat} {t : TGs} {n : Nat} (hc : X.calm = true) (h : PGs X es t)
    (hn : (assignEach es X.env).length = n := by rfl) (hst : (assignEach es X.env).findIdx? (·.1) = none := by rfl) : PG X (.Tuple es k pos) (fun v σ H Q => ∃ a xs, v = .ref a ∧ SqL X.K H a xs ∧ xs.length = n ∧ t xs σ H Q) := by
  intro pins s σ H v u Q I r hw
  obtain ⟨a, xs, e1, hq, hl, hw⟩ := hw
  subst e1
  cases r
  obtain ⟨its, rv, ht, hz⟩ := I.list hq
  rw [assign_Tuple]
  refine wpAny_bind (wpAny_standAt ?_)
  unfold unpack
  rw [hn, hst]
  have hsz : n = its.toArray.size := by rw [List.size_toArray, ← rv.length, hl]
  rw [hsz]
  refine wpAny_bind (wpAny_holding (unpackItems_list (I.ok.hd hc) ht.isList fun h' hx => ?_))
  have I1 : Inv X pins σ H { s with heap := h' } := I.kept (t' := s.toks) fun b o e => hx b o (Nat.ne_of_lt (Heap.lt_size e)) e
  exact h pins _ σ H xs _ Q I1 (by simpa using rv) hw
theorem pg_or {tgt : Expr} {t t' : TG} (h : PG X tgt t) (h' : PG X tgt t') : PG X tgt (fun v σ H Q => t v σ H Q ∨ t' v σ H Q) := fun pins s σ H v u Q I r q => q.elim (h pins s σ H v u Q I r) (h' pins s σ H v u Q I r)
theorem pg_seq {k : Nat} (hc : X.calm = true) (h : PGs X es (tVs is)) (hn : (assignEach es X.env).length = is.length := by rfl) (hst : (assignEach es X.env).findIdx? (·.1) = none := by rfl) :
    PG X (.Tuple es k pos) (fun v σ H Q => ∃ a xs, v = .ref a ∧ (SqT X.K H a xs ∨ SqL X.K H a xs) ∧ xs.length = is.length ∧ Q (setV σ is xs) H) :=
  pg_weak (pg_or (pg_tup hc h hn hst) (pg_list hc h hn hst)) fun v σ H Q ⟨a, xs, e, hq, hl, q⟩ => hq.elim (fun z => .inl ⟨a, xs, e, z, hl, hl, q⟩) fun z => .inr ⟨a, xs, e, z, hl, hl, q⟩
def partsOf (n : Nat) (d : D) : Option (List D) := match d with
  | .tup ds => if ds.length = n then some ds else none
  | .lst ds => if ds.length = n then some ds else none
  | _ => none
theorem partsOf_rep {K : PySem.W.Frag} {H : Hp} {n : Nat} {d : D} {ds : List D} {v : V} (h : partsOf n d = some ds) (r : Rep K H d v) : ∃ a vs, v = .ref a ∧ (SqT K H a vs ∨ SqL K H a vs) ∧ vs.length = n ∧ Reps K H ds vs := by
  unfold partsOf at h
  cases d with
  | tup es =>
    by_cases c : es.length = n
    · simp only [if_pos c] at h; cases h
      obtain ⟨a, vs, rfl, h1, h2⟩ := Rep.tup_iff.mp r
      exact ⟨a, vs, rfl, .inl h1, by rw [← h2.length]; exact c, h2⟩
    · simp only [if_neg c] at h; cases h
  | lst es =>
    by_cases c : es.length = n
    · simp only [if_pos c] at h; cases h
      obtain ⟨a, vs, rfl, h1, h2⟩ := Rep.lst_iff.mp r
      exact ⟨a, vs, rfl, .inr h1, by rw [← h2.length]; exact c, h2⟩
    · simp only [if_neg c] at h; cases h
  | _ => cases h
theorem seq_mono {K : PySem.W.Frag} {H H' : Hp} {a : Addr} {vs : List V} (hs : Same H H') (h : SqT K H a vs ∨ SqL K H a vs) : SqT K H' a vs ∨ SqL K H' a vs := h.elim (fun z => .inl (Same.sqT hs z)) fun z => .inr (Same.sqL hs z)
def sUnp (is : List Nat) (f : Ev → Res D) : Ev → Res Fl := fun ρ => (f ρ).bind fun d => match partsOf is.length d with
  | some ds => .ok (.nx (setAll ρ is ds))
  | none => .stuck
def gUnp (is : List Nat) : Ev → D → Res Ev := fun ρ d => match partsOf is.length d with
  | some ds => .ok (setAll ρ is ds)
  | none => .stuck
theorem total_unp : Total (gUnp is) := fun ρ d => by
  unfold gUnp
  cases partsOf is.length d with
  | none => exact .inl rfl
  | some ds => exact .inr ⟨_, rfl⟩
theorem dg_unp {k : Nat} (hc : X.calm = true) (h : PGs X es (tVs is)) (hn : (assignEach es X.env).length = is.length := by rfl) (hst : (assignEach es X.env).findIdx? (·.1) = none := by rfl) : DG X E He H0e (.Tuple es k pos) (gUnp is) :=
  ⟨pg_weak (pg_seq hc h hn hst) fun v σ H Q ⟨H₀, ρ, d, h, rp, q⟩ => by
    unfold gUnp at q
    cases e1 : partsOf is.length d with
    | none => rw [e1] at q; exact q.elim
    | some ds =>
      rw [e1] at q
      obtain ⟨a, vs, rfl, k1, k2, k3⟩ := partsOf_rep e1 rp
      exact ⟨a, vs, rfl, seq_mono h.g.sub k1, k2, q _ H H₀ (Same.refl _) (h.putAll k3)⟩⟩
def sPar (i j : Nat) (fa : Ev → Res (List D)) : Ev → Res Fl := fun ρ => (fa ρ).bind fun ds => match ds with
  | [x, y] => .ok (.nx ((ρ.set i (.sh x)).set j (.sh y)))
  | _ => .stuck
theorem ds_par {i j : Nat} {x y : Str} {px py pt pt2 : Pos} {kt k2} (hc : X.calm = true) (hN : X.N.Nodup) (hi : X.N[i]? = some x) (hj : X.N[j]? = some y) (hij : i ≠ j)
    (hx : X.env.scope.names.lookup x = some .local) (hy : X.env.scope.names.lookup y = some .local) (ha : DA X E [a, b] fa)
    (hw : swappedStores [.Tuple [.Name x px, .Name y py] kt pt] (.Tuple [a, b] k2 pt2) X.env = pure (some [x, y]))
    (hs : swapsWithSole [.Tuple [.Name x px, .Name y py] kt pt] (.Tuple [a, b] k2 pt2) pos.line X.env = pure false := by rfl) :
    DS X E He H0e (.Assign [.Tuple [.Name x px, .Name y py] kt pt] (.Tuple [a, b] k2 pt2) pos) (sPar i j fa) := by
  refine ⟨?_⟩
  refine ps_weak (ps_par hc hN hi hj hij hx hy ha.o hw hs) fun D σ H ⟨H₀, ρ, h, q⟩ => ⟨H₀, ρ, h.g.sub, h.rd, ?_⟩
  unfold sPar at q
  cases e1 : fa ρ with
  | stuck => rw [e1] at q; exact q
  | exn x => rw [e1] at q; exact fun C ox H' H₀' g ex => q C ox H' H₀' (h.g.trans g) ex
  | ok ds =>
    rw [e1] at q
    intro vs H1 H01 g1 r1
    match ds, r1, q with
    | [x, y], r1, q =>
      obtain ⟨v, r', rfl, h1, h2⟩ := Reps.cons_iff.mp r1
      obtain ⟨u, r'', rfl, h3, h4⟩ := Reps.cons_iff.mp h2
      rw [Reps.nil_iff.mp h4]
      exact ⟨v, u, rfl, q _ H1 H01 g1.z (((h.grow g1).put h1).put h3)⟩
    | [], _, q => exact q.elim
    | [_], _, q => exact q.elim
    | _ :: _ :: _ :: _, _, q => exact q.elim
end
end DL
set_option Elab.async false
set_option linter.all false
set_option maxRecDepth 100000
namespace DL
open PySem PySem.Spec PyProof.Rows L2
theorem kit_ok_int {K : PySem.W.Frag} : KitOk K "int" := by
  intro S hS
  simp only [List.mem_cons, List.mem_nil_iff, or_false] at hS
  rcases hS with rfl | rfl | rfl | rfl | rfl | rfl | rfl <;> first | rfl | decide +kernel
theorem kit_ok_bool {K : PySem.W.Frag} : KitOk K "bool" := by
  intro S hS
  simp only [List.mem_cons, List.mem_nil_iff, or_false] at hS
  rcases hS with rfl | rfl | rfl | rfl | rfl | rfl | rfl <;> first | rfl | decide +kernel
theorem kit_ok_str {K : PySem.W.Frag} : KitOk K "str" := by
  intro S hS
  simp only [List.mem_cons, List.mem_nil_iff, or_false] at hS
  rcases hS with rfl | rfl | rfl | rfl | rfl | rfl | rfl <;> first | rfl | decide +kernel
theorem kit_ok_tuple {K : PySem.W.Frag} : KitOk K "tuple" := by
  intro S hS
  simp only [List.mem_cons, List.mem_nil_iff, or_false] at hS
  rcases hS with rfl | rfl | rfl | rfl | rfl | rfl | rfl <;> first | rfl | decide +kernel
theorem kit_ok_list {K : PySem.W.Frag} : KitOk K "list" := by
  intro S hS
  simp only [List.mem_cons, List.mem_nil_iff, or_false] at hS
  rcases hS with rfl | rfl | rfl | rfl | rfl | rfl | rfl <;> first | rfl | decide +kernel
section
variable {X : Cx} {E : XK} {He H0e : Hp} {e a b c : Expr} {f g h : Ev → Res D} {pos : Pos}
theorem dv (i : Nat) {x : Str} (hN : X.N[i]? = some x := by rfl) (hv : Vis X.env.scope x := by first | exact Or.inl rfl | exact Or.inr (Or.inl rfl) | exact Or.inr (Or.inr rfl)) (hd : (x == ("__debug__" : Str)) = false := by decide)
    (hcd : (x == ("__classdict__" : Str)) = false := by decide) : DE X E (.Name x pos) (dVar i) := de_var hN hv hd hcd
def Kon (K : PySem.W.Frag) (mg : Str → Option Value) (x : Str) (d : D) : Prop := ∃ v u, mg x = some u ∧ RelV v u ∧ ∀ H, Rep K H d v
theorem de_kon {x : Str} {d : D} (k : Kon X.K X.mg x d) (hg : Gl X x) (hd : (x == ("__debug__" : Str)) = false := by decide) : DE X E (.Name x pos) (dC d) := by
  obtain ⟨v, u, h1, h2, h3⟩ := k
  exact de_glob hg h1 h2 h3 hd
theorem kon_int {K : PySem.W.Frag} {mg : Str → Option Value} {x : Str} {i : Int} {t : Tok} (h : mg x = some (.int i t)) : Kon K mg x (.int i) := ⟨.int i, _, h, ⟨t, rfl⟩, fun _ => ri _⟩
theorem kon_str {K : PySem.W.Frag} {mg : Str → Option Value} {x : Str} {i : Str} {t : Tok} (h : mg x = some (.str i t)) : Kon K mg x (.str i) := ⟨.str i, _, h, ⟨t, rfl⟩, fun _ => Rep.str_iff.mpr rfl⟩
theorem kon_tup {K : PySem.W.Frag} {mg : Str → Option Value} {x : Str} {a : Addr} {od : Option Addr} {its : Array Value} {n : Nat} {sl : Array (Option Value)} {ds : List D} {vs : List V} (h : mg x = some (.ref a)) (l : K.lookup a = some ⟨.type "tuple", od, .seq its n, sl⟩)
    (hv : Vals vs its.toList) (hz : its.size ≤ sizeLine) (hd : ∀ H, Reps K H ds vs) : Kon K mg x (.tup ds) := ⟨.ref a, _, h, rfl, fun H => Rep.tup_iff.mpr ⟨a, vs, rfl, .inr ⟨_, its, n, l, rfl, rfl, hz, hv⟩, hd H⟩⟩
def dChain (op op' : D → D → Res D) (f g h : Ev → Res D) : Ev → Res D := fun ρ => (f ρ).bind fun x => (g ρ).bind fun y => (op x y).bind fun z => match z with
  | .bl true => (h ρ).bind fun w => op' y w
  | .bl false => .ok (.bl false)
  | _ => .stuck
def Pure2 (r : R2) (o : D → D → Res D) : Prop := ∀ (K : PySem.W.Frag) (x y : D) (v u : V) (H H₀ : Hp) (Q : VK) (d : D), Same H₀ H → Rep K H₀ x v → Rep K H₀ y u → o x y = .ok d → (∀ w, Rep K H₀ d w → Q w H) → r v u H Q
theorem pure_iop0 {gv : Int → Int → V} {g : Int → Int → D} (hg : ∀ K H i j, Rep K H (g i j) (gv i j)) : Pure2 (rI0 gv) (iop (fun _ _ => true) g) := by
  intro K x y v u H H₀ Q d hs r1 r2 e q
  unfold iop at e
  cases x with
  | int i =>
    cases y with
    | int j => simp only [if_pos] at e; cases e; exact ⟨i, j, Rep.int_iff.mp r1, Rep.int_iff.mp r2, q _ (hg _ _ i j)⟩
    | _ => cases e
  | _ => cases e
def NoExn (o : D → D → Res D) : Prop := ∀ x y, ∀ z, o x y ≠ .exn z
theorem chain_steps {r r' : R2} {o o' : D → D → Res D} (p : Pure2 r o) (p' : Pure2 r' o') (n : NoExn o) (n' : NoExn o') (σ : L2.St) (H : Hp) (Q : VK) (q : tD X.K E (dChain o o' f g h) σ H Q) :
    tChain r r' (tD X.K E f) (tD X.K E g) (tD X.K E h) σ H Q := by
  obtain ⟨H₀, ρ, hs, hr, q⟩ := q
  refine ⟨H₀, ρ, hs, hr, ?_⟩
  unfold dChain at q
  cases e1 : f ρ with
  | stuck => rw [e1] at q; exact q
  | exn x => rw [e1] at q; exact q
  | ok x =>
    rw [e1] at q
    intro v H1 H01 g1 r1
    refine ⟨H01, ρ, g1.sub, hr.mono g1.z, ?_⟩
    replace q := post.grow (r := (g ρ).bind fun y => (o x y).bind fun z => match z with
      | .bl true => (h ρ).bind fun w => o' y w
      | .bl false => .ok (.bl false)
      | _ => .stuck) q g1
    cases e2 : g ρ with
    | stuck => rw [e2] at q; exact q
    | exn x => rw [e2] at q; exact q
    | ok y =>
      rw [e2] at q
      intro u H2 H02 g2 r2
      replace q := post.grow (r := (o x y).bind fun z => match z with
        | .bl true => (h ρ).bind fun w => o' y w
        | .bl false => .ok (.bl false)
        | _ => .stuck) q g2
      cases e3 : o x y with
      | stuck => rw [e3] at q; exact q.elim
      | exn z => exact absurd e3 (n x y z)
      | ok z =>
        rw [e3] at q
        refine p X.K x y v u H2 H02 _ z g2.sub (r1.mono g2.z) r2 e3 fun w rw' => ?_
        cases z with
        | bl b =>
          rw [Rep.bl_iff.mp rw']
          refine ⟨b, rfl, ?_⟩
          cases b with
          | false => rw [if_neg Bool.false_ne_true]; exact q _ H2 H02 (Grow.refl g2.sub) (rb _)
          | true =>
            rw [if_pos rfl]
            refine ⟨H02, ρ, g2.sub, (hr.mono g1.z).mono g2.z, ?_⟩
            replace q : post X.K E H2 H02 ((h ρ).bind fun w => o' y w) Q := q
            cases e4 : h ρ with
            | stuck => rw [e4] at q; exact q
            | exn x => rw [e4] at q; exact q
            | ok w2 =>
              rw [e4] at q
              intro v3 H3 H03 g3 r3
              replace q := post.grow (r := o' y w2) q g3
              cases e5 : o' y w2 with
              | stuck => rw [e5] at q; exact q.elim
              | exn z => exact absurd e5 (n' y w2 z)
              | ok d =>
                rw [e5] at q
                exact p' X.K y w2 u v3 H3 H03 Q d g3.sub (r2.mono g3.z) r3 e5 fun w3 r5 => q w3 H3 H03 (Grow.refl g3.sub) r5
        | _ => exact q.elim
theorem dt_chain {op op' : CmpOp} {r r' : R2} {o o' : D → D → Res D} (ho : OpR X (compareOp op) r) (ho' : OpR X (compareOp op') r') (p : Pure2 r o) (p' : Pure2 r' o') (n : NoExn o) (n' : NoExn o') (ha : DE X E a f) (hb : DE X E b g) (hc : DE X E c h)
    (hm : lastMarks [op, op'] [b, c] = false := by with_unfolding_all rfl) : DT X E (.Compare a [op, op'] [b, c] pos) (dChain o o' f g h) := by
  refine ⟨?_⟩
  refine pt_weak (pt_chain ho ho' ha.o hb.o hc.o hm) fun σ H Q q => ?_
  have w : tD X.K E (dChain o o' f g h) σ H fun x H' => ∃ k, x = .bl k ∧ Q k H' := by
    obtain ⟨H₀, ρ, hs, hr, q⟩ := q
    refine ⟨H₀, ρ, hs, hr, ?_⟩
    cases e1 : dChain o o' f g h ρ with
    | stuck => rw [e1] at q; exact q
    | exn x => rw [e1] at q; exact q
    | ok d =>
      rw [e1] at q
      intro v H1 H01 g1 r1
      cases d with
      | bl b => rw [Rep.bl_iff.mp r1]; exact ⟨b, rfl, q H1 H01 g1⟩
      | _ => exact q.elim
  exact chain_steps p p' n n' σ H _ w
theorem noexn_iop {c : Int → Int → Bool} {g : Int → Int → D} : NoExn (iop c g) := by
  intro x y z
  unfold iop
  cases x <;> cases y <;> simp <;> split <;> simp
end
end DL
namespace DL
open PySem PySem.Spec PyProof.Rows L2
def fuelInt (i : Nat) : Ev → Nat := fun ρ => match ρ[i]? with
  | some (.sh (.int j)) => j.natAbs + 1
  | _ => 0
section
variable {X : Cx} {E : XK} {a b : Expr} {f g : Ev → Res D} {pos : Pos}
def dMulL (x y : D) : Res D := match x, y with
  | .int i, .int j => if mulOk i j = true then .ok (.int (i * j)) else .stuck
  | _, _ => .stuck
theorem de_mul (ha : DE X E a f) (hb : DE X E b g) : DE X E (.BinOp a .Mult b pos) (bind2 f g dMulL) := de_op op_mulB (by
  intro x y v u H H₀ Q hs r1 r2 q
  unfold dMulL at q
  cases x with
  | int i =>
    cases y with
    | int j =>
      by_cases h : mulOk i j = true
      · simp only [if_pos h] at q
        exact ⟨i, j, Rep.int_iff.mp r1, Rep.int_iff.mp r2, mulOk.ok h, done_at hs q (ri _)⟩
      · simp only [if_neg h] at q; exact q.elim
    | _ => exact q.elim
  | _ => exact q.elim) ha hb
end
end DL
set_option Elab.async false
set_option linter.all false
set_option maxRecDepth 100000
namespace DL
open PySem PySem.Spec PyProof.Rows L2
def gAny (K : PySem.W.Frag) (tg : Ev → D → Res Ev) : TG := fun v σ H Q => ∃ He H0e, tG K He H0e tg v σ H Q
end DL
set_option Elab.async false
set_option linter.all false
set_option maxRecDepth 100000
namespace DL
open PySem PySem.Spec PyProof.Rows L2
theorem Reps.rep {K : PySem.W.Frag} {H : Hp} {ds : List D} {vs : List V} (h : Reps K H ds vs) : ∀ k : Nat, Reps K H (List.replicate k ds).flatten (List.replicate k vs).flatten
  | 0 => by simp; exact Reps.nil
  | k + 1 => by
    rw [List.replicate_succ, List.replicate_succ, List.flatten_cons, List.flatten_cons]
    exact h.app (Reps.rep h k)
section
variable {X : Cx} {E : XK} {a b : Expr} {f g : Ev → Res D} {pos : Pos}
def dRep (x y : D) : Res D := match x, y with
  | .lst ds, .int k => if ds.length * k.toNat ≤ line ∧ -9223372036854775808 ≤ k ∧ k < 9223372036854775808 then .ok (.lst (List.replicate k.toNat ds).flatten) else .stuck
  | _, _ => .stuck
def repL (f g : Ev → Res D) : Ev → Res D := fun ρ => (f ρ).bind fun x => match x with
  | .lst ds => (g ρ).bind fun y => dRep (.lst ds) y
  | _ => .stuck
theorem de_rep (ha : DF X E a f) (hb : DE X E b g) : DE X E (.BinOp a .Mult b pos) (repL f g) := by
  refine ⟨?_⟩
  refine pe_weak (pe_op op_rep ha.o hb.o) fun σ H Q ⟨H₀, ρ, hs, hr, q⟩ => ⟨H₀, ρ, hs, hr, ?_⟩
  unfold repL at q
  cases e1 : f ρ with
  | stuck => rw [e1] at q; exact q
  | exn x => rw [e1] at q; exact q
  | ok x =>
    rw [e1] at q
    cases x with
    | lst ds =>
      replace q : post X.K E H H₀ ((g ρ).bind fun y => dRep (.lst ds) y) Q := q
      intro p vs H1 H01 g1 hp h0 hv rp
      refine ⟨H01, ρ, g1.sub, hr.mono g1.z, ?_⟩
      replace q := q.grow g1
      cases e2 : g ρ with
      | stuck => rw [e2] at q; exact q
      | exn x => rw [e2] at q; exact q
      | ok y =>
        rw [e2] at q
        intro u H2 H02 g2 r2
        replace q := post.grow (r := dRep (.lst ds) y) q g2
        cases y with
        | int k =>
          unfold dRep at q
          by_cases c : ds.length * k.toNat ≤ line ∧ -9223372036854775808 ≤ k ∧ k < 9223372036854775808
          · simp only [if_pos c] at q
            refine ⟨p, k, vs, rfl, Rep.int_iff.mp r2, g2.s _ _ hv, by omega, by omega, by rw [← rp.length]; exact line_le c.1, fun n hn => ?_⟩
            exact q _ _ _ (Grow.alloc g2.sub hn) (Rep.lst_iff.mpr ⟨n, _, rfl, SqL.of upd_same, ((rp.mono g2.z).rep _).mono (Grow.alloc g2.sub hn).z⟩)
          · simp only [if_neg c] at q; exact q.elim
        | _ => exact q.elim
    | _ => exact q.elim
end
end DL
set_option Elab.async false
set_option linter.all false
set_option maxRecDepth 100000
namespace DL
open PySem PySem.Spec PyProof.Rows L2
def strsOf : List D → Option (List Str)
  | [] => some []
  | .str x :: r => (strsOf r).map (x :: ·)
  | _ => none
theorem strs_are {K : PySem.W.Frag} {H : Hp} : ∀ {ds : List D} {ys : List Str} {vs : List V} {us : List Value}, strsOf ds = some ys → Reps K H ds vs → Vals vs us → StrsAre us ys
  | [], ys, vs, us, h, r, q => by
    cases h
    rw [Reps.nil_iff.mp r] at q
    cases q
    exact .nil
  | d :: ds, ys, vs, us, h, r, q => by
    obtain ⟨v, r', rfl, h1, h2⟩ := Reps.cons_iff.mp r
    cases q with
    | cons q1 q2 =>
      cases d with
      | str x =>
        unfold strsOf at h
        cases e : strsOf ds with
        | none => rw [e] at h; cases h
        | some zs =>
          rw [e] at h
          cases h
          rw [Rep.str_iff.mp h1] at q1
          obtain ⟨t, rfl⟩ := q1
          exact .cons _ _ (strs_are e h2 q2)
      | _ => cases h
section
variable {X : Cx} {E : XK} {o e : Expr} {fo : Ev → Res D} {fa : Ev → Res (List D)}
def joinFit (z : Str) (ys : List Str) : Bool := decide (z.length ≤ 16) && decide ((ys.map (·.length)).sum + ys.length ≤ 1048576)
def rJoin (K : PySem.W.Frag) : V → List V → Hp → VK → Prop := fun x xs H Q => ∃ z p ds ys, x = .str z ∧ xs = [.ref p] ∧ Rep K H (.lst ds) (.ref p) ∧ strsOf ds = some ys ∧ joinFit z ys = true ∧ Q (.str (Txt.join z ys)) H
theorem mt_join : MtR X "str.join" (rJoin X.K) := by
  intro pins s σ H x xs v us Q I rx rs h
  obtain ⟨z, p, ds, ys, rfl, rfl, hr, hy, hf, q⟩ := h
  obtain ⟨t, rfl⟩ := rx
  obtain ⟨u, rfl, ru⟩ := rs.one
  obtain ⟨a, vs, its, ea, rfl, h1, h2, h3, h4, _⟩ := Rep.lst_get I hr ru
  unfold joinFit at hf
  rw [Bool.and_eq_true] at hf
  exact join_listW h4 (by simpa using strs_are hy h2 h3) (of_decide_eq_true hf.1) (of_decide_eq_true hf.2) fun t' k => ⟨.str (Txt.join z ys), H, I.tok _, ⟨_, rfl⟩, q⟩
def joinD (z : Str) (xs : List D) : Res D := match xs with
  | [.lst ds] => match strsOf ds with
    | some ys => if joinFit z ys = true then .ok (.str (Txt.join z ys)) else .stuck
    | none => .stuck
  | _ => .stuck
def dJoin (fo : Ev → Res D) (fa : Ev → Res (List D)) : Ev → Res D := fun ρ => (fo ρ).bind fun x => match x with
  | .str z => (fa ρ).bind fun xs => joinD z xs
  | _ => .stuck
theorem de_join {apos cpos : Pos} (ho : DE X E o fo) (ha : DA X E [e] fa)
    (hbase : attributeBase o "join" X.env (eval o X.env) = eval o X.env := by rfl)
    (hfew : ((backTo cpos (starEach [e] X.env)).all (fun x => !x.1) && (backToKw cpos (keywordEach [] X.env)).all (fun x => x.1.isSome)
      && decide ([e].length + ([] : List Keyword).length + (if ([] : List Keyword).isEmpty then 0 else 1) < 30)) = true := by exact few_star rfl)
    (hline : (apos.endLine == cpos.line) = true := by rfl) (hs : starEach [e] X.env = (false, eval e X.env) :: starEach [] X.env := by exact star_cons rfl) (hplain : (backTo cpos (starEach [] X.env)).any (·.1) = false := by exact any_star rfl) :
    DE X E (.Call (.Attribute o "join" apos) [e] [] cpos) (dJoin fo fa) := by
  refine ⟨?_⟩
  refine pe_weak (pe_bm PySem.F.plainAttrs_str PySem.F.slot_str_join PySem.F.type_str_join mt_join ho.o ha.o hbase hfew hline hs hplain) fun σ H Q ⟨H₀, ρ, hs, hr, q⟩ => ⟨H₀, ρ, hs, hr, ?_⟩
  unfold dJoin at q
  cases e1 : fo ρ with
  | stuck => rw [e1] at q; exact q
  | exn x => rw [e1] at q; exact q
  | ok x =>
    rw [e1] at q
    intro v H1 H01 g1 r1
    cases x with
    | str z =>
      rw [Rep.str_iff.mp r1]
      refine ⟨rfl, H01, ρ, g1.sub, hr.mono g1.z, ?_⟩
      replace q := post.grow (r := (fa ρ).bind fun xs => joinD z xs) q g1
      cases e2 : fa ρ with
      | stuck => rw [e2] at q; exact q
      | exn x => rw [e2] at q; exact q
      | ok xs =>
        rw [e2] at q
        intro us H2 H02 g2 r2
        replace q := post.grow (r := joinD z xs) q g2
        unfold joinD at q
        match xs, r2, q with
        | [.lst ds], r2, q =>
          obtain ⟨w, r', rfl, k1, k2⟩ := Reps.cons_iff.mp r2
          rw [Reps.nil_iff.mp k2]
          obtain ⟨p, vs, rfl, k3, k4⟩ := Rep.lst_iff.mp k1
          cases e3 : strsOf ds with
          | none => simp only [e3] at q; exact q.elim
          | some ys =>
            simp only [e3] at q
            by_cases c : joinFit z ys = true
            · rw [if_pos c] at q
              exact ⟨z, p, ds, ys, rfl, rfl, k1.mono g2.sub, e3, c, done_at g2.sub q (Rep.str_iff.mpr rfl)⟩
            · rw [if_neg c] at q; exact q.elim
        | [], _, q => exact q.elim
        | d1 :: _ :: _, _, q => cases d1 <;> exact False.elim q
        | [.non], _, q => exact q.elim
        | [.bl _], _, q => exact q.elim
        | [.int _], _, q => exact q.elim
        | [.str _], _, q => exact q.elim
        | [.tup _], _, q => exact q.elim
        | [.dic _ _], _, q => exact q.elim
        | [.exc _], _, q => exact q.elim
        | [.ob _ _], _, q => exact q.elim
    | _ => exact q.elim
end
section
variable {X : Cx} {E : XK} {a : Expr} {f : Ev → Res D} {pos : Pos}
def rSlS : V → Option Int → Option Int → Hp → VK → Prop := fun x lo hi H Q => ∃ z, x = .str z ∧ z.length ≤ sizeLine ∧ Q (.str (Txt.slice z lo hi)) H
theorem sl_str : SlR X rSlS := by
  intro pins s σ H x v vl vu lo hi sl Q I rx hs pl pu h
  obtain ⟨z, rfl, hz, q⟩ := h
  obtain ⟨t, rfl⟩ := rx
  have fin : ∀ t' k, EP X pins σ Q (.str (Txt.slice z lo hi) t') { s with toks := k } := fun t' k => ⟨.str (Txt.slice z lo hi), H, I.tok _, ⟨_, rfl⟩, q⟩
  refine ⟨"str", _, PySem.F.slot_str_getitem.lookup, typeIs_str s z t, ?_⟩
  cases pl with
  | none =>
    cases pu with
    | none => exact wpAny_getItem_str_slice (l := none) (u := none) (st := none) hs rfl (post_val_or_str ⟨Nat.le_trans (Txt.slice_le z _ _) hz, fin⟩)
    | int j uj => exact wpAny_getItem_str_slice (l := none) (u := some (j, uj)) (st := none) hs rfl (post_val_or_str ⟨Nat.le_trans (Txt.slice_le z _ _) hz, fin⟩)
  | int i ui =>
    cases pu with
    | none => exact wpAny_getItem_str_slice (l := some (i, ui)) (u := none) (st := none) hs rfl (post_val_or_str ⟨Nat.le_trans (Txt.slice_le z _ _) hz, fin⟩)
    | int j uj => exact wpAny_getItem_str_slice (l := some (i, ui)) (u := some (j, uj)) (st := none) hs rfl (post_val_or_str ⟨Nat.le_trans (Txt.slice_le z _ _) hz, fin⟩)
def sliceD (x : D) (l h : Option Int) : Res D := match x with
  | .lst ds => .ok (.lst (cutD ds l h))
  | .str z => if z.length ≤ line then .ok (.str (Txt.slice z l h)) else .stuck
  | .tup ds => if HT.sIx ds.length 0 l = 0 ∧ HT.sIx ds.length ds.length h = ds.length then .stuck else .ok (.tup (cutD ds l h))
  | _ => .stuck
def dSlA (f : Ev → Res D) (lo hi : Ev → Res (Option Int)) : Ev → Res D := fun ρ => (f ρ).bind fun x => (lo ρ).bind fun l => (hi ρ).bind fun h => sliceD x l h
theorem de_sliceA {lo hi : Option Expr} {p2 : Pos} {fl fh : Ev → Res (Option Int)} (ha : DE X E a f) (hl : DO X E lo fl) (hh : DO X E hi fh) : DE X E (.Subscript a (.Slice lo hi none p2) pos) (dSlA f fl fh) :=
  ⟨pe_weak (pe_slice (SlR.or sl_list (SlR.or sl_str sl_tup)) ha.o hl.o hh.o) (slice_steps (m := sliceD) fun x v l h H H₀ Q hs r q => by
    cases x with
    | lst ds =>
      obtain ⟨p, vs, rfl, h1, h2⟩ := Rep.lst_iff.mp r
      exact .inl ⟨p, vs, rfl, Same.sqL hs h1, fun n hn => q _ _ _ (Grow.alloc hs hn) (Rep.lst_iff.mpr ⟨n, _, rfl, SqL.of upd_same, (h2.cut l h).mono (Grow.alloc hs hn).z⟩)⟩
    | str z =>
      unfold sliceD at q
      by_cases c : z.length ≤ line
      · simp only [if_pos c] at q
        exact .inr (.inl ⟨z, Rep.str_iff.mp r, line_le c, done_at hs q (Rep.str_iff.mpr rfl)⟩)
      · simp only [if_neg c] at q; exact q.elim
    | tup ds =>
      unfold sliceD at q
      by_cases c : HT.sIx ds.length 0 l = 0 ∧ HT.sIx ds.length ds.length h = ds.length
      · simp only [if_pos c] at q; exact q.elim
      · simp only [if_neg c] at q
        obtain ⟨p, vs, rfl, h1, h2⟩ := Rep.tup_iff.mp r
        exact .inr (.inr ⟨p, vs, rfl, Same.sqT hs h1, by rw [← h2.length]; exact c, fun n hn => q _ _ _ (Grow.alloc hs hn) (Rep.tup_iff.mpr ⟨n, _, rfl, SqT.of upd_same, (h2.cut l h).mono (Grow.alloc hs hn).z⟩)⟩)
    | _ => exact q.elim)⟩
end
end DL
set_option Elab.async false
set_option linter.all false
set_option maxRecDepth 100000
namespace DL
open PySem PySem.Spec PyProof.Rows L2
def Its (z : Str) : It := ⟨fun i _ => i < z.cps.size, fun i H x H' => H' = H ∧ ∃ c, z.cps[i]? = some c ∧ x = .str ⟨#[c]⟩, fun i _ => z.cps.size ≤ i⟩
theorem turn_ascii {P : Program} {w : World} {K : PySem.W.Frag} {tg : Expr} (z : Str) (t : Tok) (it : Addr) : Turn P w K tg (Its z) [it] it (fun i h => h.IsStrIter it "str_ascii_iterator" z t i) where
  mem := by simp
  obj := fun i h st b hb => by
    have e : b = it := by simpa using hb
    subst e
    obtain ⟨o, e, c, d⟩ := st
    exact ⟨o, e, fun v z => by rw [d] at z; cases z⟩
  keep := fun i h h' st k => let ⟨o, ho, r⟩ := st; ⟨o, k it (by simp) o ho, r⟩
  item := by
    intro X hP hw hK hc i pins s σ H E I hf st hg
    subst hP hw hK
    have hg' : i < z.cps.size := hg
    obtain ⟨f0, f1, f2, f3, f4, f5⟩ := hf it (by simp)
    refine wpAny_pyNext_ascii_item st (c := z.cps[i]) (by simp [hg']) fun h' st' sb => ?_
    have I1 : Inv X pins σ H { s with heap := h', toks := s.toks + 1 } := I.turned (t' := s.toks + 1) (fun b o hb e => (sb.2 b hb).trans e) f0 f1 f3 f4 f5
    obtain ⟨o, e, c, d⟩ := id st'
    exact ⟨_, rfl, go_of (s := { s with heap := h', toks := s.toks + 1 }) e c d (by decide) ⟨.str ⟨#[z.cps[i]]⟩, H, I1, ⟨_, rfl⟩, ⟨rfl, _, by simp [hg'], rfl⟩, st', fun b hb => (hf b hb).1⟩⟩
  done := by
    intro X hP hw hK hc i pins s σ H E I hf st hg
    subst hP hw hK
    have hg' : z.cps.size ≤ i := hg
    obtain ⟨f0, f1, f2, f3, f4, f5⟩ := hf it (by simp)
    exact wpAny_pyNext_ascii_end (I.ok.hd hc) st (by simp [hg']) fun h' eb => ⟨rfl, I.turned (t' := s.toks) (fun b o hb e => eb b o hb e) f0 f1 f3 f4 f5⟩
  self := fun _ _ _ _ _ st h => wpAny_pyIter_striter_ascii st h
theorem turn_wide {P : Program} {w : World} {K : PySem.W.Frag} {tg : Expr} (z : Str) (t : Tok) (it : Addr) : Turn P w K tg (Its z) [it] it (fun i h => h.IsStrIter it "str_iterator" z t i) where
  mem := by simp
  obj := fun i h st b hb => by
    have e : b = it := by simpa using hb
    subst e
    obtain ⟨o, e, c, d⟩ := st
    exact ⟨o, e, fun v z => by rw [d] at z; cases z⟩
  keep := fun i h h' st k => let ⟨o, ho, r⟩ := st; ⟨o, k it (by simp) o ho, r⟩
  item := by
    intro X hP hw hK hc i pins s σ H E I hf st hg
    subst hP hw hK
    have hg' : i < z.cps.size := hg
    obtain ⟨f0, f1, f2, f3, f4, f5⟩ := hf it (by simp)
    refine wpAny_pyNext_wide_item st (c := z.cps[i]) (by simp [hg']) fun h' st' sb => ?_
    have I1 : Inv X pins σ H { s with heap := h', toks := s.toks + 1 } := I.turned (t' := s.toks + 1) (fun b o hb e => (sb.2 b hb).trans e) f0 f1 f3 f4 f5
    obtain ⟨o, e, c, d⟩ := id st'
    exact ⟨_, rfl, go_of (s := { s with heap := h', toks := s.toks + 1 }) e c d (by decide) ⟨.str ⟨#[z.cps[i]]⟩, H, I1, ⟨_, rfl⟩, ⟨rfl, _, by simp [hg'], rfl⟩, st', fun b hb => (hf b hb).1⟩⟩
  done := by
    intro X hP hw hK hc i pins s σ H E I hf st hg
    subst hP hw hK
    have hg' : z.cps.size ≤ i := hg
    obtain ⟨f0, f1, f2, f3, f4, f5⟩ := hf it (by simp)
    exact wpAny_pyNext_wide_end (I.ok.hd hc) st (by simp [hg']) fun h' eb => ⟨rfl, I.turned (t' := s.toks) (fun b o hb e => eb b o hb e) f0 f1 f3 f4 f5⟩
  self := fun _ _ _ _ _ st h => wpAny_pyIter_striter_wide st h
def iStr (tl : TE) : TI := fun σ H R => tl σ H fun x H1 => ∃ z, x = .str z ∧ R (Its z) H1
theorem pi_str {X : Cx} {tg l : Expr} {tl : TE} (hl : PE X l tl) : PI X tg l (iStr tl) := by
  intro pins s σ H R I h
  refine thn (hl pins s σ H _ I h) fun v s1 ⟨x, H1, I1, r1, q1⟩ => ?_
  obtain ⟨z, rfl, q⟩ := q1
  obtain ⟨t, rfl⟩ := r1
  have fpo : ∀ b ∈ [s1.heap.objs.size], FpOk X pins H1 b := fun b hb => by
    have e : b = s1.heap.objs.size := by simpa using hb
    subst e
    exact I1.fpOk (Nat.le_refl _) (I1.hok.fresh (Nat.le_refl _))
  cases ha : z.cps.all (· < 128) with
  | false => exact wpAny_pyIter_wide ha ⟨s1.heap.objs.size, [s1.heap.objs.size], _, _, H1, rfl, I1.kept (t' := s1.toks) fun b o e => Heap.get?_push_of_some _ e, turn_wide z t _, ⟨_, Heap.get?_push_size _ rfl, rfl, rfl⟩, fpo, q⟩
  | true => exact wpAny_pyIter_ascii ha ⟨s1.heap.objs.size, [s1.heap.objs.size], _, _, H1, rfl, I1.kept (t' := s1.toks) fun b o e => Heap.get?_push_of_some _ e, turn_ascii z t _, ⟨_, Heap.get?_push_size _ rfl, rfl, rfl⟩, fpo, q⟩
def signsD (z : Str) : List D := z.cps.toList.map fun c => .str ⟨#[c]⟩
theorem signsD_len (z : Str) : (signsD z).length = z.cps.size := by unfold signsD; simp
section
variable {X : Cx} {E : XK} {He H0e : Hp} {f : Ev → Res D} {s : Ev → Res Fl} {pos : Pos}
end
end DL
set_option Elab.async false
set_option linter.all false
set_option maxRecDepth 100000
namespace DL
open PySem PySem.Spec PyProof.Rows L2
section
variable {X : Cx} {E : XK}
def rAll (K : PySem.W.Frag) : List V → Hp → VK → Prop := fun xs H Q => ∃ (p : Addr) (bs : List Bool), xs = [.ref p] ∧ SqL K H p (bs.map V.bl) ∧ Q (.bl (bs.all id)) H
theorem all_range : ∀ bs : List Bool, (List.range bs.length).all (fun i => bs.getD i false) = bs.all id
  | [] => rfl
  | b :: r => by
    rw [List.length_cons, List.range_succ_eq_map, List.all_cons, List.all_map, List.all_cons, ← all_range r]
    rfl
theorem call_all (hc : X.calm = true) : CallR X (.builtin "all") (rAll X.K) := by
  intro pins s σ H xs us Q I r h
  obtain ⟨p, bs, rfl, hq, q⟩ := h
  obtain ⟨u, rfl, rx⟩ := vals1 r
  cases rx
  obtain ⟨its, rv, pl, hz⟩ := I.list hq
  have hlen := rv.length
  rw [List.length_map] at hlen
  have hne : p ≠ s.heap.objs.size := Nat.ne_of_lt pl.lt
  refine call_all_walk (wpAny_pyIter_list pl.isList ?_)
  have pl2 : (s.heap.push { cls := .type "list_iterator", data := .fields #[.ref p, .int 0 0] }).IsList p its.toArray := by
    obtain ⟨o, k1, k2⟩ := pl.isList
    exact ⟨o, Heap.get?_push_of_some _ k1, k2⟩
  refine ⟨s.heap.objs.size, _, _, _, _, _, fun i => bs.getD i false, rfl, Walks.list (A := X.A.in1) (I.ok.hd hc) s.heap.objs.size p hne its.toArray, ⟨⟨_, Heap.get?_push_size _ rfl, rfl, rfl⟩, pl2⟩, ?_, fun h' tk hk => ?_⟩
  · intro i v s' Q' E' hv hQ
    have hv' : its[i]? = some v := by simpa using hv
    have hi : i < its.length := (List.getElem?_eq_some_iff.mp hv').1
    obtain ⟨w, e1, e2⟩ := rv.get (show (bs.map V.bl)[i]? = some (V.bl (bs.getD i false)) by
      rw [List.getElem?_map, List.getElem?_eq_getElem (by omega)]
      simp [List.getD, List.getElem?_eq_getElem (show i < bs.length by omega)])
    rw [hv'] at e1
    cases e1
    obtain rfl : v = Value.bool _ := e2
    exact wpAny_truthy_bool hQ
  · have hall : (List.range its.toArray.size).all (fun i => bs.getD i false) = bs.all id := by
      rw [List.size_toArray, ← hlen]
      exact all_range bs
    rw [hall]
    exact ⟨.bl _, H, I.kept (t' := tk) (fun b o e => hk b o (by simp only [List.mem_singleton]; exact Nat.ne_of_lt (Heap.lt_size e)) (Heap.get?_push_of_some _ e)), rfl, q⟩
def boolsOf : List D → Option (List Bool)
  | [] => some []
  | .bl b :: r => (boolsOf r).map (b :: ·)
  | _ => none
theorem bools_are {K : PySem.W.Frag} {H : Hp} : ∀ {ds : List D} {bs : List Bool} {vs : List V}, boolsOf ds = some bs → Reps K H ds vs → vs = bs.map V.bl
  | [], bs, vs, h, r => by cases h; exact Reps.nil_iff.mp r
  | d :: ds, bs, vs, h, r => by
    obtain ⟨v, r', rfl, h1, h2⟩ := Reps.cons_iff.mp r
    cases d with
    | bl x =>
      unfold boolsOf at h
      cases e : boolsOf ds with
      | none => rw [e] at h; cases h
      | some zs =>
        rw [e] at h
        cases h
        rw [Rep.bl_iff.mp h1, bools_are e h2]
        rfl
    | _ => cases h
def dAll (x : D) : Res D := match x with
  | .lst ds => match boolsOf ds with
    | some bs => .ok (.bl (bs.all id))
    | none => .stuck
  | _ => .stuck
theorem cd_all : CallD X E (rAll X.K) (m1 dAll) := call1 fun x v H H₀ Q hs r q => by
  cases x with
  | lst ds =>
    unfold dAll at q
    obtain ⟨p, vs, rfl, h1, h2⟩ := Rep.lst_iff.mp r
    cases e : boolsOf ds with
    | none => simp only [e] at q; exact q.elim
    | some bs =>
      simp only [e] at q
      exact ⟨p, bs, rfl, by rw [← bools_are e h2]; exact Same.sqL hs h1, done_at hs q (rb _)⟩
  | _ => exact q.elim
end
end DL
set_option Elab.async false
set_option linter.all false
set_option maxRecDepth 100000
namespace DL
open PySem PySem.Spec PyProof.Rows L2
section
variable {X : Cx} {E : XK} {e : Expr} {f : Ev → Res D} {pos p1 : Pos}
def dOne (x : Str) (d : D) : Res D := .ok (.dic [x] [d])
end
end DL
set_option Elab.async false
set_option linter.all false
set_option maxRecDepth 100000
namespace DL
open PySem PySem.Spec PyProof.Rows L2
def clOf (cells : List (Str × Addr)) : List (Str × NameKind) → List (Str × Addr) → List (Str × Addr)
  | [], acc => acc
  | (n, k) :: r, acc => if (k == NameKind.free) = true then clOf cells r ((n, (cells.lookup n).getD 0) :: acc) else clOf cells r acc
theorem closureFor_eq {scope : Scope} {env : PySem.Env} (h : ∀ x ∈ scope.names, x.2 = .free → ∃ c, env.cells.lookup x.1 = some c) : closureFor scope env = pure (clOf env.cells scope.names []) := by
  simp only [closureFor]
  have key : ∀ (names : List (Str × NameKind)) (acc : List (Str × Addr)), (∀ x ∈ names, x.2 = .free → ∃ c, env.cells.lookup x.1 = some c) →
      (forIn names acc fun (x : Str × NameKind) (z : List (Str × Addr)) =>
            if (x.snd == NameKind.free) = true then do
              let y ← cellOf env x.fst
              pure (ForInStep.yield ((x.fst, y) :: z))
            else (pure (ForInStep.yield z) : Sem _)) = pure (clOf env.cells names acc) := by
    intro names
    induction names with
    | nil => intro acc _; rfl
    | cons x r ih =>
      intro acc hh
      obtain ⟨n, k⟩ := x
      rw [List.forIn_cons]
      by_cases hk : (k == NameKind.free) = true
      · obtain ⟨c, hc⟩ := hh (n, k) List.mem_cons_self (by simpa using hk)
        have hcell : cellOf env n = pure c := by unfold cellOf; rw [show env.cells.lookup n = some c from hc]
        simp only [hk, if_true]
        rw [hcell]
        have := ih ((n, c) :: acc) (fun y hy => hh y (List.mem_cons_of_mem _ hy))
        rw [show clOf env.cells ((n, k) :: r) acc = clOf env.cells r ((n, c) :: acc) by
          show (if (k == NameKind.free) = true then _ else _) = _
          rw [if_pos hk, show env.cells.lookup n = some c from hc]; rfl]
        rw [← this]
        rfl
      · have := ih acc (fun y hy => hh y (List.mem_cons_of_mem _ hy))
        rw [if_neg hk]
        rw [show clOf env.cells ((n, k) :: r) acc = clOf env.cells r acc by
          show (if (k == NameKind.free) = true then _ else _) = _
          rw [if_neg hk]]
        rw [← this]
        rfl
  rw [key _ _ h]
  rfl
theorem clOf_sub {cells : List (Str × Addr)} : ∀ {names : List (Str × NameKind)} {acc : List (Str × Addr)} {x : Str} {c : Addr}, (∀ y ∈ names, y.2 = .free → ∃ c, cells.lookup y.1 = some c) →
    (clOf cells names acc).lookup x = some c → acc.lookup x = some c ∨ cells.lookup x = some c
  | [], acc, x, c, _, h => .inl h
  | (n, k) :: r, acc, x, c, hh, h => by
    unfold clOf at h
    by_cases hk : (k == NameKind.free) = true
    · rw [if_pos hk] at h
      obtain ⟨d, hd⟩ := hh (n, k) List.mem_cons_self (by simpa using hk)
      rcases clOf_sub (fun y hy => hh y (List.mem_cons_of_mem _ hy)) h with h | h
      · rw [List.lookup_cons] at h
        cases e : x == n with
        | true =>
          rw [e] at h
          rw [show cells.lookup n = some d from hd] at h
          cases h
          rw [eq_of_beq e]; exact .inr hd
        | false => rw [e] at h; exact .inl h
      · exact .inr h
    · rw [if_neg hk] at h
      exact clOf_sub (fun y hy => hh y (List.mem_cons_of_mem _ hy)) h
theorem lookup_mem' {α : Type} {x : Str} : ∀ {l : List (Str × α)}, (∃ v, (x, v) ∈ l) → ∃ v, l.lookup x = some v
  | [], ⟨v, h⟩ => by cases h
  | (n, w) :: r, ⟨v, h⟩ => by
    rw [List.lookup_cons]
    cases e : x == n with
    | true => exact ⟨w, rfl⟩
    | false =>
      rcases List.mem_cons.mp h with h | h
      · cases h; simp at e
      · exact lookup_mem' ⟨v, h⟩
theorem clOf_acc {cells : List (Str × Addr)} {x : Str} {c : Addr} : ∀ {names : List (Str × NameKind)} {acc : List (Str × Addr)}, (x, c) ∈ acc → (x, c) ∈ clOf cells names acc
  | [], acc, h => h
  | (n, k) :: r, acc, h => by
    unfold clOf
    by_cases hk : (k == NameKind.free) = true
    · rw [if_pos hk]; exact clOf_acc (List.mem_cons_of_mem _ h)
    · rw [if_neg hk]; exact clOf_acc h
theorem clOf_has {cells : List (Str × Addr)} {x : Str} : ∀ {names : List (Str × NameKind)} {acc : List (Str × Addr)}, (x, NameKind.free) ∈ names → ∃ c, (clOf cells names acc).lookup x = some c := by
  intro names
  induction names with
  | nil => intro acc h; cases h
  | cons y r ih =>
    intro acc h
    obtain ⟨n, k⟩ := y
    unfold clOf
    rcases List.mem_cons.mp h with h | h
    · cases h
      rw [if_pos (by rfl)]
      exact lookup_mem' ⟨_, clOf_acc List.mem_cons_self⟩
    · by_cases hk : (k == NameKind.free) = true
      · rw [if_pos hk]; exact ih h
      · rw [if_neg hk]; exact ih h
def blkCx (X : Cx) (N : List Str) (scope : Scope) (s : Shared) (H : Hp) (C : Addr) (fp : List Addr) (pn : List (Addr × Obj)) : Cx :=
  { X with N := N, s₀ := s, H₀ := H, env := compEnvC scope (clOf X.env.cells scope.names []) C X.env, outer := X.stack, stack := X.stack, ex := fp, fn := fun _ => false, pn := pn, xe := fun _ _ => False }
def blkSt (n : Nat) (fr : List Nat) (σ : L2.St) : L2.St := List.replicate n none ++ fr.map fun (i : Nat) => (σ[i]?).getD none
def FrOk (X : Cx) (N : List Str) (n : Nat) (fr : List Nat) (scope : Scope) : Prop :=
  N.length = n + fr.length ∧ ((N.drop n).zip fr).all (fun p => X.N[p.2]? == some p.1 && X.env.scope.names.lookup p.1 == some .cell && scope.names.lookup p.1 == some .free && (relabel scope X.env).names.lookup p.1 == some .cell) = true
theorem FrOk.at {X : Cx} {N : List Str} {n : Nat} {fr : List Nat} {scope : Scope} (h : FrOk X N n fr scope) {k : Nat} {x : Str} {v : V} {σ : L2.St} (hx : N[k]? = some x) (hv : (blkSt n fr σ)[k]? = some (some v)) :
    ∃ i : Nat, X.N[i]? = some x ∧ σ[i]? = some (some v) ∧ X.env.scope.names.lookup x = some .cell ∧ scope.names.lookup x = some .free ∧ (relabel scope X.env).names.lookup x = some .cell := by
  unfold blkSt at hv
  by_cases hk : k < n
  · rw [List.getElem?_append_left (by simpa using hk), List.getElem?_replicate, if_pos hk] at hv
    cases hv
  · rw [List.getElem?_append_right (by simpa using hk), List.length_replicate, List.getElem?_map] at hv
    cases hi : fr[k - n]? with
    | none => rw [hi] at hv; cases hv
    | some i =>
      rw [hi] at hv
      have hz : ((N.drop n).zip fr)[k - n]? = some (x, i) := by
        rw [List.getElem?_zip_eq_some]
        exact ⟨by rw [List.getElem?_drop, show n + (k - n) = k by omega]; exact hx, hi⟩
      have := List.all_eq_true.mp h.2 _ (List.mem_of_getElem? hz)
      simp only [Bool.and_eq_true, beq_iff_eq] at this
      refine ⟨i, this.1.1.1, ?_, this.1.1.2, this.1.2, this.2⟩
      simp only [Option.map_some, Option.some.injEq] at hv
      cases hs : σ[i]? with
      | none => rw [hs] at hv; cases hv
      | some u => rw [hs] at hv; exact congrArg some hv
def PIf (X : Cx) (ifs : List Expr) (t : TT) : Prop :=
  ∀ (pins : List (Addr × Obj)) (s : Shared) (σ : L2.St) (H : Hp) (Q : Bool → Hp → Prop), Inv X pins σ H s → t σ H Q →
    wpAny (model X.prog X.w) X.A (forIn ifs true fun c r => if r = true then do let ok ← isTrue c X.env (eval c X.env); pure (ForInStep.yield ok) else pure (ForInStep.yield r)) (TP X pins σ Q) X.xe s
def tYes : TT := fun _ H Q => Q true H
theorem pif_nil {X : Cx} : PIf X [] tYes := fun _ _ _ H _ I h => wpAny_tests_nil ⟨H, I, h⟩
theorem pif_one {X : Cx} {c : Expr} {t : TT} (h : PT X c t) : PIf X [c] t := fun pins s σ H Q I q => wpAny_tests_one (h pins s σ H Q I q)
theorem compLoop_tests {prog : Program} {w : World} {A : Around} {R : Result → Shared → Prop} {s : Shared} {elt target iter : Expr} {ifs : List Expr} {scope : Scope} {pos : Pos} {it acc : Value} {env : PySem.Env} (I : Nat → Shared → Prop)
    (turn : ∀ n s, I n s → wpAny (model prog w) A (pyNext it) (fun r s₁ => match r with
      | none => R (.ok .next) s₁
      | some v => wpAny (model prog w) A (letOwnedTupleGo target it v) (fun _ s₁' => wpAny (model prog w) A (assign target env v) (fun _ s₂ =>
          wpAny (model prog w) A (forIn ifs true fun c r => if r = true then do let ok ← isTrue c env (eval c env); pure (ForInStep.yield ok) else pure (ForInStep.yield r)) (fun ok s₃ =>
            if ok = true then wpAny (model prog w) A (eval elt env) (fun x s₄ =>
              wpAny (model prog w) A (call (.builtin "list.append") [acc, x]) (fun _ s₅ => ∃ m, m < n ∧ I m s₅) (fun _ _ => False) s₄) (fun _ _ => False) s₃
            else ∃ m, m < n ∧ I m s₃) (fun _ _ => False) s₂) (fun _ _ => False) s₁') (fun _ _ => False) s₁) (fun _ _ => False) s)
    (n : Nat) (h : I n s) :
    codeAny (model prog w) A (.compLoop (.ListComp elt [⟨target, iter, ifs, 0⟩] scope pos) 0 it acc env) R s := by
  refine codeAny_loop rfl I (fun n s hI => ?_) n h
  show wpAny _ A ((compTurn (.ListComp elt [⟨target, iter, ifs, 0⟩] scope pos) 0 it acc env).onRaise (fun x => do noteFrame x env; theTreesLotGoes x)) _ _ s
  refine wpAny_noted ?_
  rw [compTurn_list]
  refine wpAny_bind (wpAny_standAt (wpAny_bind (wpAny_mono (turn n s hI) (fun r s₁ h₁ => ?_) fun _ _ h' => h'.elim)))
  cases r with
  | none => exact wpAny_pure h₁
  | some v =>
    refine wpAny_bind (wpAny_mono h₁ (fun _ s₁' h₁' => ?_) fun _ _ h' => h'.elim)
    refine wpAny_bind (wpAny_mono h₁' (fun _ s₂ h₂ => wpAny_bind (wpAny_mono h₂ (fun ok s₃ h₃ => ?_) fun _ _ h' => h'.elim)) fun _ _ h' => h'.elim)
    cases ok with
    | false => exact wpAny_pure ⟨rfl, h₃⟩
    | true =>
      exact wpAny_bind (wpAny_bind (wpAny_mono h₃ (fun x s₄ h₄ => wpAny_bind (wpAny_mono h₄ (fun _ s₅ h₅ => wpAny_pure (wpAny_pure ⟨rfl, h₅⟩)) fun _ _ h' => h'.elim)) fun _ _ h' => h'.elim))
def tTurns (n : Nat) (fr : List Nat) (g : TG) (tt : TT) (te : TE) (J : It) (σ : L2.St) (H1 : Hp) (Q : VK) : Prop := ∀ D, H1 D = none → ∃ W : Nat → Nat → List V → L2.St → Hp → Prop, (∃ m, W 0 m [] (blkSt n fr σ) (upd H1 D (.lst []))) ∧
  ∀ i m ys σ' H', W i m ys σ' H' → H' D = some (.lst ys) ∧ ((J.stop i H' ∧ Q (.ref D) H') ∨ (J.go i H' ∧ ys.length < sizeLine ∧ ∀ x H2, J.yld i H' x H2 → g x σ' H2 fun σ3 H3 => tt σ3 H3 fun b H4 =>
    if b = true then te σ3 H4 fun y H5 => H5 D = some (.lst ys) ∧ ∃ m', m' < m ∧ W (i + 1) m' (ys ++ [y]) σ3 (upd H5 D (.lst (ys ++ [y])))
    else ∃ m', m' < m ∧ W (i + 1) m' ys σ3 H4))
theorem comp_core {X : Cx} {tg iter elt : Expr} {ifs : List Expr} {scope : Scope} {pos : Pos} {N : List Str} {n : Nat} {fr : List Nat} {g : TG} {tt : TT} {te : TE} (hc : X.calm = true) (hfr : FrOk X N n fr scope)
    (hcell : ∀ x ∈ scope.names, x.2 ≠ .cell) (hfree : ∀ x ∈ scope.names, x.2 = .free → X.env.scope.names.lookup x.1 = some .cell) (hkind : scope.kind = .function)
    (blk : ∀ s H C fp pn, PG (blkCx X N scope s H C fp pn) tg g ∧ PIf (blkCx X N scope s H C fp pn) ifs tt ∧ PE (blkCx X N scope s H C fp pn) elt te)
    {pins : List (Addr × Obj)} {σ : L2.St} {s2 : Shared} {Q : VK} {itv : Value} {RR : Value → Addr → Result → Shared → Prop}
    (h2 : PIE X pins σ tg (fun J H1 => tTurns n fr g tt te J σ H1 Q) itv s2)
    (fin : ∀ (Da C : Addr) (s6 : Shared) (H5 : Hp) (m : Str → Option Value), Inv X pins σ H5 s6 → s6.heap.Ns C m → FpOk X pins H5 C → Q (.ref Da) H5 → RR (.ref Da) C (.ok .next) s6) :
    wpAny (model X.prog X.w) X.A (newList []) (fun acc s₃ => wpAny (model X.prog X.w) X.A (newFunctionEnv scope X.env.globals (clOf X.env.cells scope.names []) [] X.env.qual none .none (some X.env)) (fun cenv s₄ =>
      codeAny (model X.prog X.w) X.A (.compStart (.ListComp elt [⟨tg, iter, ifs, 0⟩] scope pos) 0 itv acc { cenv with scope := relabel scope X.env }) (RR acc cenv.locals) s₄) X.xe s₃) X.xe s2 := by
  obtain ⟨it, fp, tn, J, H2, e, I2, T, st2, f2, q⟩ := h2
  subst e
  have hD : H2 s2.heap.objs.size = none := I2.fresh
  refine wpAny_newObj_type ?_
  have I3 : Inv X pins σ (upd H2 s2.heap.objs.size (.lst [])) { s2 with heap := s2.heap.push { cls := .type "list", data := .seq ([] : List Value).toArray } } := I2.lnew (t' := s2.toks) (its := []) .nil (Nat.zero_le _)
  obtain ⟨W, ⟨m0, w0⟩, turn⟩ := q s2.heap.objs.size hD
  generalize hs3 : ({ s2 with heap := s2.heap.push { cls := .type "list", data := .seq ([] : List Value).toArray } } : Shared) = s3 at I3 ⊢
  have hs3h : s3.heap = s2.heap.push { cls := .type "list", data := .seq ([] : List Value).toArray } := by rw [← hs3]
  have hDs : s2.heap.objs.size < s3.heap.objs.size := by rw [hs3h, Heap.size_push]; exact Nat.lt_succ_self _
  have fpl : ∀ b ∈ fp, b < s2.heap.objs.size := fun b hb => by
    obtain ⟨o, ho, _⟩ := T.obj _ _ st2 b hb
    exact Heap.lt_size ho
  have kept3 : ∀ b o, s2.heap.get? b = some o → s3.heap.get? b = some o := fun b o e => by rw [hs3h]; exact Heap.get?_push_of_some _ e
  have st3 : tn 0 s3.heap := T.keep _ _ _ st2 fun b _ o e => kept3 b o e
  generalize hDa : s2.heap.objs.size = Da at *
  generalize hH3 : upd H2 Da (.lst []) = H3 at *
  have fr3 : ∀ b ∈ fp, H3 b = none := fun b hb => by rw [← hH3, upd_ne (Nat.ne_of_lt (fpl b hb))]; exact (f2 b hb).1
  have cls : ∀ x c, (clOf X.env.cells scope.names []).lookup x = some c → X.env.cells.lookup x = some c := fun x c e => by
    rcases clOf_sub (fun y hy hf => I3.ok.has y.1 (.inl (hfree y hy hf))) e with e | e
    · cases e
    · exact e
  refine wpAny_newFunctionEnv hcell (by intro y hy; simp at hy) (fun h4 ns4 sb4 => ?_) hkind
  have k4 : ∀ b o, s3.heap.get? b = some o → h4.get? b = some o := fun b o e => (sb4.2 b (Nat.ne_of_lt (Heap.lt_size e))).trans (Heap.get?_push_of_some _ e)
  generalize hC : s3.heap.objs.size = C at *
  have hCn : H3 C = none := I3.hok.fresh (by rw [hC]; exact Nat.le_refl _)
  have ltC : ∀ b o, s3.heap.get? b = some o → b ≠ C := fun b o e => by rw [← hC]; exact Nat.ne_of_lt (Heap.lt_size e)
  have cellC : ∀ x c, X.env.cells.lookup x = some c → c ≠ C := fun x c e => by
    obtain ⟨v, o, ho, _⟩ := I3.cell x c e
    exact ltC c o ho
  have fpC : ∀ b ∈ fp, b ≠ C := fun b hb => by
    have := fpl b hb
    exact Nat.ne_of_lt (Nat.lt_trans this hDs)
  show codeAny (model X.prog X.w) X.A (.compStart (.ListComp elt [⟨tg, iter, ifs, 0⟩] scope pos) 0 (.ref it) (.ref Da) (compEnvC scope (clOf X.env.cells scope.names []) C X.env)) _ _
  generalize hs4 : ({ s3 with heap := h4, toks := s3.toks + ([] : List (Str × Value)).length } : Shared) = s4
  have hs4h : s4.heap = h4 := by rw [← hs4]
  have ok : (blkCx X N scope s3 H3 C fp (X.pn ++ pins)).Ok := by
    refine ⟨I3.ok.mod, hkind, I3.ok.glob, I3.ok.blt, Nat.le_of_eq hC, fun x y c e1 e2 => I3.ok.inj x y c (cls x c e1) (cls y c e2), fun x e => ?_, fun x c e => ?_, fun _ => I3.ok.hd hc, I3.ok.frames, .inl rfl, fun b hb => ⟨fpC b hb, fun x c e => (f2 b hb).2.2.2.2.1 x c (cls x c e)⟩, I3.bs, Nat.le_trans I3.ok.bsz I3.sz, fun b o e hb => ?_, fun b hb z => ?_, I3.stack, I3.stkFree⟩
    · have mm : ∀ k : NameKind, (relabel scope X.env).names.lookup x = some k → (k = .cell ∨ k = .free) → (x, NameKind.free) ∈ scope.names := fun k hk hk2 => by
        have hm := PySem.mem_of_lookup hk
        obtain ⟨⟨n', k'⟩, hm1, hm2⟩ := List.mem_map.mp hm
        dsimp only at hm2
        split at hm2
        · rename_i hcnd
          cases hm2
          simp only [Bool.and_eq_true, beq_iff_eq] at hcnd
          rw [hcnd.1.1] at hm1
          exact hm1
        · cases hm2
          rcases hk2 with rfl | rfl
          · exact absurd rfl (hcell _ hm1)
          · exact hm1
      rcases e with e | e
      · exact clOf_has (mm _ e (.inl rfl))
      · exact clOf_has (mm _ e (.inr rfl))
    · cases e
    · rcases (f2 b hb).2.2.2.1 with z | z
      · exact I3.ok.noex b o e z
      · exact absurd (Nat.lt_of_lt_of_le (Heap.lt_size e) (Nat.le_trans I3.ok.bsz z)) (Nat.lt_irrefl _)
    · rcases List.mem_cons.mp (I3.stkSub b z) with z | z
      · exact (f2 b hb).2.1 z
      · exact (f2 b hb).2.2.1 z
  have I4 : Inv (blkCx X N scope s3 H3 C fp (X.pn ++ pins)) [] (blkSt n fr σ) H3 s4 := by
    refine ⟨ok, by rw [← hs4]; rfl, by rw [← hs4]; exact I3.bare, by rw [hs4h]; exact Un.kept k4, ⟨_, by rw [hs4h]; exact ns4, fun i x v h1 h2 h3 => ?_⟩, fun x c e => ?_, hCn, fun x c e => I3.freeC x c (cls x c e), fun p hp => ?_, by rw [hs4h]; exact I3.hok.kept k4, ?_⟩
    · obtain ⟨j, j1, j2, j3, j4, j5⟩ := hfr.at h1 h2
      obtain ⟨m, hn, hl⟩ := I3.loc
      obtain ⟨u, ru, l⟩ := hl j x v j1 j2 (.inr (.inl j3))
      refine ⟨u, ru, .inr ⟨.inl j5, ?_⟩⟩
      rcases l with ⟨z, _⟩ | ⟨_, c, z1, z2⟩
      · rw [show X.env.kindOf x = X.env.scope.names.lookup x from rfl, j3] at z; cases z
      · obtain ⟨c', hc'⟩ := clOf_has (cells := X.env.cells) (names := scope.names) (acc := []) (PySem.mem_of_lookup j4)
        have := cls x c' hc'
        rw [z1] at this; cases this
        obtain ⟨oc, q1, q2⟩ := z2
        exact ⟨c, hc', oc, by rw [hs4h]; exact k4 _ _ q1, q2⟩
    · obtain ⟨v, oc, q1, q2⟩ := I3.cell x c (cls x c e)
      exact ⟨v, oc, by rw [hs4h]; exact k4 _ _ q1, q2⟩
    · rw [List.append_nil] at hp
      obtain ⟨p1, p2, p3, p4, p5⟩ := I3.pin p hp
      refine ⟨by rw [hs4h]; exact k4 _ _ p1, p2, ltC _ _ p1, fun z => ?_, p5⟩
      rcases List.mem_cons.mp (I3.stkSub _ z) with z | z
      · exact p3 z
      · exact p4 z
    · show (blkSt n fr σ).length = N.length
      unfold blkSt
      rw [List.length_append, List.length_replicate, List.length_map, hfr.1]
  have st4 : tn 0 s4.heap := by rw [hs4h]; exact T.keep _ _ _ st3 fun b _ o e => k4 b o e
  have stat : ∀ {H' : Hp}, (∀ b ∈ fp, H' b = none) → ∀ b ∈ fp, FpOk (blkCx X N scope s3 H3 C fp (X.pn ++ pins)) [] H' b := fun hn b hb => by
    refine ⟨hn b hb, fpC b hb, fun z => ?_, .inl hb, fun x c e => (f2 b hb).2.2.2.2.1 x c (cls x c e), fun p hp => ?_⟩
    · rcases List.mem_cons.mp (I3.stkSub b z) with z | z
      · exact (f2 b hb).2.1 z
      · exact (f2 b hb).2.2.1 z
    · rw [List.append_nil] at hp
      exact (f2 b hb).2.2.2.2.2 p hp
  have loop : codeAny (model X.prog X.w) X.A (.compLoop (.ListComp elt [⟨tg, iter, ifs, 0⟩] scope pos) 0 (.ref it) (.ref Da) (compEnvC scope (clOf X.env.cells scope.names []) C X.env)) (RR (.ref Da) C) s4 := by
    refine compLoop_tests (fun n s' => ∃ i ys σ' H', Inv (blkCx X N scope s3 H3 C fp (X.pn ++ pins)) [] σ' H' s' ∧ tn i s'.heap ∧ (∀ b ∈ fp, H' b = none) ∧ W i n ys σ' H') ?_ m0 ⟨0, [], _, H3, I4, st4, fr3, w0⟩
    rintro k s5 ⟨i, ys, σ5, H5, I5, st5, fr5, w5⟩
    obtain ⟨hDl, ways⟩ := turn i k ys σ5 H5 w5
    rcases ways with ⟨stop, fin'⟩ | ⟨go, hz, step⟩
    · refine thn (T.done (blkCx X N scope s3 H3 C fp (X.pn ++ pins)) rfl rfl rfl hc i [] s5 σ5 H5 (fun _ _ => False) I5 (stat fr5) st5 stop) fun r s6 ⟨hr, I6⟩ => ?_
      subst hr
      obtain ⟨mm, nsm, _⟩ := I6.loc
      have free6 : H5 C = none := I6.free
      have hok : HOk X.prog X.w H5 s6.heap := I6.hok
      have un : Un (frs X.stack) fp H3 H5 s3.heap s6.heap := I6.base
      have IX : Inv X pins σ H5 s6 := I3.call' (s' := s6) (ch := fp) I6.os un hok I6.bare (fun b hb => ⟨(f2 b hb).2.2.2.1, (f2 b hb).2.1, (f2 b hb).2.2.2.2.1, (f2 b hb).2.2.2.2.2⟩)
      have fC : FpOk X pins H5 C := I3.fpOk (b := C) (H' := H5) (by rw [hC]; exact Nat.le_refl _) free6
      exact fin Da C s6 H5 mm IX nsm fC fin'
    · refine thn (T.item (blkCx X N scope s3 H3 C fp (X.pn ++ pins)) rfl rfl rfl hc i [] s5 σ5 H5 (fun _ _ => False) I5 (stat fr5) st5 go) fun r s6 ⟨u, hr, h6⟩ => ?_
      subst hr
      refine thn h6 fun _ s7 ⟨x, H7, I7, r7, y7, st7, fr7⟩ => ?_
      have I7' := I7.pinned (stat fr7) (T.obj _ _ st7)
      refine thn ((blk s3 H3 C fp (X.pn ++ pins)).1 _ s7 σ5 H7 x u _ I7' r7 (step x H7 y7)) fun _ s8 ⟨σ8, H8, I8, q8⟩ => ?_
      refine thn ((blk s3 H3 C fp (X.pn ++ pins)).2.1 _ s8 σ8 H8 _ I8 q8) fun b s8b ⟨H8b, I8b, q8b⟩ => ?_
      have back : ∀ {σ' : L2.St} {H' : Hp} {s' : Shared}, L2.Inv (blkCx X N scope s3 H3 C fp (X.pn ++ pins)) (([] : List (Addr × Obj)) ++ pinsAt fp s7.heap) σ' H' s' → tn (i + 1) s'.heap ∧ ∀ b ∈ fp, H' b = none := fun {σ' H' s'} I' => by
        refine ⟨T.keep _ _ _ st7 fun b hb o e => (I'.pin (b, o) (List.mem_append_right _ (List.mem_append_right _ (mem_pinsAt hb e)))).1, fun b hb => ?_⟩
        obtain ⟨o, e, d⟩ := T.obj _ _ st7 b hb
        exact (I'.pin (b, o) (List.mem_append_right _ (List.mem_append_right _ (mem_pinsAt hb e)))).2.1
      cases b with
      | false =>
        rw [if_neg Bool.false_ne_true] at q8b ⊢
        obtain ⟨m', hm, w9⟩ := q8b
        exact ⟨m', hm, i + 1, ys, σ8, _, I8b.unpinned, (back I8b).1, (back I8b).2, w9⟩
      | true =>
        rw [if_pos rfl] at q8b ⊢
        refine thn ((blk s3 H3 C fp (X.pn ++ pins)).2.2 _ s8b σ8 H8b _ I8b q8b) fun y s9 ⟨yv, H9, I9, r9, hD9, m', hm, w9⟩ => ?_
        refine thn (mt_append (X := blkCx X N scope s3 H3 C fp (X.pn ++ pins)) _ s9 σ8 H9 (.ref Da) [yv] (.ref Da) [y] (fun v H' => H' = upd H9 Da (.lst (ys ++ [yv]))) I9 rfl (.cons r9 .nil) ⟨Da, ys, yv, rfl, rfl, hD9, hz, rfl⟩) fun _ s10 ⟨v10, H10, I10, _, e10⟩ => ?_
        subst e10
        exact ⟨m', hm, i + 1, ys ++ [yv], σ8, _, I10.unpinned, (back I10).1, (back I10).2, w9⟩
  exact codeAny_compStart_list loop (T.self _ 0 _ _ _ st4 loop)
end DL
set_option Elab.async false
set_option linter.all false
set_option maxRecDepth 100000
namespace DL
open PySem PySem.Spec PyProof.Rows L2
structure ItD (K : PySem.W.Frag) (ds : List D) (J : It) (H₀ : Hp) : Prop where
  go : ∀ (i : Nat) (H' H₀' : Hp), Same H₀ H₀' → Same H₀' H' → i < ds.length → J.go i H'
  yld : ∀ (i : Nat) (H' H₀' : Hp) (x : V) (H2 : Hp) (d : D), Same H₀ H₀' → Same H₀' H' → ds[i]? = some d → J.yld i H' x H2 → ∃ H₀2, Grow H' H₀' H2 H₀2 ∧ Rep K H₀2 d x
  stop : ∀ (i : Nat) (H' H₀' : Hp), Same H₀ H₀' → Same H₀' H' → ds.length ≤ i → J.stop i H'
def tDI (K : PySem.W.Frag) (E : XK) (src : Ev → Res (List D)) : TI := fun σ H R => ∃ H₀ ρ, Same H₀ H ∧ Reads K H₀ σ ρ ∧ match src ρ with
  | .ok ds => ∀ J H' H₀', Grow H H₀ H' H₀' → ItD K ds J H₀' → R J H'
  | .exn x => ∀ C ox H' H₀', Grow H H₀ H' H₀' → ExR K H₀' x C ox → E C ox H'
  | .stuck => False
structure DI (X : Cx) (E : XK) (tg iter : Expr) (src : Ev → Res (List D)) : Prop where
  o : PI X tg iter (tDI X.K E src)
theorem pi_weak {X : Cx} {tg iter : Expr} {t t' : TI} (h : PI X tg iter t) (w : ∀ σ H R, t' σ H R → t σ H R) : PI X tg iter t' := fun pins s σ H R I q => h pins s σ H R I (w σ H R q)
def srcL (f : Ev → Res D) : Ev → Res (List D) := fun ρ => (f ρ).bind fun d => match d with
  | .lst ds => .ok ds
  | _ => .stuck
def srcT (f : Ev → Res D) : Ev → Res (List D) := fun ρ => (f ρ).bind fun d => match d with
  | .tup ds => .ok ds
  | _ => .stuck
def srcS (f : Ev → Res D) : Ev → Res (List D) := fun ρ => (f ρ).bind fun d => match d with
  | .str z => .ok (signsD z)
  | _ => .stuck
def srcR1 (f : Ev → Res D) : Ev → Res (List D) := fun ρ => (f ρ).bind fun d => match d with
  | .int j => if -4611686018427387904 ≤ j ∧ j < 4611686018427387904 then .ok (intsFrom 0 j.toNat) else .stuck
  | _ => .stuck
section
variable {X : Cx} {E : XK} {tg e a b : Expr} {f g : Ev → Res D}
theorem di_list (h : DE X E e f) : DI X E tg e (srcL f) := by
  refine ⟨pi_weak (pi_list h.o) fun σ H R ⟨H₀, ρ, hs, hr, q⟩ => ⟨H₀, ρ, hs, hr, ?_⟩⟩
  unfold srcL at q
  cases e1 : f ρ with
  | stuck => rw [e1] at q; exact q
  | exn x => rw [e1] at q; exact q
  | ok d =>
    rw [e1] at q
    intro v H1 H01 g1 r1
    cases d with
    | lst ds =>
      obtain ⟨p, vs, rfl, hv, hrv⟩ := Rep.lst_iff.mp r1
      refine ⟨p, rfl, ⟨vs, Same.sqL g1.sub hv⟩, q _ H1 H01 g1 ⟨fun i H' H₀' s1 s2 hi => ?_, fun i H' H₀' x H2 d s1 s2 hd hy => ?_, fun i H' H₀' s1 s2 hi => ?_⟩⟩
      · exact ⟨vs, vs[i]'(by rw [← hrv.length]; exact hi), Same.sqL (s1.trans s2) hv, by simp⟩
      · obtain ⟨rfl, hy⟩ := hy
        obtain ⟨u, k1, k2⟩ := hrv.get hd
        have := hy vs (Same.sqL (s1.trans s2) hv)
        rw [k1] at this; cases this
        exact ⟨H₀', Grow.refl s2, k2.mono s1⟩
      · exact ⟨vs, Same.sqL (s1.trans s2) hv, by rw [← hrv.length]; exact hi⟩
    | _ => exact q.elim
theorem di_str (h : DE X E e f) : DI X E tg e (srcS f) := by
  refine ⟨pi_weak (pi_str h.o) fun σ H R ⟨H₀, ρ, hs, hr, q⟩ => ⟨H₀, ρ, hs, hr, ?_⟩⟩
  unfold srcS at q
  cases e1 : f ρ with
  | stuck => rw [e1] at q; exact q
  | exn x => rw [e1] at q; exact q
  | ok d =>
    rw [e1] at q
    intro v H1 H01 g1 r1
    cases d with
    | str z =>
      refine ⟨z, Rep.str_iff.mp r1, q _ H1 H01 g1 ⟨fun i H' H₀' s1 s2 hi => ?_, fun i H' H₀' x H2 d s1 s2 hd hy => ?_, fun i H' H₀' s1 s2 hi => ?_⟩⟩
      · rw [signsD_len] at hi; exact hi
      · obtain ⟨rfl, c, hc, rfl⟩ := hy
        have : d = .str ⟨#[c]⟩ := by
          unfold signsD at hd
          rw [List.getElem?_map] at hd
          have h2 : z.cps.toList[i]? = some c := by simpa using hc
          rw [h2] at hd; cases hd; rfl
        subst this
        exact ⟨H₀', Grow.refl s2, Rep.str_iff.mpr rfl⟩
      · rw [signsD_len] at hi; exact hi
    | _ => exact q.elim
theorem itD_range {K : PySem.W.Frag} {lo : Int} {n : Nat} {H : Hp} : ItD K (intsFrom lo n) (Itr lo n) H := by
  have hl : (intsFrom lo n).length = n := by unfold intsFrom; simp
  refine ⟨fun i H' H₀' _ _ hi => ?_, fun i H' H₀' x H2 d s1 s2 hd hy => ?_, fun i H' H₀' _ _ hi => ?_⟩
  · rw [hl] at hi; exact hi
  · obtain ⟨rfl, rfl⟩ := hy
    have : d = .int (lo + i) := by
      unfold intsFrom at hd
      rw [List.getElem?_map] at hd
      cases e : (List.range n)[i]? with
      | none => rw [e] at hd; cases hd
      | some k =>
        rw [e] at hd
        have hk : k = i := by
          obtain ⟨h1, h2⟩ := List.getElem?_eq_some_iff.mp e
          simpa using h2.symm
        subst hk; cases hd; rfl
    subst this
    exact ⟨H₀', Grow.refl s2, Rep.int_iff.mpr rfl⟩
  · rw [hl] at hi; exact hi
theorem di_range1 {p pos : Pos} (hg : Gl X "range") (hm : X.mg "range" = none) (h : DE X E a f) (hn : nst a = true := by exact rfl) : DI X E tg (.Call (.Name "range" p) [a] [] pos) (srcR1 f) := by
  refine ⟨pi_weak (pi_range1 hg hm (pa_cons h.o pa_nil (star_one hn)) (star_one hn)) fun σ H R ⟨H₀, ρ, hs, hr, q⟩ => ⟨H₀, ρ, hs, hr, ?_⟩⟩
  unfold srcR1 at q
  cases e1 : f ρ with
  | stuck => rw [e1] at q; exact q
  | exn x => rw [e1] at q; exact q
  | ok d =>
    rw [e1] at q
    intro v H1 H01 g1 r1
    cases d with
    | int j =>
      replace q : match (if -4611686018427387904 ≤ j ∧ j < 4611686018427387904 then Res.ok (intsFrom 0 j.toNat) else .stuck) with
        | .ok ds => ∀ J H' H₀', Grow H H₀ H' H₀' → ItD X.K ds J H₀' → R J H'
        | .exn x => ∀ C ox H' H₀', Grow H H₀ H' H₀' → ExR X.K H₀' x C ox → E C ox H'
        | .stuck => False := q
      by_cases hj : -4611686018427387904 ≤ j ∧ j < 4611686018427387904
      · rw [if_pos hj] at q
        rw [Rep.int_iff.mp r1]
        exact ⟨j, rfl, hj.1, hj.2, q _ H1 H01 g1 itD_range⟩
      · rw [if_neg hj] at q; exact q.elim
    | _ => exact q.elim
end
def sForI (src : Ev → Res (List D)) (tg : Ev → D → Res Ev) (s : Ev → Res Fl) : Ev → Res Fl := fun ρ => (src ρ).bind fun ds => forD tg s ds ρ
section
variable {X : Cx} {E : XK} {He H0e : Hp} {st : Stmt} {s : Ev → Res Fl} {pos : Pos}
theorem LoopI.step2 {K : PySem.W.Frag} {H₁ H₀ : Hp} {tg : Ev → D → Res Ev} {ds : List D} {D' : Ends} {i : Nat} {σ : L2.St} {H : Hp} {d : D} {v : V} {ρ : Ev} (z : Same H₁ H₀) (h : SRx K He H0e H₀ σ H ρ) (q : postS K E He H0e H₀ (forD tg s (ds.drop i) ρ) D') (hd : ds[i]? = some d) (rv : Rep K H₀ d v)
    (he : ∀ ρ, tg ρ d = .stuck ∨ ∃ ρ', tg ρ d = .ok ρ') :
    tG K He H0e tg v σ H fun σ2 H2 => tS K E He H0e s { D' with nx := LoopI K E He H0e H₁ tg s ds D' (i + 1), ct := LoopI K E He H0e H₁ tg s ds D' (i + 1), bk := D'.nx } σ2 H2 := by
  have hi : i < ds.length := (List.getElem?_eq_some_iff.mp hd).1
  have hdr : ds.drop i = d :: ds.drop (i + 1) := by
    rw [List.drop_eq_getElem_cons hi]
    rw [List.getElem?_eq_getElem hi] at hd
    cases hd; rfl
  rw [hdr] at q
  refine ⟨H₀, ρ, d, h, rv, ?_⟩
  unfold forD at q
  rcases he ρ with e1 | ⟨ρ1, e1⟩
  · rw [e1] at q; exact q.elim
  · rw [e1] at q ⊢
    intro σ' H' H₀' z' h'
    refine ⟨H₀', ρ1, h', ?_⟩
    replace q := postS.grow (r := (s ρ1).bind fun x => match x with
      | .nx ρ2 => forD tg s (ds.drop (i + 1)) ρ2
      | .ct ρ2 => forD tg s (ds.drop (i + 1)) ρ2
      | .bk ρ2 => .ok (.nx ρ2)
      | .rt d => .ok (.rt d)) q z'
    cases e2 : s ρ1 with
    | stuck => rw [e2] at q; exact q
    | exn x => rw [e2] at q; exact q
    | ok r =>
      rw [e2] at q
      cases r with
      | nx ρ2 => exact fun σ3 H3 H03 z3 h3 => ⟨H03, ρ2, (z.trans z').trans z3, h3, postS.grow (r := forD tg s (ds.drop (i + 1)) ρ2) q z3⟩
      | ct ρ2 => exact fun σ3 H3 H03 z3 h3 => ⟨H03, ρ2, (z.trans z').trans z3, h3, postS.grow (r := forD tg s (ds.drop (i + 1)) ρ2) q z3⟩
      | bk ρ2 => exact q
      | rt d => exact q
theorem ds_forI {tgt iter : Expr} {body : List Stmt} {tg : Ev → D → Res Ev} {src : Ev → Res (List D)} (hp : PassesOwn (model X.prog X.w) X.A X.env X.xe) (hc : X.calm = true) (hi : DI X E tgt iter src) (hg : DG X E He H0e tgt tg) (ht : Total tg) (hb : DSs X E He H0e body s)
    (hs : ∀ x, foldedSetIterable iter X.env x = pure x := by intro _; rfl) : DS X E He H0e (.For tgt iter body [] pos) (sForI src tg s) := by
  refine ⟨ps_weak (ps_for hp hc hi.o hg.o hb.o hs) fun D' σ H ⟨H₀, ρ, h, q⟩ => ⟨H₀, ρ, h.g.sub, h.rd, ?_⟩⟩
  unfold sForI at q
  cases e1 : src ρ with
  | stuck => rw [e1] at q; exact q
  | exn x => rw [e1] at q; exact fun C ox H' H₀' g r => q C ox H' H₀' (h.g.trans g) r
  | ok ds =>
    rw [e1] at q
    intro J H1 H01 g it
    have q1 : postS X.K E He H0e H01 (forD tg s ds ρ) D' := postS.grow (r := forD tg s ds ρ) q g.z
    refine ⟨fun i m σ' H' => m + i = ds.length ∧ LoopI X.K E He H0e H01 tg s ds D' i σ' H', ⟨ds.length, rfl, H01, ρ, Same.refl _, h.grow g, q1⟩, ?_⟩
    rintro i m σ' H' ⟨hm, H₀', ρ', z, h', hq⟩
    by_cases hlt : i < ds.length
    · refine .inr ⟨it.go i H' H₀' z h'.g.sub hlt, fun σ2 H2 => LoopI X.K E He H0e H01 tg s ds D' (i + 1) σ2 H2, fun σ2 H2 hl => ⟨m - 1, by omega, by omega, hl⟩, fun x H2 hy => ?_⟩
      obtain ⟨H₀2, g2, rp⟩ := it.yld i H' H₀' x H2 ds[i] z h'.g.sub (List.getElem?_eq_getElem hlt) hy
      exact LoopI.step2 (z.trans g2.z) (h'.grow g2) (postS.grow (r := forD tg s (ds.drop i) ρ') hq g2.z) (List.getElem?_eq_getElem hlt) rp fun ρ => ht ρ _
    · have e : i = ds.length := by omega
      refine .inl ⟨it.stop i H' H₀' z h'.g.sub (by omega), ?_⟩
      subst e
      exact LoopI.done ⟨H₀', ρ', z, h', hq⟩
end
end DL
set_option Elab.async false
set_option linter.all false
set_option maxRecDepth 100000
namespace DL
open PySem PySem.Spec PyProof.Rows L2
def ListOnly (f : Ev → Res D) : Prop := ∀ ρ d, f ρ = .ok d → ∃ ds, d = .lst ds
theorem tF_of_tD {K : PySem.W.Frag} {E : XK} {f : Ev → Res D} (hf : ListOnly f) {σ : L2.St} {H : Hp} {Q : VK} (h : tD K E f σ H Q) : tF K E f σ H Q := by
  obtain ⟨H₀, ρ, hs, hr, q⟩ := h
  refine ⟨H₀, ρ, hs, hr, ?_⟩
  cases e1 : f ρ with
  | stuck => rw [e1] at q; exact q
  | exn x => rw [e1] at q; exact q
  | ok d =>
    obtain ⟨ds, rfl⟩ := hf ρ d e1
    rw [e1] at q
    intro p vs H' H₀' g hp h0 hv rp
    have n0 : H₀ p = none := hs.free hp
    refine q (.ref p) H' (upd H₀' p (.lst vs)) ⟨g.s, fun b o e => ?_, fun b o e => ?_, fun b k1 k2 => ?_⟩ (Rep.lst_iff.mpr ⟨p, vs, rfl, SqL.of upd_same, rp.mono fun b o e => ?_⟩)
    · rw [upd_ne (by intro z; subst z; rw [n0] at e; cases e)]; exact g.z _ _ e
    · by_cases hb : b = p
      · subst hb; rw [upd_same] at e; cases e; exact hv
      · rw [upd_ne hb] at e; exact g.sub _ _ e
    · by_cases hb : b = p
      · subst hb; exact hp
      · rw [upd_ne hb] at k1; exact g.nw b k1 k2
    · rw [upd_ne (by intro z; subst z; rw [h0] at e; cases e)]; exact e
theorem de_of_df {X : Cx} {E : XK} {e : Expr} {f : Ev → Res D} (hf : ListOnly f) (h : DF X E e f) : DE X E e f := ⟨pe_weak h.o fun σ H Q q => tF_of_tD hf q⟩
def baseD (n : Nat) (fr : List Nat) (ρ : Ev) : Ev := List.replicate n .no ++ fr.map fun (i : Nat) => match ρ[i]? with
  | some (.sh d) => .sh d
  | _ => .no
def collD (b : Ev) (tg : Ev → D → Res Ev) (tt fe : Ev → Res D) : List D → Res (List D)
  | [] => .ok []
  | d :: r => (tg b d).bind fun ρ1 => (tt ρ1).bind fun t => match t with
    | .bl true => (fe ρ1).bind fun x => (collD b tg tt fe r).bind fun xs => .ok (x :: xs)
    | .bl false => collD b tg tt fe r
    | _ => .stuck
def compD (n : Nat) (fr : List Nat) (src : Ev → Res (List D)) (tg : Ev → D → Res Ev) (tt fe : Ev → Res D) : Ev → Res D := fun ρ => (src ρ).bind fun ds =>
  if ds.length ≤ line then match collD (baseD n fr ρ) tg tt fe ds with
    | .ok es => .ok (.lst es)
    | _ => .stuck
  else .stuck
theorem comp_only {n : Nat} {fr : List Nat} {src : Ev → Res (List D)} {tg : Ev → D → Res Ev} {tt fe : Ev → Res D} : ListOnly (compD n fr src tg tt fe) := fun ρ d h => by
  unfold compD at h
  cases e1 : src ρ with
  | stuck => rw [e1] at h; cases h
  | exn x => rw [e1] at h; cases h
  | ok ds =>
    rw [e1] at h
    replace h : (if ds.length ≤ line then match collD (baseD n fr ρ) tg tt fe ds with
      | .ok es => Res.ok (D.lst es)
      | _ => .stuck else .stuck) = .ok d := h
    split at h
    · split at h
      · cases h; exact ⟨_, rfl⟩
      · cases h
    · cases h
theorem collD_cons {b : Ev} {tg : Ev → D → Res Ev} {tt fe : Ev → Res D} {d : D} {r es : List D} (h : collD b tg tt fe (d :: r) = .ok es) :
    ∃ ρ1 t, tg b d = .ok ρ1 ∧ tt ρ1 = .ok (.bl t) ∧ ((t = true ∧ ∃ x xs, fe ρ1 = .ok x ∧ collD b tg tt fe r = .ok xs ∧ es = x :: xs) ∨ (t = false ∧ collD b tg tt fe r = .ok es)) := by
  unfold collD at h
  cases e1 : tg b d with
  | stuck => rw [e1] at h; cases h
  | exn z => rw [e1] at h; cases h
  | ok ρ1 =>
    rw [e1] at h
    replace h : ((tt ρ1).bind fun t => match t with
      | .bl true => (fe ρ1).bind fun x => (collD b tg tt fe r).bind fun xs => Res.ok (x :: xs)
      | .bl false => collD b tg tt fe r
      | _ => .stuck) = .ok es := h
    cases e2 : tt ρ1 with
    | stuck => rw [e2] at h; cases h
    | exn z => rw [e2] at h; cases h
    | ok t =>
      rw [e2] at h
      cases t with
      | bl t =>
        cases t with
        | true =>
          replace h : ((fe ρ1).bind fun x => (collD b tg tt fe r).bind fun xs => Res.ok (x :: xs)) = .ok es := h
          cases e3 : fe ρ1 with
          | stuck => rw [e3] at h; cases h
          | exn z => rw [e3] at h; cases h
          | ok x =>
            rw [e3] at h
            replace h : ((collD b tg tt fe r).bind fun xs => Res.ok (x :: xs)) = .ok es := h
            cases e4 : collD b tg tt fe r with
            | stuck => rw [e4] at h; cases h
            | exn z => rw [e4] at h; cases h
            | ok xs => rw [e4] at h; cases h; exact ⟨ρ1, true, rfl, e2, .inl ⟨rfl, x, xs, e3, rfl, rfl⟩⟩
        | false => exact ⟨ρ1, false, rfl, e2, .inr ⟨rfl, h⟩⟩
      | _ => cases h
theorem collD_yes {b : Ev} {tg : Ev → D → Res Ev} {tt fe : Ev → Res D} {d x : D} {r : List D} {ρ1 : Ev} (h1 : tg b d = .ok ρ1) (h2 : tt ρ1 = .ok (.bl true)) (h3 : fe ρ1 = .ok x) : collD b tg tt fe (d :: r) = (collD b tg tt fe r).bind fun xs => .ok (x :: xs) := by
  rw [collD, h1]
  simp only [Res.bind, h2, h3]
theorem collD_no {b : Ev} {tg : Ev → D → Res Ev} {tt fe : Ev → Res D} {d : D} {r : List D} {ρ1 : Ev} (h1 : tg b d = .ok ρ1) (h2 : tt ρ1 = .ok (.bl false)) : collD b tg tt fe (d :: r) = collD b tg tt fe r := by
  rw [collD, h1]
  simp only [Res.bind, h2]
theorem collD_app {b : Ev} {tg : Ev → D → Res Ev} {tt fe : Ev → Res D} : ∀ {r q es : List D}, collD b tg tt fe (r ++ q) = .ok es → ∃ e1 e2, collD b tg tt fe r = .ok e1 ∧ collD b tg tt fe q = .ok e2 ∧ es = e1 ++ e2
  | [], q, es, h => ⟨[], es, rfl, h, rfl⟩
  | d :: r, q, es, h => by
    obtain ⟨ρ1, t, h1, h2, h3⟩ := collD_cons h
    rcases h3 with ⟨rfl, x, xs, h3, h4, rfl⟩ | ⟨rfl, h4⟩
    · obtain ⟨e1, e2, k1, k2, rfl⟩ := collD_app h4
      refine ⟨x :: e1, e2, ?_, k2, rfl⟩
      rw [collD_yes h1 h2 h3, k1]; rfl
    · obtain ⟨e1, e2, k1, k2, rfl⟩ := collD_app h4
      refine ⟨e1, e2, ?_, k2, rfl⟩
      rw [collD_no h1 h2]; exact k1
theorem collD_join {b : Ev} {tg : Ev → D → Res Ev} {tt fe : Ev → Res D} : ∀ {r q e1 e2 : List D}, collD b tg tt fe r = .ok e1 → collD b tg tt fe q = .ok e2 → collD b tg tt fe (r ++ q) = .ok (e1 ++ e2)
  | [], q, e1, e2, h, h' => by cases h; exact h'
  | d :: r, q, e1, e2, h, h' => by
    obtain ⟨ρ1, t, h1, h2, h3⟩ := collD_cons h
    show collD b tg tt fe (d :: (r ++ q)) = _
    rcases h3 with ⟨rfl, x, xs, h3, h4, rfl⟩ | ⟨rfl, h4⟩
    · rw [collD_yes h1 h2 h3, collD_join h4 h']; rfl
    · rw [collD_no h1 h2]; exact collD_join h4 h'
theorem collD_le {b : Ev} {tg : Ev → D → Res Ev} {tt fe : Ev → Res D} : ∀ {r es : List D}, collD b tg tt fe r = .ok es → es.length ≤ r.length
  | [], es, h => by cases h; exact Nat.le_refl _
  | d :: r, es, h => by
    obtain ⟨ρ1, t, h1, h2, h3⟩ := collD_cons h
    rcases h3 with ⟨rfl, x, xs, h3, h4, rfl⟩ | ⟨rfl, h4⟩
    · exact Nat.succ_le_succ (collD_le h4)
    · exact Nat.le_succ_of_le (collD_le h4)
def TgOk (n : Nat) (tg : Ev → D → Res Ev) : Prop := ∀ ρ d ρ', tg ρ d = .ok ρ' → ρ'.length = ρ.length ∧ ∀ (k : Nat), n ≤ k → ρ'[k]? = ρ[k]?
theorem tgOk_set {i n : Nat} (h : i < n) : TgOk n (gSet i) := fun ρ d ρ' e => by
  cases e
  exact ⟨by simp, fun k hk => by rw [List.getElem?_set_ne (by omega)]⟩
theorem setAll_keeps {n : Nat} : ∀ {is : List Nat} {ds : List D} {ρ : Ev}, (is.all fun i => decide (i < n)) = true → (setAll ρ is ds).length = ρ.length ∧ ∀ (k : Nat), n ≤ k → (setAll ρ is ds)[k]? = ρ[k]?
  | [], ds, ρ, _ => by unfold setAll; exact ⟨rfl, fun _ _ => rfl⟩
  | i :: is, [], ρ, _ => by unfold setAll; exact ⟨rfl, fun _ _ => rfl⟩
  | i :: is, d :: ds, ρ, h => by
    rw [List.all_cons, Bool.and_eq_true, decide_eq_true_eq] at h
    unfold setAll
    obtain ⟨h1, h2⟩ := setAll_keeps (ds := ds) (ρ := ρ.set i (.sh d)) h.2
    exact ⟨by rw [h1]; simp, fun k hk => by rw [h2 k hk, List.getElem?_set_ne (by omega)]⟩
theorem tgOk_unp {n : Nat} {is : List Nat} (h : (is.all fun i => decide (i < n)) = true) : TgOk n (gUnp is) := fun ρ d ρ' e => by
  unfold gUnp at e
  cases hp : partsOf is.length d with
  | none => rw [hp] at e; cases e
  | some ds => rw [hp] at e; cases e; exact setAll_keeps h
theorem base_reads {K : PySem.W.Frag} {H₀ : Hp} {σ : L2.St} {ρ : Ev} {n : Nat} {fr : List Nat} (h : Reads K H₀ σ ρ) : Reads K H₀ (blkSt n fr σ) (baseD n fr ρ) := fun i d e => by
  unfold baseD at e
  unfold blkSt
  by_cases hi : i < n
  · rw [List.getElem?_append_left (by simpa using hi), List.getElem?_replicate, if_pos hi] at e
    cases e
  · rw [List.getElem?_append_right (by simpa using hi), List.length_replicate, List.getElem?_map] at e ⊢
    cases hf : fr[i - n]? with
    | none => rw [hf] at e; cases e
    | some j =>
      rw [hf] at e
      simp only [Option.map_some, Option.some.injEq] at e ⊢
      cases hj : ρ[j]? with
      | none => rw [hj] at e; cases e
      | some s =>
        rw [hj] at e
        cases s with
        | sh d' =>
          cases e
          obtain ⟨v, h1, h2⟩ := h j d hj
          exact ⟨v, by rw [h1]; rfl, h2⟩
        | _ => cases e
theorem base_lo {n : Nat} {fr : List Nat} {ρ : Ev} {k : Nat} (h : k < n) : (baseD n fr ρ)[k]? = some .no := by
  unfold baseD
  rw [List.getElem?_append_left (by simpa using h), List.getElem?_replicate, if_pos h]
theorem base_nox {n : Nat} {fr : List Nat} {ρ : Ev} (i j : Nat) (es : List D) : (baseD n fr ρ)[i]? ≠ some (.ox j es) := fun e => by
  unfold baseD at e
  by_cases hj : i < n
  · rw [List.getElem?_append_left (by simpa using hj), List.getElem?_replicate, if_pos hj] at e; cases e
  · rw [List.getElem?_append_right (by simpa using hj), List.getElem?_map] at e
    cases hf : fr[i - (List.replicate n Sl.no).length]? with
    | none => rw [hf] at e; cases e
    | some z =>
      rw [hf] at e
      simp only [Option.map_some, Option.some.injEq] at e
      split at e <;> cases e
theorem base_len {n : Nat} {fr : List Nat} {ρ : Ev} : (baseD n fr ρ).length = n + fr.length := by unfold baseD; simp
theorem comp_turns {K : PySem.W.Frag} {E : XK} {n : Nat} {fr : List Nat} {tg : Ev → D → Res Ev} {tt fe : Ev → Res D} {σ : L2.St} {ρ : Ev} {H H₀ H1 H01 : Hp} {ds es : List D} {J : It} {Q : VK} (hsame : Same H₀ H) (g1 : Grow H H₀ H1 H01) (it : ItD K ds J H01) (hl : ds.length ≤ line)
    (e2 : collD (baseD n fr ρ) tg tt fe ds = .ok es) (hr : Reads K H01 σ ρ) (hok : TgOk n tg)
    (q : ∀ p vs H' H₀', Grow H H₀ H' H₀' → H p = none → H₀' p = none → H' p = some (.lst vs) → Reps K H₀' es vs → Q (.ref p) H') :
    tTurns n fr (gAny K tg) (tDT K E tt) (tD K E fe) J σ H1 Q := by
  intro Da hDa
  have h0D : H01 Da = none := g1.sub.free hDa
  refine ⟨fun i m ys σ' H' => m = ds.length - i ∧ i ≤ ds.length ∧ σ'.length = n + fr.length ∧ ∃ H₀', Grow H1 H01 H' H₀' ∧ H₀' Da = none ∧ H' Da = some (.lst ys) ∧ Reads K H₀' σ' (baseD n fr ρ) ∧ ∃ es1, collD (baseD n fr ρ) tg tt fe (ds.take i) = .ok es1 ∧ Reps K H₀' es1 ys,
    ⟨ds.length, by simp, Nat.zero_le _, by unfold blkSt; simp, H01, ?_, h0D, upd_same, base_reads hr, [], rfl, Reps.nil⟩, ?_⟩
  · refine ⟨fun b o e => by rw [upd_ne (ne_of_none e hDa)]; exact e, Same.refl _, fun b o e => ?_, fun b k1 k2 => absurd k2 k1⟩
    rw [upd_ne (by intro z; subst z; rw [h0D] at e; cases e)]; exact g1.sub _ _ e
  · rintro i m ys σ' H' ⟨rfl, hile, hsl, H₀', gg, hD0, hDl, hrd, es1, hes1, hys⟩
    refine ⟨hDl, ?_⟩
    by_cases hlt : i < ds.length
    · refine .inr ⟨it.go i H' H₀' gg.z gg.sub hlt, ?_, ?_⟩
      · rw [← hys.length]
        have := collD_le hes1
        rw [List.length_take] at this
        have h2 : line < sizeLine := by decide
        omega
      · intro x H2 hy
        obtain ⟨H₀2, g2, rp⟩ := it.yld i H' H₀' x H2 ds[i] gg.z gg.sub (List.getElem?_eq_getElem hlt) hy
        have hsplit : ds = ds.take i ++ (ds[i] :: ds.drop (i + 1)) := by rw [← List.drop_eq_getElem_cons hlt, List.take_append_drop]
        rw [hsplit] at e2
        obtain ⟨a1, a2, k1, k2, k3⟩ := collD_app e2
        rw [hes1] at k1; cases k1
        obtain ⟨ρ1, t, t1, t2, t3⟩ := collD_cons k2
        have hn2 : H₀2 Da = none := by
          cases qq : H₀2 Da with
          | none => rfl
          | some o => have := g2.nw Da (by rw [qq]; simp) hD0; rw [hDl] at this; cases this
        have hD2 : H2 Da = some (.lst ys) := g2.s _ _ hDl
        refine ⟨H2, H₀2, H₀2, baseD n fr ρ, ds[i], ⟨Grow.refl g2.sub, hrd.mono g2.z, fun j d' e => ?_, fun j k d1 d2 _ e => ?_, by rw [base_len, hsl], OX.none base_nox⟩, rp, ?_⟩
        · unfold baseD at e
          by_cases hj : j < n
          · rw [List.getElem?_append_left (by simpa using hj), List.getElem?_replicate, if_pos hj] at e; cases e
          · rw [List.getElem?_append_right (by simpa using hj), List.getElem?_map] at e
            cases hf : fr[j - (List.replicate n Sl.no).length]? with
            | none => rw [hf] at e; cases e
            | some z =>
              rw [hf] at e
              simp only [Option.map_some, Option.some.injEq] at e
              split at e <;> cases e
        · unfold baseD at e
          by_cases hj : j < n
          · rw [List.getElem?_append_left (by simpa using hj), List.getElem?_replicate, if_pos hj] at e; cases e
          · rw [List.getElem?_append_right (by simpa using hj), List.getElem?_map] at e
            cases hf : fr[j - (List.replicate n Sl.no).length]? with
            | none => rw [hf] at e; cases e
            | some z =>
              rw [hf] at e
              simp only [Option.map_some, Option.some.injEq] at e
              split at e <;> cases e
        · rw [t1]
          intro σ3 H3 H03 z3 s3
          have hrl := hok _ _ _ t1
          have hσ3 : σ3.length = n + fr.length := by rw [← s3.ln, hrl.1, base_len]
          have back : ∀ {Hx : Hp}, Same H03 Hx → Reads K Hx σ3 (baseD n fr ρ) := fun {Hx} sx k d e => by
            by_cases hk : k < n
            · rw [base_lo hk] at e; cases e
            · rw [← hrl.2 k (by omega)] at e
              obtain ⟨v, h1, h2⟩ := s3.rd k d e
              exact ⟨v, h1, h2.mono sx⟩
          have n3 : H03 Da = none := by
            cases qq : H03 Da with
            | none => rfl
            | some o => have := s3.g.nw Da (by rw [qq]; simp) hn2; rw [hD2] at this; cases this
          have hD3 : H3 Da = some (.lst ys) := s3.g.s _ _ hD2
          refine ⟨H03, ρ1, s3.g.sub, s3.rd, ?_⟩
          rw [t2]
          intro H4 H04 g4
          have hD4 : H4 Da = some (.lst ys) := g4.s _ _ hD3
          have n4 : H04 Da = none := by
            cases qq : H04 Da with
            | none => rfl
            | some o => have := g4.nw Da (by rw [qq]; simp) n3; rw [hD3] at this; cases this
          have htake : ds.take (i + 1) = ds.take i ++ [ds[i]] := by rw [List.take_add_one, List.getElem?_eq_getElem hlt]; rfl
          have g04 := (gg.trans g2).trans (s3.g.trans g4)
          rcases t3 with ⟨rfl, y, xs, t3, t4, _⟩ | ⟨rfl, t4⟩
          · rw [if_pos rfl]
            refine ⟨H04, ρ1, g4.sub, s3.rd.mono g4.z, ?_⟩
            rw [t3]
            intro yv H5 H05 g5 ry
            have hD5 : H5 Da = some (.lst ys) := g5.s _ _ hD4
            have n5 : H05 Da = none := by
              cases qq : H05 Da with
              | none => rfl
              | some o => have := g5.nw Da (by rw [qq]; simp) n4; rw [hD4] at this; cases this
            have gall := g04.trans g5
            refine ⟨hD5, ds.length - (i + 1), by omega, rfl, hlt, hσ3, H05, ⟨fun b o e => ?_, gall.z, fun b o e => ?_, gall.nw⟩, n5, upd_same, back (g4.z.trans g5.z), es1 ++ [y], ?_, ?_⟩
            · rw [upd_ne (ne_of_none e hDa)]; exact gall.s _ _ e
            · rw [upd_ne (by intro z; subst z; rw [n5] at e; cases e)]; exact gall.sub _ _ e
            · rw [htake]
              refine collD_join hes1 ?_
              rw [collD_yes t1 t2 t3]; rfl
            · exact (hys.mono ((g2.z.trans s3.g.z).trans (g4.z.trans g5.z))).app (Reps.cons ry Reps.nil)
          · rw [if_neg Bool.false_ne_true]
            refine ⟨ds.length - (i + 1), by omega, rfl, hlt, hσ3, H04, g04, n4, hD4, back g4.z, es1, ?_, hys.mono ((g2.z.trans s3.g.z).trans g4.z)⟩
            rw [htake]
            rw [show es1 = es1 ++ [] by simp]
            refine collD_join hes1 ?_
            rw [collD_no t1 t2]; rfl
    · have hi2 : i = ds.length := by omega
      refine .inl ⟨it.stop i H' H₀' gg.z gg.sub (by omega), ?_⟩
      rw [hi2, List.take_length] at hes1
      rw [e2] at hes1; cases hes1
      exact q Da ys H' H₀' (g1.trans gg) (g1.s.free hDa) hD0 hDl hys
structure DIf (X : Cx) (E : XK) (ifs : List Expr) (f : Ev → Res D) : Prop where
  o : PIf X ifs (tDT X.K E f)
def mYes : Ev → Res D := fun _ => .ok (.bl true)
theorem dif_nil {X : Cx} {E : XK} : DIf X E [] mYes := ⟨fun pins s σ H Q I ⟨H₀, ρ, hs, hr, q⟩ => pif_nil pins s σ H Q I (q H H₀ (Grow.refl hs))⟩
theorem dif_one {X : Cx} {E : XK} {c : Expr} {f : Ev → Res D} (h : DT X E c f) : DIf X E [c] f := ⟨pif_one h.o⟩
structure DCo (X : Cx) (E : XK) (e : Expr) (f : Ev → Res D) : Prop where
  ev : PE X e (tF X.K E f)
  st : ∀ {i : Nat} {x : Str} {pos' spos : Pos}, X.N.Nodup → X.N[i]? = some x → X.env.scope.names.lookup x = some .local → swapsWith e (some (.Name x pos')) spos.line X.env = pure true → PS X (.Assign [.Name x pos'] e spos) (tAsg (tF X.K E f) (gName i))
theorem dco {X : Cx} {E : XK} {tgt iter elt : Expr} {ifs : List Expr} {scope : Scope} {pos : Pos} (N : List Str) (n : Nat) (fr : List Nat) {src : Ev → Res (List D)} {tg : Ev → D → Res Ev} {tt fe : Ev → Res D} (hc : X.calm = true) (hi : DI X E tgt iter src) (hok : TgOk n tg)
    (blk : ∀ s H C fp pn, (∀ He H0e, DG (blkCx X N scope s H C fp pn) E He H0e tgt tg) ∧ DIf (blkCx X N scope s H C fp pn) E ifs tt ∧ DE (blkCx X N scope s H C fp pn) E elt fe)
    (hfr : FrOk X N n fr scope) (hcell : ∀ x ∈ scope.names, x.2 ≠ .cell) (hfree : ∀ x ∈ scope.names, x.2 = .free → X.env.scope.names.lookup x.1 = some .cell) (hkind : scope.kind = .function) (hnames : ∀ x ∈ scope.names, x.2 = .local → scope.names.lookup x.1 = some .local)
    (hs : ∀ x, foldedSetIterable iter X.env x = pure x := by intro _; rfl) : DCo X E (.ListComp elt [⟨tgt, iter, ifs, 0⟩] scope pos) (compD n fr src tg tt fe) := by
  have blk' : ∀ s H C fp pn, PG (blkCx X N scope s H C fp pn) tgt (gAny X.K tg) ∧ PIf (blkCx X N scope s H C fp pn) ifs (tDT X.K E tt) ∧ PE (blkCx X N scope s H C fp pn) elt (tD X.K E fe) := fun s H C fp pn =>
    ⟨fun pins s' σ' H' v u Q' I r ⟨He, H0e, q'⟩ => ((blk s H C fp pn).1 He H0e).o pins s' σ' H' v u Q' I r q', (blk s H C fp pn).2.1.o, (blk s H C fp pn).2.2.o⟩
  have first : ∀ {pins : List (Addr × Obj)} {s : Shared} {σ : L2.St} {H : Hp} {Q : VK} {RR : Value → Addr → Result → Shared → Prop}, L2.Inv X pins σ H s → tF X.K E (compD n fr src tg tt fe) σ H Q →
      (∀ (Da C : Addr) (s6 : Shared) (H5 : Hp) (m : Str → Option Value), L2.Inv X pins σ H5 s6 → s6.heap.Ns C m → FpOk X pins H5 C → Q (.ref Da) H5 → RR (.ref Da) C (.ok .next) s6) →
      wpAny (model X.prog X.w) X.A (eval iter X.env) (fun x s₁ => wpAny (model X.prog X.w) X.A (pyIter x) (fun it s₂ => wpAny (model X.prog X.w) X.A (newList []) (fun acc s₃ =>
        wpAny (model X.prog X.w) X.A (newFunctionEnv scope X.env.globals (clOf X.env.cells scope.names []) [] X.env.qual none .none (some X.env)) (fun cenv s₄ =>
          codeAny (model X.prog X.w) X.A (.compStart (.ListComp elt [⟨tgt, iter, ifs, 0⟩] scope pos) 0 it acc { cenv with scope := relabel scope X.env }) (RR acc cenv.locals) s₄) X.xe s₃) X.xe s₂) X.xe s₁) X.xe s := by
    intro pins s σ H Q RR I ⟨H₀, ρ, hsame, hr, q⟩ fin
    refine thn (hi.o pins s σ H (fun J H1 => tTurns n fr (gAny X.K tg) (tDT X.K E tt) (tD X.K E fe) J σ H1 Q) I ⟨H₀, ρ, hsame, hr, ?_⟩) fun v s1 h1 => thn h1 fun itv s2 h2 => comp_core (N := N) hc hfr hcell hfree hkind blk' h2 fin
    unfold compD at q
    cases e1 : src ρ with
    | stuck => rw [e1] at q; exact q
    | exn x => rw [e1] at q; exact q
    | ok ds =>
      rw [e1] at q
      intro J H1 H01 g1 it
      replace q : match (if ds.length ≤ line then match collD (baseD n fr ρ) tg tt fe ds with
          | .ok es => Res.ok (D.lst es)
          | _ => .stuck else .stuck) with
        | .ok (.lst ds) => ∀ p vs H' H₀', Grow H H₀ H' H₀' → H p = none → H₀' p = none → H' p = some (.lst vs) → Reps X.K H₀' ds vs → Q (.ref p) H'
        | .ok _ => False
        | .exn x => ∀ C ox H' H₀', Grow H H₀ H' H₀' → ExR X.K H₀' x C ox → E C ox H'
        | .stuck => False := q
      by_cases hl : ds.length ≤ line
      · rw [if_pos hl] at q
        cases e2 : collD (baseD n fr ρ) tg tt fe ds with
        | stuck => rw [e2] at q; exact q.elim
        | exn x => rw [e2] at q; exact q.elim
        | ok es =>
          rw [e2] at q
          exact comp_turns hsame g1 it hl e2 (hr.mono g1.z) hok q
      · rw [if_neg hl] at q; exact q.elim
  have hcl : ∀ {pins : List (Addr × Obj)} {s : Shared} {σ : L2.St} {H : Hp}, L2.Inv X pins σ H s → closureFor scope X.env = pure (clOf X.env.cells scope.names []) := fun {pins s σ H} I => closureFor_eq fun y hy hf => I.ok.has y.1 (.inl (hfree y hy hf))
  refine ⟨fun pins s σ H Q I h => ?_, fun {i x pos' spos} hN hi' hx hsw pins s σ H D' I h => ?_⟩
  · rw [eval_ListComp]
    refine wpAny_comprehension_free (use := none) rfl hs (hcl I) hkind hnames (first (RR := fun acc C => compPost (model X.prog X.w) X.A X.xe none (EP X pins σ Q) acc C) I h fun Da C s6 H5 m I6 ns fC q => ?_)
    refine ⟨m, ns, fun h' sb => ⟨.ref Da, H5, ?_, rfl, q⟩⟩
    exact I6.turned (t' := s6.toks) (it := C) (fun b o hb e => (sb.2 b hb).trans e) fC.1 fC.2.1 fC.2.2.2.1 fC.2.2.2.2.1 fC.2.2.2.2.2
  · rw [exec_Assign_Name_used _ _ _ _ hsw]
    refine wpAny_bind (wpAny_standAt (wpAny_bind ?_))
    show wpAny _ X.A (do let _ ← comprehension (.ListComp elt [⟨tgt, iter, ifs, 0⟩] scope pos) scope X.env _ (newList []) false (eval iter X.env) (some (assign (.Name x pos') X.env))) _ _ s
    refine wpAny_bind (wpAny_mono (wpAny_comprehension_free (use := some (assign (.Name x pos') X.env)) (Q := fun _ s' => SP X pins D' .next s') rfl hs (hcl I) hkind hnames
      (first (RR := fun acc C => compPost (model X.prog X.w) X.A X.xe (some (assign (.Name x pos') X.env)) (fun _ s' => SP X pins D' .next s') acc C) I h fun Da C s6 H5 m I6 ns fC q => ?_)) (fun _ s' hq => wpAny_pure (wpAny_pure hq)) fun _ _ e => e)
    show wpAny _ X.A (assign (.Name x pos') X.env (.ref Da)) _ _ _
    refine wpAny_assign_Name (store_ok2 (v := .ref Da) I6 hN hi' (.inl hx) rfl (fun s' I' ⟨a, sb, ha⟩ => ?_) (.inr hx))
    have hCa : C ≠ a := by
      rcases ha with rfl | ha
      · exact fC.2.1
      · exact fun z => fC.2.2.2.2.1 x a ha z.symm
    refine ⟨m, ns.sameBut sb hCa, fun h' sb' => ⟨_, H5, ?_, q⟩⟩
    exact I'.turned (t' := s'.toks) (it := C) (fun b o hb e => (sb'.2 b hb).trans e) fC.1 fC.2.1 fC.2.2.2.1 fC.2.2.2.2.1 fC.2.2.2.2.2
theorem df_co {X : Cx} {E : XK} {e : Expr} {f : Ev → Res D} (h : DCo X E e f) : DF X E e f := ⟨h.ev⟩
theorem de_co {X : Cx} {E : XK} {e : Expr} {n : Nat} {fr : List Nat} {src : Ev → Res (List D)} {tg : Ev → D → Res Ev} {tt fe : Ev → Res D} (h : DCo X E e (compD n fr src tg tt fe)) : DE X E e (compD n fr src tg tt fe) := de_of_df comp_only (df_co h)
section
variable {X : Cx} {E : XK} {He H0e : Hp} {e : Expr} {f : Ev → Res D} {s : Ev → Res Fl} {pos : Pos} {st : Stmt}
def unown (i : Nat) (ρ : Ev) : Ev := match ρ[i]? with
  | some (.ow d) => ρ.set i (.sh d)
  | _ => ρ
def sFrz (i : Nat) (s : Ev → Res Fl) : Ev → Res Fl := fun ρ => s (unown i ρ)
theorem SRx.unown {K : PySem.W.Frag} {H₀ H : Hp} {σ : L2.St} {ρ : Ev} (h : SRx K He H0e H₀ σ H ρ) (i : Nat) : ∃ H₀', Same H₀ H₀' ∧ SRx K He H0e H₀' σ H (DL.unown i ρ) := by
  unfold DL.unown
  cases e : ρ[i]? with
  | none => exact ⟨H₀, Same.refl _, h⟩
  | some s =>
    cases s with
    | no => exact ⟨H₀, Same.refl _, h⟩
    | sh d => exact ⟨H₀, Same.refl _, h⟩
    | ox j ds => exact ⟨H₀, Same.refl _, h⟩
    | ow d =>
      obtain ⟨a, k1, k2, k3, k4⟩ := h.ow i d e
      cases d with
      | lst ds =>
        obtain ⟨vs, h5, h6⟩ := k4
        have z : Same H₀ (upd H₀ a (.lst vs)) := fun b o q => by rw [upd_ne (by intro z; subst z; rw [k3] at q; cases q)]; exact q
        have h' : SRx K He H0e (upd H₀ a (.lst vs)) σ H (ρ.set i .no) := by
          have nset : ∀ (j : Nat) (s : Sl), (ρ.set i .no)[j]? = some s → s ≠ .no → j ≠ i ∧ ρ[j]? = some s := fun j s q hs => by
            by_cases hj : i = j
            · subst hj
              rw [List.getElem?_set_self'] at q
              rw [e] at q; cases q; exact absurd rfl hs
            · rw [List.getElem?_set_ne hj] at q; exact ⟨fun z => hj z.symm, q⟩
          refine ⟨⟨h.g.s, h.g.z.trans z, fun b o q => ?_, fun b q1 q2 => ?_⟩, fun j d' q => ?_, fun j d' q => ?_, fun j k d1 d2 hn q1 q2 => ?_, by simp [h.ln], h.ex.upd (fun j s q => ?_) z (fun b us _ eb => eb) fun q us _ q0 hq hd => ?_⟩
          rotate_left 5
          · by_cases hs : s = .no
            · exact .inr (.inr (.inl hs))
            · exact .inl ⟨(nset j s q hs).2, rfl⟩
          · have hq' : q ≠ a := by
              intro zz; subst zz
              exact hd i _ e k1
            exact ⟨hq, by rw [upd_ne hq']; exact q0⟩
          · by_cases hb : b = a
            · subst hb; rw [upd_same] at q; cases q; exact h5
            · rw [upd_ne hb] at q; exact h.g.sub _ _ q
          · by_cases hb : b = a
            · subst hb; exact k2
            · rw [upd_ne hb] at q1; exact h.g.nw b q1 q2
          · obtain ⟨hj, q⟩ := nset j _ q (fun z => nomatch z)
            obtain ⟨v, q1, q2⟩ := h.rd j d' q
            exact ⟨v, q1, q2.mono z⟩
          · obtain ⟨hj, q⟩ := nset j _ q (fun z => nomatch z)
            obtain ⟨b, q1, q2, q3, q4⟩ := h.ow j d' q
            have hb : b ≠ a := by
              intro zz; subst zz
              exact h.ap j i d' (.lst ds) hj q e (by rw [q1, k1])
            refine ⟨b, q1, q2, by rw [upd_ne hb]; exact q3, ?_⟩
            cases d' with
            | lst ds' => obtain ⟨vs', h7, h8⟩ := q4; exact ⟨vs', h7, h8.mono z⟩
            | _ => exact q4.elim
          · obtain ⟨_, q1⟩ := nset j _ q1 (fun z => nomatch z)
            obtain ⟨_, q2⟩ := nset k _ q2 (fun z => nomatch z)
            exact h.ap j k d1 d2 hn q1 q2
        refine ⟨_, z, ?_⟩
        have hp := h'.put (i := i) (d := .lst ds) (v := .ref a) (Rep.lst_iff.mpr ⟨a, vs, rfl, SqL.of upd_same, h6.mono z⟩)
        rw [List.set_set] at hp
        have hσ : σ.set i (some (V.ref a)) = σ := by
          apply List.ext_getElem?
          intro k
          by_cases hk : i = k
          · subst hk
            obtain ⟨hil, _⟩ := List.getElem?_eq_some_iff.mp k1
            rw [List.getElem?_set_self hil, k1]
          · rw [List.getElem?_set_ne hk]
        rw [hσ] at hp
        exact hp
      | _ => exact k4.elim
theorem ds_frz (i : Nat) (h : DS X E He H0e st s) : DS X E He H0e st (sFrz i s) := ⟨ps_weak h.o fun D' σ H ⟨H₀, ρ, hr, q⟩ => by
  obtain ⟨H₀', z, hr'⟩ := hr.unown i
  exact ⟨H₀', DL.unown i ρ, hr', postS.grow (r := s (DL.unown i ρ)) q z⟩⟩
end
end DL
set_option Elab.async false
set_option linter.all false
set_option maxRecDepth 100000
namespace DL
open PySem PySem.Spec PyProof.Rows L2
theorem dcoB {X : Cx} {E : XK} {tgt iter elt : Expr} {ifs : List Expr} {scope : Scope} {pos : Pos} (N : List Str) (n : Nat) (fr : List Nat) {src : Ev → Res (List D)} {tg : Ev → D → Res Ev} {tt fe : Ev → Res D} (hc : X.calm = true) (hi : DI X E tgt iter src) (hok : TgOk n tg)
    (blk : ∀ s H C fp pn, (∀ He H0e, DG (blkCx X N scope s H C fp pn) E He H0e tgt tg) ∧ DIf (blkCx X N scope s H C fp pn) E ifs tt ∧ DE (blkCx X N scope s H C fp pn) E elt fe)
    (hfr : FrOk X N n fr scope) (hcell : (scope.names.all fun x => !(x.2 == .cell)) = true) (hfree : (scope.names.all fun x => !(x.2 == .free) || (X.env.scope.names.lookup x.1 == some .cell)) = true) (hkind : scope.kind = .function)
    (hnames : (scope.names.all fun x => !(x.2 == .local) || (scope.names.lookup x.1 == some .local)) = true)
    (hs : ∀ x, foldedSetIterable iter X.env x = pure x := by intro _; rfl) : DCo X E (.ListComp elt [⟨tgt, iter, ifs, 0⟩] scope pos) (compD n fr src tg tt fe) := by
  refine dco N n fr hc hi hok blk hfr (fun x hx z => ?_) (fun x hx z => ?_) hkind (fun x hx z => ?_) hs
  · have := List.all_eq_true.mp hcell x hx
    rw [z] at this; simp at this
  · have := List.all_eq_true.mp hfree x hx
    rw [z] at this; simpa using this
  · have := List.all_eq_true.mp hnames x hx
    rw [z] at this; simpa using this
theorem ds_setC {X : Cx} {E : XK} {He H0e : Hp} {e : Expr} {f : Ev → Res D} {pos : Pos} {i : Nat} {x : Str} {pos' : Pos} (hN : X.N.Nodup) (hi : X.N[i]? = some x) (hx : X.env.scope.names.lookup x = some .local) (hl : ListOnly f) (he : DCo X E e f) (hs : swapsWith e (some (.Name x pos')) pos.line X.env = pure true := by rfl) : DS X E He H0e (.Assign [.Name x pos'] e pos) (sSet i f) := by
  refine ⟨ps_weak (he.st hN hi hx hs) fun D σ H ⟨H₀, ρ, h, q⟩ => ?_⟩
  refine tF_of_tD hl ⟨H₀, ρ, h.g.sub, h.rd, ?_⟩
  refine plain h q fun d v H' H₀' _ g rp q' => ?_
  exact q' _ H' H₀' (Same.refl _) ((h.grow g).put rp)
end DL
set_option Elab.async false
set_option linter.all false
set_option maxRecDepth 100000
namespace DL
open PySem PySem.Spec PyProof.Rows L2
section
variable {P : Program} {w : World} {K : PySem.W.Frag} {mg : Str → Option Value} {base : Heap} {N : List Str} {qual : Str} {scope : Scope} {f : Addr} {cd : Value} {A : Around} {outer : List PySem.Env} {s0 : Shared} {H0 : Hp} {E : XK}
  {pins : List (Addr × Obj)} {σ : L2.St} {H : Hp} {s : Shared}
end
end DL
set_option Elab.async false
set_option linter.all false
set_option maxRecDepth 100000
namespace DL
open PySem PySem.Spec PyProof.Rows L2
section
variable {P : Program} {w : World} {K : PySem.W.Frag} {mg : Str → Option Value} {base : Heap} {N : List Str} {qual : Str} {scope : Scope} {f : Addr} {cd : Value} {A : Around} {outer : List PySem.Env} {s0 : Shared} {H0 : Hp} {E : XK} {He H0e : Hp}
end
end DL
set_option Elab.async false
set_option linter.all false
set_option maxRecDepth 100000
namespace DL
open PySem PySem.Spec PyProof.Rows L2
section
variable {P : Program} {w : World} {st : List PySem.Env} {H H' : Hp} {h g g' B : Heap}
end
section
variable {X : Cx} {pins : List (Addr × Obj)} {σ : L2.St} {H : Hp} {s : Shared} {e : Addr}
end
end DL
set_option Elab.async false
set_option linter.all false
set_option maxRecDepth 100000
namespace DL
open PySem PySem.Spec PyProof.Rows L2
section
variable {X : Cx} {pins : List (Addr × Obj)} {σ : L2.St} {H : Hp} {s : Shared} {CX : CXT} {k : Nat} {f : Addr} {fd : FuncData} {ps : List Str} {sp : Sp} {Ex : XK} {x : Str} {p pos : Pos} {e : Expr} {es : List Expr} {t : TA}
end
section
variable {X : Cx} {E : XK} {e : Expr} {es : List Expr} {fa : Ev → Res (List D)} {pos : Pos}
end
end DL
set_option Elab.async false
set_option linter.all false
set_option maxRecDepth 100000
namespace DL
open PySem PySem.Spec PyProof.Rows L2
structure RoomH (k : Nat) (A : Around) : Prop where
  dp : A.depth + 3 * k + 5 < recursionLimit
  un : A.units + 16 * k + 200 < cLine
theorem Room.h {k : Nat} {A : Around} (r : Room k A) : RoomH k A := ⟨r.dp, r.un⟩
structure FnH (P : Program) (w : World) (K : PySem.W.Frag) (mg : Str → Option Value) (base : Heap) (k : Nat) (f : Addr) (fd : FuncData) (ps : List Str) (sp : Sp) : Prop where
  len : ∀ vs H Q E, sp vs H Q E → vs.length = ps.length
  run : ∀ (A : Around) (outer : List PySem.Env) (s : Shared) (H : Hp) (args : Args) (us : List Value) (vs : List V) (Q : VK) (E : XK), RoomH k A → Env0 P w K mg base A outer s H → BindsTo s fd args (ps.zip us) → Vals vs us → sp vs H Q E →
    codeAny (model P w) A (.call (.ref f) args) (CR CX0 outer P w H s Q E) s
theorem FnH.ok {P : Program} {w : World} {K : PySem.W.Frag} {mg : Str → Option Value} {base : Heap} {k : Nat} {f : Addr} {fd : FuncData} {ps : List Str} {sp : Sp} (F : FnH P w K mg base k f fd ps sp) : FnOk P w K mg base CX0 k f fd ps sp :=
  ⟨F.len, fun A outer s H args us vs Q E hr => F.run A outer s H args us vs Q E (Room.h hr)⟩
section
variable {X : Cx} {E : XK} {e a : Expr} {es : List Expr} {f : Ev → Res D} {fa : Ev → Res (List D)} {pos : Pos}
end
end DL
set_option Elab.async false
set_option linter.all false
set_option maxRecDepth 100000
namespace DL
open PySem PySem.Spec PyProof.Rows L2
section
variable {X : Cx} {E : XK} {e a : Expr} {es : List Expr} {f : Ev → Res D} {pos : Pos} {tab : Str → Option Bool}
end
end DL
set_option Elab.async false
set_option linter.all false
set_option maxRecDepth 100000
namespace DL
open PySem PySem.Spec PyProof.Rows L2 PySem.W
end DL
set_option Elab.async false
set_option linter.all false
set_option maxRecDepth 100000
namespace DL
open PySem PySem.Spec PyProof.Rows L2
section
variable {X : Cx} {E : XK} {tg a b c : Expr} {f g : Ev → Res D}
end
end DL
set_option Elab.async false
set_option linter.all false
set_option maxRecDepth 100000
namespace DL
open PySem PySem.Spec PyProof.Rows L2
section
variable {X : Cx} {pins : List (Addr × Obj)} {σ : L2.St} {H : Hp} {s : Shared} {h' : Heap}
theorem turnedNew {t' : Nat} {fp : List Addr} {T : Addr} {xs : List V} (I : Inv X pins σ H s) (k : ∀ b o, b ∉ fp → s.heap.get? b = some o → h'.get? b = some o) (hf : ∀ b ∈ fp, FpOk X pins H b) (hT : s.heap.objs.size ≤ T)
    (new : ObjOk X.prog X.w (upd H T (.tup xs)) h' T (.tup xs)) : Inv X pins σ (upd H T (.tup xs)) { s with heap := h', toks := t' } := by
  have hn : H T = none := I.hok.fresh hT
  have nit : ∀ b u, H b = some u → b ∉ fp := fun b u e z => by rw [(hf b z).1] at e; cases e
  refine I.step (g' := s.gens) (d' := s.drawn) (ch := fp) (fun b hb => ?_) (fun b o _ _ hc e _ => k b o hc e) (fun b o _ _ hc e _ => ⟨o.slots, k b o hc e⟩) (fun b o _ e n => ?_)
    (fun b o hc e => ⟨o, k b o hc e⟩) (fun b xs e => by rw [upd_ne (ne_of_none e hn)]; exact e) (fun b o u e => by rw [upd_ne (ne_of_none e hn)]; exact e) (fun b ps e => ⟨#[], by rw [upd_ne (ne_of_none e hn), e]; simp⟩) (fun m hm => ?_) (fun b u e => ?_) I.bare
  · obtain ⟨_, f1, _, f3, f4, f5⟩ := hf b hb
    exact ⟨f3, f1, f4, f5⟩
  · rw [upd_ne (Nat.ne_of_lt (Nat.lt_of_lt_of_le (Heap.lt_size e) hT))]; exact n
  · obtain ⟨o, es, ep, ho, r⟩ := hm
    exact ⟨o, es, ep, k _ o (fun z => (hf _ z).2.1 rfl) ho, r⟩
  · by_cases hb : b = T
    · subst hb; rw [upd_same] at e; cases e; exact new
    · rw [upd_ne hb] at e
      refine (I.hok b u e).stay (fun c v hc q => k c v ?_ q) (fun c q => by rw [upd_ne (ne_of_none q hn)]; exact q) fun c xs q => by rw [upd_ne (ne_of_none q hn)]; exact q
      rcases hc with z | z
      · rw [z]; exact nit b u e
      · exact nit c _ z
theorem turnedL {t' : Nat} {fp : List Addr} (I : Inv X pins σ H s) (k : ∀ b o, b ∉ fp → s.heap.get? b = some o → h'.get? b = some o) (hf : ∀ b ∈ fp, FpOk X pins H b) : Inv X pins σ H { s with heap := h', toks := t' } := by
  have nit : ∀ b u, H b = some u → b ∉ fp := fun b u e z => by rw [(hf b z).1] at e; cases e
  refine I.step (g' := s.gens) (d' := s.drawn) (ch := fp) (fun b hb => ?_) (fun b o _ _ hc e _ => k b o hc e) (fun b o _ _ hc e _ => ⟨o.slots, k b o hc e⟩) (fun b o _ e n => n)
    (fun b o hc e => ⟨o, k b o hc e⟩) (fun b xs e => e) (fun b o u e => e) (fun b ps e => ⟨#[], by rw [e]; simp⟩) (fun m hm => ?_) (fun b u e => ?_) I.bare
  · obtain ⟨_, f1, _, f3, f4, f5⟩ := hf b hb
    exact ⟨f3, f1, f4, f5⟩
  · obtain ⟨o, es, ep, ho, r⟩ := hm
    exact ⟨o, es, ep, k _ o (fun z => (hf _ z).2.1 rfl) ho, r⟩
  · refine (I.hok b u e).stay (fun c v hc q => k c v ?_ q) (fun _ q => q) fun _ _ q => q
    rcases hc with z | z
    · rw [z]; exact nit b u e
    · exact nit c _ z
end
def Ite (K : PySem.W.Frag) (a : Addr) : It :=
  ⟨fun i H => ∃ xs x, SqL K H a xs ∧ xs[i]? = some x, fun i H x H' => ∃ p y, H p = none ∧ x = .ref p ∧ (∀ xs, SqL K H a xs → xs[i]? = some y) ∧ H' = upd H p (.tup [.int i, y]), fun i H => ∃ xs, SqL K H a xs ∧ xs.length ≤ i⟩
theorem turn_enum {P : Program} {w : World} {K : PySem.W.Frag} {elts : List Expr} {k : Nat} {pos : Pos} (a it e : Addr) (hne : e ≠ it) (hae : a ≠ e) (hai : a ≠ it) :
    Turn P w K (.Tuple elts k pos) (Ite K a) [e, it] e (fun i h => (∃ old, IsEnum h e it i old) ∧ h.IsListIter it a i) where
  mem := by simp
  obj := fun i h st b hb => by
    obtain ⟨⟨old, he⟩, o, h1, h2, h3⟩ := st
    rcases List.mem_cons.mp hb with rfl | hb
    · exact ⟨_, he, fun v z => by cases z⟩
    · rcases List.mem_cons.mp hb with rfl | hb
      · exact ⟨o, h1, fun v z => by rw [h3] at z; cases z⟩
      · cases hb
  keep := fun i h h' st k => by
    obtain ⟨⟨old, he⟩, hi⟩ := st
    exact ⟨⟨old, k e (by simp) _ he⟩, hi.at fun o y => k it (by simp) o y⟩
  item := by
    intro X hP hw hK hc i pins s σ H E I hf st hg
    subst hP hw hK
    obtain ⟨xs, x, hq, hx⟩ := hg
    obtain ⟨its, rv, p, hz⟩ := I.list hq
    obtain ⟨u, hu, ru⟩ := rv.get hx
    have W := WalksT.enumerate (prog := X.prog) (w := X.w) (I.ok.hd hc) e it a hne hae hai its.toArray
    have hil : i < its.toArray.size := by simpa using (List.getElem?_eq_some_iff.mp hu).1
    refine W.item i s _ _ hil ⟨st.1, st.2, p.isList⟩ fun T vals h' tk hPt hT hTup hMid hk => ?_
    refine ⟨_, rfl, W.go elts k pos i T _ _ _ hMid fun h'' st'' hk'' => ?_⟩
    obtain ⟨t, y, hy, rfl⟩ := hPt
    have hyu : y = u := by
      have : its[i]? = some y := by simpa using hy
      rw [hu] at this; cases this; rfl
    subst hyu
    obtain ⟨o, ho, hr⟩ := hTup
    have ho' := hk'' T o (W.apart i T _ hMid) ho
    refine ⟨.ref T, upd H T (.tup [.int i, x]), turnedNew (s := s) (h' := h'') (t' := tk) I (fun b o hb e => hk'' b o hb (hk b o hb e)) hf hT ⟨by show 2 ≤ sizeLine; decide, [.int i t, y], .cons ⟨t, rfl⟩ (.cons ru .nil), o, ho', hr⟩, rfl, ⟨T, x, I.hok.fresh hT, rfl, fun ys hy => by rw [I.list_inj hy hq]; exact hx, rfl⟩, ⟨st''.1, st''.2.1⟩, fun b hb => ?_⟩
    have hb0 := (hf b hb).1
    obtain ⟨ob, hob, _⟩ : ∃ o, s.heap.get? b = some o ∧ ∀ v, o.data ≠ .cell v := by
      obtain ⟨⟨old, he⟩, o, h1, h2, h3⟩ := st
      rcases List.mem_cons.mp hb with rfl | hb
      · exact ⟨_, he, fun v z => by cases z⟩
      · rcases List.mem_cons.mp hb with rfl | hb
        · exact ⟨o, h1, fun v z => by rw [h3] at z; cases z⟩
        · cases hb
    rw [upd_ne (Nat.ne_of_lt (Nat.lt_of_lt_of_le (Heap.lt_size hob) hT))]; exact hb0
  done := by
    intro X hP hw hK hc i pins s σ H E I hf st hg
    subst hP hw hK
    obtain ⟨xs, hq, hx⟩ := hg
    obtain ⟨its, rv, p, hz⟩ := I.list hq
    have hl := rv.length
    obtain ⟨⟨old, he⟩, hi⟩ := st
    exact wpAny_pyNext_enum_end (I.ok.hd hc) he hi p.isList (by simp; omega) fun h' hx => ⟨rfl, turnedL (t' := s.toks) I (fun b o hb e => hx b o (fun z => hb (by simp [z])) e) hf⟩
  self := fun _ _ _ _ _ st h => by
    obtain ⟨⟨old, he⟩, _⟩ := st
    exact wpAny_pyIter_enum he h
section
variable {X : Cx} {E : XK} {elts : List Expr} {k : Nat} {tp : Pos} {e a b : Expr} {f g : Ev → Res D}
def iEnum (K : PySem.W.Frag) (ta : TA) : TI := fun σ H R => ta σ H fun vs H1 => ∃ a, vs = [.ref a] ∧ (∃ xs, SqL K H1 a xs) ∧ R (Ite K a) H1
theorem pi_enum {ta : TA} {p pos : Pos} (hg : Gl X "enumerate") (hm : X.mg "enumerate" = none) (ha : PA X [a] ta) (hs : starEach [a] X.env = [(false, eval a X.env)] := by rfl) : PI X (.Tuple elts k tp) (.Call (.Name "enumerate" p) [a] [] pos) (iEnum X.K ta) := by
  intro pins s σ H R I h
  refine Call_ (ld_blt I hg hm PyProof.Rows.Boot.«enumerate» (PyProof.Rows.callWith_type1 (thn (ha pos pins s σ H _ I h) fun us s1 ⟨vs, H1, I1, r1, q1⟩ => ?_) hs rfl))
  obtain ⟨l, e, ⟨xs, hq⟩, q⟩ := q1
  subst e
  cases r1 with
  | cons r rr =>
    cases rr
    cases r
    obtain ⟨its, rv, p, hz⟩ := I1.list hq
    have hlt : l < s1.heap.objs.size := by obtain ⟨o, n, e, _⟩ := p; exact Heap.lt_size e
    refine call_enumerate_list p.isList fun h' he hi hsz hk => ?_
    refine wpAny_pyIter_enum he ?_
    refine ⟨s1.heap.objs.size + 1, [s1.heap.objs.size + 1, s1.heap.objs.size], _, _, H1, rfl, I1.kept (t' := s1.toks) hk, turn_enum l s1.heap.objs.size (s1.heap.objs.size + 1) (Nat.succ_ne_self _) (Nat.ne_of_lt (Nat.lt_succ_of_lt hlt)) (Nat.ne_of_lt hlt), ⟨⟨_, he⟩, hi⟩, fun b hb => ?_, q⟩
    have hb' : s1.heap.objs.size ≤ b := by
      rcases List.mem_cons.mp hb with rfl | hb
      · omega
      · rcases List.mem_cons.mp hb with rfl | hb
        · exact Nat.le_refl _
        · cases hb
    exact I1.fpOk hb' (I1.hok.fresh hb')
def numbered (n : Nat) : List D → List D
  | [] => []
  | d :: ds => .tup [.int n, d] :: numbered (n + 1) ds
theorem numbered_len : ∀ (ds : List D) (n : Nat), (numbered n ds).length = ds.length
  | [], _ => rfl
  | d :: ds, n => by simp [numbered, numbered_len ds]
theorem numbered_get : ∀ (ds : List D) (n i : Nat), (numbered n ds)[i]? = (ds[i]?).map fun d => D.tup [.int (n + i : Nat), d]
  | [], _, _ => by simp [numbered]
  | d :: ds, n, 0 => by simp [numbered]
  | d :: ds, n, i + 1 => by simp only [numbered, List.getElem?_cons_succ]; rw [numbered_get ds (n + 1) i, show n + 1 + i = n + (i + 1) by omega]
def srcE (f : Ev → Res D) : Ev → Res (List D) := fun ρ => (f ρ).bind fun d => match d with
  | .lst ds => .ok (numbered 0 ds)
  | _ => .stuck
theorem tup_new {K : PySem.W.Frag} {H H₀ : Hp} {p : Addr} {vs : List V} {ds : List D} (hs : Same H₀ H) (hp : H p = none) (r : Reps K H₀ ds vs) : ∃ H₀2, Grow H H₀ (upd H p (.tup vs)) H₀2 ∧ Rep K H₀2 (.tup ds) (.ref p) :=
  ⟨upd H₀ p (.tup vs), Grow.alloc hs hp, Rep.tup_iff.mpr ⟨p, vs, rfl, SqT.of upd_same, r.mono (Grow.alloc (o := .tup vs) hs hp).z⟩⟩
theorem di_enum {p pos : Pos} (hg : Gl X "enumerate") (hm : X.mg "enumerate" = none) (h : DE X E a f) (hn : nst a = true := by exact rfl) : DI X E (.Tuple elts k tp) (.Call (.Name "enumerate" p) [a] [] pos) (srcE f) := by
  refine ⟨pi_weak (pi_enum hg hm (pa_cons h.o pa_nil (star_one hn)) (star_one hn)) fun σ H R ⟨H₀, ρ, hs, hr, q⟩ => ⟨H₀, ρ, hs, hr, ?_⟩⟩
  unfold srcE at q
  cases e1 : f ρ with
  | stuck => rw [e1] at q; exact q
  | exn x => rw [e1] at q; exact q
  | ok d =>
    rw [e1] at q
    intro v H1 H01 g1 r1
    cases d with
    | lst ds =>
      obtain ⟨l, vs, rfl, hv, hrv⟩ := Rep.lst_iff.mp r1
      refine ⟨l, rfl, ⟨vs, Same.sqL g1.sub hv⟩, q _ H1 H01 g1 ⟨fun i H' H₀' s1 s2 hi => ?_, fun i H' H₀' x H2 d s1 s2 hd hy => ?_, fun i H' H₀' s1 s2 hi => ?_⟩⟩
      · rw [numbered_len] at hi
        exact ⟨vs, vs[i]'(by rw [← hrv.length]; exact hi), Same.sqL (s1.trans s2) hv, by simp⟩
      · obtain ⟨p, y, hp, rfl, hy, rfl⟩ := hy
        rw [numbered_get] at hd
        cases ei : ds[i]? with
        | none => rw [ei] at hd; cases hd
        | some d' =>
          rw [ei] at hd
          cases hd
          obtain ⟨u, k1, k2⟩ := hrv.get ei
          have := hy vs (Same.sqL (s1.trans s2) hv)
          rw [k1] at this; cases this
          exact tup_new s2 hp (Reps.cons (Rep.int_iff.mpr (by simp)) (Reps.cons (k2.mono s1) Reps.nil))
      · rw [numbered_len] at hi
        exact ⟨vs, Same.sqL (s1.trans s2) hv, by rw [← hrv.length]; exact hi⟩
    | _ => exact q.elim
end
def Itz (K : PySem.W.Frag) (a b : Addr) : It :=
  ⟨fun i H => ∃ xs ys x y, SqL K H a xs ∧ SqL K H b ys ∧ xs[i]? = some x ∧ ys[i]? = some y, fun i H x H' => ∃ p y z, H p = none ∧ x = .ref p ∧ (∀ xs, SqL K H a xs → xs[i]? = some y) ∧ (∀ xs, SqL K H b xs → xs[i]? = some z) ∧ H' = upd H p (.tup [y, z]),
    fun i H => ∃ xs ys, SqL K H a xs ∧ SqL K H b ys ∧ min xs.length ys.length ≤ i⟩
theorem turn_zip {P : Program} {w : World} {K : PySem.W.Frag} {elts : List Expr} {k : Nat} {pos : Pos} (z TI TO i1 i2 a b : Addr) (D : ZipApart z TI TO i1 i2 a b) :
    Turn P w K (.Tuple elts k pos) (Itz K a b) [z, TI, TO, i1, i2] z (fun i h => IsZip h z TI TO .none ∧ IsPair h TI (.ref i1) (.ref i2) ∧ (∃ a b, IsPair h TO a b) ∧ h.IsListIter i1 a i ∧ h.IsListIter i2 b i) where
  mem := by simp
  obj := fun i h st b hb => by
    obtain ⟨hz, hTI, ⟨a', b', hTO⟩, ⟨o1, e1, c1, d1⟩, ⟨o2, e2, c2, d2⟩⟩ := st
    simp only [List.mem_cons, List.not_mem_nil, or_false] at hb
    rcases hb with rfl | rfl | rfl | rfl | rfl
    · exact ⟨_, hz, fun v z => by cases z⟩
    · exact ⟨_, hTI, fun v z => by cases z⟩
    · exact ⟨_, hTO, fun v z => by cases z⟩
    · exact ⟨_, e1, fun v z => by rw [d1] at z; cases z⟩
    · exact ⟨_, e2, fun v z => by rw [d2] at z; cases z⟩
  keep := fun i h h' st k => by
    obtain ⟨hz, hTI, ⟨a', b', hTO⟩, h1, h2⟩ := st
    exact ⟨k z (by simp) _ hz, k TI (by simp) _ hTI, ⟨a', b', k TO (by simp) _ hTO⟩, h1.at fun o y => k i1 (by simp) o y, h2.at fun o y => k i2 (by simp) o y⟩
  item := by
    intro X hP hw hK hc i pins s σ H E I hf st hg
    subst hP hw hK
    obtain ⟨xs, ys, x, y, hqx, hqy, hx, hy⟩ := hg
    obtain ⟨its, rv, p, hz⟩ := I.list hqx
    obtain ⟨jts, rw_, p', hz'⟩ := I.list hqy
    obtain ⟨u, hu, ru⟩ := rv.get hx
    obtain ⟨u', hu', ru'⟩ := rw_.get hy
    have W := WalksT.zip2 (prog := X.prog) (w := X.w) (I.ok.hd hc) z TI TO i1 i2 a b D its.toArray jts.toArray
    have hil : i < min its.toArray.size jts.toArray.size := by
      have h1 := (List.getElem?_eq_some_iff.mp hu).1
      have h2 := (List.getElem?_eq_some_iff.mp hu').1
      simp only [List.size_toArray]; omega
    have sub : ∀ b, b ∉ [z, TI, TO, i1, i2] → b ∉ [z, TO, i1, i2] := fun b hb hc => hb (by simp only [List.mem_cons, List.not_mem_nil, or_false] at hc ⊢; rcases hc with h | h | h | h <;> simp [h])
    refine W.item i s _ _ hil ⟨st.1, st.2.1, st.2.2.1, st.2.2.2.1, st.2.2.2.2, p.isList, p'.isList⟩ fun T vals h' tk hPt hT hTup hMid hk => ?_
    refine ⟨_, rfl, W.go elts k pos i T _ _ _ hMid fun h'' st'' hk'' => ?_⟩
    obtain ⟨v, v', hv, hv', rfl⟩ := hPt
    have hyu : v = u := by
      have : its[i]? = some v := by simpa using hv
      rw [hu] at this; cases this; rfl
    have hyu' : v' = u' := by
      have : jts[i]? = some v' := by simpa using hv'
      rw [hu'] at this; cases this; rfl
    subst hyu hyu'
    obtain ⟨o, ho, hr⟩ := hTup
    have ho' := hk'' T o (W.apart i T _ hMid) ho
    refine ⟨.ref T, upd H T (.tup [x, y]), turnedNew (s := s) (h' := h'') (t' := tk) I (fun b o hb e => hk'' b o (sub b hb) (hk b o (sub b hb) e)) hf hT ⟨by show 2 ≤ sizeLine; decide, [v, v'], .cons ru (.cons ru' .nil), o, ho', hr⟩, rfl, ⟨T, x, y, I.hok.fresh hT, rfl, fun ys hy' => by rw [I.list_inj hy' hqx]; exact hx, fun ys hy' => by rw [I.list_inj hy' hqy]; exact hy, rfl⟩,
      ⟨st''.1, st''.2.1, st''.2.2.1, st''.2.2.2.1, st''.2.2.2.2.1⟩, fun b hb => ?_⟩
    have hb0 := (hf b hb).1
    obtain ⟨ob, hob⟩ : ∃ o, s.heap.get? b = some o := by
      obtain ⟨hz, hTI, ⟨a', b', hTO⟩, ⟨o1, e1, c1, d1⟩, ⟨o2, e2, c2, d2⟩⟩ := st
      simp only [List.mem_cons, List.not_mem_nil, or_false] at hb
      rcases hb with rfl | rfl | rfl | rfl | rfl
      · exact ⟨_, hz⟩
      · exact ⟨_, hTI⟩
      · exact ⟨_, hTO⟩
      · exact ⟨_, e1⟩
      · exact ⟨_, e2⟩
    rw [upd_ne (Nat.ne_of_lt (Nat.lt_of_lt_of_le (Heap.lt_size hob) hT))]; exact hb0
  done := by
    intro X hP hw hK hc i pins s σ H E I hf st hg
    subst hP hw hK
    obtain ⟨xs, ys, hqx, hqy, hx⟩ := hg
    obtain ⟨its, rv, p, hz⟩ := I.list hqx
    obtain ⟨jts, rw_, p', hz'⟩ := I.list hqy
    have hl := rv.length
    have hl' := rw_.length
    obtain ⟨hz, hTI, ⟨a', b', hTO⟩, h1, h2⟩ := st
    refine wpAny_pyNext_zip_end (I.ok.hd hc) D hz hTI hTO h1 h2 p.isList p'.isList ?_ fun h' hk => ⟨rfl, turnedL (t' := s.toks) I (fun c o hb e => hk c o (fun x => hb (by simp [x])) (fun x => hb (by simp [x])) (fun x => hb (by simp [x])) (fun x => hb (by simp [x])) e) hf⟩
    by_cases hle : xs.length ≤ ys.length
    · left; simp; omega
    · right; simp; omega
  self := fun _ _ _ _ _ st h => by
    obtain ⟨hz, _⟩ := st
    exact wpAny_pyIter_zip hz h
section
variable {X : Cx} {E : XK} {elts : List Expr} {k : Nat} {tp : Pos} {e a b : Expr} {f g : Ev → Res D}
def iZip (K : PySem.W.Frag) (ta : TA) : TI := fun σ H R => ta σ H fun vs H1 => ∃ a b, vs = [.ref a, .ref b] ∧ (∃ xs, SqL K H1 a xs) ∧ (∃ xs, SqL K H1 b xs) ∧ R (Itz K a b) H1
theorem pi_zip {ta : TA} {p pos : Pos} (hg : Gl X "zip") (hm : X.mg "zip" = none) (ha : PA X [a, b] ta) (hs : starEach [a, b] X.env = [(false, eval a X.env), (false, eval b X.env)] := by rfl) (hs2 : starEach [b] X.env = [(false, eval b X.env)] := by rfl) :
    PI X (.Tuple elts k tp) (.Call (.Name "zip" p) [a, b] [] pos) (iZip X.K ta) := by
  intro pins s σ H R I h
  refine Call_ (ld_blt I hg hm PyProof.Rows.Boot.«zip» (PyProof.Rows.callWith_type1 (thn (ha pos pins s σ H _ I h) fun us s1 ⟨vs, H1, I1, r1, q1⟩ => ?_) (by rw [hs, hs2]) (by rw [hs2]; rfl)))
  obtain ⟨l, l', e, ⟨xs, hq⟩, ⟨ys, hq'⟩, q⟩ := q1
  subst e
  cases r1 with
  | cons r rr =>
    cases rr with
    | cons r' rr =>
      cases rr
      cases r
      cases r'
      obtain ⟨its, rv, p, hz⟩ := I1.list hq
      obtain ⟨jts, rv', p', hz'⟩ := I1.list hq'
      have hlt : l < s1.heap.objs.size := by obtain ⟨o, n, e, _⟩ := p; exact Heap.lt_size e
      have hlt' : l' < s1.heap.objs.size := by obtain ⟨o, n, e, _⟩ := p'; exact Heap.lt_size e
      refine call_zip_2 p.isList p'.isList fun h' hz hTI hTO hi1 hi2 hsz hk => ?_
      refine wpAny_pyIter_zip hz ?_
      refine ⟨s1.heap.objs.size + 4, [s1.heap.objs.size + 4, s1.heap.objs.size + 2, s1.heap.objs.size + 3, s1.heap.objs.size, s1.heap.objs.size + 1], _, _, H1, rfl, I1.kept (t' := s1.toks) hk, turn_zip _ _ _ _ _ l l' (zipApart_new hlt hlt'), ⟨hz, hTI, ⟨_, _, hTO⟩, hi1, hi2⟩, fun b hb => ?_, q⟩
      have hb' : s1.heap.objs.size ≤ b := by
        simp only [List.mem_cons, List.not_mem_nil, or_false] at hb
        rcases hb with rfl | rfl | rfl | rfl | rfl <;> omega
      exact I1.fpOk hb' (I1.hok.fresh hb')
def pairedD : List D → List D → List D
  | d :: ds, e :: es => .tup [d, e] :: pairedD ds es
  | _, _ => []
theorem paired_len : ∀ (ds es : List D), (pairedD ds es).length = min ds.length es.length
  | [], _ => by simp [pairedD]
  | _ :: _, [] => by simp [pairedD]
  | d :: ds, e :: es => by simp [pairedD, paired_len ds es]
theorem paired_get : ∀ (ds es : List D) (i : Nat) (d : D), (pairedD ds es)[i]? = some d → ∃ x y, ds[i]? = some x ∧ es[i]? = some y ∧ d = .tup [x, y]
  | [], _, _, _, h => by simp [pairedD] at h
  | _ :: _, [], _, _, h => by simp [pairedD] at h
  | d :: ds, e :: es, 0, _, h => by simp [pairedD] at h; exact ⟨d, e, rfl, rfl, h.symm⟩
  | d :: ds, e :: es, i + 1, _, h => by
    simp only [pairedD, List.getElem?_cons_succ] at h
    obtain ⟨x, y, h1, h2, h3⟩ := paired_get ds es i _ h
    exact ⟨x, y, by simpa using h1, by simpa using h2, h3⟩
def srcZ (f g : Ev → Res D) : Ev → Res (List D) := fun ρ => (f ρ).bind fun d => (g ρ).bind fun e => match d, e with
  | .lst ds, .lst es => .ok (pairedD ds es)
  | _, _ => .stuck
theorem di_zip {p pos : Pos} (hg : Gl X "zip") (hm : X.mg "zip" = none) (h : DE X E a f) (h' : DE X E b g) (hn : nst a = true := by exact rfl) (hn' : nst b = true := by exact rfl) : DI X E (.Tuple elts k tp) (.Call (.Name "zip" p) [a, b] [] pos) (srcZ f g) := by
  refine ⟨pi_weak (pi_zip hg hm (pa_cons h.o (pa_cons h'.o pa_nil (star_one hn')) (star_cons hn)) (by rw [star_cons hn, star_one hn']) (star_one hn')) fun σ H R ⟨H₀, ρ, hs, hr, q⟩ => ⟨H₀, ρ, hs, hr, ?_⟩⟩
  unfold srcZ at q
  cases e1 : f ρ with
  | stuck => rw [e1] at q; exact q
  | exn x => rw [e1] at q; exact q
  | ok d =>
    rw [e1] at q
    intro v H1 H01 g1 r1
    refine ⟨H01, ρ, g1.sub, hr.mono g1.z, ?_⟩
    replace q : match ((g ρ).bind fun e => match d, e with
      | .lst ds, .lst es => Res.ok (pairedD ds es)
      | _, _ => .stuck) with
        | .ok ds => ∀ J H' H₀', Grow H H₀ H' H₀' → ItD X.K ds J H₀' → R J H'
        | .exn x => ∀ C ox H' H₀', Grow H H₀ H' H₀' → ExR X.K H₀' x C ox → E C ox H'
        | .stuck => False := q
    cases e2 : g ρ with
    | stuck => rw [e2] at q; exact q
    | exn x => rw [e2] at q; exact fun C ox H' H₀' g2 => q C ox H' H₀' (g1.trans g2)
    | ok d2 =>
      rw [e2] at q
      intro v2 H2 H02 g2 r2
      cases d with
      | lst ds =>
        cases d2 with
        | lst es =>
          obtain ⟨l, vs, rfl, hv, hrv⟩ := Rep.lst_iff.mp (r1.mono g2.z)
          obtain ⟨l', vs', rfl, hv', hrv'⟩ := Rep.lst_iff.mp r2
          refine ⟨l, l', rfl, ⟨vs, Same.sqL g2.sub hv⟩, ⟨vs', Same.sqL g2.sub hv'⟩, q _ H2 H02 (g1.trans g2) ⟨fun i H' H₀' s1 s2 hi => ?_, fun i H' H₀' x H2 d s1 s2 hd hy => ?_, fun i H' H₀' s1 s2 hi => ?_⟩⟩
          · rw [paired_len] at hi
            have h1 := hrv.length
            have h2 := hrv'.length
            exact ⟨vs, vs', vs[i]'(by omega), vs'[i]'(by omega), Same.sqL (s1.trans s2) hv, Same.sqL (s1.trans s2) hv', by simp, by simp⟩
          · obtain ⟨p, y, z, hp, rfl, hy, hz, rfl⟩ := hy
            obtain ⟨d1, d2, k1, k2, rfl⟩ := paired_get _ _ _ _ hd
            obtain ⟨u, m1, m2⟩ := hrv.get k1
            obtain ⟨u', m1', m2'⟩ := hrv'.get k2
            have := hy vs (Same.sqL (s1.trans s2) hv)
            rw [m1] at this; cases this
            have := hz vs' (Same.sqL (s1.trans s2) hv')
            rw [m1'] at this; cases this
            exact tup_new s2 hp (Reps.cons (m2.mono s1) (Reps.cons (m2'.mono s1) Reps.nil))
          · rw [paired_len] at hi
            have h1 := hrv.length
            have h2 := hrv'.length
            exact ⟨vs, vs', Same.sqL (s1.trans s2) hv, Same.sqL (s1.trans s2) hv', by omega⟩
        | _ => exact q.elim
      | _ => exact q.elim
end
end DL
set_option Elab.async false
set_option linter.all false
set_option maxRecDepth 100000
namespace DL
open PySem PySem.Spec PyProof.Rows L2
def fldD (f : Str) : List Str → List D → Option D
  | k :: ks, d :: ds => if f = k then some d else fldD f ks ds
  | _, _ => none
def dFld (f : Str) (x : D) : Res D := match x with
  | .ob (.ins c ks) ds => match fldD f ks ds with
    | some d => .ok d
    | none => .stuck
  | _ => .stuck
section
variable {X : Cx} {E : XK} {e a b o : Expr} {es : List Expr} {fe fo : Ev → Res D} {fa : Ev → Res (List D)} {pos : Pos}
def mIns (c : Str) (ks : List Str) (ds : List D) : Res D := if ds.length = ks.length then .ok (.ob (.ins c ks) ds) else .stuck
def idxD (x : D) (ds : List D) : Option Nat := ds.findIdx? fun d => eqD d x
def dIndex (x y : D) : Res D := match x with
  | .lst ds => if shal 40 y = true ∧ ds.all (shal 40) = true then match idxD y ds with
      | some j => .ok (.int j)
      | none => .stuck
    else .stuck
  | _ => .stuck
def dIndexA (fo : Ev → Res D) (fe : Ev → Res D) : Ev → Res D := fun ρ => (fo ρ).bind fun x => match x with
  | .lst ds => (fe ρ).bind fun y => dIndex (.lst ds) y
  | _ => .stuck
end
end DL
set_option Elab.async false
set_option linter.all false
set_option maxRecDepth 100000
namespace DL
open PySem PySem.Spec PyProof.Rows L2
end DL
set_option Elab.async false
set_option linter.all false
set_option maxRecDepth 100000
namespace DL
open PySem PySem.Spec PyProof.Rows L2
section
variable {X : Cx} {E : XK} {He H0e : Hp} {e : Expr} {es : List Expr} {f : Ev → Res D} {fa : Ev → Res (List D)} {pos : Pos}
theorem reps_get2 {K : PySem.W.Frag} {H : Hp} {ds : List D} {vs : List V} (h : Reps K H ds vs) {k : Nat} {d : D} {v : V} (e1 : ds[k]? = some d) (e2 : vs[k]? = some v) : Rep K H d v := by
  obtain ⟨u, h1, h2⟩ := h.get e1
  rw [e2] at h1; cases h1; exact h2
def aFr (f : Ev → Res D) (fa : Ev → Res (List D)) : Ev → Res (List D) := fun ρ => (f ρ).bind fun x => match x with
  | .lst ds => (fa ρ).bind fun xs => .ok (.lst ds :: xs)
  | _ => .stuck
def isOx : Sl → Bool
  | .ox _ _ => true
  | _ => false
def noOx (i : Nat) (ρ : Ev) : Bool := (ρ.set i .no).all fun s => !(isOx s)
def ownT (i j : Nat) (ρ : Ev) (ds : List D) : Res Fl := match ds[j]? with
  | some (.lst _) => if ds.length ≤ line ∧ noOx i ρ = true then .ok (.nx (ρ.set i (.ox j ds))) else .stuck
  | _ => .stuck
def sOwnT (i j : Nat) (fa : Ev → Res (List D)) : Ev → Res Fl := fun ρ => (fa ρ).bind (ownT i j ρ)
def clrAt (i j : Nat) (ρ : Ev) (s : Option Sl) : Res Fl := match s with
  | some (.ox j' ds) => if j' = j then .ok (.nx (ρ.set i (.ox j (ds.set j (.lst []))))) else .stuck
  | _ => .stuck
def sClrAt (i j : Nat) : Ev → Res Fl := fun ρ => clrAt i j ρ ρ[i]?
end
end DL
set_option Elab.async false
set_option linter.all false
set_option maxRecDepth 100000
namespace DL
open PySem PySem.Spec PyProof.Rows L2
def postF (K : PySem.W.Frag) (E : XK) (He H0e H₀ : Hp) (r : Res Fl) (D : Ends) : Prop := match r with
  | .ok (.rt (.lst es)) => ∀ p us H H₀', Grow He H0e H H₀' → He p = none → H₀' p = none → H p = some (.lst us) → Reps K H₀' es us → D.rt (.ref p) H
  | .exn x => ∀ C ox H H₀', Grow He H0e H H₀' → ExR K H₀' x C ox → E C ox H
  | _ => False
def tSF (K : PySem.W.Frag) (E : XK) (He H0e : Hp) (g : Ev → Res Fl) : TS := fun D σ H => ∃ H₀ ρ, SRx K He H0e H₀ σ H ρ ∧ postF K E He H0e H₀ (g ρ) D
structure DSsF (X : Cx) (E : XK) (He H0e : Hp) (st : List Stmt) (g : Ev → Res Fl) : Prop where
  o : PSs X st (tSF X.K E He H0e g)
section
variable {X : Cx} {E : XK} {He H0e : Hp} {st : Stmt} {rest : List Stmt} {e : Expr} {es : List Expr} {f : Ev → Res D} {fa : Ev → Res (List D)} {s t : Ev → Res Fl} {pos : Pos}
def seqF (t : Ev → Res Fl) (r : Fl) : Res Fl := match r with
  | .nx ρ => t ρ
  | _ => .stuck
def sSeqF (s t : Ev → Res Fl) : Ev → Res Fl := fun ρ => (s ρ).bind (seqF t)
theorem dssF_cons (h1 : DS X E He H0e st s) (h2 : DSsF X E He H0e rest t) : DSsF X E He H0e (st :: rest) (sSeqF s t) := by
  refine ⟨?_⟩
  refine pss_weak (pss_cons h1.o h2.o) fun D σ H ⟨H₀, ρ, h, q⟩ => ⟨H₀, ρ, h, ?_⟩
  unfold sSeqF at q
  cases e1 : s ρ with
  | stuck => rw [e1] at q; exact q
  | exn x => rw [e1] at q; exact q
  | ok r =>
    rw [e1] at q
    cases r with
    | nx ρ' => exact fun σ' H' H₀' s' h' => ⟨H₀', ρ', h', q⟩
    | rt d => exact q.elim
    | bk ρ' => exact q.elim
    | ct ρ' => exact q.elim
def retO (s : Option Sl) : Res Fl := match s with
  | some (.ow (.lst ds)) => .ok (.rt (.lst ds))
  | _ => .stuck
def sRetO (i : Nat) : Ev → Res Fl := fun ρ => retO ρ[i]?
theorem dssF_ret {i : Nat} {x : Str} {p1 : Pos} (hN : X.N[i]? = some x) (hv : Vis X.env.scope x) (hd : (x == ("__debug__" : Str)) = false := by decide) (hcd : (x == ("__classdict__" : Str)) = false := by decide) :
    DSsF X E He H0e [.Return (some (.Name x p1)) pos] (sRetO i) := by
  refine ⟨?_⟩
  refine pss_weak (pss_cons (ps_ret (pe_var hN hv hd hcd)) pss_nil) fun D σ H ⟨H₀, ρ, h, q⟩ => ?_
  unfold sRetO at q
  cases e1 : ρ[i]? with
  | none => rw [e1] at q; exact q.elim
  | some s =>
    rw [e1] at q
    cases s with
    | ow d =>
      cases d with
      | lst ds =>
        obtain ⟨p, h1, h2, h3, vs, h4, h5⟩ := h.ow i _ e1
        exact ⟨.ref p, h1, q p vs H H₀ h.g h2 h3 h4 h5⟩
      | _ => exact q.elim
    | _ => exact q.elim
end
def outF (r : Fl) : Res D := match r with
  | .rt (.lst es) => .ok (.lst es)
  | _ => .stuck
def runF (n : Nat) (s : Ev → Res Fl) (ds : List D) : Res D := (s (ds.map Sl.sh ++ List.replicate (n - ds.length) .no)).bind outF
theorem runF_lst {n : Nat} {s : Ev → Res Fl} {ds : List D} {d : D} (h : runF n s ds = .ok d) : ∃ es, d = .lst es := by
  unfold runF at h
  cases e : s (ds.map Sl.sh ++ List.replicate (n - ds.length) .no) with
  | stuck => rw [e] at h; cases h
  | exn x => rw [e] at h; cases h
  | ok r =>
    rw [e] at h
    cases r with
    | rt d' =>
      cases d' with
      | lst es => cases h; exact ⟨es, rfl⟩
      | _ => cases h
    | _ => cases h
def postO (K : PySem.W.Frag) (E : XK) (H H₀ : Hp) (r : Res D) (Q : VK) : Prop := match r with
  | .ok (.lst es) => ∀ p us H' H₀', Grow H H₀ H' H₀' → H p = none → H₀' p = none → H' p = some (.lst us) → Reps K H₀' es us → Q (.ref p) H'
  | .exn x => ∀ C ox H' H₀', Grow H H₀ H' H₀' → ExR K H₀' x C ox → E C ox H'
  | _ => False
def spF (K : PySem.W.Frag) (n : Nat) (m : List D → Res D) : Sp := fun vs H Q E => vs.length = n ∧ ∃ H₀ ds, Same H₀ H ∧ Reps K H₀ ds vs ∧ postO K E H H₀ (m ds) Q
theorem spD_spF {K : PySem.W.Frag} {n : Nat} {m : List D → Res D} (hm : ∀ ds d, m ds = .ok d → ∃ es, d = .lst es) : ∀ vs H Q E, spD K n m vs H Q E → spF K n m vs H Q E := fun vs H Q E ⟨h1, H₀, ds, h2, h3, q⟩ => ⟨h1, H₀, ds, h2, h3, by
  cases e : m ds with
  | stuck => rw [e] at q; exact q
  | exn x => rw [e] at q; exact q
  | ok d =>
    obtain ⟨es, rfl⟩ := hm ds d e
    rw [e] at q
    intro p us H' H₀' g hp h0 hv r
    have z : Same H₀' (upd H₀' p (.lst us)) := fun b o eb => by rw [upd_ne (by intro z; subst z; rw [h0] at eb; cases eb)]; exact eb
    refine q (.ref p) H' (upd H₀' p (.lst us)) ⟨g.s, g.z.trans z, fun b o eb => ?_, fun b h1 h2 => ?_⟩ (Rep.lst_iff.mpr ⟨p, us, rfl, SqL.of upd_same, r.mono z⟩)
    · by_cases hb : b = p
      · subst hb; rw [upd_same] at eb; cases eb; exact hv
      · rw [upd_ne hb] at eb; exact g.sub _ _ eb
    · by_cases hb : b = p
      · subst hb; exact hp
      · rw [upd_ne hb] at h1; exact g.nw b h1 h2⟩
theorem fn_mirrorF {P : Program} {w : World} {K : PySem.W.Frag} {mg : Str → Option Value} {base : Heap} {x qual : Str} {st : Stmt} {f : Addr} {fd : FuncData} {N ps : List Str} {k : Nat} {s : Ev → Res Fl} (F : Fun K x qual st f fd) (S : FnScope N ps (defScope st))
    (hbody : ∀ (cdv : Value) (A : Around) (outer : List PySem.Env) (s0 : Shared) (H H₀ : Hp) (E : XK), Room k (A.deeper (envOfC qual (defScope st) s0.heap.objs.size f cdv)) →
      DSsF (cxOf CX0 P w K mg base N qual (defScope st) f cdv A outer s0 H E).nox E H H₀ (defBody st) s) : FnOk P w K mg base CX0 (k + 1) f fd ps (spF K ps.length (runF N.length s)) := by
  have hpl : ps.length ≤ N.length := by have := congrArg List.length S.pre; rw [List.length_take] at this; omega
  refine F.ok S (fun vs H Q E h => h.1) fun cdv A outer s0 H vs Q E hr h => ?_
  obtain ⟨hn, H₀, ds, hs, hv, q⟩ := h
  refine ⟨_, (hbody cdv A outer s0 H H₀ E hr).o, H₀, ds.map Sl.sh ++ List.replicate (N.length - ds.length) .no, ?_, ?_⟩
  · refine ⟨Grow.refl hs, start_reads hv, fun i d e => ?_, fun i j d d' hij e => ?_, ?_, OX.none start_nox⟩
    · by_cases hi : i < ds.length
      · rw [List.getElem?_append_left (by simpa using hi), List.getElem?_map] at e
        cases q : ds[i]? with
        | none => rw [q] at e; cases e
        | some d' => rw [q] at e; cases e
      · rw [List.getElem?_append_right (by simpa using hi), List.getElem?_replicate] at e
        split at e <;> cases e
    · by_cases hi : i < ds.length
      · rw [List.getElem?_append_left (by simpa using hi), List.getElem?_map] at e
        cases q : ds[i]? with
        | none => rw [q] at e; cases e
        | some d' => rw [q] at e; cases e
      · rw [List.getElem?_append_right (by simpa using hi), List.getElem?_replicate] at e
        split at e <;> cases e
    · unfold L2.start
      have := hv.length
      simp only [List.length_append, List.length_map, List.length_replicate]
      omega
  · unfold runF at q
    cases e1 : s (ds.map Sl.sh ++ List.replicate (N.length - ds.length) .no) with
    | stuck => rw [e1] at q; exact q
    | exn x => rw [e1] at q; exact q
    | ok r =>
      rw [e1] at q
      cases r with
      | rt d =>
        cases d with
        | lst es => exact fun p us H' H₀' g hp h0 hv' rr => q p us H' H₀' g hp h0 hv' rr
        | _ => exact q.elim
      | _ => exact q.elim
section
variable {X : Cx} {E : XK} {He H0e : Hp} {e : Expr} {es : List Expr} {f : Ev → Res D} {fa : Ev → Res (List D)} {pos : Pos}
theorem df_call {CX : CXT} {k n : Nat} {fn : Addr} {fd : FuncData} {ps : List Str} {m : List D → Res D} {x : Str} {p : Pos} (F : FnOk X.prog X.w X.K X.mg X.base CX k fn fd ps (spF X.K n m)) (hr : Room k X.A) (hg : Gl X x) (hm : X.mg x = some (.ref fn))
    (hk : PySem.W.keepIn X.K (.ref fn) = true) (hb : Binds X.K fd ps []) (hx : Passes CX X E) (ha : DA X E (e :: es) fa) (hn : (e :: es).length = n := by rfl) (hl : ∀ ρ ds, fa ρ = .ok ds → ds.length = (e :: es).length)
    (hdb : (x == ("__debug__" : Str)) = false := by decide) (he : starEach (e :: es) X.env = (false, eval e X.env) :: starEach es X.env := by exact star_cons rfl) (hpl : (backTo pos (starEach es X.env)).any (·.1) = false := by exact any_star rfl) :
    DF X E (.Call (.Name x p) (e :: es) [] pos) (bindA fa m) := by
  refine ⟨?_⟩
  refine pe_weak (pe_call F hr hg hm hk hb .nil hx ha.o hdb he hpl) fun σ H Q h => ?_
  obtain ⟨H₀, ρ, hs, hr, q⟩ := h
  refine ⟨H₀, ρ, hs, hr, ?_⟩
  unfold bindA at q
  cases e1 : fa ρ with
  | stuck => rw [e1] at q; exact q
  | exn x => rw [e1] at q; exact q
  | ok ds =>
    rw [e1] at q
    intro v H1 H01 g1 r1
    refine ⟨?_, H01, ds, g1.sub, by simpa using r1, ?_⟩
    · have := r1.length
      have := hl ρ ds e1
      simp only [List.append_nil]
      omega
    · replace q : match m ds with
        | .ok (.lst ds) => ∀ p vs H' H₀', Grow H H₀ H' H₀' → H p = none → H₀' p = none → H' p = some (.lst vs) → Reps X.K H₀' ds vs → Q (.ref p) H'
        | .ok _ => False
        | .exn x => ∀ C ox H' H₀', Grow H H₀ H' H₀' → ExR X.K H₀' x C ox → E C ox H'
        | .stuck => False := q
      cases e2 : m ds with
      | stuck => rw [e2] at q; exact q
      | exn x => rw [e2] at q; exact fun C ox H' H₀' g ex => q C ox H' H₀' (g1.trans g) ex
      | ok d =>
        rw [e2] at q
        cases d with
        | lst es => exact fun p us H' H₀' g hp h0 hv rr => q p us H' H₀' (g1.trans g) (g1.s.free hp) h0 hv rr
        | _ => exact q.elim
end
end DL
set_option Elab.async false
set_option linter.all false
set_option maxRecDepth 100000
namespace DL
open PySem PySem.Spec PyProof.Rows L2
section
variable {X : Cx} {E : XK} {He H0e : Hp} {e a b : Expr} {es : List Expr} {f g : Ev → Res D} {fa : Ev → Res (List D)} {pos : Pos}
def dMin (x y : D) : Res D := match x, y with
  | .int i, .int j => .ok (.int (if j < i then j else i))
  | _, _ => .stuck
theorem cd_min : CallD X E (fun xs H Q => ∃ i j, xs = [.int i, .int j] ∧ Q (.int (if j < i then j else i)) H) (m2 dMin) := call2 fun x y v u H H₀ Q hs r r' q => by
  cases x with
  | int i =>
    cases y with
    | int j => exact ⟨i, j, by rw [Rep.int_iff.mp r, Rep.int_iff.mp r'], done_at hs q (ri _)⟩
    | _ => exact q.elim
  | _ => exact q.elim
def dCat (x y : D) : Res D := match x, y with
  | .lst ds, .lst es => if ds.length + es.length ≤ line then .ok (.lst (ds ++ es)) else .stuck
  | _, _ => .stuck
theorem df_add (ha : DE X E a f) (hb : DE X E b g) : DF X E (.BinOp a .Add b pos) (bind2 f g dCat) := by
  refine ⟨?_⟩
  refine pe_weak (pe_op op_catL ha.o hb.o) fun σ H Q ⟨H₀, ρ, hs, hr, q⟩ => ⟨H₀, ρ, hs, hr, ?_⟩
  unfold bind2 at q
  cases e1 : f ρ with
  | stuck => rw [e1] at q; exact q
  | exn x => rw [e1] at q; exact q
  | ok x =>
    rw [e1] at q
    intro v H1 H01 g1 r1
    refine ⟨H01, ρ, g1.sub, hr.mono g1.z, ?_⟩
    cases e2 : g ρ with
    | stuck => simp only [Res.bind, e2] at q
    | exn y => simp only [Res.bind, e2] at q; exact fun C ox H' H₀' g' ex => q C ox H' H₀' (g1.trans g') ex
    | ok y =>
      simp only [Res.bind, e2] at q
      intro u H2 H02 g2 r2
      cases x with
      | lst ds =>
        cases y with
        | lst es =>
          by_cases h : ds.length + es.length ≤ line
          · simp only [dCat, if_pos h] at q
            obtain ⟨l, vs, rfl, h1, h2⟩ := Rep.lst_iff.mp (r1.mono g2.z)
            obtain ⟨m, us, rfl, k1, k2⟩ := Rep.lst_iff.mp r2
            refine ⟨l, m, vs, us, rfl, rfl, Same.sqL g2.sub h1, Same.sqL g2.sub k1, by rw [← h2.length, ← k2.length]; exact line_le h, fun p hp => ?_⟩
            have sm : Same H2 (upd H2 p (.lst (vs ++ us))) := fun b o eb => by rw [upd_ne (by intro z; subst z; rw [hp] at eb; cases eb)]; exact eb
            refine q p (vs ++ us) _ H02 ⟨(g1.s.trans g2.s).trans sm, g1.z.trans g2.z, g2.sub.trans sm, (g1.trans g2).nw⟩ ((g1.s.trans g2.s).free hp) ?_ upd_same (h2.app k2)
            cases qq : H02 p with
            | none => rfl
            | some o => have := g2.sub _ _ qq; rw [hp] at this; cases this
          · simp only [dCat, if_neg h] at q
        | _ => simp only [dCat] at q
      | _ => simp only [dCat] at q
def revAt (i : Nat) (ρ : Ev) (ds : List D) : Res Fl := .ok (.nx (ρ.set i (.ow (.lst ds.reverse))))
def sRev (i : Nat) : Ev → Res Fl := fun ρ => ownAt ρ i (revAt i ρ)
theorem Reps.reverse {K : PySem.W.Frag} {H : Hp} {ds : List D} {vs : List V} (h : Reps K H ds vs) : Reps K H ds.reverse vs.reverse := by
  have hl := h.length
  refine reps_at (by simp [hl]) fun k d v e1 e2 => ?_
  have hk : k < ds.length := by have := (List.getElem?_eq_some_iff.mp e1).1; simpa using this
  rw [List.getElem?_reverse hk] at e1
  rw [List.getElem?_reverse (by omega)] at e2
  exact reps_get2 h e1 (by rw [hl]; exact e2)
theorem ds_reverse {i : Nat} {x : Str} {p1 p2 p3 : Pos} (hN : X.N[i]? = some x) (hv : Vis X.env.scope x)
    (hd : (x == ("__debug__" : Str)) = false := by decide) (hcd : (x == ("__classdict__" : Str)) = false := by decide)
    (hbase : attributeBase (.Name x p1) "reverse" X.env (eval (.Name x p1) X.env) = eval (.Name x p1) X.env := by rfl) (hline : (p2.endLine == p3.line) = true := by rfl)
    (hw : swapsWith (.Call (.Attribute (.Name x p1) "reverse" p2) [] [] p3) none pos.line X.env = pure false := by rfl) :
    DS X E He H0e (.Expr (.Call (.Attribute (.Name x p1) "reverse" p2) [] [] p3) pos) (sRev i) := by
  refine ⟨?_⟩
  refine ps_weak (ps_expr (pe_bm0 PySem.F.plainAttrs_list PySem.F.slot_list_reverse PySem.F.type_list_reverse mt_reverse (pe_var hN hv hd hcd) hbase hline) hw) fun D σ H ⟨H₀, ρ, h, q⟩ => ?_
  obtain ⟨ds, p, vs, e1, e2, e3, e4, e5, e6, q⟩ := ownAt_of h q
  refine ⟨.ref p, e2, .inl ⟨rfl, vs, SqL.of e5⟩, p, vs, rfl, rfl, e5, ?_⟩
  exact q σ _ H₀ (Same.refl _) (h.write e1 e2 e6.reverse)
end
end DL
set_option Elab.async false
set_option linter.all false
set_option maxRecDepth 100000
namespace Com
open PySem L2 DL
def b__law_divisor : Ev → Res Fl :=
  (sSeq (sWhile (fuelInt 1) (bind2 (dVar 1) (dC (.int 0)) dNe)
  (sSeq (sPar 0 1 (aCons (dVar 1) (aCons (bind2 (dVar 0) (dVar 1) dMod) aNil)))
  sNext))
  (sSeq (sRet (bindA (aCons (dVar 0) aNil) (m1 dAbs)))
  sNext))
def m__law_divisor : List D → Res D := runD 2 b__law_divisor
def b__law_lowest : Ev → Res Fl :=
  (sSeq (sSet 2 (bindA (aCons (dVar 0) (aCons (dVar 1) aNil)) m__law_divisor))
  (sSeq (sRet (bindA (aCons (bind2 (dVar 0) (dVar 2) dDiv) (aCons (bind2 (dVar 1) (dVar 2) dDiv) aNil)) mTup))
  sNext))
def m__law_lowest : List D → Res D := runD 3 b__law_lowest
def b__law_whole : Ev → Res Fl :=
  (sSeq (sRet (dAnd (bind1 (dVar 0) (dIsI "int")) (dNot (bind1 (dVar 0) (dIsI "bool")))))
  sNext)
def m__law_whole : List D → Res D := runD 1 b__law_whole
def b_is_whole : Ev → Res Fl :=
  (sSeq (sRet (dAnd (bind1 (dVar 0) (dIsI "int")) (dNot (bind1 (dVar 0) (dIsI "bool")))))
  sNext)
def m_is_whole : List D → Res D := runD 1 b_is_whole
def b_common_divisor : Ev → Res Fl :=
  (sSeq (sSet 2 (bindA (aCons (dVar 0) aNil) (m1 dAbs)))
  (sSeq (sSet 3 (bindA (aCons (dVar 1) aNil) (m1 dAbs)))
  (sSeq (sWhile (fuelInt 3) (bind2 (dVar 3) (dC (.int 0)) dNe)
  (sSeq (sSet 4 (bind2 (dVar 2) (dVar 3) dMod))
  (sSeq (sSet 2 (dVar 3))
  (sSeq (sSet 3 (dVar 4))
  sNext))))
  (sSeq (sRet (dVar 2))
  sNext))))
def m_common_divisor : List D → Res D := runD 5 b_common_divisor
def b_ratio : Ev → Res Fl :=
  (sSeq (sIf (dOr (dNot (bindA (aCons (dVar 0) aNil) m_is_whole)) (dNot (bindA (aCons (dVar 1) aNil) m_is_whole)))
  (sSeq sStuck
  sNext)
  sNext)
  (sSeq (sIf (bind2 (dVar 1) (dC (.int 0)) dEq)
  (sSeq sStuck
  sNext)
  sNext)
  (sSeq (sSet 2 (bindA (aCons (dVar 0) (aCons (dVar 1) aNil)) m_common_divisor))
  (sSeq (sIf (bind2 (dVar 1) (dC (.int 0)) dLt)
  (sSeq (sSet 2 (bind1 (dVar 2) dNeg))
  sNext)
  sNext)
  (sSeq (sRet (bindA (aCons (bind2 (dVar 0) (dVar 2) dDiv) (aCons (bind2 (dVar 1) (dVar 2) dDiv) aNil)) mTup))
  sNext)))))
def m_ratio : List D → Res D := runD 3 b_ratio
def b_plus : Ev → Res Fl :=
  (sSeq (sRet (bindA (aCons (bind2 (bind2 (bind2 (dVar 0) (dC (.int 0)) dIx) (bind2 (dVar 1) (dC (.int 1)) dIx) dMulL) (bind2 (bind2 (dVar 1) (dC (.int 0)) dIx) (bind2 (dVar 0) (dC (.int 1)) dIx) dMulL) dAdd) (aCons (bind2 (bind2 (dVar 0) (dC (.int 1)) dIx) (bind2 (dVar 1) (dC (.int 1)) dIx) dMulL) aNil)) m_ratio))
  sNext)
def m_plus : List D → Res D := runD 2 b_plus
def b_sum_of : Ev → Res Fl :=
  (sSeq (sSet 1 (dC (.tup [(.int 0), (.int 1)])))
  (sSeq (sFor (dVar 0) (gSet 2)
  (sSeq (sSet 1 (bindA (aCons (dVar 1) (aCons (dVar 2) aNil)) m_plus))
  sNext))
  (sSeq (sRet (dVar 1))
  sNext)))
def m_sum_of : List D → Res D := runD 3 b_sum_of
theorem bok {α β : Type} {a : α} {f : α → Res β} : (Res.ok a).bind f = f a := rfl
theorem seq_nx {s t : Ev → Res Fl} {ρ ρ' : Ev} (h : s ρ = .ok (.nx ρ')) : sSeq s t ρ = t ρ' := by unfold sSeq; rw [h]; rfl
theorem seq_rt {s t : Ev → Res Fl} {ρ : Ev} {d : D} (h : s ρ = .ok (.rt d)) : sSeq s t ρ = .ok (.rt d) := by unfold sSeq; rw [h]; rfl
theorem seq_next {s : Ev → Res Fl} {ρ ρ' : Ev} (h : s ρ = .ok (.nx ρ')) : sSeq s sNext ρ = .ok (.nx ρ') := by unfold sSeq; rw [h]; rfl
theorem set_ok {i : Nat} {f : Ev → Res D} {ρ : Ev} {d : D} (h : f ρ = .ok d) : sSet i f ρ = .ok (.nx (ρ.set i (.sh d))) := by unfold sSet; rw [h]; rfl
theorem ret_ok {f : Ev → Res D} {ρ : Ev} {d : D} (h : f (shr ρ) = .ok d) : sRet f ρ = .ok (.rt d) := by unfold sRet; rw [h]; rfl
theorem if_f {c : Ev → Res D} {s t : Ev → Res Fl} {ρ : Ev} (h : c (shr ρ) = .ok (.bl false)) : sIf c s t ρ = t ρ := by unfold sIf; rw [h]; rfl
theorem ne_int {i j : Int} : dNe (.int i) (.int j) = .ok (.bl (!(i == j))) := by unfold dNe; rw [if_pos ⟨rfl, rfl⟩, eqD]
theorem eq_int {i j : Int} : dEq (.int i) (.int j) = .ok (.bl (i == j)) := by unfold dEq; rw [if_pos ⟨rfl, rfl⟩, eqD]
theorem run_rt {n : Nat} {s : Ev → Res Fl} {ds : List D} {d : D} (h : s (ds.map Sl.sh ++ List.replicate (n - ds.length) .no) = .ok (.rt d)) : runD n s ds = .ok d := by unfold runD; rw [h]; rfl
theorem acons_ok {f : Ev → Res D} {fa : Ev → Res (List D)} {ρ : Ev} {x : D} {xs : List D} (h : f ρ = .ok x) (h' : fa ρ = .ok xs) : aCons f fa ρ = .ok (x :: xs) := by unfold aCons; rw [h, bok, h']; rfl
theorem bind2_ok {f g : Ev → Res D} {op : D → D → Res D} {ρ : Ev} {x y : D} (h : f ρ = .ok x) (h' : g ρ = .ok y) : bind2 f g op ρ = op x y := by unfold bind2; rw [h, bok, h']; rfl
theorem bindA_ok {fa : Ev → Res (List D)} {m : List D → Res D} {ρ : Ev} {xs : List D} (h : fa ρ = .ok xs) : bindA fa m ρ = m xs := by unfold bindA; rw [h]; rfl
theorem mod_ok {a b : Int} (h : b ≠ 0) : dMod (.int a) (.int b) = .ok (.int (a.fmod b)) := by
  show (if decide (b ≠ 0) = true then Res.ok (D.int (a.fmod b)) else .stuck) = _
  rw [if_pos (decide_eq_true h)]
theorem div_ok {a b : Int} (h : divOk a b = true) : dDiv (.int a) (.int b) = .ok (.int (a.fdiv b)) := by
  show (if divOk a b = true then Res.ok (D.int (a.fdiv b)) else .stuck) = _
  rw [if_pos h]
theorem mul_ok {a b : Int} (h : mulOk a b = true) : dMulL (.int a) (.int b) = .ok (.int (a * b)) := by
  show (if mulOk a b = true then Res.ok (D.int (a * b)) else .stuck) = _
  rw [if_pos h]
theorem gcd_step (a b : Int) : Int.gcd b (a.fmod b) = Int.gcd a b := by
  rw [Int.fmod_def, Int.gcd_sub_mul_left_right, Int.gcd_comm]
theorem fmod_lt {a b : Int} (h : b ≠ 0) : (a.fmod b).natAbs < b.natAbs := by
  rcases Int.lt_or_gt_of_ne h with hb | hb
  · have h1 := Int.fmod_lt_of_pos (-a) (show 0 < -b by omega)
    have h2 := Int.fmod_nonneg_of_pos (-a) (show 0 < -b by omega)
    rw [Int.neg_fmod_neg] at h1 h2
    omega
  · have h1 := Int.fmod_lt_of_pos a hb
    have h2 := Int.fmod_nonneg_of_pos a hb
    omega
theorem divisor_loop : ∀ (n : Nat) (a b : Int), b.natAbs < n → ∃ g : Int, g.natAbs = Int.gcd a b ∧
    whileD (bind2 (dVar 1) (dC (.int 0)) dNe) (sSeq (sPar 0 1 (aCons (dVar 1) (aCons (bind2 (dVar 0) (dVar 1) dMod) aNil))) sNext) n [.sh (.int a), .sh (.int b)] = .ok (.nx [.sh (.int g), .sh (.int 0)])
  | 0, a, b, h => absurd h (Nat.not_lt_zero _)
  | n + 1, a, b, h => by
    unfold whileD
    have c : (bind2 (dVar 1) (dC (.int 0)) dNe) (shr [.sh (.int a), .sh (.int b)]) = .ok (.bl (!(b == 0))) := ne_int
    rw [c]
    by_cases hb : b = 0
    · subst hb
      exact ⟨a, by simp, rfl⟩
    · have e : (!(b == 0)) = true := by simp [hb]
      obtain ⟨g, h1, h2⟩ := divisor_loop n b (a.fmod b) (by have := fmod_lt (a := a) hb; omega)
      refine ⟨g, by rw [h1, gcd_step], ?_⟩
      rw [← h2]
      rw [e]
      have st : (sSeq (sPar 0 1 (aCons (dVar 1) (aCons (bind2 (dVar 0) (dVar 1) dMod) aNil))) sNext) [.sh (.int a), .sh (.int b)] = .ok (.nx [.sh (.int b), .sh (.int (a.fmod b))]) := by
        refine seq_next ?_
        unfold sPar
        have : (aCons (dVar 1) (aCons (bind2 (dVar 0) (dVar 1) dMod) aNil)) [.sh (.int a), .sh (.int b)] = .ok [.int b, .int (a.fmod b)] := by
          exact acons_ok rfl (acons_ok (mod_ok hb) rfl)
        rw [this]
        rfl
      show (Res.bind _ _) = _
      rw [st]
      rfl
theorem divisor_eq (a b : Int) : m__law_divisor [.int a, .int b] = .ok (.int (Int.gcd a b)) := by
  obtain ⟨g, h1, h2⟩ := divisor_loop (b.natAbs + 1) a b (Nat.lt_succ_self _)
  have w : sWhile (fuelInt 1) (bind2 (dVar 1) (dC (.int 0)) dNe) (sSeq (sPar 0 1 (aCons (dVar 1) (aCons (bind2 (dVar 0) (dVar 1) dMod) aNil))) sNext) [.sh (.int a), .sh (.int b)] = .ok (.nx [.sh (.int g), .sh (.int 0)]) := h2
  have r : b__law_divisor [.sh (.int a), .sh (.int b)] = .ok (.rt (.int (if g < 0 then -g else g))) := by
    unfold b__law_divisor
    rw [seq_nx w]
    exact seq_rt (ret_ok rfl)
  show (b__law_divisor [.sh (.int a), .sh (.int b)]).bind _ = _
  rw [r]
  show Res.ok (D.int (if g < 0 then -g else g)) = _
  congr 2
  rw [← h1]
  split <;> omega
theorem common_loop : ∀ (n : Nat) (x y : D) (a b : Int) (r : Sl), 0 ≤ a → 0 ≤ b → b.natAbs < n → ∃ r',
    whileD (bind2 (dVar 3) (dC (.int 0)) dNe) (sSeq (sSet 4 (bind2 (dVar 2) (dVar 3) dMod)) (sSeq (sSet 2 (dVar 3)) (sSeq (sSet 3 (dVar 4)) sNext))) n [.sh x, .sh y, .sh (.int a), .sh (.int b), r] = .ok (.nx [.sh x, .sh y, .sh (.int (Int.gcd a b)), .sh (.int 0), r'])
  | 0, _, _, a, b, _, _, _, h => absurd h (Nat.not_lt_zero _)
  | n + 1, x, y, a, b, r, ha, hb0, h => by
    unfold whileD
    have c : ∀ r, (bind2 (dVar 3) (dC (.int 0)) dNe) (shr [.sh x, .sh y, .sh (.int a), .sh (.int b), r]) = .ok (.bl (!(b == 0))) := fun r => ne_int
    rw [c]
    by_cases hb : b = 0
    · subst hb
      refine ⟨r, ?_⟩
      have e : ((Int.gcd a 0 : Nat) : Int) = a := by simp; omega
      rw [e]
      rfl
    · have e : (!(b == 0)) = true := by simp [hb]
      have hp : 0 < b := by omega
      obtain ⟨r', h2⟩ := common_loop n x y b (a.fmod b) (.sh (.int (a.fmod b))) hb0 (Int.fmod_nonneg_of_pos a hp) (by have := fmod_lt (a := a) hb; omega)
      refine ⟨r', ?_⟩
      rw [gcd_step] at h2
      rw [← h2, e]
      have st : (sSeq (sSet 4 (bind2 (dVar 2) (dVar 3) dMod)) (sSeq (sSet 2 (dVar 3)) (sSeq (sSet 3 (dVar 4)) sNext))) [.sh x, .sh y, .sh (.int a), .sh (.int b), r] = .ok (.nx [.sh x, .sh y, .sh (.int b), .sh (.int (a.fmod b)), .sh (.int (a.fmod b))]) := by
        have m : (bind2 (dVar 2) (dVar 3) dMod) [.sh x, .sh y, .sh (.int a), .sh (.int b), r] = .ok (.int (a.fmod b)) := by
          exact mod_ok hb
        rw [seq_nx (set_ok m)]
        rfl
      show (Res.bind _ _) = _
      rw [st]
      rfl
theorem common_eq (a b : Int) : m_common_divisor [.int a, .int b] = .ok (.int (Int.gcd a b)) := by
  have e : ∀ i : Int, (if i < 0 then -i else i) = (i.natAbs : Int) := fun i => by split <;> omega
  obtain ⟨r', h⟩ := common_loop ((b.natAbs : Int).natAbs + 1) (.int a) (.int b) a.natAbs b.natAbs .no (Int.natCast_nonneg _) (Int.natCast_nonneg _) (Nat.lt_succ_self _)
  have hg : Int.gcd (a.natAbs : Int) (b.natAbs : Int) = Int.gcd a b := by simp [Int.gcd]
  rw [hg] at h
  have r : b_common_divisor [.sh (.int a), .sh (.int b), .no, .no, .no] = .ok (.rt (.int (Int.gcd a b))) := by
    unfold b_common_divisor
    rw [seq_nx (ρ' := [.sh (.int a), .sh (.int b), .sh (.int (a.natAbs : Int)), .no, .no]) (by rw [← e a]; rfl)]
    rw [seq_nx (ρ' := [.sh (.int a), .sh (.int b), .sh (.int (a.natAbs : Int)), .sh (.int (b.natAbs : Int)), .no]) (by rw [← e b]; rfl)]
    have w : sWhile (fuelInt 3) (bind2 (dVar 3) (dC (.int 0)) dNe) (sSeq (sSet 4 (bind2 (dVar 2) (dVar 3) dMod)) (sSeq (sSet 2 (dVar 3)) (sSeq (sSet 3 (dVar 4)) sNext))) [.sh (.int a), .sh (.int b), .sh (.int (a.natAbs : Int)), .sh (.int (b.natAbs : Int)), .no] = .ok (.nx [.sh (.int a), .sh (.int b), .sh (.int (Int.gcd a b)), .sh (.int 0), r']) := h
    rw [seq_nx w]
    exact seq_rt (ret_ok rfl)
  show (b_common_divisor [.sh (.int a), .sh (.int b), .no, .no, .no]).bind _ = _
  rw [r]
  rfl
theorem pow_lt_B60 : (2 : Nat) ^ 64 ≤ B60 := by rw [B60_eq]; exact Nat.pow_le_pow_right (by decide) (by decide)
theorem lt60 {i : Int} (h : i.natAbs < 18446744073709551616) : i.natAbs < B60 := Nat.lt_of_lt_of_le h pow_lt_B60
theorem mulSmall {i j : Int} (h : i.natAbs < 18446744073709551616) (h' : j.natAbs < 18446744073709551616) : mulOk i j = true := by
  unfold mulOk
  rw [Bool.and_eq_true]
  exact ⟨decide_eq_true (lt60 h), decide_eq_true (lt60 h')⟩
theorem mulBig {i j : Int} (h : i.natAbs < B60) (h' : j.natAbs < B60) : mulOk i j = true := by
  unfold mulOk
  rw [Bool.and_eq_true]
  exact ⟨decide_eq_true h, decide_eq_true h'⟩
theorem divB9 {i j : Int} (h0 : j ≠ 0) (h : j.natAbs < B9) : divOk i j = true := by
  unfold divOk
  rw [Bool.and_eq_true, Bool.or_eq_true]
  exact ⟨decide_eq_true h0, .inl (decide_eq_true h)⟩
theorem divB13 {i j : Int} (h0 : j ≠ 0) (h : i.natAbs < B13) : divOk i j = true := by
  unfold divOk
  rw [Bool.and_eq_true, Bool.or_eq_true]
  exact ⟨decide_eq_true h0, .inr (decide_eq_true h)⟩
theorem ix_lst {ds : List D} {k : Nat} {d : D} (h : ds[k]? = some d) : dIx (.lst ds) (.int (k : Int)) = .ok d := by
  unfold dIx
  simp only [atI_nat h]
theorem fmodr {a b : Int} (hb : 0 < b) : 0 ≤ a.fmod b ∧ a.fmod b < b := ⟨Int.fmod_nonneg_of_pos a hb, Int.fmod_lt_of_pos a hb⟩
theorem ints_drop {n k : Nat} (h : k < n) : (DL.intsFrom 0 n).drop k = .int (k : Int) :: (DL.intsFrom 0 n).drop (k + 1) := by
  have hl : (DL.intsFrom 0 n).length = n := by unfold DL.intsFrom; simp
  rw [List.drop_eq_getElem_cons (by rw [hl]; exact h)]
  congr 1
  unfold DL.intsFrom
  simp
theorem ints_end {n : Nat} : (DL.intsFrom 0 n).drop n = [] := by
  have hl : (DL.intsFrom 0 n).length = n := by unfold DL.intsFrom; simp
  exact List.drop_eq_nil_of_le (by omega)
theorem forD_nx {tg : Ev → D → Res Ev} {s : Ev → Res Fl} {d : D} {r : List D} {ρ ρ1 ρ2 : Ev} (h1 : tg ρ d = .ok ρ1) (h2 : s ρ1 = .ok (.nx ρ2)) : forD tg s (d :: r) ρ = forD tg s r ρ2 := by
  rw [forD, h1, bok, h2, bok]
def isI : D → Bool
  | .int _ => true
  | _ => false
theorem is_whole_eq (d : D) : m_is_whole [d] = .ok (.bl (isI d)) := by cases d <;> first | rfl | (rename_i k _; cases k <;> rfl)
theorem fdiv_dvd {a g : Int} (hg : 0 < g) : a.fdiv g = a / g := Int.fdiv_eq_ediv_of_nonneg a (by omega)
theorem gcd_pos {a b : Int} (h : b ≠ 0) : 0 < (Int.gcd a b : Int) := by
  have := Int.gcd_pos_of_ne_zero_right a h
  omega
theorem lowest_eq {a b : Int} (hb : 0 < b) (h1 : a.natAbs < B13) (h2 : b.natAbs < B13) : m__law_lowest [.int a, .int b] = .ok (.tup [.int (a / Int.gcd a b), .int (b / Int.gcd a b)]) := by
  have hg := gcd_pos (a := a) (b := b) (by omega)
  have r : b__law_lowest [.sh (.int a), .sh (.int b), .no] = .ok (.rt (.tup [.int (a / Int.gcd a b), .int (b / Int.gcd a b)])) := by
    unfold b__law_lowest
    rw [seq_nx (ρ' := [.sh (.int a), .sh (.int b), .sh (.int (Int.gcd a b))]) (set_ok ((bindA_ok (xs := [.int a, .int b]) rfl).trans (divisor_eq a b)))]
    refine seq_rt (ret_ok ?_)
    refine (bindA_ok (xs := [.int (a / Int.gcd a b), .int (b / Int.gcd a b)]) (acons_ok ?_ (acons_ok ?_ rfl))).trans rfl
    · rw [← fdiv_dvd hg]
      exact (bind2_ok (x := .int a) (y := .int (Int.gcd a b)) rfl rfl).trans (div_ok (divB13 (by omega) h1))
    · rw [← fdiv_dvd hg]
      exact (bind2_ok (x := .int b) (y := .int (Int.gcd a b)) rfl rfl).trans (div_ok (divB13 (by omega) h2))
  show (b__law_lowest [.sh (.int a), .sh (.int b), .no]).bind _ = _
  rw [r]
  rfl
theorem ratio_eq {a b : Int} (hb : 0 < b) (h1 : a.natAbs < B13) (h2 : b.natAbs < B13) : m_ratio [.int a, .int b] = .ok (.tup [.int (a / Int.gcd a b), .int (b / Int.gcd a b)]) := by
  have hg := gcd_pos (a := a) (b := b) (by omega)
  have r : b_ratio [.sh (.int a), .sh (.int b), .no] = .ok (.rt (.tup [.int (a / Int.gcd a b), .int (b / Int.gcd a b)])) := by
    unfold b_ratio
    rw [seq_nx (ρ' := [.sh (.int a), .sh (.int b), .no]) (if_f (t := sNext) rfl)]
    rw [seq_nx (ρ' := [.sh (.int a), .sh (.int b), .no]) (if_f (t := sNext) ((bind2_ok (x := .int b) (y := .int 0) rfl rfl).trans (eq_int.trans (by rw [beq_eq_false_iff_ne.mpr (by omega)]))))]
    rw [seq_nx (ρ' := [.sh (.int a), .sh (.int b), .sh (.int (Int.gcd a b))]) (set_ok ((bindA_ok (xs := [.int a, .int b]) rfl).trans (common_eq a b)))]
    rw [seq_nx (ρ' := [.sh (.int a), .sh (.int b), .sh (.int (Int.gcd a b))]) (if_f (t := sNext) (by
      show Res.ok (D.bl (decide (b < 0))) = _
      rw [decide_eq_false (by omega)]))]
    refine seq_rt (ret_ok ?_)
    refine (bindA_ok (xs := [.int (a / Int.gcd a b), .int (b / Int.gcd a b)]) (acons_ok ?_ (acons_ok ?_ rfl))).trans rfl
    · rw [← fdiv_dvd hg]
      exact (bind2_ok (x := .int a) (y := .int (Int.gcd a b)) rfl rfl).trans (div_ok (divB13 (by omega) h1))
    · rw [← fdiv_dvd hg]
      exact (bind2_ok (x := .int b) (y := .int (Int.gcd a b)) rfl rfl).trans (div_ok (divB13 (by omega) h2))
  show (b_ratio [.sh (.int a), .sh (.int b), .no]).bind _ = _
  rw [r]
  rfl
def frac (p q : Int) : D := .tup [.int p, .int q]
end Com
set_option Elab.async false
set_option linter.all false
set_option maxRecDepth 100000
namespace Com
open PySem L2 DL
abbrev Fra := Int × Int
def fr (x : Fra) : D := frac x.1 x.2
def N60 : Nat := 1000000000000000000000000000000000000000000000000000000000000
theorem N60_B9 : N60 ≤ B9 := by rw [B9_eq]; exact Nat.le_trans (show N60 ≤ 2 ^ 200 by decide) (Nat.pow_le_pow_right (by decide) (by decide))
theorem N60_B13 : N60 ≤ B13 := by rw [B13_eq]; exact Nat.le_trans (show N60 ≤ 2 ^ 200 by decide) (Nat.pow_le_pow_right (by decide) (by decide))
theorem N60_B60 : N60 ≤ B60 := by rw [B60_eq]; exact Nat.le_trans (show N60 ≤ 2 ^ 200 by decide) (Nat.pow_le_pow_right (by decide) (by decide))
theorem B13_B60 : B13 ≤ B60 := by rw [B13_eq, B60_eq]; exact Nat.pow_le_pow_right (by decide) (by decide)
structure Low (x : Fra) : Prop where
  q1 : 1 ≤ x.2
  g1 : Int.gcd x.1 x.2 = 1
structure Fin60 (x : Fra) : Prop extends Low x where
  pN : x.1.natAbs < N60
  qN : x.2.natAbs < N60
def low (a b : Int) : Fra := (a / Int.gcd a b, b / Int.gcd a b)
theorem low_low {a b : Int} (hb : 0 < b) : Low (low a b) := by
  have hg := gcd_pos (a := a) (b := b) (by omega)
  refine ⟨?_, Int.gcd_ediv_gcd_ediv_gcd (by omega)⟩
  have := Int.ediv_gcd_ne_zero_if_ne_zero_right a (show b ≠ 0 by omega)
  have h2 : 0 ≤ b / (Int.gcd a b : Int) := Int.ediv_nonneg (by omega) (by omega)
  show 1 ≤ b / (Int.gcd a b : Int)
  omega
theorem low_rel {a b : Int} : (low a b).1 * b = a * (low a b).2 := by
  unfold low
  obtain ⟨x, hx⟩ := Int.gcd_dvd_left a b
  obtain ⟨y, hy⟩ := Int.gcd_dvd_right a b
  by_cases hg : (Int.gcd a b : Int) = 0
  · simp only [hg, Int.ediv_zero, Int.zero_mul, Int.mul_zero]
  · generalize hG : (Int.gcd a b : Int) = G at *
    have e1 : a / G = x := by rw [hx]; exact Int.mul_ediv_cancel_left x hg
    have e2 : b / G = y := by rw [hy]; exact Int.mul_ediv_cancel_left y hg
    show a / G * b = a * (b / G)
    rw [e1, e2]
    calc x * b = x * (G * y) := by rw [← hy]
      _ = G * x * y := by grind
      _ = a * y := by rw [← hx]
theorem low_le1 {a b : Int} : (low a b).1.natAbs ≤ a.natAbs := Int.natAbs_ediv_le_natAbs _ _
theorem low_le2 {a b : Int} : (low a b).2.natAbs ≤ b.natAbs := Int.natAbs_ediv_le_natAbs _ _
theorem low_uniq {x y : Fra} (hx : Low x) (hy : Low y) (h : x.1 * y.2 = y.1 * x.2) : x = y := by
  have d1 : x.2 ∣ y.2 := by
    have : x.2 ∣ x.1 * y.2 := ⟨y.1, by rw [h]; exact Int.mul_comm _ _⟩
    rw [← Int.dvd_gcd_mul_iff_dvd_mul, Int.gcd_comm, hx.g1] at this
    simpa using this
  have d2 : y.2 ∣ x.2 := by
    have : y.2 ∣ y.1 * x.2 := ⟨x.1, by rw [← h]; exact Int.mul_comm _ _⟩
    rw [← Int.dvd_gcd_mul_iff_dvd_mul, Int.gcd_comm, hy.g1] at this
    simpa using this
  have e : x.2 = y.2 := Int.dvd_antisymm (by have := hx.q1; omega) (by have := hy.q1; omega) d1 d2
  have e1 : x.1 = y.1 := by
    rw [e] at h
    exact Int.eq_of_mul_eq_mul_right (by have := hy.q1; omega) h
  exact Prod.ext e1 e
theorem ratio_fr {a b : Int} (hb : 0 < b) (h1 : a.natAbs < B13) (h2 : b.natAbs < B13) : m_ratio [.int a, .int b] = .ok (fr (low a b)) := ratio_eq hb h1 h2
theorem low60 {a b : Int} (hb : 0 < b) (h1 : a.natAbs < N60) (h2 : b.natAbs < N60) : Fin60 (low a b) := ⟨low_low hb, Nat.lt_of_le_of_lt low_le1 h1, Nat.lt_of_le_of_lt low_le2 h2⟩
theorem shal_fr {n : Nat} (x : Fra) : shal (n + 1) (fr x) = true := by
  cases n <;> rfl
theorem shal_frs {n : Nat} (fs : List Fra) : (fs.map fr).all (shal (n + 1)) = true := by
  rw [List.all_map]
  exact List.all_eq_true.mpr fun x _ => shal_fr x
theorem eq_fr {x y : Fra} : eqD (fr x) (fr y) = (x.1 == y.1 && x.2 == y.2) := by
  unfold fr frac
  simp [eqD, eqDs]
theorem eq_fr_refl {x : Fra} : eqD (fr x) (fr x) = true := by rw [eq_fr]; simp
end Com
set_option Elab.async false
set_option linter.all false
set_option maxRecDepth 100000
namespace Com
open PySem L2 DL
def bnd (k : Nat) : Nat := 2 ^ (201 * k)
theorem bnd_B13 {k : Nat} (h : k ≤ 62) : bnd k < B13 := by
  rw [B13_eq]; unfold bnd
  exact Nat.pow_lt_pow_right (by decide) (by omega)
theorem N60_200 : N60 ≤ 2 ^ 200 := by decide
theorem bnd_succ (k : Nat) : bnd (k + 1) = bnd k * 2 ^ 200 + 2 ^ 200 * bnd k := by
  unfold bnd
  rw [show 201 * (k + 1) = 201 * k + 201 by omega, Nat.pow_add]
  generalize 2 ^ (201 * k) = z
  omega
def un (s x : Fra) : Fra := (s.1 * x.2 + x.1 * s.2, s.2 * x.2)
structure Acc (k : Nat) (s : Fra) : Prop where
  pos : 0 < s.2
  b1 : s.1.natAbs ≤ bnd k
  b2 : s.2.natAbs ≤ bnd k
theorem Acc.step {k : Nat} {s x : Fra} (h : Acc k s) (hx : Fin60 x) : Acc (k + 1) (un s x) := by
  have h1 : x.1.natAbs ≤ 2 ^ 200 := Nat.le_trans (Nat.le_of_lt hx.pN) N60_200
  have h2 : x.2.natAbs ≤ 2 ^ 200 := Nat.le_trans (Nat.le_of_lt hx.qN) N60_200
  have m1 := Nat.mul_le_mul h.b1 h2
  have m2 := Nat.mul_le_mul h1 h.b2
  have m3 := Nat.mul_le_mul h.b2 h2
  refine ⟨Int.mul_pos h.pos (by have := hx.q1; omega), ?_, ?_⟩
  · show (s.1 * x.2 + x.1 * s.2).natAbs ≤ _
    rw [bnd_succ]
    refine Nat.le_trans (Int.natAbs_add_le _ _) ?_
    rw [Int.natAbs_mul, Int.natAbs_mul]
    exact Nat.add_le_add m1 m2
  · show (s.2 * x.2).natAbs ≤ _
    rw [bnd_succ, Int.natAbs_mul]
    exact Nat.le_trans m3 (Nat.le_add_right _ _)
theorem Acc.start : Acc 0 (0, 1) := ⟨by decide, by decide, by decide⟩
theorem low_step {s x : Fra} (hs : 0 < s.2) (hx : 1 ≤ x.2) : low ((low s.1 s.2).1 * x.2 + x.1 * (low s.1 s.2).2) ((low s.1 s.2).2 * x.2) = low (un s x).1 (un s x).2 := by
  have ht := low_low (a := s.1) hs
  have hr := low_rel (a := s.1) (b := s.2)
  generalize low s.1 s.2 = t at *
  have hq : 0 < t.2 * x.2 := Int.mul_pos (by have := ht.q1; omega) (by omega)
  have hq2 : 0 < (un s x).2 := Int.mul_pos hs (by omega)
  have l1 := low_low (a := t.1 * x.2 + x.1 * t.2) hq
  have r1 := low_rel (a := t.1 * x.2 + x.1 * t.2) (b := t.2 * x.2)
  have l2 := low_low (a := (un s x).1) hq2
  have r2 := low_rel (a := (un s x).1) (b := (un s x).2)
  generalize low (t.1 * x.2 + x.1 * t.2) (t.2 * x.2) = u at *
  generalize low (un s x).1 (un s x).2 = v at *
  refine low_uniq l1 l2 ?_
  have r2' : v.1 * (s.2 * x.2) = (s.1 * x.2 + x.1 * s.2) * v.2 := r2
  have hk : 0 < t.2 * x.2 * (s.2 * x.2) := Int.mul_pos hq hq2
  have : u.1 * v.2 * (t.2 * x.2 * (s.2 * x.2)) = v.1 * u.2 * (t.2 * x.2 * (s.2 * x.2)) := by
    have e1 : u.1 * v.2 * (t.2 * x.2 * (s.2 * x.2)) = (u.1 * (t.2 * x.2)) * v.2 * (s.2 * x.2) := by grind
    have e2 : v.1 * u.2 * (t.2 * x.2 * (s.2 * x.2)) = (v.1 * (s.2 * x.2)) * u.2 * (t.2 * x.2) := by grind
    rw [e1, e2, r1, r2']
    grind
  exact Int.eq_of_mul_eq_mul_right (by omega) this
theorem plus_fr {k : Nat} {s x : Fra} (h : Acc k s) (hk : k ≤ 61) (hx : Fin60 x) : m_plus [fr (low s.1 s.2), fr x] = .ok (fr (low (un s x).1 (un s x).2)) := by
  have ht := low_low (a := s.1) h.pos
  have a1 : (low s.1 s.2).1.natAbs ≤ bnd k := Nat.le_trans low_le1 h.b1
  have a2 : (low s.1 s.2).2.natAbs ≤ bnd k := Nat.le_trans low_le2 h.b2
  have hst := low_step h.pos hx.q1
  have hA : Acc k (low s.1 s.2) := ⟨by have := ht.q1; omega, a1, a2⟩
  have hB := hA.step hx
  rw [← hst]
  generalize low s.1 s.2 = t at *
  have b60 : bnd k < B60 := Nat.lt_of_lt_of_le (bnd_B13 (by omega)) B13_B60
  have bb : bnd (k + 1) < B13 := bnd_B13 (by omega)
  have x1 : x.1.natAbs < B60 := Nat.lt_of_lt_of_le hx.pN N60_B60
  have x2 : x.2.natAbs < B60 := Nat.lt_of_lt_of_le hx.qN N60_B60
  refine run_rt (n := 2) (ds := [fr t, fr x]) ?_
  show b_plus [.sh (fr t), .sh (fr x)] = _
  unfold b_plus
  refine seq_rt (ret_ok ?_)
  refine (bindA_ok (xs := [.int (t.1 * x.2 + x.1 * t.2), .int (t.2 * x.2)]) (acons_ok ?_ (acons_ok ?_ rfl))).trans ?_
  · refine (bind2_ok (x := .int (t.1 * x.2)) (y := .int (x.1 * t.2)) ?_ ?_).trans rfl
    · exact (bind2_ok (x := .int t.1) (y := .int x.2) rfl rfl).trans (mul_ok (mulBig (Nat.lt_of_le_of_lt a1 b60) x2))
    · exact (bind2_ok (x := .int x.1) (y := .int t.2) rfl rfl).trans (mul_ok (mulBig x1 (Nat.lt_of_le_of_lt a2 b60)))
  · exact (bind2_ok (x := .int t.2) (y := .int x.2) rfl rfl).trans (mul_ok (mulBig (Nat.lt_of_le_of_lt a2 b60) x2))
  · exact ratio_fr hB.pos (Nat.lt_of_le_of_lt hB.b1 bb) (Nat.lt_of_le_of_lt hB.b2 bb)
theorem sum_loop {L : Sl} : ∀ (xs : List Fra) (k : Nat) (s : Fra) (z : Sl), Acc k s → k + xs.length ≤ 61 → (∀ x ∈ xs, Fin60 x) → ∃ z', forD (gSet 2) (sSeq (sSet 1 (bindA (aCons (dVar 1) (aCons (dVar 2) aNil)) m_plus)) sNext) (xs.map fr) [L, .sh (fr (low s.1 s.2)), z] =
    .ok (.nx [L, .sh (fr (low (xs.foldl un s).1 (xs.foldl un s).2)), z']) ∧ Acc (k + xs.length) (xs.foldl un s)
  | [], k, s, z, h, _, _ => ⟨z, rfl, h⟩
  | x :: xs, k, s, z, h, hk, hx => by
    have hx0 := hx x List.mem_cons_self
    simp only [List.length_cons] at hk
    obtain ⟨z', e, a⟩ := sum_loop xs (k + 1) (un s x) (.sh (fr x)) (h.step hx0) (by omega) fun y hy => hx y (List.mem_cons_of_mem _ hy)
    refine ⟨z', ?_, by rw [List.length_cons, show k + (xs.length + 1) = k + 1 + xs.length by omega]; exact a⟩
    rw [List.map_cons, forD_nx (ρ1 := [L, .sh (fr (low s.1 s.2)), .sh (fr x)]) (ρ2 := [L, .sh (fr (low (un s x).1 (un s x).2)), .sh (fr x)]) rfl]
    · exact e
    · exact seq_next (set_ok ((bindA_ok (xs := [fr (low s.1 s.2), fr x]) rfl).trans (plus_fr h (by omega) hx0)))
theorem for_ok {f : Ev → Res D} {tg : Ev → D → Res Ev} {s : Ev → Res Fl} {ρ : Ev} {ds : List D} (h : f ρ = .ok (.lst ds)) : sFor f tg s ρ = forD tg s ds ρ := by unfold sFor; rw [h]; rfl
def tot (xs : List Fra) : Fra := xs.foldl un (0, 1)
theorem sum_of_fr {xs : List Fra} (hl : xs.length ≤ 61) (hx : ∀ x ∈ xs, Fin60 x) : m_sum_of [.lst (xs.map fr)] = .ok (fr (low (tot xs).1 (tot xs).2)) := by
  obtain ⟨z', e, a⟩ := sum_loop (L := .sh (.lst (xs.map fr))) xs 0 (0, 1) .no Acc.start (by omega) hx
  refine run_rt (n := 3) (ds := [.lst (xs.map fr)]) ?_
  show b_sum_of [.sh (.lst (xs.map fr)), .no, .no] = _
  unfold b_sum_of
  rw [seq_nx (ρ' := [.sh (.lst (xs.map fr)), .sh (fr (low 0 1)), .no]) rfl]
  refine (seq_nx ((for_ok (ds := xs.map fr) rfl).trans e)).trans ?_
  exact seq_rt (ret_ok rfl)
theorem tot_acc {xs : List Fra} (hl : xs.length ≤ 61) (hx : ∀ x ∈ xs, Fin60 x) : Acc xs.length (tot xs) := by
  obtain ⟨z', e, a⟩ := sum_loop (L := .no) xs 0 (0, 1) .no Acc.start (by omega) hx
  rw [Nat.zero_add] at a
  exact a
end Com
set_option Elab.async false
set_option linter.all false
set_option maxRecDepth 100000
namespace Com
open PySem L2 DL
theorem for_inv {tg : Ev → D → Res Ev} {body : Ev → Res Fl} (P : Ev → Prop) : ∀ {ds : List D}, (∀ d ∈ ds, ∀ ρ, P ρ → ∃ ρ1 ρ2, tg ρ d = .ok ρ1 ∧ body ρ1 = .ok (.nx ρ2) ∧ P ρ2) → ∀ ρ, P ρ → ∃ ρ', forD tg body ds ρ = .ok (.nx ρ') ∧ P ρ'
  | [], _, ρ, h => ⟨ρ, rfl, h⟩
  | d :: r, hs, ρ, h => by
    obtain ⟨ρ1, ρ2, h1, h2, h3⟩ := hs d List.mem_cons_self ρ h
    obtain ⟨ρ', h4, h5⟩ := for_inv P (fun e he => hs e (List.mem_cons_of_mem _ he)) ρ2 h3
    exact ⟨ρ', by rw [forD_nx h1 h2]; exact h4, h5⟩
end Com
set_option Elab.async false
set_option linter.all false
set_option maxRecDepth 100000
namespace Com
open PySem L2 DL
theorem nrfl {α : Type} {a b : α} (h : a = b) : a = b := h
def seqK (t : Ev → Res Fl) (r : Fl) : Res Fl := match r with
  | .nx ρ' => t ρ'
  | r => .ok r
def setK (i : Nat) (ρ : Ev) (d : D) : Res Fl := .ok (.nx (ρ.set i (.sh d)))
def retK (d : D) : Res Fl := .ok (.rt d)
def dropK (ρ : Ev) (_ : D) : Res Fl := .ok (.nx ρ)
def ifK (s t : Ev → Res Fl) (ρ : Ev) (x : D) : Res Fl := match x with
  | .bl b => if b = true then s ρ else t ρ
  | _ => .stuck
def ownK (i : Nat) (ρ : Ev) (d : D) : Res Fl := match d with
  | .lst ds => .ok (.nx (ρ.set i (.ow (.lst ds))))
  | _ => .stuck
def ownS (s : Option Sl) (k : List D → Res Fl) : Res Fl := match s with
  | some (.ow (.lst ds)) => k ds
  | _ => .stuck
def appK (i : Nat) (ρ : Ev) (ds : List D) (d : D) : Res Fl := if ds.length < line then .ok (.nx (ρ.set i (.ow (.lst (ds ++ [d]))))) else .stuck
def appLK (i : Nat) (ρ : Ev) (ds : List D) (d : D) : Res Fl := if flat d = true ∧ ds.length < line then .ok (.nx (ρ.set i (.ow (.lst (ds ++ [d]))))) else .stuck
def putK (i : Nat) (ρ : Ev) (k : Ev → Res D) (ds : List D) (d : D) : Res Fl := (k ρ).bind (DL.putAt ρ i ds d)
def putLK2 (i : Nat) (ρ : Ev) (ds : List D) (d j : D) : Res Fl := if flat d = true then DL.putAt ρ i ds d j else .stuck
def putLK (i : Nat) (ρ : Ev) (k : Ev → Res D) (ds : List D) (d : D) : Res Fl := (k (shr ρ)).bind (putLK2 i ρ ds d)
def unpK (is : List Nat) (ρ : Ev) (d : D) : Res Fl := match partsOf is.length d with
  | some ds => .ok (.nx (setAll ρ is ds))
  | none => .stuck
def parK (i j : Nat) (ρ : Ev) (ds : List D) : Res Fl := match ds with
  | [x, y] => .ok (.nx ((ρ.set i (.sh x)).set j (.sh y)))
  | _ => .stuck
def k2 (g : Ev → Res D) (op : D → D → Res D) (ρ : Ev) (x : D) : Res D := (g ρ).bind (op x)
def consK2 (x : D) (xs : List D) : Res (List D) := .ok (x :: xs)
def consK (fa : Ev → Res (List D)) (ρ : Ev) (x : D) : Res (List D) := (fa ρ).bind (consK2 x)
def andK (g : Ev → Res D) (ρ : Ev) (x : D) : Res D := match x with
  | .bl true => g ρ
  | .bl false => .ok (.bl false)
  | _ => .stuck
def orK (g : Ev → Res D) (ρ : Ev) (x : D) : Res D := match x with
  | .bl true => .ok (.bl true)
  | .bl false => g ρ
  | _ => .stuck
def notK (x : D) : Res D := match x with
  | .bl b => .ok (.bl (!b))
  | _ => .stuck
def ifxK (f g : Ev → Res D) (ρ : Ev) (x : D) : Res D := match x with
  | .bl true => f ρ
  | .bl false => g ρ
  | _ => .stuck
def varK (s : Option Sl) : Res D := match s with
  | some (.sh d) => .ok d
  | _ => .stuck
def shr1 (s : Sl) : Sl := match s with
  | .ow d => .sh d
  | .ox _ ds => .sh (.tup ds)
  | x => x
def runK (r : Fl) : Res D := match r with
  | .nx _ => .ok .non
  | .rt d => .ok d
  | _ => .stuck
def osK (x : D) : Res (Option Int) := match x with
  | .int i => .ok (some i)
  | _ => .stuck
def slK2 (x : D) (l : Option Int) (h : Option Int) : Res D := sliceD x l h
def slK (hi : Ev → Res (Option Int)) (ρ : Ev) (x : D) (l : Option Int) : Res D := (hi ρ).bind (slK2 x l)
def slK0 (lo hi : Ev → Res (Option Int)) (ρ : Ev) (x : D) : Res D := (lo ρ).bind (slK hi ρ x)
def forK (tg : Ev → D → Res Ev) (s : Ev → Res Fl) (ρ : Ev) (d : D) : Res Fl := match d with
  | .lst ds => forD tg s ds ρ
  | _ => .stuck
def chK2 (op' : D → D → Res D) (h : Ev → Res D) (ρ : Ev) (y z : D) : Res D := match z with
  | .bl true => (h ρ).bind (op' y)
  | .bl false => .ok (.bl false)
  | _ => .stuck
def chK1 (op op' : D → D → Res D) (h : Ev → Res D) (ρ : Ev) (x y : D) : Res D := (op x y).bind (chK2 op' h ρ y)
def chK (op op' : D → D → Res D) (g h : Ev → Res D) (ρ : Ev) (x : D) : Res D := (g ρ).bind (chK1 op op' h ρ x)
section
variable {s t : Ev → Res Fl} {f g h : Ev → Res D} {fa : Ev → Res (List D)} {ρ r : Ev} {i j : Nat} {d x y : D} {ds xs : List D} {op op' : D → D → Res D} {a b : Int}
theorem ev_ok {α β : Type} {a : α} {k : α → Res β} : (Res.ok a).bind k = k a := nrfl rfl
theorem ev_seq : sSeq s t ρ = (s ρ).bind (seqK t) := nrfl rfl
theorem ev_seq1 : seqK t (.nx ρ) = t ρ := nrfl rfl
theorem ev_seq2 : seqK t (.rt d) = .ok (.rt d) := nrfl rfl
theorem ev_seq3 : seqK t (.bk ρ) = .ok (.bk ρ) := nrfl rfl
theorem ev_seq4 : seqK t (.ct ρ) = .ok (.ct ρ) := nrfl rfl
theorem ev_next : sNext ρ = .ok (.nx ρ) := nrfl rfl
theorem ev_set : sSet i f ρ = (f ρ).bind (setK i ρ) := nrfl rfl
theorem ev_set1 : setK i ρ d = .ok (.nx (ρ.set i (.sh d))) := nrfl rfl
theorem ev_ret : sRet f ρ = (f (shr ρ)).bind retK := nrfl rfl
theorem ev_ret1 : retK d = .ok (.rt d) := nrfl rfl
theorem ev_retN : sRetN ρ = .ok (.rt .non) := nrfl rfl
theorem ev_drop : sDrop f ρ = (f (shr ρ)).bind (dropK ρ) := nrfl rfl
theorem ev_drop1 : dropK ρ d = .ok (.nx ρ) := nrfl rfl
theorem ev_if : sIf f s t ρ = (f (shr ρ)).bind (ifK s t ρ) := nrfl rfl
theorem ev_if1 : ifK s t ρ (.bl true) = s ρ := nrfl rfl
theorem ev_if2 : ifK s t ρ (.bl false) = t ρ := nrfl rfl
theorem ev_own : sOwn i f ρ = (f ρ).bind (ownK i ρ) := nrfl rfl
theorem ev_own1 : ownK i ρ (.lst ds) = .ok (.nx (ρ.set i (.ow (.lst ds)))) := nrfl rfl
theorem ev_app : sAppend i f ρ = ownS ρ[i]? fun ds => (f ρ).bind (appK i ρ ds) := nrfl rfl
theorem ev_ownS {k : List D → Res Fl} : ownS (some (.ow (.lst ds))) k = k ds := nrfl rfl
theorem ev_app1 (h : decide (ds.length ≤ 999) = true) : appK i ρ ds d = .ok (.nx (ρ.set i (.ow (.lst (ds ++ [d]))))) := if_pos (Nat.lt_of_le_of_lt (of_decide_eq_true h) (by decide))
theorem ev_appL : sAppendL i f ρ = ownS ρ[i]? fun ds => (f (shr ρ)).bind (appLK i ρ ds) := nrfl rfl
theorem ev_appL1 (hf : flat d = true) (h : decide (ds.length ≤ 999) = true) : appLK i ρ ds d = .ok (.nx (ρ.set i (.ow (.lst (ds ++ [d]))))) := if_pos ⟨hf, Nat.lt_of_le_of_lt (of_decide_eq_true h) (by decide)⟩
theorem ev_put : sPut i f g ρ = ownS ρ[i]? fun ds => (f ρ).bind (putK i ρ g ds) := nrfl rfl
theorem ev_put1 : putK i ρ g ds d = (g ρ).bind (DL.putAt ρ i ds d) := nrfl rfl
theorem ev_putL : sPutL i f g ρ = ownS ρ[i]? fun ds => (f (shr ρ)).bind (putLK i ρ g ds) := nrfl rfl
theorem ev_putL1 : putLK i ρ g ds d = (g (shr ρ)).bind (putLK2 i ρ ds d) := nrfl rfl
theorem ev_frz : sFrz i s ρ = s (unown i ρ) := nrfl rfl
theorem ev_unp {is : List Nat} : sUnp is f ρ = (f ρ).bind (unpK is ρ) := nrfl rfl
theorem ev_par : sPar i j fa ρ = (fa ρ).bind (parK i j ρ) := nrfl rfl
theorem ev_par1 : parK i j ρ [x, y] = .ok (.nx ((ρ.set i (.sh x)).set j (.sh y))) := nrfl rfl
theorem ev_b1 {o : D → Res D} : bind1 f o ρ = (f ρ).bind o := nrfl rfl
theorem ev_b2 : bind2 f g op ρ = (f ρ).bind (k2 g op ρ) := nrfl rfl
theorem ev_b21 : k2 g op ρ x = (g ρ).bind (op x) := nrfl rfl
theorem ev_bA {m : List D → Res D} : bindA fa m ρ = (fa ρ).bind m := nrfl rfl
theorem ev_nil : aNil ρ = .ok [] := nrfl rfl
theorem ev_cons : aCons f fa ρ = (f ρ).bind (consK fa ρ) := nrfl rfl
theorem ev_cons1 : consK fa ρ x = (fa ρ).bind (consK2 x) := nrfl rfl
theorem ev_cons2 : consK2 x xs = .ok (x :: xs) := nrfl rfl
theorem ev_and : dAnd f g ρ = (f ρ).bind (andK g ρ) := nrfl rfl
theorem ev_and1 : andK g ρ (.bl true) = g ρ := nrfl rfl
theorem ev_and2 : andK g ρ (.bl false) = .ok (.bl false) := nrfl rfl
theorem ev_or : dOr f g ρ = (f ρ).bind (orK g ρ) := nrfl rfl
theorem ev_or1 : orK g ρ (.bl true) = .ok (.bl true) := nrfl rfl
theorem ev_or2 : orK g ρ (.bl false) = g ρ := nrfl rfl
theorem ev_not : dNot f ρ = (f ρ).bind notK := nrfl rfl
theorem ev_not1 {c : Bool} : notK (.bl c) = .ok (.bl (!c)) := nrfl rfl
theorem ev_ifx : dIf h f g ρ = (h ρ).bind (ifxK f g ρ) := nrfl rfl
theorem ev_ifx1 : ifxK f g ρ (.bl true) = f ρ := nrfl rfl
theorem ev_ifx2 : ifxK f g ρ (.bl false) = g ρ := nrfl rfl
theorem ev_var : dVar i ρ = varK ρ[i]? := nrfl rfl
theorem ev_var1 : varK (some (.sh d)) = .ok d := nrfl rfl
theorem ev_C : dC d ρ = .ok d := nrfl rfl
theorem ev_shr0 : shr [] = [] := nrfl rfl
theorem ev_shr {c : Sl} : shr (c :: r) = shr1 c :: shr r := nrfl rfl
theorem ev_shr1 : shr1 (.ow d) = .sh d := nrfl rfl
theorem ev_shr4 : shr1 (.ox j ds) = .sh (.tup ds) := nrfl rfl
theorem ev_shr2 : shr1 (.sh d) = .sh d := nrfl rfl
theorem ev_shr3 : shr1 .no = .no := nrfl rfl
theorem ev_run {n : Nat} : runD n s ds = (s (ds.map Sl.sh ++ List.replicate (n - ds.length) .no)).bind runK := nrfl rfl
theorem ev_run1 : runK (.rt d) = .ok d := nrfl rfl
theorem ev_run2 : runK (.nx ρ) = .ok .non := nrfl rfl
theorem ev_os : oSome f ρ = (f ρ).bind osK := nrfl rfl
theorem ev_os1 : osK (.int a) = .ok (some a) := nrfl rfl
theorem ev_on : oNone ρ = .ok none := nrfl rfl
theorem ev_sl {lo hi : Ev → Res (Option Int)} : dSlA f lo hi ρ = (f ρ).bind (slK0 lo hi ρ) := nrfl rfl
theorem ev_sl0 {lo hi : Ev → Res (Option Int)} : slK0 lo hi ρ x = (lo ρ).bind (slK hi ρ x) := nrfl rfl
theorem ev_sl1 {hi : Ev → Res (Option Int)} {l : Option Int} : slK hi ρ x l = (hi ρ).bind (slK2 x l) := nrfl rfl
theorem ev_sl2 {l l' : Option Int} : slK2 (.lst ds) l l' = .ok (.lst (cutD ds l l')) := nrfl rfl
theorem ev_for {tg : Ev → D → Res Ev} : sFor f tg s ρ = (f ρ).bind (forK tg s ρ) := nrfl rfl
theorem ev_for1 {tg : Ev → D → Res Ev} : forK tg s ρ (.lst ds) = forD tg s ds ρ := nrfl rfl
theorem ev_chain : dChain op op' f g h ρ = (f ρ).bind (chK op op' g h ρ) := nrfl rfl
theorem ev_ch : chK op op' g h ρ x = (g ρ).bind (chK1 op op' h ρ x) := nrfl rfl
theorem ev_ch1 : chK1 op op' h ρ x y = (op x y).bind (chK2 op' h ρ y) := nrfl rfl
theorem ev_ch2 : chK2 op' h ρ y (.bl true) = (h ρ).bind (op' y) := nrfl rfl
theorem ev_ch3 : chK2 op' h ρ y (.bl false) = .ok (.bl false) := nrfl rfl
theorem ev_iop {o : Int → Int → D} : iop (fun _ _ => true) o (.int a) (.int b) = .ok (o a b) := nrfl rfl
theorem ev_add : dAdd (.int a) (.int b) = .ok (.int (a + b)) := nrfl rfl
theorem ev_addL {es : List D} (h : decide (ds.length + es.length ≤ 1000) = true) : dAdd (.lst ds) (.lst es) = .ok (.lst (ds ++ es)) := if_pos (Nat.le_trans (of_decide_eq_true h) (by decide))
theorem ev_neg : dNeg (.int a) = .ok (.int (-a)) := nrfl rfl
theorem ev_m1 {m : D → Res D} : m1 m [x] = m x := nrfl rfl
theorem ev_m2 {m : D → D → Res D} : m2 m [x, y] = m x y := nrfl rfl
theorem ev_lenL : dLen (.lst ds) = .ok (.int ds.length) := nrfl rfl
theorem ev_lenT : dLen (.tup ds) = .ok (.int ds.length) := nrfl rfl
theorem ev_tup (h : decide (ds.length ≤ 1000) = true) : mTup ds = .ok (.tup ds) := if_pos (Nat.le_trans (of_decide_eq_true h) (by decide))
theorem ev_lst (h : decide (ds.length ≤ 1000) = true) : mLst ds = .ok (.lst ds) := if_pos (Nat.le_trans (of_decide_eq_true h) (by decide))
theorem ev_is_bool_non : dIsI "bool" (.non) = .ok (.bl false) := nrfl rfl
theorem ev_is_bool_bl {c : Bool} : dIsI "bool" (.bl c) = .ok (.bl true) := nrfl rfl
theorem ev_is_bool_int : dIsI "bool" (.int a) = .ok (.bl false) := nrfl rfl
theorem ev_is_bool_str {z : Str} : dIsI "bool" (.str z) = .ok (.bl false) := nrfl rfl
theorem ev_is_bool_tup : dIsI "bool" (.tup ds) = .ok (.bl false) := nrfl rfl
theorem ev_is_bool_lst : dIsI "bool" (.lst ds) = .ok (.bl false) := nrfl rfl
theorem ev_is_bool_dic {ks : List Str} : dIsI "bool" (.dic ks ds) = .ok (.bl false) := nrfl rfl
theorem ev_is_int_non : dIsI "int" (.non) = .ok (.bl false) := nrfl rfl
theorem ev_is_int_bl {c : Bool} : dIsI "int" (.bl c) = .ok (.bl true) := nrfl rfl
theorem ev_is_int_int : dIsI "int" (.int a) = .ok (.bl true) := nrfl rfl
theorem ev_is_int_str {z : Str} : dIsI "int" (.str z) = .ok (.bl false) := nrfl rfl
theorem ev_is_int_tup : dIsI "int" (.tup ds) = .ok (.bl false) := nrfl rfl
theorem ev_is_int_lst : dIsI "int" (.lst ds) = .ok (.bl false) := nrfl rfl
theorem ev_is_int_dic {ks : List Str} : dIsI "int" (.dic ks ds) = .ok (.bl false) := nrfl rfl
theorem ev_is_str_non : dIsI "str" (.non) = .ok (.bl false) := nrfl rfl
theorem ev_is_str_bl {c : Bool} : dIsI "str" (.bl c) = .ok (.bl false) := nrfl rfl
theorem ev_is_str_int : dIsI "str" (.int a) = .ok (.bl false) := nrfl rfl
theorem ev_is_str_str {z : Str} : dIsI "str" (.str z) = .ok (.bl true) := nrfl rfl
theorem ev_is_str_tup : dIsI "str" (.tup ds) = .ok (.bl false) := nrfl rfl
theorem ev_is_str_lst : dIsI "str" (.lst ds) = .ok (.bl false) := nrfl rfl
theorem ev_is_str_dic {ks : List Str} : dIsI "str" (.dic ks ds) = .ok (.bl false) := nrfl rfl
theorem ev_is_tuple_non : dIsI "tuple" (.non) = .ok (.bl false) := nrfl rfl
theorem ev_is_tuple_bl {c : Bool} : dIsI "tuple" (.bl c) = .ok (.bl false) := nrfl rfl
theorem ev_is_tuple_int : dIsI "tuple" (.int a) = .ok (.bl false) := nrfl rfl
theorem ev_is_tuple_str {z : Str} : dIsI "tuple" (.str z) = .ok (.bl false) := nrfl rfl
theorem ev_is_tuple_tup : dIsI "tuple" (.tup ds) = .ok (.bl true) := nrfl rfl
theorem ev_is_tuple_lst : dIsI "tuple" (.lst ds) = .ok (.bl false) := nrfl rfl
theorem ev_is_tuple_dic {ks : List Str} : dIsI "tuple" (.dic ks ds) = .ok (.bl false) := nrfl rfl
theorem ev_is_list_non : dIsI "list" (.non) = .ok (.bl false) := nrfl rfl
theorem ev_is_list_bl {c : Bool} : dIsI "list" (.bl c) = .ok (.bl false) := nrfl rfl
theorem ev_is_list_int : dIsI "list" (.int a) = .ok (.bl false) := nrfl rfl
theorem ev_is_list_str {z : Str} : dIsI "list" (.str z) = .ok (.bl false) := nrfl rfl
theorem ev_is_list_tup : dIsI "list" (.tup ds) = .ok (.bl false) := nrfl rfl
theorem ev_is_list_lst : dIsI "list" (.lst ds) = .ok (.bl true) := nrfl rfl
theorem ev_is_list_dic {ks : List Str} : dIsI "list" (.dic ks ds) = .ok (.bl false) := nrfl rfl
theorem ev_is_dict_non : dIsI "dict" (.non) = .ok (.bl false) := nrfl rfl
theorem ev_is_dict_bl {c : Bool} : dIsI "dict" (.bl c) = .ok (.bl false) := nrfl rfl
theorem ev_is_dict_int : dIsI "dict" (.int a) = .ok (.bl false) := nrfl rfl
theorem ev_is_dict_str {z : Str} : dIsI "dict" (.str z) = .ok (.bl false) := nrfl rfl
theorem ev_is_dict_tup : dIsI "dict" (.tup ds) = .ok (.bl false) := nrfl rfl
theorem ev_is_dict_lst : dIsI "dict" (.lst ds) = .ok (.bl false) := nrfl rfl
theorem ev_is_dict_dic {ks : List Str} : dIsI "dict" (.dic ks ds) = .ok (.bl true) := nrfl rfl
theorem ev_isN_non : dIsN (.non) .non = .ok (.bl true) := nrfl rfl
theorem ev_notN_non : dNotN (.non) .non = .ok (.bl false) := nrfl rfl
theorem ev_isN_bl {c : Bool} : dIsN (.bl c) .non = .ok (.bl false) := nrfl rfl
theorem ev_notN_bl {c : Bool} : dNotN (.bl c) .non = .ok (.bl true) := nrfl rfl
theorem ev_isN_int : dIsN (.int a) .non = .ok (.bl false) := nrfl rfl
theorem ev_notN_int : dNotN (.int a) .non = .ok (.bl true) := nrfl rfl
theorem ev_isN_str {z : Str} : dIsN (.str z) .non = .ok (.bl false) := nrfl rfl
theorem ev_notN_str {z : Str} : dNotN (.str z) .non = .ok (.bl true) := nrfl rfl
theorem ev_isN_tup : dIsN (.tup ds) .non = .ok (.bl false) := nrfl rfl
theorem ev_notN_tup : dNotN (.tup ds) .non = .ok (.bl true) := nrfl rfl
theorem ev_isN_lst : dIsN (.lst ds) .non = .ok (.bl false) := nrfl rfl
theorem ev_notN_lst : dNotN (.lst ds) .non = .ok (.bl true) := nrfl rfl
theorem ev_isN_dic {ks : List Str} : dIsN (.dic ks ds) .non = .ok (.bl false) := nrfl rfl
theorem ev_notN_dic {ks : List Str} : dNotN (.dic ks ds) .non = .ok (.bl true) := nrfl rfl
theorem ev_mul (h : mulOk a b = true) : dMulL (.int a) (.int b) = .ok (.int (a * b)) := if_pos h
theorem ev_mod (h : (b == 0) = false) : dMod (.int a) (.int b) = .ok (.int (a.fmod b)) := mod_ok (fun z => by rw [z] at h; cases h)
theorem ev_div (h : divOk a b = true) : dDiv (.int a) (.int b) = .ok (.int (a.fdiv b)) := if_pos h
theorem ev_unpL {is : List Nat} (h : (ds.length == is.length) = true) : unpK is ρ (.lst ds) = .ok (.nx (setAll ρ is ds)) := by
  unfold unpK partsOf
  simp only [if_pos (eq_of_beq h)]
theorem ev_unpT {is : List Nat} (h : (ds.length == is.length) = true) : unpK is ρ (.tup ds) = .ok (.nx (setAll ρ is ds)) := by
  unfold unpK partsOf
  simp only [if_pos (eq_of_beq h)]
theorem ev_sa {is : List Nat} : setAll ρ (i :: is) (d :: ds) = setAll (ρ.set i (.sh d)) is ds := nrfl rfl
theorem ev_sa0 : setAll ρ [] ds = ρ := nrfl rfl
def unK (i : Nat) (ρ : Ev) (s : Option Sl) : Ev := match s with
  | some (.ow d) => ρ.set i (.sh d)
  | _ => ρ
theorem ev_un : unown i ρ = unK i ρ ρ[i]? := nrfl rfl
theorem ev_un1 : unK i ρ (some (.ow d)) = ρ.set i (.sh d) := nrfl rfl
theorem ev_un2 : unK i ρ (some (.sh d)) = ρ := nrfl rfl
theorem ev_un3 : unK i ρ (some .no) = ρ := nrfl rfl
theorem ev_putAt {n : Nat} {j : Int} (h : ixN ds.length j = some n) : DL.putAt ρ i ds d (.int j) = .ok (.nx (ρ.set i (.ow (.lst (ds.set n d))))) := by
  unfold DL.putAt
  simp only [h]
theorem ev_ixL0 {x0 : D} : dIx (.lst (x0 :: xs)) (.int 0) = .ok x0 := by
  unfold dIx
  simp only [show atI (x0 :: xs) 0 = some x0 from atI_nat (j := 0) rfl]
theorem ev_ixT0 {x0 : D} : dIx (.tup (x0 :: xs)) (.int 0) = .ok x0 := by
  unfold dIx
  simp only [show atI (x0 :: xs) 0 = some x0 from atI_nat (j := 0) rfl]
theorem ev_ixL1 {x0 x1 : D} : dIx (.lst (x0 :: x1 :: xs)) (.int 1) = .ok x1 := by
  unfold dIx
  simp only [show atI (x0 :: x1 :: xs) 1 = some x1 from atI_nat (j := 1) rfl]
theorem ev_ixT1 {x0 x1 : D} : dIx (.tup (x0 :: x1 :: xs)) (.int 1) = .ok x1 := by
  unfold dIx
  simp only [show atI (x0 :: x1 :: xs) 1 = some x1 from atI_nat (j := 1) rfl]
theorem ev_ixL2 {x0 x1 x2 : D} : dIx (.lst (x0 :: x1 :: x2 :: xs)) (.int 2) = .ok x2 := by
  unfold dIx
  simp only [show atI (x0 :: x1 :: x2 :: xs) 2 = some x2 from atI_nat (j := 2) rfl]
theorem ev_ixT2 {x0 x1 x2 : D} : dIx (.tup (x0 :: x1 :: x2 :: xs)) (.int 2) = .ok x2 := by
  unfold dIx
  simp only [show atI (x0 :: x1 :: x2 :: xs) 2 = some x2 from atI_nat (j := 2) rfl]
theorem ev_ixL3 {x0 x1 x2 x3 : D} : dIx (.lst (x0 :: x1 :: x2 :: x3 :: xs)) (.int 3) = .ok x3 := by
  unfold dIx
  simp only [show atI (x0 :: x1 :: x2 :: x3 :: xs) 3 = some x3 from atI_nat (j := 3) rfl]
theorem ev_ixT3 {x0 x1 x2 x3 : D} : dIx (.tup (x0 :: x1 :: x2 :: x3 :: xs)) (.int 3) = .ok x3 := by
  unfold dIx
  simp only [show atI (x0 :: x1 :: x2 :: x3 :: xs) 3 = some x3 from atI_nat (j := 3) rfl]
theorem ev_ixL4 {x0 x1 x2 x3 x4 : D} : dIx (.lst (x0 :: x1 :: x2 :: x3 :: x4 :: xs)) (.int 4) = .ok x4 := by
  unfold dIx
  simp only [show atI (x0 :: x1 :: x2 :: x3 :: x4 :: xs) 4 = some x4 from atI_nat (j := 4) rfl]
theorem ev_ixT4 {x0 x1 x2 x3 x4 : D} : dIx (.tup (x0 :: x1 :: x2 :: x3 :: x4 :: xs)) (.int 4) = .ok x4 := by
  unfold dIx
  simp only [show atI (x0 :: x1 :: x2 :: x3 :: x4 :: xs) 4 = some x4 from atI_nat (j := 4) rfl]
theorem ev_ixL5 {x0 x1 x2 x3 x4 x5 : D} : dIx (.lst (x0 :: x1 :: x2 :: x3 :: x4 :: x5 :: xs)) (.int 5) = .ok x5 := by
  unfold dIx
  simp only [show atI (x0 :: x1 :: x2 :: x3 :: x4 :: x5 :: xs) 5 = some x5 from atI_nat (j := 5) rfl]
theorem ev_ixT5 {x0 x1 x2 x3 x4 x5 : D} : dIx (.tup (x0 :: x1 :: x2 :: x3 :: x4 :: x5 :: xs)) (.int 5) = .ok x5 := by
  unfold dIx
  simp only [show atI (x0 :: x1 :: x2 :: x3 :: x4 :: x5 :: xs) 5 = some x5 from atI_nat (j := 5) rfl]
theorem ev_ixL6 {x0 x1 x2 x3 x4 x5 x6 : D} : dIx (.lst (x0 :: x1 :: x2 :: x3 :: x4 :: x5 :: x6 :: xs)) (.int 6) = .ok x6 := by
  unfold dIx
  simp only [show atI (x0 :: x1 :: x2 :: x3 :: x4 :: x5 :: x6 :: xs) 6 = some x6 from atI_nat (j := 6) rfl]
theorem ev_ixL7 {x0 x1 x2 x3 x4 x5 x6 x7 : D} : dIx (.lst (x0 :: x1 :: x2 :: x3 :: x4 :: x5 :: x6 :: x7 :: xs)) (.int 7) = .ok x7 := by
  unfold dIx
  simp only [show atI (x0 :: x1 :: x2 :: x3 :: x4 :: x5 :: x6 :: x7 :: xs) 7 = some x7 from atI_nat (j := 7) rfl]
theorem ev_ixL8 {x0 x1 x2 x3 x4 x5 x6 x7 x8 : D} : dIx (.lst (x0 :: x1 :: x2 :: x3 :: x4 :: x5 :: x6 :: x7 :: x8 :: xs)) (.int 8) = .ok x8 := by
  unfold dIx
  simp only [show atI (x0 :: x1 :: x2 :: x3 :: x4 :: x5 :: x6 :: x7 :: x8 :: xs) 8 = some x8 from atI_nat (j := 8) rfl]
theorem ev_ixL9 {x0 x1 x2 x3 x4 x5 x6 x7 x8 x9 : D} : dIx (.lst (x0 :: x1 :: x2 :: x3 :: x4 :: x5 :: x6 :: x7 :: x8 :: x9 :: xs)) (.int 9) = .ok x9 := by
  unfold dIx
  simp only [show atI (x0 :: x1 :: x2 :: x3 :: x4 :: x5 :: x6 :: x7 :: x8 :: x9 :: xs) 9 = some x9 from atI_nat (j := 9) rfl]
theorem ev_ixL10 {x0 x1 x2 x3 x4 x5 x6 x7 x8 x9 x10 : D} : dIx (.lst (x0 :: x1 :: x2 :: x3 :: x4 :: x5 :: x6 :: x7 :: x8 :: x9 :: x10 :: xs)) (.int 10) = .ok x10 := by
  unfold dIx
  simp only [show atI (x0 :: x1 :: x2 :: x3 :: x4 :: x5 :: x6 :: x7 :: x8 :: x9 :: x10 :: xs) 10 = some x10 from atI_nat (j := 10) rfl]
theorem ev_ixL11 {x0 x1 x2 x3 x4 x5 x6 x7 x8 x9 x10 x11 : D} : dIx (.lst (x0 :: x1 :: x2 :: x3 :: x4 :: x5 :: x6 :: x7 :: x8 :: x9 :: x10 :: x11 :: xs)) (.int 11) = .ok x11 := by
  unfold dIx
  simp only [show atI (x0 :: x1 :: x2 :: x3 :: x4 :: x5 :: x6 :: x7 :: x8 :: x9 :: x10 :: x11 :: xs) 11 = some x11 from atI_nat (j := 11) rfl]
theorem ev_ixL12 {x0 x1 x2 x3 x4 x5 x6 x7 x8 x9 x10 x11 x12 : D} : dIx (.lst (x0 :: x1 :: x2 :: x3 :: x4 :: x5 :: x6 :: x7 :: x8 :: x9 :: x10 :: x11 :: x12 :: xs)) (.int 12) = .ok x12 := by
  unfold dIx
  simp only [show atI (x0 :: x1 :: x2 :: x3 :: x4 :: x5 :: x6 :: x7 :: x8 :: x9 :: x10 :: x11 :: x12 :: xs) 12 = some x12 from atI_nat (j := 12) rfl]
theorem ev_ixL13 {x0 x1 x2 x3 x4 x5 x6 x7 x8 x9 x10 x11 x12 x13 : D} : dIx (.lst (x0 :: x1 :: x2 :: x3 :: x4 :: x5 :: x6 :: x7 :: x8 :: x9 :: x10 :: x11 :: x12 :: x13 :: xs)) (.int 13) = .ok x13 := by
  unfold dIx
  simp only [show atI (x0 :: x1 :: x2 :: x3 :: x4 :: x5 :: x6 :: x7 :: x8 :: x9 :: x10 :: x11 :: x12 :: x13 :: xs) 13 = some x13 from atI_nat (j := 13) rfl]
theorem ev_c0 : ((0 : Nat) : Int) = 0 := nrfl rfl
theorem ev_c1 : ((1 : Nat) : Int) = 1 := nrfl rfl
theorem ev_c2 : ((2 : Nat) : Int) = 2 := nrfl rfl
theorem ev_c3 : ((3 : Nat) : Int) = 3 := nrfl rfl
theorem ev_c4 : ((4 : Nat) : Int) = 4 := nrfl rfl
theorem ev_c5 : ((5 : Nat) : Int) = 5 := nrfl rfl
theorem ev_c6 : ((6 : Nat) : Int) = 6 := nrfl rfl
theorem ev_c7 : ((7 : Nat) : Int) = 7 := nrfl rfl
theorem ev_c8 : ((8 : Nat) : Int) = 8 := nrfl rfl
theorem ev_c9 : ((9 : Nat) : Int) = 9 := nrfl rfl
theorem ev_c10 : ((10 : Nat) : Int) = 10 := nrfl rfl
theorem ev_c11 : ((11 : Nat) : Int) = 11 := nrfl rfl
theorem ev_pt0 {x0 : D} : DL.putAt ρ i (x0 :: xs) d (.int 0) = .ok (.nx (ρ.set i (.ow (.lst (d :: xs))))) := by
  refine (ev_putAt (n := 0) ?_).trans rfl
  unfold ixN
  rw [if_pos (by decide), if_pos (by simp only [List.length_cons]; omega)]
  rfl
theorem ev_pt1 {x0 x1 : D} : DL.putAt ρ i (x0 :: x1 :: xs) d (.int 1) = .ok (.nx (ρ.set i (.ow (.lst (x0 :: d :: xs))))) := by
  refine (ev_putAt (n := 1) ?_).trans rfl
  unfold ixN
  rw [if_pos (by decide), if_pos (by simp only [List.length_cons]; omega)]
  rfl
theorem ev_pt2 {x0 x1 x2 : D} : DL.putAt ρ i (x0 :: x1 :: x2 :: xs) d (.int 2) = .ok (.nx (ρ.set i (.ow (.lst (x0 :: x1 :: d :: xs))))) := by
  refine (ev_putAt (n := 2) ?_).trans rfl
  unfold ixN
  rw [if_pos (by decide), if_pos (by simp only [List.length_cons]; omega)]
  rfl
theorem ev_pt3 {x0 x1 x2 x3 : D} : DL.putAt ρ i (x0 :: x1 :: x2 :: x3 :: xs) d (.int 3) = .ok (.nx (ρ.set i (.ow (.lst (x0 :: x1 :: x2 :: d :: xs))))) := by
  refine (ev_putAt (n := 3) ?_).trans rfl
  unfold ixN
  rw [if_pos (by decide), if_pos (by simp only [List.length_cons]; omega)]
  rfl
theorem ev_pt4 {x0 x1 x2 x3 x4 : D} : DL.putAt ρ i (x0 :: x1 :: x2 :: x3 :: x4 :: xs) d (.int 4) = .ok (.nx (ρ.set i (.ow (.lst (x0 :: x1 :: x2 :: x3 :: d :: xs))))) := by
  refine (ev_putAt (n := 4) ?_).trans rfl
  unfold ixN
  rw [if_pos (by decide), if_pos (by simp only [List.length_cons]; omega)]
  rfl
theorem ev_p60 : dPow (.int 10) (.int 60) = .ok (.int (N60 : Int)) := by
  have e : (10 : Int) ^ (60 : Int).toNat = (N60 : Int) := by decide
  rw [← e]
  rfl
end
def joinK (fa : Ev → Res (List D)) (ρ : Ev) (x : D) : Res D := match x with
  | .str z => (fa ρ).bind (joinD z)
  | _ => .stuck
theorem ev_join {f : Ev → Res D} {fa : Ev → Res (List D)} {ρ : Ev} : dJoin f fa ρ = (f ρ).bind (joinK fa ρ) := nrfl rfl
theorem ev_join1 {fa : Ev → Res (List D)} {ρ : Ev} {z : Str} : joinK fa ρ (.str z) = (fa ρ).bind (joinD z) := nrfl rfl
def repK (g : Ev → Res D) (ρ : Ev) (x : D) : Res D := match x with
  | .lst ds => (g ρ).bind (dRep (.lst ds))
  | _ => .stuck
theorem ev_rep {f g : Ev → Res D} {ρ : Ev} : repL f g ρ = (f ρ).bind (repK g ρ) := nrfl rfl
theorem ev_rep1 {g : Ev → Res D} {ρ : Ev} {ds : List D} : repK g ρ (.lst ds) = (g ρ).bind (dRep (.lst ds)) := nrfl rfl
theorem flat_rep {α : Type} {x : α} : ∀ {n : Nat}, (List.replicate n [x]).flatten = List.replicate n x
  | 0 => rfl
  | n + 1 => by rw [List.replicate_succ, List.flatten_cons, flat_rep, List.replicate_succ]; rfl
theorem ev_rep2 {x : D} {k : Int} (h : (decide (0 ≤ k) && decide (k ≤ 1000)) = true) : dRep (.lst [x]) (.int k) = .ok (.lst (List.replicate k.toNat x)) := by
  simp only [Bool.and_eq_true, decide_eq_true_eq] at h
  unfold dRep
  have : ([x] : List D).length * k.toNat ≤ line ∧ -9223372036854775808 ≤ k ∧ k < 9223372036854775808 := ⟨by
    have h2 : k.toNat ≤ 1000 := by omega
    show 1 * k.toNat ≤ line
    have : (1000 : Nat) ≤ line := by decide
    omega, by omega, by omega⟩
  simp only [if_pos this, flat_rep]
end Com
set_option Elab.async false
set_option linter.all false
set_option maxRecDepth 100000
namespace Com
open PySem L2 DL
def b_is_name : Ev → Res Fl :=
  (sSeq (sIf (dOr (dNot (bind1 (dVar 0) (dIsI "str"))) (dNot (dChain dLe dLe (dC (.int 1)) (bindA (aCons (dVar 0) aNil) (m1 dLen)) (dC (.int 8)))))
  (sSeq (sRet (dC (.bl false)))
  sNext)
  sNext)
  (sSeq (sRet (bindA (aCons (compD 1 [] (srcS (dVar 0)) (gSet 0) mYes (bind2 (dVar 0) (dC (.str "abcdefghijklmnopqrstuvwxyz")) dIn)) aNil) (m1 dAll)))
  sNext))
def m_is_name : List D → Res D := runD 1 b_is_name
def b_is_ratio : Ev → Res Fl :=
  (sSeq (sIf (dOr (dNot (bind1 (dVar 0) (dIsI "tuple"))) (bind2 (bindA (aCons (dVar 0) aNil) (m1 dLen)) (dC (.int 2)) dNe))
  (sSeq (sRet (dC (.bl false)))
  sNext)
  sNext)
  (sSeq (sIf (dOr (dNot (bindA (aCons (bind2 (dVar 0) (dC (.int 0)) dIx) aNil) m_is_whole)) (dNot (bindA (aCons (bind2 (dVar 0) (dC (.int 1)) dIx) aNil) m_is_whole)))
  (sSeq (sRet (dC (.bl false)))
  sNext)
  sNext)
  (sSeq (sRet (dAnd (bind2 (bind2 (dVar 0) (dC (.int 1)) dIx) (dC (.int 1)) dGe) (bind2 (bindA (aCons (bind2 (dVar 0) (dC (.int 0)) dIx) (aCons (bind2 (dVar 0) (dC (.int 1)) dIx) aNil)) m_common_divisor) (dC (.int 1)) dEq)))
  sNext)))
def m_is_ratio : List D → Res D := runD 1 b_is_ratio
def abc : Str := "abcdefghijklmnopqrstuvwxyz"
def inAbc (c : Nat) : Bool := occ ⟨#[c]⟩ abc
def nameB (z : Str) : Bool := decide (1 ≤ z.length) && (decide (z.length ≤ 8) && z.cps.toList.all inAbc)
def nameD : D → Bool
  | .str z => nameB z
  | _ => false
def fit : D → Bool
  | .str z => decide (z.length ≤ line)
  | _ => true
theorem collD_map {b : Ev} {tg : Ev → D → Res Ev} {tt fe : Ev → Res D} {F : D → D} : ∀ {ds : List D}, (∀ d ∈ ds, ∃ ρ1, tg b d = .ok ρ1 ∧ tt ρ1 = .ok (.bl true) ∧ fe ρ1 = .ok (F d)) → collD b tg tt fe ds = .ok (ds.map F)
  | [], _ => rfl
  | d :: r, h => by
    obtain ⟨ρ1, h1, h2, h3⟩ := h d List.mem_cons_self
    rw [collD_yes h1 h2 h3, collD_map (fun e he => h e (List.mem_cons_of_mem _ he))]
    rfl
theorem boolsOf_map {α : Type} (F : α → Bool) : ∀ (cs : List α), boolsOf (cs.map fun c => D.bl (F c)) = some (cs.map F)
  | [] => rfl
  | c :: r => by
    show (boolsOf (r.map fun c => D.bl (F c))).map (F c :: ·) = _
    rw [boolsOf_map F r]; rfl
theorem names_comp {z : Str} (hz : z.length ≤ line) : compD 1 [] (srcS (dVar 0)) (gSet 0) mYes (bind2 (dVar 0) (dC (.str "abcdefghijklmnopqrstuvwxyz")) dIn) [.sh (.str z)] = .ok (.lst (z.cps.toList.map fun c => .bl (inAbc c))) := by
  have hl : (signsD z).length ≤ line := by rw [signsD_len]; exact hz
  unfold compD
  show (if (signsD z).length ≤ line then _ else _) = _
  rw [if_pos hl]
  have : collD (baseD 1 [] [.sh (.str z)]) (gSet 0) mYes (bind2 (dVar 0) (dC (.str "abcdefghijklmnopqrstuvwxyz")) dIn) (signsD z) = .ok (z.cps.toList.map fun c => D.bl (inAbc c)) := by
    unfold signsD
    induction z.cps.toList with
    | nil => rfl
    | cons c r ih =>
      rw [List.map_cons, collD_yes (x := .bl (inAbc c)) rfl rfl rfl, ih]
      rfl
  rw [this]
theorem is_name_eq {d : D} (h : fit d = true) : m_is_name [d] = .ok (.bl (nameD d)) := by
  cases d with
  | str z =>
    have hz : z.length ≤ line := of_decide_eq_true h
    have hlen : dLen (.str z) = .ok (.int z.length) := if_pos hz
    show runD 1 b_is_name _ = .ok (.bl (nameB z))
    unfold nameB
    by_cases h1 : 1 ≤ z.length
    · by_cases h8 : z.length ≤ 8
      · have e1 : decide ((1 : Int) ≤ (z.length : Int)) = true := decide_eq_true (by omega)
        have e2 : decide ((z.length : Int) ≤ 8) = true := decide_eq_true (by omega)
        simp only [b_is_name, ev_ok, ev_seq, ev_seq1, ev_seq2, ev_seq3, ev_seq4, ev_next, ev_set, ev_set1, ev_ret, ev_ret1, ev_retN, ev_drop, ev_drop1, ev_if, ev_if1, ev_if2, ev_own, ev_own1, ev_app, ev_ownS, ev_appL, ev_put, ev_put1, ev_putL, ev_putL1, ev_frz, ev_unp, ev_par, ev_par1, ev_b1, ev_b2, ev_b21, ev_bA, ev_nil, ev_cons, ev_cons1, ev_cons2, ev_and, ev_and1, ev_and2, ev_or, ev_or1, ev_or2, ev_not, ev_not1, ev_ifx, ev_ifx1, ev_ifx2, ev_var, ev_var1, ev_C, ev_shr0, ev_shr, ev_shr1, ev_shr2, ev_shr3, ev_run, ev_run1, ev_run2, ev_os, ev_os1, ev_on, ev_sl, ev_sl0, ev_sl1, ev_sl2, ev_for, ev_for1, ev_chain, ev_ch, ev_ch1, ev_ch2, ev_ch3, ev_iop, ev_add, ev_neg, ev_m1, ev_m2, ev_lenL, ev_lenT, ev_p60, eq_int, ne_int, List.map_cons, List.map_nil, List.length_cons, List.length_nil, List.replicate_succ, List.replicate_zero, List.nil_append, List.cons_append, List.getElem?_cons_zero, List.getElem?_cons_succ, List.set_cons_zero, List.set_cons_succ, Nat.sub_zero, Nat.reduceSub, Nat.reduceAdd, Nat.add_zero, Nat.zero_add, Bool.not_true, Bool.not_false, ev_tup, ev_lst, ev_addL, ev_app1, ev_appL1, ev_mod, ev_unpL, ev_unpT, ev_sa, ev_sa0, ev_un, ev_un1, ev_un2, ev_un3, ev_ixL0, ev_ixL1, ev_ixL2, ev_ixL3, ev_ixL4, ev_ixL5, ev_ixL6, ev_ixL7, ev_ixL8, ev_ixL9, ev_ixL10, ev_ixL11, ev_ixL12, ev_ixL13, ev_ixT0, ev_ixT1, ev_ixT2, ev_ixT3, ev_ixT4, ev_ixT5, decide_true, decide_false, Nat.reduceLeDiff, Nat.reduceBEq, Int.reduceBEq, beq_self_eq_true, dOne, mYes, ev_is_bool_non, ev_is_bool_bl, ev_is_bool_int, ev_is_bool_str, ev_is_bool_tup, ev_is_bool_lst, ev_is_bool_dic, ev_is_int_non, ev_is_int_bl, ev_is_int_int, ev_is_int_str, ev_is_int_tup, ev_is_int_lst, ev_is_int_dic, ev_is_str_non, ev_is_str_bl, ev_is_str_int, ev_is_str_str, ev_is_str_tup, ev_is_str_lst, ev_is_str_dic, ev_is_tuple_non, ev_is_tuple_bl, ev_is_tuple_int, ev_is_tuple_str, ev_is_tuple_tup, ev_is_tuple_lst, ev_is_tuple_dic, ev_is_list_non, ev_is_list_bl, ev_is_list_int, ev_is_list_str, ev_is_list_tup, ev_is_list_lst, ev_is_list_dic, ev_is_dict_non, ev_is_dict_bl, ev_is_dict_int, ev_is_dict_str, ev_is_dict_tup, ev_is_dict_lst, ev_is_dict_dic, ev_isN_non, ev_notN_non, ev_isN_bl, ev_notN_bl, ev_isN_int, ev_notN_int, ev_isN_str, ev_notN_str, ev_isN_tup, ev_notN_tup, ev_isN_lst, ev_notN_lst, ev_isN_dic, ev_notN_dic, ev_c0, ev_c1, ev_c2, ev_c3, ev_c4, ev_c5, ev_c6, ev_c7, ev_c8, ev_c9, ev_c10, ev_c11, Int.reduceLT, Int.reduceLE, Int.reduceSub, Int.reduceAdd, Int.reduceMul, Int.reduceNeg, ev_join, ev_join1, ev_pt0, ev_pt1, ev_pt2, ev_pt3, ev_pt4, ev_rep, ev_rep1, ev_rep2, Int.reduceToNat, Bool.and_self, hlen, e1, e2, names_comp hz, dAll, boolsOf_map, decide_eq_true h1, decide_eq_true h8, Bool.true_and]
        simp [List.all_map, Function.comp_def]
      · have e1 : decide ((1 : Int) ≤ (z.length : Int)) = true := decide_eq_true (by omega)
        have e2 : decide ((z.length : Int) ≤ 8) = false := decide_eq_false (by omega)
        simp only [b_is_name, ev_ok, ev_seq, ev_seq1, ev_seq2, ev_seq3, ev_seq4, ev_next, ev_set, ev_set1, ev_ret, ev_ret1, ev_retN, ev_drop, ev_drop1, ev_if, ev_if1, ev_if2, ev_own, ev_own1, ev_app, ev_ownS, ev_appL, ev_put, ev_put1, ev_putL, ev_putL1, ev_frz, ev_unp, ev_par, ev_par1, ev_b1, ev_b2, ev_b21, ev_bA, ev_nil, ev_cons, ev_cons1, ev_cons2, ev_and, ev_and1, ev_and2, ev_or, ev_or1, ev_or2, ev_not, ev_not1, ev_ifx, ev_ifx1, ev_ifx2, ev_var, ev_var1, ev_C, ev_shr0, ev_shr, ev_shr1, ev_shr2, ev_shr3, ev_run, ev_run1, ev_run2, ev_os, ev_os1, ev_on, ev_sl, ev_sl0, ev_sl1, ev_sl2, ev_for, ev_for1, ev_chain, ev_ch, ev_ch1, ev_ch2, ev_ch3, ev_iop, ev_add, ev_neg, ev_m1, ev_m2, ev_lenL, ev_lenT, ev_p60, eq_int, ne_int, List.map_cons, List.map_nil, List.length_cons, List.length_nil, List.replicate_succ, List.replicate_zero, List.nil_append, List.cons_append, List.getElem?_cons_zero, List.getElem?_cons_succ, List.set_cons_zero, List.set_cons_succ, Nat.sub_zero, Nat.reduceSub, Nat.reduceAdd, Nat.add_zero, Nat.zero_add, Bool.not_true, Bool.not_false, ev_tup, ev_lst, ev_addL, ev_app1, ev_appL1, ev_mod, ev_unpL, ev_unpT, ev_sa, ev_sa0, ev_un, ev_un1, ev_un2, ev_un3, ev_ixL0, ev_ixL1, ev_ixL2, ev_ixL3, ev_ixL4, ev_ixL5, ev_ixL6, ev_ixL7, ev_ixL8, ev_ixL9, ev_ixL10, ev_ixL11, ev_ixL12, ev_ixL13, ev_ixT0, ev_ixT1, ev_ixT2, ev_ixT3, ev_ixT4, ev_ixT5, decide_true, decide_false, Nat.reduceLeDiff, Nat.reduceBEq, Int.reduceBEq, beq_self_eq_true, dOne, mYes, ev_is_bool_non, ev_is_bool_bl, ev_is_bool_int, ev_is_bool_str, ev_is_bool_tup, ev_is_bool_lst, ev_is_bool_dic, ev_is_int_non, ev_is_int_bl, ev_is_int_int, ev_is_int_str, ev_is_int_tup, ev_is_int_lst, ev_is_int_dic, ev_is_str_non, ev_is_str_bl, ev_is_str_int, ev_is_str_str, ev_is_str_tup, ev_is_str_lst, ev_is_str_dic, ev_is_tuple_non, ev_is_tuple_bl, ev_is_tuple_int, ev_is_tuple_str, ev_is_tuple_tup, ev_is_tuple_lst, ev_is_tuple_dic, ev_is_list_non, ev_is_list_bl, ev_is_list_int, ev_is_list_str, ev_is_list_tup, ev_is_list_lst, ev_is_list_dic, ev_is_dict_non, ev_is_dict_bl, ev_is_dict_int, ev_is_dict_str, ev_is_dict_tup, ev_is_dict_lst, ev_is_dict_dic, ev_isN_non, ev_notN_non, ev_isN_bl, ev_notN_bl, ev_isN_int, ev_notN_int, ev_isN_str, ev_notN_str, ev_isN_tup, ev_notN_tup, ev_isN_lst, ev_notN_lst, ev_isN_dic, ev_notN_dic, ev_c0, ev_c1, ev_c2, ev_c3, ev_c4, ev_c5, ev_c6, ev_c7, ev_c8, ev_c9, ev_c10, ev_c11, Int.reduceLT, Int.reduceLE, Int.reduceSub, Int.reduceAdd, Int.reduceMul, Int.reduceNeg, ev_join, ev_join1, ev_pt0, ev_pt1, ev_pt2, ev_pt3, ev_pt4, ev_rep, ev_rep1, ev_rep2, Int.reduceToNat, Bool.and_self, hlen, e1, e2, decide_eq_true h1, decide_eq_false h8, Bool.false_and, Bool.and_false]
    · have e1 : decide ((1 : Int) ≤ (z.length : Int)) = false := decide_eq_false (by omega)
      simp only [b_is_name, ev_ok, ev_seq, ev_seq1, ev_seq2, ev_seq3, ev_seq4, ev_next, ev_set, ev_set1, ev_ret, ev_ret1, ev_retN, ev_drop, ev_drop1, ev_if, ev_if1, ev_if2, ev_own, ev_own1, ev_app, ev_ownS, ev_appL, ev_put, ev_put1, ev_putL, ev_putL1, ev_frz, ev_unp, ev_par, ev_par1, ev_b1, ev_b2, ev_b21, ev_bA, ev_nil, ev_cons, ev_cons1, ev_cons2, ev_and, ev_and1, ev_and2, ev_or, ev_or1, ev_or2, ev_not, ev_not1, ev_ifx, ev_ifx1, ev_ifx2, ev_var, ev_var1, ev_C, ev_shr0, ev_shr, ev_shr1, ev_shr2, ev_shr3, ev_run, ev_run1, ev_run2, ev_os, ev_os1, ev_on, ev_sl, ev_sl0, ev_sl1, ev_sl2, ev_for, ev_for1, ev_chain, ev_ch, ev_ch1, ev_ch2, ev_ch3, ev_iop, ev_add, ev_neg, ev_m1, ev_m2, ev_lenL, ev_lenT, ev_p60, eq_int, ne_int, List.map_cons, List.map_nil, List.length_cons, List.length_nil, List.replicate_succ, List.replicate_zero, List.nil_append, List.cons_append, List.getElem?_cons_zero, List.getElem?_cons_succ, List.set_cons_zero, List.set_cons_succ, Nat.sub_zero, Nat.reduceSub, Nat.reduceAdd, Nat.add_zero, Nat.zero_add, Bool.not_true, Bool.not_false, ev_tup, ev_lst, ev_addL, ev_app1, ev_appL1, ev_mod, ev_unpL, ev_unpT, ev_sa, ev_sa0, ev_un, ev_un1, ev_un2, ev_un3, ev_ixL0, ev_ixL1, ev_ixL2, ev_ixL3, ev_ixL4, ev_ixL5, ev_ixL6, ev_ixL7, ev_ixL8, ev_ixL9, ev_ixL10, ev_ixL11, ev_ixL12, ev_ixL13, ev_ixT0, ev_ixT1, ev_ixT2, ev_ixT3, ev_ixT4, ev_ixT5, decide_true, decide_false, Nat.reduceLeDiff, Nat.reduceBEq, Int.reduceBEq, beq_self_eq_true, dOne, mYes, ev_is_bool_non, ev_is_bool_bl, ev_is_bool_int, ev_is_bool_str, ev_is_bool_tup, ev_is_bool_lst, ev_is_bool_dic, ev_is_int_non, ev_is_int_bl, ev_is_int_int, ev_is_int_str, ev_is_int_tup, ev_is_int_lst, ev_is_int_dic, ev_is_str_non, ev_is_str_bl, ev_is_str_int, ev_is_str_str, ev_is_str_tup, ev_is_str_lst, ev_is_str_dic, ev_is_tuple_non, ev_is_tuple_bl, ev_is_tuple_int, ev_is_tuple_str, ev_is_tuple_tup, ev_is_tuple_lst, ev_is_tuple_dic, ev_is_list_non, ev_is_list_bl, ev_is_list_int, ev_is_list_str, ev_is_list_tup, ev_is_list_lst, ev_is_list_dic, ev_is_dict_non, ev_is_dict_bl, ev_is_dict_int, ev_is_dict_str, ev_is_dict_tup, ev_is_dict_lst, ev_is_dict_dic, ev_isN_non, ev_notN_non, ev_isN_bl, ev_notN_bl, ev_isN_int, ev_notN_int, ev_isN_str, ev_notN_str, ev_isN_tup, ev_notN_tup, ev_isN_lst, ev_notN_lst, ev_isN_dic, ev_notN_dic, ev_c0, ev_c1, ev_c2, ev_c3, ev_c4, ev_c5, ev_c6, ev_c7, ev_c8, ev_c9, ev_c10, ev_c11, Int.reduceLT, Int.reduceLE, Int.reduceSub, Int.reduceAdd, Int.reduceMul, Int.reduceNeg, ev_join, ev_join1, ev_pt0, ev_pt1, ev_pt2, ev_pt3, ev_pt4, ev_rep, ev_rep1, ev_rep2, Int.reduceToNat, Bool.and_self, hlen, e1, decide_eq_false h1, Bool.false_and]
  | ob k _ => cases k <;> rfl
  | _ => rfl
def ratioD : D → Bool
  | .tup [.int p, .int q] => decide (1 ≤ q) && (Int.gcd p q == 1)
  | _ => false
theorem eq_one {g : Nat} : ((g : Int) == 1) = (g == 1) := by
  cases h : (g == 1) with
  | true => rw [eq_of_beq h]; rfl
  | false =>
    have : g ≠ 1 := fun z => by rw [z] at h; cases h
    exact beq_eq_false_iff_ne.mpr (by omega)
theorem two_of {xs : List D} : (∃ x y, xs = [x, y]) ∨ xs.length ≠ 2 := by
  match xs with
  | [] => exact .inr (by decide)
  | [x] => exact .inr (by simp)
  | [x, y] => exact .inl ⟨x, y, rfl⟩
  | x :: y :: z :: r => exact .inr (by simp)
theorem ratio_no : ∀ {xs : List D}, xs.length ≠ 2 → ratioD (.tup xs) = false
  | [], _ => rfl
  | [x], _ => by cases x <;> rfl
  | [x, y], h => absurd rfl h
  | x :: y :: z :: r, _ => by cases x <;> cases y <;> rfl
theorem ratio_pair {x y : D} : ratioD (.tup [x, y]) = (isI x && (isI y && ratioD (.tup [x, y]))) := by
  cases x <;> cases y <;> rfl
theorem is_ratio_eqD (d : D) : m_is_ratio [d] = .ok (.bl (ratioD d)) := by
  cases d with
  | tup xs =>
    rcases two_of (xs := xs) with ⟨x, y, rfl⟩ | h
    · rw [ratio_pair]
      show runD 1 b_is_ratio _ = _
      cases hx : isI x with
      | false => simp only [b_is_ratio, ev_ok, ev_seq, ev_seq1, ev_seq2, ev_seq3, ev_seq4, ev_next, ev_set, ev_set1, ev_ret, ev_ret1, ev_retN, ev_drop, ev_drop1, ev_if, ev_if1, ev_if2, ev_own, ev_own1, ev_app, ev_ownS, ev_appL, ev_put, ev_put1, ev_putL, ev_putL1, ev_frz, ev_unp, ev_par, ev_par1, ev_b1, ev_b2, ev_b21, ev_bA, ev_nil, ev_cons, ev_cons1, ev_cons2, ev_and, ev_and1, ev_and2, ev_or, ev_or1, ev_or2, ev_not, ev_not1, ev_ifx, ev_ifx1, ev_ifx2, ev_var, ev_var1, ev_C, ev_shr0, ev_shr, ev_shr1, ev_shr2, ev_shr3, ev_run, ev_run1, ev_run2, ev_os, ev_os1, ev_on, ev_sl, ev_sl0, ev_sl1, ev_sl2, ev_for, ev_for1, ev_chain, ev_ch, ev_ch1, ev_ch2, ev_ch3, ev_iop, ev_add, ev_neg, ev_m1, ev_m2, ev_lenL, ev_lenT, ev_p60, eq_int, ne_int, List.map_cons, List.map_nil, List.length_cons, List.length_nil, List.replicate_succ, List.replicate_zero, List.nil_append, List.cons_append, List.getElem?_cons_zero, List.getElem?_cons_succ, List.set_cons_zero, List.set_cons_succ, Nat.sub_zero, Nat.reduceSub, Nat.reduceAdd, Nat.add_zero, Nat.zero_add, Bool.not_true, Bool.not_false, ev_tup, ev_lst, ev_addL, ev_app1, ev_appL1, ev_mod, ev_unpL, ev_unpT, ev_sa, ev_sa0, ev_un, ev_un1, ev_un2, ev_un3, ev_ixL0, ev_ixL1, ev_ixL2, ev_ixL3, ev_ixL4, ev_ixL5, ev_ixL6, ev_ixL7, ev_ixL8, ev_ixL9, ev_ixL10, ev_ixL11, ev_ixL12, ev_ixL13, ev_ixT0, ev_ixT1, ev_ixT2, ev_ixT3, ev_ixT4, ev_ixT5, decide_true, decide_false, Nat.reduceLeDiff, Nat.reduceBEq, Int.reduceBEq, beq_self_eq_true, dOne, mYes, ev_is_bool_non, ev_is_bool_bl, ev_is_bool_int, ev_is_bool_str, ev_is_bool_tup, ev_is_bool_lst, ev_is_bool_dic, ev_is_int_non, ev_is_int_bl, ev_is_int_int, ev_is_int_str, ev_is_int_tup, ev_is_int_lst, ev_is_int_dic, ev_is_str_non, ev_is_str_bl, ev_is_str_int, ev_is_str_str, ev_is_str_tup, ev_is_str_lst, ev_is_str_dic, ev_is_tuple_non, ev_is_tuple_bl, ev_is_tuple_int, ev_is_tuple_str, ev_is_tuple_tup, ev_is_tuple_lst, ev_is_tuple_dic, ev_is_list_non, ev_is_list_bl, ev_is_list_int, ev_is_list_str, ev_is_list_tup, ev_is_list_lst, ev_is_list_dic, ev_is_dict_non, ev_is_dict_bl, ev_is_dict_int, ev_is_dict_str, ev_is_dict_tup, ev_is_dict_lst, ev_is_dict_dic, ev_isN_non, ev_notN_non, ev_isN_bl, ev_notN_bl, ev_isN_int, ev_notN_int, ev_isN_str, ev_notN_str, ev_isN_tup, ev_notN_tup, ev_isN_lst, ev_notN_lst, ev_isN_dic, ev_notN_dic, ev_c0, ev_c1, ev_c2, ev_c3, ev_c4, ev_c5, ev_c6, ev_c7, ev_c8, ev_c9, ev_c10, ev_c11, Int.reduceLT, Int.reduceLE, Int.reduceSub, Int.reduceAdd, Int.reduceMul, Int.reduceNeg, ev_join, ev_join1, ev_pt0, ev_pt1, ev_pt2, ev_pt3, ev_pt4, ev_rep, ev_rep1, ev_rep2, Int.reduceToNat, Bool.and_self, is_whole_eq, hx, Bool.false_and]
      | true =>
        cases hy : isI y with
        | false => simp only [b_is_ratio, ev_ok, ev_seq, ev_seq1, ev_seq2, ev_seq3, ev_seq4, ev_next, ev_set, ev_set1, ev_ret, ev_ret1, ev_retN, ev_drop, ev_drop1, ev_if, ev_if1, ev_if2, ev_own, ev_own1, ev_app, ev_ownS, ev_appL, ev_put, ev_put1, ev_putL, ev_putL1, ev_frz, ev_unp, ev_par, ev_par1, ev_b1, ev_b2, ev_b21, ev_bA, ev_nil, ev_cons, ev_cons1, ev_cons2, ev_and, ev_and1, ev_and2, ev_or, ev_or1, ev_or2, ev_not, ev_not1, ev_ifx, ev_ifx1, ev_ifx2, ev_var, ev_var1, ev_C, ev_shr0, ev_shr, ev_shr1, ev_shr2, ev_shr3, ev_run, ev_run1, ev_run2, ev_os, ev_os1, ev_on, ev_sl, ev_sl0, ev_sl1, ev_sl2, ev_for, ev_for1, ev_chain, ev_ch, ev_ch1, ev_ch2, ev_ch3, ev_iop, ev_add, ev_neg, ev_m1, ev_m2, ev_lenL, ev_lenT, ev_p60, eq_int, ne_int, List.map_cons, List.map_nil, List.length_cons, List.length_nil, List.replicate_succ, List.replicate_zero, List.nil_append, List.cons_append, List.getElem?_cons_zero, List.getElem?_cons_succ, List.set_cons_zero, List.set_cons_succ, Nat.sub_zero, Nat.reduceSub, Nat.reduceAdd, Nat.add_zero, Nat.zero_add, Bool.not_true, Bool.not_false, ev_tup, ev_lst, ev_addL, ev_app1, ev_appL1, ev_mod, ev_unpL, ev_unpT, ev_sa, ev_sa0, ev_un, ev_un1, ev_un2, ev_un3, ev_ixL0, ev_ixL1, ev_ixL2, ev_ixL3, ev_ixL4, ev_ixL5, ev_ixL6, ev_ixL7, ev_ixL8, ev_ixL9, ev_ixL10, ev_ixL11, ev_ixL12, ev_ixL13, ev_ixT0, ev_ixT1, ev_ixT2, ev_ixT3, ev_ixT4, ev_ixT5, decide_true, decide_false, Nat.reduceLeDiff, Nat.reduceBEq, Int.reduceBEq, beq_self_eq_true, dOne, mYes, ev_is_bool_non, ev_is_bool_bl, ev_is_bool_int, ev_is_bool_str, ev_is_bool_tup, ev_is_bool_lst, ev_is_bool_dic, ev_is_int_non, ev_is_int_bl, ev_is_int_int, ev_is_int_str, ev_is_int_tup, ev_is_int_lst, ev_is_int_dic, ev_is_str_non, ev_is_str_bl, ev_is_str_int, ev_is_str_str, ev_is_str_tup, ev_is_str_lst, ev_is_str_dic, ev_is_tuple_non, ev_is_tuple_bl, ev_is_tuple_int, ev_is_tuple_str, ev_is_tuple_tup, ev_is_tuple_lst, ev_is_tuple_dic, ev_is_list_non, ev_is_list_bl, ev_is_list_int, ev_is_list_str, ev_is_list_tup, ev_is_list_lst, ev_is_list_dic, ev_is_dict_non, ev_is_dict_bl, ev_is_dict_int, ev_is_dict_str, ev_is_dict_tup, ev_is_dict_lst, ev_is_dict_dic, ev_isN_non, ev_notN_non, ev_isN_bl, ev_notN_bl, ev_isN_int, ev_notN_int, ev_isN_str, ev_notN_str, ev_isN_tup, ev_notN_tup, ev_isN_lst, ev_notN_lst, ev_isN_dic, ev_notN_dic, ev_c0, ev_c1, ev_c2, ev_c3, ev_c4, ev_c5, ev_c6, ev_c7, ev_c8, ev_c9, ev_c10, ev_c11, Int.reduceLT, Int.reduceLE, Int.reduceSub, Int.reduceAdd, Int.reduceMul, Int.reduceNeg, ev_join, ev_join1, ev_pt0, ev_pt1, ev_pt2, ev_pt3, ev_pt4, ev_rep, ev_rep1, ev_rep2, Int.reduceToNat, Bool.and_self, is_whole_eq, hx, hy, Bool.false_and, Bool.true_and]
        | true =>
          cases x <;> first | (cases hx; done) | skip
          cases y <;> first | (cases hy; done) | skip
          rename_i p q
          show _ = Res.ok (D.bl (decide (1 ≤ q) && (Int.gcd p q == 1)))
          by_cases hq : 1 ≤ q
          · simp only [b_is_ratio, ev_ok, ev_seq, ev_seq1, ev_seq2, ev_seq3, ev_seq4, ev_next, ev_set, ev_set1, ev_ret, ev_ret1, ev_retN, ev_drop, ev_drop1, ev_if, ev_if1, ev_if2, ev_own, ev_own1, ev_app, ev_ownS, ev_appL, ev_put, ev_put1, ev_putL, ev_putL1, ev_frz, ev_unp, ev_par, ev_par1, ev_b1, ev_b2, ev_b21, ev_bA, ev_nil, ev_cons, ev_cons1, ev_cons2, ev_and, ev_and1, ev_and2, ev_or, ev_or1, ev_or2, ev_not, ev_not1, ev_ifx, ev_ifx1, ev_ifx2, ev_var, ev_var1, ev_C, ev_shr0, ev_shr, ev_shr1, ev_shr2, ev_shr3, ev_run, ev_run1, ev_run2, ev_os, ev_os1, ev_on, ev_sl, ev_sl0, ev_sl1, ev_sl2, ev_for, ev_for1, ev_chain, ev_ch, ev_ch1, ev_ch2, ev_ch3, ev_iop, ev_add, ev_neg, ev_m1, ev_m2, ev_lenL, ev_lenT, ev_p60, eq_int, ne_int, List.map_cons, List.map_nil, List.length_cons, List.length_nil, List.replicate_succ, List.replicate_zero, List.nil_append, List.cons_append, List.getElem?_cons_zero, List.getElem?_cons_succ, List.set_cons_zero, List.set_cons_succ, Nat.sub_zero, Nat.reduceSub, Nat.reduceAdd, Nat.add_zero, Nat.zero_add, Bool.not_true, Bool.not_false, ev_tup, ev_lst, ev_addL, ev_app1, ev_appL1, ev_mod, ev_unpL, ev_unpT, ev_sa, ev_sa0, ev_un, ev_un1, ev_un2, ev_un3, ev_ixL0, ev_ixL1, ev_ixL2, ev_ixL3, ev_ixL4, ev_ixL5, ev_ixL6, ev_ixL7, ev_ixL8, ev_ixL9, ev_ixL10, ev_ixL11, ev_ixL12, ev_ixL13, ev_ixT0, ev_ixT1, ev_ixT2, ev_ixT3, ev_ixT4, ev_ixT5, decide_true, decide_false, Nat.reduceLeDiff, Nat.reduceBEq, Int.reduceBEq, beq_self_eq_true, dOne, mYes, ev_is_bool_non, ev_is_bool_bl, ev_is_bool_int, ev_is_bool_str, ev_is_bool_tup, ev_is_bool_lst, ev_is_bool_dic, ev_is_int_non, ev_is_int_bl, ev_is_int_int, ev_is_int_str, ev_is_int_tup, ev_is_int_lst, ev_is_int_dic, ev_is_str_non, ev_is_str_bl, ev_is_str_int, ev_is_str_str, ev_is_str_tup, ev_is_str_lst, ev_is_str_dic, ev_is_tuple_non, ev_is_tuple_bl, ev_is_tuple_int, ev_is_tuple_str, ev_is_tuple_tup, ev_is_tuple_lst, ev_is_tuple_dic, ev_is_list_non, ev_is_list_bl, ev_is_list_int, ev_is_list_str, ev_is_list_tup, ev_is_list_lst, ev_is_list_dic, ev_is_dict_non, ev_is_dict_bl, ev_is_dict_int, ev_is_dict_str, ev_is_dict_tup, ev_is_dict_lst, ev_is_dict_dic, ev_isN_non, ev_notN_non, ev_isN_bl, ev_notN_bl, ev_isN_int, ev_notN_int, ev_isN_str, ev_notN_str, ev_isN_tup, ev_notN_tup, ev_isN_lst, ev_notN_lst, ev_isN_dic, ev_notN_dic, ev_c0, ev_c1, ev_c2, ev_c3, ev_c4, ev_c5, ev_c6, ev_c7, ev_c8, ev_c9, ev_c10, ev_c11, Int.reduceLT, Int.reduceLE, Int.reduceSub, Int.reduceAdd, Int.reduceMul, Int.reduceNeg, ev_join, ev_join1, ev_pt0, ev_pt1, ev_pt2, ev_pt3, ev_pt4, ev_rep, ev_rep1, ev_rep2, Int.reduceToNat, Bool.and_self, is_whole_eq, hx, hy, common_eq, Bool.true_and, decide_eq_true hq, eq_one]
          · simp only [b_is_ratio, ev_ok, ev_seq, ev_seq1, ev_seq2, ev_seq3, ev_seq4, ev_next, ev_set, ev_set1, ev_ret, ev_ret1, ev_retN, ev_drop, ev_drop1, ev_if, ev_if1, ev_if2, ev_own, ev_own1, ev_app, ev_ownS, ev_appL, ev_put, ev_put1, ev_putL, ev_putL1, ev_frz, ev_unp, ev_par, ev_par1, ev_b1, ev_b2, ev_b21, ev_bA, ev_nil, ev_cons, ev_cons1, ev_cons2, ev_and, ev_and1, ev_and2, ev_or, ev_or1, ev_or2, ev_not, ev_not1, ev_ifx, ev_ifx1, ev_ifx2, ev_var, ev_var1, ev_C, ev_shr0, ev_shr, ev_shr1, ev_shr2, ev_shr3, ev_run, ev_run1, ev_run2, ev_os, ev_os1, ev_on, ev_sl, ev_sl0, ev_sl1, ev_sl2, ev_for, ev_for1, ev_chain, ev_ch, ev_ch1, ev_ch2, ev_ch3, ev_iop, ev_add, ev_neg, ev_m1, ev_m2, ev_lenL, ev_lenT, ev_p60, eq_int, ne_int, List.map_cons, List.map_nil, List.length_cons, List.length_nil, List.replicate_succ, List.replicate_zero, List.nil_append, List.cons_append, List.getElem?_cons_zero, List.getElem?_cons_succ, List.set_cons_zero, List.set_cons_succ, Nat.sub_zero, Nat.reduceSub, Nat.reduceAdd, Nat.add_zero, Nat.zero_add, Bool.not_true, Bool.not_false, ev_tup, ev_lst, ev_addL, ev_app1, ev_appL1, ev_mod, ev_unpL, ev_unpT, ev_sa, ev_sa0, ev_un, ev_un1, ev_un2, ev_un3, ev_ixL0, ev_ixL1, ev_ixL2, ev_ixL3, ev_ixL4, ev_ixL5, ev_ixL6, ev_ixL7, ev_ixL8, ev_ixL9, ev_ixL10, ev_ixL11, ev_ixL12, ev_ixL13, ev_ixT0, ev_ixT1, ev_ixT2, ev_ixT3, ev_ixT4, ev_ixT5, decide_true, decide_false, Nat.reduceLeDiff, Nat.reduceBEq, Int.reduceBEq, beq_self_eq_true, dOne, mYes, ev_is_bool_non, ev_is_bool_bl, ev_is_bool_int, ev_is_bool_str, ev_is_bool_tup, ev_is_bool_lst, ev_is_bool_dic, ev_is_int_non, ev_is_int_bl, ev_is_int_int, ev_is_int_str, ev_is_int_tup, ev_is_int_lst, ev_is_int_dic, ev_is_str_non, ev_is_str_bl, ev_is_str_int, ev_is_str_str, ev_is_str_tup, ev_is_str_lst, ev_is_str_dic, ev_is_tuple_non, ev_is_tuple_bl, ev_is_tuple_int, ev_is_tuple_str, ev_is_tuple_tup, ev_is_tuple_lst, ev_is_tuple_dic, ev_is_list_non, ev_is_list_bl, ev_is_list_int, ev_is_list_str, ev_is_list_tup, ev_is_list_lst, ev_is_list_dic, ev_is_dict_non, ev_is_dict_bl, ev_is_dict_int, ev_is_dict_str, ev_is_dict_tup, ev_is_dict_lst, ev_is_dict_dic, ev_isN_non, ev_notN_non, ev_isN_bl, ev_notN_bl, ev_isN_int, ev_notN_int, ev_isN_str, ev_notN_str, ev_isN_tup, ev_notN_tup, ev_isN_lst, ev_notN_lst, ev_isN_dic, ev_notN_dic, ev_c0, ev_c1, ev_c2, ev_c3, ev_c4, ev_c5, ev_c6, ev_c7, ev_c8, ev_c9, ev_c10, ev_c11, Int.reduceLT, Int.reduceLE, Int.reduceSub, Int.reduceAdd, Int.reduceMul, Int.reduceNeg, ev_join, ev_join1, ev_pt0, ev_pt1, ev_pt2, ev_pt3, ev_pt4, ev_rep, ev_rep1, ev_rep2, Int.reduceToNat, Bool.and_self, is_whole_eq, hx, hy, common_eq, Bool.true_and, decide_eq_false hq, Bool.false_and]
    · have e2 : ((xs.length : Int) == 2) = false := beq_eq_false_iff_ne.mpr (by omega)
      rw [ratio_no h]
      show runD 1 b_is_ratio _ = _
      simp only [b_is_ratio, ev_ok, ev_seq, ev_seq1, ev_seq2, ev_seq3, ev_seq4, ev_next, ev_set, ev_set1, ev_ret, ev_ret1, ev_retN, ev_drop, ev_drop1, ev_if, ev_if1, ev_if2, ev_own, ev_own1, ev_app, ev_ownS, ev_appL, ev_put, ev_put1, ev_putL, ev_putL1, ev_frz, ev_unp, ev_par, ev_par1, ev_b1, ev_b2, ev_b21, ev_bA, ev_nil, ev_cons, ev_cons1, ev_cons2, ev_and, ev_and1, ev_and2, ev_or, ev_or1, ev_or2, ev_not, ev_not1, ev_ifx, ev_ifx1, ev_ifx2, ev_var, ev_var1, ev_C, ev_shr0, ev_shr, ev_shr1, ev_shr2, ev_shr3, ev_run, ev_run1, ev_run2, ev_os, ev_os1, ev_on, ev_sl, ev_sl0, ev_sl1, ev_sl2, ev_for, ev_for1, ev_chain, ev_ch, ev_ch1, ev_ch2, ev_ch3, ev_iop, ev_add, ev_neg, ev_m1, ev_m2, ev_lenL, ev_lenT, ev_p60, eq_int, ne_int, List.map_cons, List.map_nil, List.length_cons, List.length_nil, List.replicate_succ, List.replicate_zero, List.nil_append, List.cons_append, List.getElem?_cons_zero, List.getElem?_cons_succ, List.set_cons_zero, List.set_cons_succ, Nat.sub_zero, Nat.reduceSub, Nat.reduceAdd, Nat.add_zero, Nat.zero_add, Bool.not_true, Bool.not_false, ev_tup, ev_lst, ev_addL, ev_app1, ev_appL1, ev_mod, ev_unpL, ev_unpT, ev_sa, ev_sa0, ev_un, ev_un1, ev_un2, ev_un3, ev_ixL0, ev_ixL1, ev_ixL2, ev_ixL3, ev_ixL4, ev_ixL5, ev_ixL6, ev_ixL7, ev_ixL8, ev_ixL9, ev_ixL10, ev_ixL11, ev_ixL12, ev_ixL13, ev_ixT0, ev_ixT1, ev_ixT2, ev_ixT3, ev_ixT4, ev_ixT5, decide_true, decide_false, Nat.reduceLeDiff, Nat.reduceBEq, Int.reduceBEq, beq_self_eq_true, dOne, mYes, ev_is_bool_non, ev_is_bool_bl, ev_is_bool_int, ev_is_bool_str, ev_is_bool_tup, ev_is_bool_lst, ev_is_bool_dic, ev_is_int_non, ev_is_int_bl, ev_is_int_int, ev_is_int_str, ev_is_int_tup, ev_is_int_lst, ev_is_int_dic, ev_is_str_non, ev_is_str_bl, ev_is_str_int, ev_is_str_str, ev_is_str_tup, ev_is_str_lst, ev_is_str_dic, ev_is_tuple_non, ev_is_tuple_bl, ev_is_tuple_int, ev_is_tuple_str, ev_is_tuple_tup, ev_is_tuple_lst, ev_is_tuple_dic, ev_is_list_non, ev_is_list_bl, ev_is_list_int, ev_is_list_str, ev_is_list_tup, ev_is_list_lst, ev_is_list_dic, ev_is_dict_non, ev_is_dict_bl, ev_is_dict_int, ev_is_dict_str, ev_is_dict_tup, ev_is_dict_lst, ev_is_dict_dic, ev_isN_non, ev_notN_non, ev_isN_bl, ev_notN_bl, ev_isN_int, ev_notN_int, ev_isN_str, ev_notN_str, ev_isN_tup, ev_notN_tup, ev_isN_lst, ev_notN_lst, ev_isN_dic, ev_notN_dic, ev_c0, ev_c1, ev_c2, ev_c3, ev_c4, ev_c5, ev_c6, ev_c7, ev_c8, ev_c9, ev_c10, ev_c11, Int.reduceLT, Int.reduceLE, Int.reduceSub, Int.reduceAdd, Int.reduceMul, Int.reduceNeg, ev_join, ev_join1, ev_pt0, ev_pt1, ev_pt2, ev_pt3, ev_pt4, ev_rep, ev_rep1, ev_rep2, Int.reduceToNat, Bool.and_self, e2]
  | ob k _ => cases k <;> rfl
  | _ => rfl
end Com
set_option Elab.async false
set_option linter.all false
set_option maxRecDepth 100000
namespace Com
open PySem L2 DL
theorem cut_sub {α : Type} {F : α → D} {xs : List α} {lo hi : Option Int} : cutD (xs.map F) lo hi = ((xs.drop (HT.sIx xs.length 0 lo)).take (HT.sIx xs.length xs.length hi - HT.sIx xs.length 0 lo)).map F := by
  unfold cutD
  rw [List.length_map, ← List.map_drop, ← List.map_take]
end Com
set_option Elab.async false
set_option linter.all false
set_option maxRecDepth 100000
namespace Com
open PySem L2 DL
section
variable {α β : Type}
end
end Com
set_option Elab.async false
set_option linter.all false
set_option maxRecDepth 100000
namespace Com
open PySem L2 DL
def forIK (tg : Ev → D → Res Ev) (s : Ev → Res Fl) (ρ : Ev) (ds : List D) : Res Fl := forD tg s ds ρ
def srcEK (d : D) : Res (List D) := match d with
  | .lst ds => .ok (numbered 0 ds)
  | _ => .stuck
def srcLK (d : D) : Res (List D) := match d with
  | .lst ds => .ok ds
  | _ => .stuck
def srcTK (d : D) : Res (List D) := match d with
  | .tup ds => .ok ds
  | _ => .stuck
def compK (n : Nat) (fr : List Nat) (tg : Ev → D → Res Ev) (tt fe : Ev → Res D) (ρ : Ev) (ds : List D) : Res D := if ds.length ≤ line then match collD (baseD n fr ρ) tg tt fe ds with
    | .ok es => .ok (.lst es)
    | _ => .stuck
  else .stuck
def liK (fe : Ev → Res D) (ρ : Ev) (x : D) : Res D := match x with
  | .lst ds => (fe ρ).bind (dIndex (.lst ds))
  | _ => .stuck
def cons2K (x : D) (xs : List D) : Res (List D) := .ok (x :: xs)
def frK (fa : Ev → Res (List D)) (ρ : Ev) (x : D) : Res (List D) := match x with
  | .lst ds => (fa ρ).bind (cons2K (.lst ds))
  | _ => .stuck
theorem ev_frc {x : D} {xs : List D} : cons2K x xs = .ok (x :: xs) := nrfl rfl
def forRK (tg : Ev → D → Res Ev) (s : Ev → Res Fl) (ρ : Ev) (d : D) : Res Fl := match d with
  | .int j => if -4611686018427387904 ≤ j ∧ j < 4611686018427387904 then forD tg s (intsFrom 0 j.toNat) ρ else .stuck
  | _ => .stuck
section
variable {s t : Ev → Res Fl} {f g h : Ev → Res D} {src : Ev → Res (List D)} {fa : Ev → Res (List D)} {ρ r : Ev} {i j n : Nat} {d x y : D} {ds es xs : List D} {a b : Int} {tg : Ev → D → Res Ev} {tt fe : Ev → Res D} {fr : List Nat}
theorem ev_forI : sForI src tg s ρ = (src ρ).bind (forIK tg s ρ) := nrfl rfl
theorem ev_forI1 : forIK tg s ρ ds = forD tg s ds ρ := nrfl rfl
theorem ev_srcE : srcE f ρ = (f ρ).bind srcEK := nrfl rfl
theorem ev_srcE1 : srcEK (.lst ds) = .ok (numbered 0 ds) := nrfl rfl
theorem ev_srcL : srcL f ρ = (f ρ).bind srcLK := nrfl rfl
theorem ev_srcL1 : srcLK (.lst ds) = .ok ds := nrfl rfl
theorem ev_srcT : srcT f ρ = (f ρ).bind srcTK := nrfl rfl
theorem ev_srcT1 : srcTK (.tup ds) = .ok ds := nrfl rfl
theorem ev_comp : compD n fr src tg tt fe ρ = (src ρ).bind (compK n fr tg tt fe ρ) := nrfl rfl
theorem ev_fld {c f : Str} {ks : List Str} : dFld f (.ob (.ins c ks) ds) = (match fldD f ks ds with | some d => .ok d | none => .stuck) := nrfl rfl
theorem ev_fld0 {f k : Str} {ks : List Str} : fldD f (k :: ks) (d :: ds) = if f = k then some d else fldD f ks ds := nrfl rfl
theorem ev_fld1 {f : Str} : fldD f (f :: ks) (d :: ds) = some d := by unfold fldD; rw [if_pos rfl]
theorem ev_fld2 {c : Str} {ks : List Str} (h : (ds.length == ks.length) = true) : mIns c ks ds = .ok (.ob (.ins c ks) ds) := if_pos (eq_of_beq h)
theorem ev_lI : dIndexA f g ρ = (f ρ).bind (liK g ρ) := nrfl rfl
theorem ev_lI1 : liK g ρ (.lst ds) = (g ρ).bind (dIndex (.lst ds)) := nrfl rfl
theorem ev_gU {is : List Nat} (h : (ds.length == is.length) = true) : gUnp is ρ (.tup ds) = .ok (setAll ρ is ds) := by
  show (match (if ds.length = is.length then some ds else none) with | some ds => Res.ok (setAll ρ is ds) | none => .stuck) = _
  rw [if_pos (eq_of_beq h)]
theorem ev_fr1 : aFr f fa ρ = (f ρ).bind (frK fa ρ) := nrfl (by unfold aFr; cases f ρ with | ok x => cases x <;> rfl | _ => rfl)
theorem ev_fr2 : frK fa ρ (.lst ds) = (fa ρ).bind (cons2K (.lst ds)) := nrfl rfl
theorem ev_ownT : sOwnT i j fa ρ = (fa ρ).bind (ownT i j ρ) := nrfl rfl
theorem ev_clrAt : sClrAt i j ρ = clrAt i j ρ ρ[i]? := nrfl rfl
theorem ev_clrAt1 : clrAt i j ρ (some (.ox j ds)) = .ok (.nx (ρ.set i (.ox j (ds.set j (.lst []))))) := if_pos rfl
theorem ev_gS : gSet i ρ d = .ok (ρ.set i (.sh d)) := nrfl rfl
theorem ev_forR : sForR f tg s ρ = (f (shr ρ)).bind (forRK tg s ρ) := nrfl rfl
theorem forR_nat {k : Nat} (h : k ≤ 1000000) : forRK tg s ρ (.int (k : Int)) = forD tg s (intsFrom 0 k) ρ := by
  unfold forRK
  dsimp only
  rw [if_pos ⟨by omega, by omega⟩, Int.toNat_natCast]
theorem ev_slT {l h : Option Int} (c : (HT.sIx ds.length 0 l == 0 && HT.sIx ds.length ds.length h == ds.length) = false) : slK2 (.tup ds) l h = .ok (.tup (cutD ds l h)) := by
  show (if _ then _ else _) = _
  rw [if_neg (fun z => by rw [z.1, z.2] at c; simp at c)]
theorem ev_addT {x : D} (h : decide (ds.length + es.length ≤ 1000) = true) : dAdd (.tup (x :: ds)) (.tup es) = .ok (.tup (x :: ds ++ es)) := by
  refine if_pos ⟨rfl, ?_⟩
  have := of_decide_eq_true h
  show ds.length + 1 + es.length ≤ line
  have : (1001 : Nat) ≤ line := by decide
  omega
theorem ev_addS {x y : Str} (h : decide (x.length + y.length ≤ 1000) = true) : dAdd (.str x) (.str y) = .ok (.str (x ++ y)) := if_pos (Nat.le_trans (of_decide_eq_true h) (by decide))
theorem ev_lenS {z : Str} (h : decide (z.length ≤ 1000) = true) : dLen (.str z) = .ok (.int z.length) := if_pos (Nat.le_trans (of_decide_eq_true h) (by decide))
theorem ev_mx : dMax (.int a) (.int b) = .ok (.int (if b > a then b else a)) := nrfl rfl
theorem ev_io : dIntOf (.bl true) = .ok (.int 1) := nrfl rfl
theorem ev_io1 : dIntOf (.bl false) = .ok (.int 0) := nrfl rfl
theorem ev_li : dList (.lst ds) = .ok (.lst ds) := nrfl rfl
theorem ev_li1 : dList (.tup ds) = .ok (.lst ds) := nrfl rfl
theorem ev_p18 : dPow (.int 10) (.int 18) = .ok (.int 1000000000000000000) := nrfl rfl
theorem ev_p9 : dPow (.int 10) (.int 9) = .ok (.int 1000000000) := nrfl rfl
theorem comp_map {F : D → D} (hl : ds.length ≤ 1000000) (h : ∀ d ∈ ds, ∃ ρ1, tg (baseD n fr ρ) d = .ok ρ1 ∧ tt ρ1 = .ok (.bl true) ∧ fe ρ1 = .ok (F d)) : compK n fr tg tt fe ρ ds = .ok (.lst (ds.map F)) := by
  unfold compK
  rw [if_pos (show ds.length ≤ line from hl), collD_map h]
theorem coll_filter {B : Ev} {F : D → D} {p : D → Bool} : ∀ {ds : List D}, (∀ d ∈ ds, ∃ ρ1, tg B d = .ok ρ1 ∧ tt ρ1 = .ok (.bl (p d)) ∧ (p d = true → fe ρ1 = .ok (F d))) → collD B tg tt fe ds = .ok ((ds.filter p).map F)
  | [], _ => rfl
  | d :: ds, h => by
    obtain ⟨ρ1, h1, h2, h3⟩ := h d List.mem_cons_self
    have ih := coll_filter (ds := ds) fun d hd => h d (List.mem_cons_of_mem _ hd)
    unfold collD
    rw [h1, bok, h2, bok]
    cases hp : p d with
    | true =>
      show (fe ρ1).bind _ = _
      rw [h3 hp, bok, ih, bok, List.filter_cons_of_pos hp]
      rfl
    | false =>
      show collD B tg tt fe ds = _
      rw [ih, List.filter_cons_of_neg (by rw [hp]; decide)]
theorem comp_filter {F : D → D} {p : D → Bool} (hl : ds.length ≤ 1000000) (h : ∀ d ∈ ds, ∃ ρ1, tg (baseD n fr ρ) d = .ok ρ1 ∧ tt ρ1 = .ok (.bl (p d)) ∧ (p d = true → fe ρ1 = .ok (F d))) : compK n fr tg tt fe ρ ds = .ok (.lst ((ds.filter p).map F)) := by
  unfold compK
  rw [if_pos (show ds.length ≤ line from hl), coll_filter h]
end
end Com
set_option Elab.async false
set_option linter.all false
set_option maxRecDepth 100000
local macro_rules | `(tactic| open_line with [$xs,*]) => `(tactic| simp only [Com.ev_ok, Com.ev_seq, Com.ev_seq1, Com.ev_seq2, Com.ev_seq3, Com.ev_seq4, Com.ev_next, Com.ev_set, Com.ev_set1, Com.ev_ret, Com.ev_ret1, Com.ev_retN, Com.ev_drop, Com.ev_drop1, Com.ev_if, Com.ev_if1, Com.ev_if2, Com.ev_own, Com.ev_own1, Com.ev_app, Com.ev_ownS, Com.ev_appL, Com.ev_put, Com.ev_put1, Com.ev_putL, Com.ev_putL1, Com.ev_frz, Com.ev_unp, Com.ev_par, Com.ev_par1, Com.ev_b1, Com.ev_b2, Com.ev_b21, Com.ev_bA, Com.ev_nil, Com.ev_cons, Com.ev_cons1, Com.ev_cons2, Com.ev_and, Com.ev_and1, Com.ev_and2, Com.ev_or, Com.ev_or1, Com.ev_or2, Com.ev_not, Com.ev_not1, Com.ev_ifx, Com.ev_ifx1, Com.ev_ifx2, Com.ev_var, Com.ev_var1, Com.ev_C, Com.ev_shr0, Com.ev_shr, Com.ev_shr1, Com.ev_shr2, Com.ev_shr3, Com.ev_shr4, Com.ev_fr1, Com.ev_fr2, Com.ev_frc, Com.ev_ownT, Com.ev_clrAt, Com.ev_clrAt1, Com.ev_run, Com.ev_run1, Com.ev_run2, Com.ev_os, Com.ev_os1, Com.ev_on, Com.ev_sl, Com.ev_sl0, Com.ev_sl1, Com.ev_sl2, Com.ev_for, Com.ev_for1, Com.ev_chain, Com.ev_ch, Com.ev_ch1, Com.ev_ch2, Com.ev_ch3, Com.ev_iop, Com.ev_add, Com.ev_neg, Com.ev_m1, Com.ev_m2, Com.ev_lenL, Com.ev_lenT, Com.ev_p60, Com.eq_int, Com.ne_int, List.map_cons, List.map_nil, List.length_cons, List.length_nil, List.replicate_succ, List.replicate_zero, List.nil_append, List.cons_append, List.getElem?_cons_zero, List.getElem?_cons_succ, List.set_cons_zero, List.set_cons_succ, Nat.sub_zero, Nat.reduceSub, Nat.reduceAdd, Nat.add_zero, Nat.zero_add, Bool.not_true, Bool.not_false, Com.ev_tup, Com.ev_lst, Com.ev_addL, Com.ev_app1, Com.ev_appL1, Com.ev_mod, Com.ev_unpL, Com.ev_unpT, Com.ev_sa, Com.ev_sa0, Com.ev_un, Com.ev_un1, Com.ev_un2, Com.ev_un3, Com.ev_ixL0, Com.ev_ixL1, Com.ev_ixL2, Com.ev_ixL3, Com.ev_ixL4, Com.ev_ixL5, Com.ev_ixL6, Com.ev_ixL7, Com.ev_ixL8, Com.ev_ixL9, Com.ev_ixL10, Com.ev_ixL11, Com.ev_ixL12, Com.ev_ixL13, Com.ev_ixT0, Com.ev_ixT1, Com.ev_ixT2, Com.ev_ixT3, Com.ev_ixT4, Com.ev_ixT5, decide_true, decide_false, Nat.reduceLeDiff, Nat.reduceBEq, Int.reduceBEq, beq_self_eq_true, DL.dOne, DL.mYes, Com.ev_is_bool_non, Com.ev_is_bool_bl, Com.ev_is_bool_int, Com.ev_is_bool_str, Com.ev_is_bool_tup, Com.ev_is_bool_lst, Com.ev_is_bool_dic, Com.ev_is_int_non, Com.ev_is_int_bl, Com.ev_is_int_int, Com.ev_is_int_str, Com.ev_is_int_tup, Com.ev_is_int_lst, Com.ev_is_int_dic, Com.ev_is_str_non, Com.ev_is_str_bl, Com.ev_is_str_int, Com.ev_is_str_str, Com.ev_is_str_tup, Com.ev_is_str_lst, Com.ev_is_str_dic, Com.ev_is_tuple_non, Com.ev_is_tuple_bl, Com.ev_is_tuple_int, Com.ev_is_tuple_str, Com.ev_is_tuple_tup, Com.ev_is_tuple_lst, Com.ev_is_tuple_dic, Com.ev_is_list_non, Com.ev_is_list_bl, Com.ev_is_list_int, Com.ev_is_list_str, Com.ev_is_list_tup, Com.ev_is_list_lst, Com.ev_is_list_dic, Com.ev_is_dict_non, Com.ev_is_dict_bl, Com.ev_is_dict_int, Com.ev_is_dict_str, Com.ev_is_dict_tup, Com.ev_is_dict_lst, Com.ev_is_dict_dic, Com.ev_isN_non, Com.ev_notN_non, Com.ev_isN_bl, Com.ev_notN_bl, Com.ev_isN_int, Com.ev_notN_int, Com.ev_isN_str, Com.ev_notN_str, Com.ev_isN_tup, Com.ev_notN_tup, Com.ev_isN_lst, Com.ev_notN_lst, Com.ev_isN_dic, Com.ev_notN_dic, Com.ev_c0, Com.ev_c1, Com.ev_c2, Com.ev_c3, Com.ev_c4, Com.ev_c5, Com.ev_c6, Com.ev_c7, Com.ev_c8, Com.ev_c9, Com.ev_c10, Com.ev_c11, Int.reduceLT, Int.reduceLE, Int.reduceSub, Int.reduceAdd, Int.reduceMul, Int.reduceNeg, Com.ev_join, Com.ev_join1, Com.ev_pt0, Com.ev_pt1, Com.ev_pt2, Com.ev_pt3, Com.ev_pt4, Com.ev_rep, Com.ev_rep1, Com.ev_rep2, Int.reduceToNat, Bool.and_self, Com.ev_forI, Com.ev_forI1, Com.ev_srcE, Com.ev_srcE1, Com.ev_srcL, Com.ev_srcL1, Com.ev_srcT, Com.ev_srcT1, Com.ev_comp, Com.ev_fld, Com.ev_fld0, Com.ev_fld1, Com.ev_fld2, Com.ev_lI, Com.ev_lI1, Com.ev_gU, Com.ev_forR, Com.ev_slT, Com.ev_addT, Com.ev_addS, Com.ev_lenS, Com.ev_mx, Com.ev_io, Com.ev_io1, Com.ev_li, Com.ev_li1, Com.ev_gS, Com.ev_p18, Com.ev_p9, $[$xs:term],*])
local macro_rules | `(tactic| open_line with [$xs,*] seeing $h) => `(tactic| simp only [Com.ev_ok, Com.ev_seq, Com.ev_seq1, Com.ev_seq2, Com.ev_seq3, Com.ev_seq4, Com.ev_next, Com.ev_set, Com.ev_set1, Com.ev_ret, Com.ev_ret1, Com.ev_retN, Com.ev_drop, Com.ev_drop1, Com.ev_if, Com.ev_if1, Com.ev_if2, Com.ev_own, Com.ev_own1, Com.ev_app, Com.ev_ownS, Com.ev_appL, Com.ev_put, Com.ev_put1, Com.ev_putL, Com.ev_putL1, Com.ev_frz, Com.ev_unp, Com.ev_par, Com.ev_par1, Com.ev_b1, Com.ev_b2, Com.ev_b21, Com.ev_bA, Com.ev_nil, Com.ev_cons, Com.ev_cons1, Com.ev_cons2, Com.ev_and, Com.ev_and1, Com.ev_and2, Com.ev_or, Com.ev_or1, Com.ev_or2, Com.ev_not, Com.ev_not1, Com.ev_ifx, Com.ev_ifx1, Com.ev_ifx2, Com.ev_var, Com.ev_var1, Com.ev_C, Com.ev_shr0, Com.ev_shr, Com.ev_shr1, Com.ev_shr2, Com.ev_shr3, Com.ev_shr4, Com.ev_fr1, Com.ev_fr2, Com.ev_frc, Com.ev_ownT, Com.ev_clrAt, Com.ev_clrAt1, Com.ev_run, Com.ev_run1, Com.ev_run2, Com.ev_os, Com.ev_os1, Com.ev_on, Com.ev_sl, Com.ev_sl0, Com.ev_sl1, Com.ev_sl2, Com.ev_for, Com.ev_for1, Com.ev_chain, Com.ev_ch, Com.ev_ch1, Com.ev_ch2, Com.ev_ch3, Com.ev_iop, Com.ev_add, Com.ev_neg, Com.ev_m1, Com.ev_m2, Com.ev_lenL, Com.ev_lenT, Com.ev_p60, Com.eq_int, Com.ne_int, List.map_cons, List.map_nil, List.length_cons, List.length_nil, List.replicate_succ, List.replicate_zero, List.nil_append, List.cons_append, List.getElem?_cons_zero, List.getElem?_cons_succ, List.set_cons_zero, List.set_cons_succ, Nat.sub_zero, Nat.reduceSub, Nat.reduceAdd, Nat.add_zero, Nat.zero_add, Bool.not_true, Bool.not_false, Com.ev_tup, Com.ev_lst, Com.ev_addL, Com.ev_app1, Com.ev_appL1, Com.ev_mod, Com.ev_unpL, Com.ev_unpT, Com.ev_sa, Com.ev_sa0, Com.ev_un, Com.ev_un1, Com.ev_un2, Com.ev_un3, Com.ev_ixL0, Com.ev_ixL1, Com.ev_ixL2, Com.ev_ixL3, Com.ev_ixL4, Com.ev_ixL5, Com.ev_ixL6, Com.ev_ixL7, Com.ev_ixL8, Com.ev_ixL9, Com.ev_ixL10, Com.ev_ixL11, Com.ev_ixL12, Com.ev_ixL13, Com.ev_ixT0, Com.ev_ixT1, Com.ev_ixT2, Com.ev_ixT3, Com.ev_ixT4, Com.ev_ixT5, decide_true, decide_false, Nat.reduceLeDiff, Nat.reduceBEq, Int.reduceBEq, beq_self_eq_true, DL.dOne, DL.mYes, Com.ev_is_bool_non, Com.ev_is_bool_bl, Com.ev_is_bool_int, Com.ev_is_bool_str, Com.ev_is_bool_tup, Com.ev_is_bool_lst, Com.ev_is_bool_dic, Com.ev_is_int_non, Com.ev_is_int_bl, Com.ev_is_int_int, Com.ev_is_int_str, Com.ev_is_int_tup, Com.ev_is_int_lst, Com.ev_is_int_dic, Com.ev_is_str_non, Com.ev_is_str_bl, Com.ev_is_str_int, Com.ev_is_str_str, Com.ev_is_str_tup, Com.ev_is_str_lst, Com.ev_is_str_dic, Com.ev_is_tuple_non, Com.ev_is_tuple_bl, Com.ev_is_tuple_int, Com.ev_is_tuple_str, Com.ev_is_tuple_tup, Com.ev_is_tuple_lst, Com.ev_is_tuple_dic, Com.ev_is_list_non, Com.ev_is_list_bl, Com.ev_is_list_int, Com.ev_is_list_str, Com.ev_is_list_tup, Com.ev_is_list_lst, Com.ev_is_list_dic, Com.ev_is_dict_non, Com.ev_is_dict_bl, Com.ev_is_dict_int, Com.ev_is_dict_str, Com.ev_is_dict_tup, Com.ev_is_dict_lst, Com.ev_is_dict_dic, Com.ev_isN_non, Com.ev_notN_non, Com.ev_isN_bl, Com.ev_notN_bl, Com.ev_isN_int, Com.ev_notN_int, Com.ev_isN_str, Com.ev_notN_str, Com.ev_isN_tup, Com.ev_notN_tup, Com.ev_isN_lst, Com.ev_notN_lst, Com.ev_isN_dic, Com.ev_notN_dic, Com.ev_c0, Com.ev_c1, Com.ev_c2, Com.ev_c3, Com.ev_c4, Com.ev_c5, Com.ev_c6, Com.ev_c7, Com.ev_c8, Com.ev_c9, Com.ev_c10, Com.ev_c11, Int.reduceLT, Int.reduceLE, Int.reduceSub, Int.reduceAdd, Int.reduceMul, Int.reduceNeg, Com.ev_join, Com.ev_join1, Com.ev_pt0, Com.ev_pt1, Com.ev_pt2, Com.ev_pt3, Com.ev_pt4, Com.ev_rep, Com.ev_rep1, Com.ev_rep2, Int.reduceToNat, Bool.and_self, Com.ev_forI, Com.ev_forI1, Com.ev_srcE, Com.ev_srcE1, Com.ev_srcL, Com.ev_srcL1, Com.ev_srcT, Com.ev_srcT1, Com.ev_comp, Com.ev_fld, Com.ev_fld0, Com.ev_fld1, Com.ev_fld2, Com.ev_lI, Com.ev_lI1, Com.ev_gU, Com.ev_forR, Com.ev_slT, Com.ev_addT, Com.ev_addS, Com.ev_lenS, Com.ev_mx, Com.ev_io, Com.ev_io1, Com.ev_li, Com.ev_li1, Com.ev_gS, Com.ev_p18, Com.ev_p9, $[$xs:term],*] at $(⟨h⟩):ident)
namespace Com
open PySem L2 DL
theorem low_nonneg {a b : Int} (ha : 0 ≤ a) (hb : 0 < b) : 0 ≤ (low a b).1 := Int.ediv_nonneg ha (by omega)
theorem fin60_int {a : Int} (h0 : 0 ≤ a) (h1 : a < (N60 : Int)) : Fin60 (a, 1) := ⟨⟨by show (1 : Int) ≤ 1; decide, by show Int.gcd a 1 = 1; exact Int.gcd_one_right ..⟩, by show a.natAbs < N60; omega, by show (1 : Int).natAbs < N60; decide⟩
theorem lt13 {a : Int} (h0 : 0 ≤ a) (h1 : a < (N60 : Int)) : a.natAbs < B13 := Nat.lt_of_lt_of_le (show a.natAbs < N60 by omega) N60_B13
theorem for_rng {i : Nat} {body : Ev → Res Fl} (P : Nat → Ev → Prop) {n : Nat} (h : ∀ k, k < n → ∀ ρ, P k ρ → ∃ ρ2, body (ρ.set i (.sh (.int (k : Int)))) = .ok (.nx ρ2) ∧ P (k + 1) ρ2) {ρ : Ev} (h0 : P 0 ρ) : ∃ ρ', forD (gSet i) body (intsFrom 0 n) ρ = .ok (.nx ρ') ∧ P n ρ' := by
  have key : ∀ (m k : Nat) (ρ : Ev), k + m = n → P k ρ → ∃ ρ', forD (gSet i) body ((intsFrom 0 n).drop k) ρ = .ok (.nx ρ') ∧ P n ρ' := by
    intro m
    induction m with
    | zero =>
      intro k ρ hk hp
      have : k = n := by omega
      subst this
      rw [ints_end]
      exact ⟨ρ, rfl, hp⟩
    | succ m ih =>
      intro k ρ hk hp
      obtain ⟨ρ2, h1, h2⟩ := h k (by omega) ρ hp
      rw [ints_drop (by omega), forD_nx (tg := gSet i) rfl h1]
      exact ih (k + 1) ρ2 (by omega) h2
  exact key n 0 ρ (by omega) h0
theorem for_lst {tg : Ev → D → Res Ev} {body : Ev → Res Fl} {ds : List D} (P : Nat → Ev → Prop) (h : ∀ k d, ds[k]? = some d → ∀ ρ, P k ρ → ∃ ρ1 ρ2, tg ρ d = .ok ρ1 ∧ body ρ1 = .ok (.nx ρ2) ∧ P (k + 1) ρ2) {ρ : Ev} (h0 : P 0 ρ) : ∃ ρ', forD tg body ds ρ = .ok (.nx ρ') ∧ P ds.length ρ' := by
  have key : ∀ (m k : Nat) (ρ : Ev), k + m = ds.length → P k ρ → ∃ ρ', forD tg body (ds.drop k) ρ = .ok (.nx ρ') ∧ P ds.length ρ' := by
    intro m
    induction m with
    | zero =>
      intro k ρ hk hp
      have : k = ds.length := by omega
      subst this
      rw [List.drop_length]
      exact ⟨ρ, rfl, hp⟩
    | succ m ih =>
      intro k ρ hk hp
      have hlt : k < ds.length := by omega
      obtain ⟨ρ1, ρ2, h1, h2, h3⟩ := h k ds[k] (List.getElem?_eq_getElem hlt) ρ hp
      rw [List.drop_eq_getElem_cons hlt, forD_nx h1 h2]
      exact ih (k + 1) ρ2 (by omega) h3
  exact key ds.length 0 ρ (by omega) h0
structure Drawn (sz vs : List Int) : Prop where
  len : vs.length = sz.length
  bnd : ∀ (i : Nat) (v s : Int), vs[i]? = some v → sz[i]? = some s → 0 ≤ v ∧ v < s
theorem Drawn.at {sz vs : List Int} (W : Drawn sz vs) (i : Nat) {s : Int} (h : sz[i]? = some s) : ∃ v, vs[i]? = some v ∧ (0 ≤ v ∧ v < s) ∧ dIx (.lst (vs.map D.int)) (.int (i : Int)) = .ok (.int v) := by
  have hi : i < vs.length := by rw [W.len]; exact (List.getElem?_eq_some_iff.mp h).1
  refine ⟨vs[i], List.getElem?_eq_getElem hi, W.bnd i _ _ (List.getElem?_eq_getElem hi) h, ix_lst ?_⟩
  rw [List.getElem?_map, List.getElem?_eq_getElem hi]; rfl
theorem Drawn.ix {sz vs : List Int} (W : Drawn sz vs) (k : Int) (i : Nat) {s : Int} (hk : k = (i : Int)) (h : sz[i]? = some s) : ∃ v, vs[i]? = some v ∧ (0 ≤ v ∧ v < s) ∧ dIx (.lst (vs.map D.int)) (.int k) = .ok (.int v) := by
  subst hk; exact W.at i h
theorem abc_cps : ("abcdefghijklmnopqrstuvwxyz" : Str).cps.toList = (List.range 26).map (97 + ·) := by decide +kernel
theorem abc_in : ∀ n, n < 26 → inAbc (97 + n) = true := by decide +kernel
theorem abc_ix {v : Int} (h0 : 0 ≤ v) (h1 : v < 26) : dIx (.str "abcdefghijklmnopqrstuvwxyz") (.int v) = .ok (.str ⟨#[97 + v.toNat]⟩) := by
  obtain ⟨n, rfl⟩ := Int.eq_ofNat_of_zero_le h0
  have hn : n < 26 := by omega
  have e : atI ("abcdefghijklmnopqrstuvwxyz" : Str).cps.toList ((n : Nat) : Int) = some (97 + n) := atI_nat (by rw [abc_cps]; simp [hn])
  show (if ("abcdefghijklmnopqrstuvwxyz" : Str).length ≤ line then (match atI ("abcdefghijklmnopqrstuvwxyz" : Str).cps.toList ((n : Nat) : Int) with | some c => Res.ok (D.str ⟨#[c]⟩) | none => .stuck) else .stuck) = _
  rw [if_pos (by decide), e]
  rfl
theorem join_cs : ∀ cs : List Nat, Str.join "" (cs.map fun c => (⟨#[c]⟩ : Str)) = ⟨cs.toArray⟩
  | [] => rfl
  | [c] => rfl
  | c :: d :: cs => by
    show (⟨#[c]⟩ : Str) ++ "" ++ Str.join "" ((d :: cs).map fun c => (⟨#[c]⟩ : Str)) = _
    rw [join_cs (d :: cs)]
    apply Str.ext'
    show (#[c] ++ ("" : Str).cps) ++ (d :: cs).toArray = _
    have : ("" : Str).cps = #[] := rfl
    rw [this]
    simp
theorem strs_cs : ∀ cs : List Nat, strsOf (cs.map fun c => D.str ⟨#[c]⟩) = some (cs.map fun c => (⟨#[c]⟩ : Str))
  | [] => rfl
  | c :: cs => by
    show (strsOf (cs.map fun c => D.str ⟨#[c]⟩)).map _ = _
    rw [strs_cs cs]; rfl
theorem join_sings {cs : List Nat} (h : cs.length ≤ 1000) : joinD "" [.lst (cs.map fun c => D.str ⟨#[c]⟩)] = .ok (.str ⟨cs.toArray⟩) := by
  have fit : joinFit "" (cs.map fun c => (⟨#[c]⟩ : Str)) = true := by
    unfold joinFit
    have e : ((cs.map fun c => (⟨#[c]⟩ : Str)).map (·.length)).sum = cs.length := by
      clear h
      induction cs with
      | nil => rfl
      | cons c cs ih =>
        simp only [List.map_cons, List.sum_cons, List.length_cons, ih]
        show 1 + cs.length = _
        omega
    rw [e, Bool.and_eq_true]
    exact ⟨by decide, decide_eq_true (by rw [List.length_map]; omega)⟩
  show (match strsOf (cs.map fun c => D.str ⟨#[c]⟩) with | some ys => if joinFit "" ys = true then Res.ok (D.str (Txt.join "" ys)) else .stuck | none => .stuck) = _
  rw [strs_cs]
  show (if joinFit "" _ = true then Res.ok (D.str (Txt.join "" _)) else .stuck) = _
  rw [if_pos fit]
  show Res.ok (D.str (Builtin.Str.glued "" _)) = _
  rw [StrLaws.glued_eq_join, join_cs]
theorem slice_to {cs : List Nat} {b : Nat} (hb : b ≤ cs.length) : Txt.slice ⟨cs.toArray⟩ none (some (b : Int)) = ⟨(cs.take b).toArray⟩ := by
  have := StrLaws.sliceText_to (x := ⟨cs.toArray⟩) (j := (b : Int)) ⟨by omega, by simpa using hb⟩
  refine Eq.trans this ?_
  simp
end Com
set_option Elab.async false
set_option linter.all false
set_option maxRecDepth 100000
namespace Com
open PySem L2 DL
structure NamesOk (zs : List Str) : Prop where
  nd : zs.Nodup
  nm : ∀ z ∈ zs, nameB z = true
theorem add_strs {x y : Str} (h : x.length + y.length ≤ 1000) : dAdd (.str x) (.str y) = .ok (.str (x ++ y)) := if_pos (Nat.le_trans h (by decide))
theorem cs_append (a b : List Nat) : (⟨a.toArray⟩ : Str) ++ ⟨b.toArray⟩ = ⟨(a ++ b).toArray⟩ := by
  apply Str.ext'
  show a.toArray ++ b.toArray = _
  simp
theorem cs_len (a : List Nat) : (⟨a.toArray⟩ : Str).length = a.length := by show a.toArray.size = _; simp
theorem sl_strs {z : Str} {l h : Option Int} (hz : z.length ≤ 1000) : slK2 (.str z) l h = .ok (.str (Txt.slice z l h)) := by
  show (if z.length ≤ line then _ else _) = _
  rw [if_pos (Nat.le_trans hz (by decide))]
end Com
set_option Elab.async false
set_option linter.all false
set_option maxRecDepth 100000
namespace Com
open PySem L2 DL
structure Tie where
  a : Str
  b : Str
  w : Str
  l : Fra
  o : Option Fra
def worthO : Option Fra → D
  | none => .non
  | some x => fr x
def tieD (t : Tie) : D := .tup [.str t.a, .str t.b, .str t.w, fr t.l, worthO t.o]
structure TieOk (zs : List Str) (t : Tie) : Prop where
  a : t.a ∈ zs
  b : t.b ∈ zs
  ne : t.a ≠ t.b
  w : t.w = "one" ∨ t.w = "both"
  l : Fin60 t.l
  l0 : 0 ≤ t.l.1
  o : ∀ x, t.o = some x → Fin60 x ∧ 0 < x.1
theorem take3 {α : Type} {vs : List α} {i : Nat} {a b c : α} (h0 : vs[i]? = some a) (h1 : vs[i + 1]? = some b) (h2 : vs[i + 2]? = some c) : (vs.drop i).take 3 = [a, b, c] := by
  apply List.ext_getElem?
  intro j
  rcases j with _ | _ | _ | j
  · rw [List.getElem?_take_of_lt (by decide), List.getElem?_drop]; simpa using h0
  · rw [List.getElem?_take_of_lt (by decide), List.getElem?_drop]; simpa using h1
  · rw [List.getElem?_take_of_lt (by decide), List.getElem?_drop]; simpa using h2
  · rw [List.getElem?_eq_none (by simp; omega)]; simp
theorem cut_ints {vs : List Int} {a b : Nat} {x y : Int} (hx : x = (a : Int)) (hy : y = (b : Int)) (h : b ≤ vs.length) (hab : a ≤ b) : cutD (vs.map D.int) (some x) (some y) = ((vs.drop a).take (b - a)).map D.int := by
  subst hx hy
  rw [cut_sub, HT.sIx_nat, HT.sIx_nat, Nat.min_eq_left h, Nat.min_eq_left (Nat.le_trans hab h)]
theorem cut3 {vs : List Int} {i : Nat} {x y : Int} {a b c : Int} (hx : x = (i : Int)) (hy : y = ((i + 3 : Nat) : Int)) (h0 : vs[i]? = some a) (h1 : vs[i + 1]? = some b) (h2 : vs[i + 2]? = some c) : cutD (vs.map D.int) (some x) (some y) = [.int a, .int b, .int c] := by
  have hl : i + 3 ≤ vs.length := by have := (List.getElem?_eq_some_iff.mp h2).1; omega
  rw [cut_ints hx hy hl (by omega), show i + 3 - i = 3 by omega, take3 h0 h1 h2]
  rfl
theorem str_ix {zs : List Str} {k : Int} (h0 : 0 ≤ k) (h1 : k < zs.length) : ∃ z, zs[k.toNat]? = some z ∧ dIx (.lst (zs.map D.str)) (.int k) = .ok (.str z) := by
  obtain ⟨n, rfl⟩ := Int.eq_ofNat_of_zero_le h0
  have hn : n < zs.length := by omega
  refine ⟨zs[n], by simp [hn], ix_lst ?_⟩
  rw [List.getElem?_map, List.getElem?_eq_getElem hn]; rfl
theorem word_ix {k : Int} (h0 : 0 ≤ k) (h1 : k < 2) : ∃ z : Str, (z = "one" ∨ z = "both") ∧ dIx (.lst [.str "one", .str "both"]) (.int k) = .ok (.str z) := by
  have : k = 0 ∨ k = 1 := by omega
  rcases this with rfl | rfl
  · exact ⟨_, .inl rfl, ev_ixL0⟩
  · exact ⟨_, .inr rfl, ev_ixL1⟩
theorem apart_mod {n d e : Int} (h2 : 2 ≤ n) (d0 : 0 ≤ d) (d1 : d < n) (e0 : 0 ≤ e) (e1 : e < n - 1) : (0 ≤ (d + 1 + e).fmod n ∧ (d + 1 + e).fmod n < n) ∧ (d + 1 + e).fmod n ≠ d := by
  refine ⟨fmodr (by omega), ?_⟩
  rw [Int.fmod_eq_emod_of_nonneg _ (by omega)]
  by_cases h : d + 1 + e < n
  · rw [Int.emod_eq_of_lt (by omega) h]; omega
  · have : (d + 1 + e) % n = d + 1 + e - n := by
      rw [← Int.sub_emod_right (d + 1 + e) n, Int.emod_eq_of_lt (by omega) (by omega)]
    rw [this]; omega
theorem nodup_at {α : Type} {zs : List α} (nd : zs.Nodup) {i j : Nat} {x y : α} (hi : zs[i]? = some x) (hj : zs[j]? = some y) (hij : i ≠ j) : x ≠ y := by
  intro e
  subst e
  obtain ⟨h1, e1⟩ := List.getElem?_eq_some_iff.mp hi
  obtain ⟨h2, e2⟩ := List.getElem?_eq_some_iff.mp hj
  exact hij ((List.getElem_inj nd).mp (e1.trans e2.symm))
end Com
set_option Elab.async false
set_option linter.all false
set_option maxRecDepth 100000
namespace Com
open PySem L2 DL
def b_is_length : Ev → Res Fl :=
  (sSeq (sRet (dAnd (bindA (aCons (dVar 0) aNil) m_is_ratio) (bind2 (bind2 (dVar 0) (dC (.int 0)) dIx) (dC (.int 0)) dGe)))
  sNext)
def m_is_length : List D → Res D := runD 1 b_is_length
def b_is_worth : Ev → Res Fl :=
  (sSeq (sRet (dOr (bind2 (dVar 0) (dC (.non)) dIsN) (dAnd (bindA (aCons (dVar 0) aNil) m_is_ratio) (bind2 (bind2 (dVar 0) (dC (.int 0)) dIx) (dC (.int 0)) dGt))))
  sNext)
def m_is_worth : List D → Res D := runD 1 b_is_worth
def b_is_tie : Ev → Res Fl :=
  (sSeq (sIf (dOr (dNot (bind1 (dVar 0) (dIsI "tuple"))) (bind2 (bindA (aCons (dVar 0) aNil) (m1 dLen)) (dC (.int 5)) dNe))
  (sSeq (sRet (dC (.bl false)))
  sNext)
  sNext)
  (sSeq (sIf (dOr (dNot (bindA (aCons (bind2 (dVar 0) (dC (.int 0)) dIx) aNil) m_is_name)) (dOr (dNot (bindA (aCons (bind2 (dVar 0) (dC (.int 1)) dIx) aNil) m_is_name)) (bind2 (bind2 (dVar 0) (dC (.int 0)) dIx) (bind2 (dVar 0) (dC (.int 1)) dIx) dEq)))
  (sSeq (sRet (dC (.bl false)))
  sNext)
  sNext)
  (sSeq (sIf (dOr (dNot (bind1 (bind2 (dVar 0) (dC (.int 2)) dIx) (dIsI "str"))) (bind2 (bind2 (dVar 0) (dC (.int 2)) dIx) (dC (.tup [(.str "one"), (.str "both")])) dNotIn))
  (sSeq (sRet (dC (.bl false)))
  sNext)
  sNext)
  (sSeq (sRet (dAnd (bindA (aCons (bind2 (dVar 0) (dC (.int 3)) dIx) aNil) m_is_length) (bindA (aCons (bind2 (dVar 0) (dC (.int 4)) dIx) aNil) m_is_worth)))
  sNext))))
def m_is_tie : List D → Res D := runD 1 b_is_tie
def b_look_at_places : Ev → Res Fl :=
  (sSeq (sIf (dOr (dNot (bind1 (dVar 0) (dIsI "list"))) (dNot (dChain dLe dLe (dC (.int 2)) (bindA (aCons (dVar 0) aNil) (m1 dLen)) (dC (.int 7)))))
  (sSeq sStuck
  sNext)
  sNext)
  (sSeq (sForI (srcE (dVar 0)) (gUnp [1, 2])
  (sSeq (sIf (dOr (dNot (bindA (aCons (dVar 2) aNil) m_is_name)) (bind2 (dVar 2) (dSlA (dVar 0) oNone (oSome (dVar 1))) dIn))
  (sSeq sStuck
  sNext)
  sNext)
  sNext))
  sNext))
def m_look_at_places : List D → Res D := runD 3 b_look_at_places
def b_look_at_ties : Ev → Res Fl :=
  (sSeq (sIf (dOr (dNot (bind1 (dVar 0) (dIsI "list"))) (bind2 (bindA (aCons (dVar 0) aNil) (m1 dLen)) (dC (.int 14)) dGt))
  (sSeq sStuck
  sNext)
  sNext)
  (sSeq (sForI (srcE (dVar 0)) (gUnp [2, 3])
  (sSeq (sIf (dOr (dNot (bindA (aCons (dVar 3) aNil) m_is_tie)) (dOr (bind2 (bind2 (dVar 3) (dC (.int 0)) dIx) (dVar 1) dNotIn) (bind2 (bind2 (dVar 3) (dC (.int 1)) dIx) (dVar 1) dNotIn)))
  (sSeq sStuck
  sNext)
  sNext)
  sNext))
  sNext))
def m_look_at_ties : List D → Res D := runD 4 b_look_at_ties
def b_is_place : Ev → Res Fl :=
  (sSeq (sRet (dAnd (bindA (aCons (dVar 0) aNil) m_is_name) (bind2 (dVar 0) (dVar 1) dIn)))
  sNext)
def m_is_place : List D → Res D := runD 2 b_is_place
def b_look_at_web : Ev → Res Fl :=
  (sSeq (sIf (dOr (dNot (bind1 (dVar 0) (dIsI "tuple"))) (bind2 (bindA (aCons (dVar 0) aNil) (m1 dLen)) (dC (.int 4)) dNe))
  (sSeq sStuck
  sNext)
  sNext)
  (sSeq (sDrop (bindA (aCons (bind2 (dVar 0) (dC (.int 0)) dIx) aNil) m_look_at_places))
  (sSeq (sDrop (bindA (aCons (bind2 (dVar 0) (dC (.int 1)) dIx) (aCons (bind2 (dVar 0) (dC (.int 0)) dIx) aNil)) m_look_at_ties))
  (sSeq (sIf (dNot (bindA (aCons (bind2 (dVar 0) (dC (.int 2)) dIx) (aCons (bind2 (dVar 0) (dC (.int 0)) dIx) aNil)) m_is_place))
  (sSeq sStuck
  sNext)
  sNext)
  (sSeq (sIf (dOr (dNot (bindA (aCons (bind2 (dVar 0) (dC (.int 3)) dIx) (aCons (bind2 (dVar 0) (dC (.int 0)) dIx) aNil)) m_is_place)) (bind2 (bind2 (dVar 0) (dC (.int 3)) dIx) (bind2 (dVar 0) (dC (.int 2)) dIx) dEq))
  (sSeq sStuck
  sNext)
  sNext)
  sNext)))))
def m_look_at_web : List D → Res D := runD 1 b_look_at_web
structure Web where
  ps : List Str
  ts : List Tie
  fi : Str
  la : Str
def webD (w : Web) : D := .tup [.lst (w.ps.map D.str), .lst (w.ts.map tieD), .str w.fi, .str w.la]
structure WebOk (w : Web) : Prop where
  n2 : 2 ≤ w.ps.length
  n7 : w.ps.length ≤ 7
  nm : NamesOk w.ps
  t14 : w.ts.length ≤ 14
  ts : ∀ t ∈ w.ts, TieOk w.ps t
  fi : w.fi ∈ w.ps
  la : w.la ∈ w.ps
  ne : w.fi ≠ w.la
theorem name_true {z : Str} (h : nameB z = true) : m_is_name [.str z] = .ok (.bl true) := by
  have hl : z.length ≤ 8 := by
    unfold nameB at h
    simp only [Bool.and_eq_true, decide_eq_true_eq] at h
    exact h.2.1
  rw [is_name_eq (show fit (.str z) = true from decide_eq_true (Nat.le_trans hl (by decide)))]
  show Res.ok (D.bl (nameB z)) = _
  rw [h]
theorem ratio_true {x : Fra} (h : Low x) : m_is_ratio [fr x] = .ok (.bl true) := by
  rw [is_ratio_eqD]
  show Res.ok (D.bl (ratioD (.tup [.int x.1, .int x.2]))) = _
  have h1 := h.q1
  have h2 := h.g1
  show Res.ok (D.bl (decide (1 ≤ x.2) && (Int.gcd x.1 x.2 == 1))) = _
  rw [decide_eq_true h1, h2]; rfl
theorem length_true {x : Fra} (h : Low x) (h0 : 0 ≤ x.1) : m_is_length [fr x] = .ok (.bl true) := by
  have e : fr x = .tup [.int x.1, .int x.2] := rfl
  have h1 := ratio_true h
  rw [e] at h1 ⊢
  open_line with [m_is_length, b_is_length, h1, decide_eq_true h0, decide_eq_true (show x.1 ≥ 0 from h0)]
theorem worth_true {o : Option Fra} (h : ∀ x, o = some x → Low x ∧ 0 < x.1) : m_is_worth [worthO o] = .ok (.bl true) := by
  cases o with
  | none => rfl
  | some x =>
    obtain ⟨hx, h0⟩ := h x rfl
    have e : worthO (some x) = .tup [.int x.1, .int x.2] := rfl
    have h1 := ratio_true hx
    rw [show fr x = .tup [.int x.1, .int x.2] from rfl] at h1
    rw [e]
    open_line with [m_is_worth, b_is_worth, h1, decide_eq_true h0]
theorem eq_strs {x y : Str} : dEq (.str x) (.str y) = .ok (.bl (x == y)) := by unfold dEq; rw [if_pos ⟨rfl, rfl⟩, eqD]
theorem tie_true {zs : List Str} {t : Tie} (nm : NamesOk zs) (h : TieOk zs t) : m_is_tie [tieD t] = .ok (.bl true) := by
  obtain ⟨a, b, w, l, o⟩ := t
  obtain ⟨ha, hb, hne, hw, hl, hl0, ho⟩ := h
  have h1 := name_true (nm.nm a ha)
  have h2 := name_true (nm.nm b hb)
  have h3 := length_true hl.toLow hl0
  have h4 := worth_true (o := o) fun x hx => ⟨(ho x hx).1.toLow, (ho x hx).2⟩
  have h5 : (a == b) = false := beq_eq_false_iff_ne.mpr hne
  have h6 : dNotIn (.str w) (.tup [.str "one", .str "both"]) = .ok (.bl false) := by
    rcases hw with rfl | rfl <;> rfl
  have e : tieD ⟨a, b, w, l, o⟩ = .tup [.str a, .str b, .str w, fr l, worthO o] := rfl
  rw [e]
  open_line with [m_is_tie, b_is_tie, h1, h2, eq_strs, h5, h6, h3, h4]
theorem any_str {zs : List Str} {z : Str} : (zs.map D.str).any (fun d => eqD d (.str z)) = decide (z ∈ zs) := by
  induction zs with
  | nil => rfl
  | cons y zs ih =>
    rw [List.map_cons, List.any_cons, ih]
    show ((y == z) || decide (z ∈ zs)) = _
    by_cases h : y = z
    · subst h; simp
    · have : (y == z) = false := beq_eq_false_iff_ne.mpr h
      rw [this, Bool.false_or]
      have : z ∈ y :: zs ↔ z ∈ zs := by simp [Ne.symm h]
      exact decide_eq_decide.mpr this.symm
theorem shal_strs {n : Nat} {zs : List Str} : (zs.map D.str).all (shal n) = true := List.all_eq_true.mpr fun d hd => by
  obtain ⟨z, _, rfl⟩ := List.mem_map.mp hd
  cases n <;> rfl
theorem in_strs {zs : List Str} {z : Str} : dIn (.str z) (.lst (zs.map D.str)) = .ok (.bl (decide (z ∈ zs))) := by
  have e : inD (.str z) (.lst (zs.map D.str)) = some (decide (z ∈ zs)) := (if_pos ⟨rfl, shal_strs⟩).trans (congrArg some any_str)
  unfold dIn
  rw [e]
theorem notIn_strs {zs : List Str} {z : Str} : dNotIn (.str z) (.lst (zs.map D.str)) = .ok (.bl (!(decide (z ∈ zs)))) := by
  have e : inD (.str z) (.lst (zs.map D.str)) = some (decide (z ∈ zs)) := (if_pos ⟨rfl, shal_strs⟩).trans (congrArg some any_str)
  unfold dNotIn
  rw [e]
theorem place_true {zs : List Str} {z : Str} (h : nameB z = true) (hz : z ∈ zs) : m_is_place [.str z, .lst (zs.map D.str)] = .ok (.bl true) := by
  open_line with [m_is_place, b_is_place, name_true h, in_strs, decide_eq_true hz]
theorem numbered_map {α : Type} {F : α → D} {xs : List α} {k : Nat} {d : D} (h : (numbered 0 (xs.map F))[k]? = some d) : ∃ x, xs[k]? = some x ∧ d = .tup [.int (k : Int), F x] := by
  rw [numbered_get, List.getElem?_map] at h
  cases e : xs[k]? with
  | none => rw [e] at h; cases h
  | some x =>
    rw [e] at h
    cases h
    exact ⟨x, rfl, by simp⟩
theorem cut_to {α : Type} {F : α → D} {xs : List α} {k : Nat} (h : k ≤ xs.length) : cutD (xs.map F) none (some (k : Int)) = (xs.take k).map F := by
  rw [cut_sub, HT.sIx_none, HT.sIx_nat, Nat.min_eq_left h, List.drop_zero, Nat.sub_zero]
theorem places_ok {zs : List Str} (h2 : 2 ≤ zs.length) (h7 : zs.length ≤ 7) (nm : NamesOk zs) : m_look_at_places [.lst (zs.map D.str)] = .ok .non := by
  obtain ⟨ρ', hl, _⟩ := for_lst (ds := numbered 0 (zs.map D.str)) (tg := gUnp [1, 2]) (ρ := [.sh (.lst (zs.map D.str)), .no, .no])
    (body := (sSeq (sIf (dOr (dNot (bindA (aCons (dVar 2) aNil) m_is_name)) (bind2 (dVar 2) (dSlA (dVar 0) oNone (oSome (dVar 1))) dIn)) (sSeq sStuck sNext) sNext) sNext))
    (fun k ρ => ∃ a b, ρ = [.sh (.lst (zs.map D.str)), a, b]) (by
      rintro k d hd ρ ⟨a, b, rfl⟩
      obtain ⟨z, hz, rfl⟩ := numbered_map hd
      refine ⟨_, [.sh (.lst (zs.map D.str)), .sh (.int (k : Int)), .sh (.str z)], ev_gU rfl, ?_, _, _, rfl⟩
      have hk : k < zs.length := (List.getElem?_eq_some_iff.mp hz).1
      have hnot : decide (z ∈ zs.take k) = false := decide_eq_false fun hm => by
        obtain ⟨j, hj⟩ := List.mem_iff_getElem?.mp hm
        have hjk : j < k := by have := (List.getElem?_eq_some_iff.mp hj).1; simp at this; omega
        rw [List.getElem?_take_of_lt hjk] at hj
        exact nodup_at nm.nd hj hz (by omega) rfl
      open_line with [name_true (nm.nm z (List.mem_of_getElem? hz)), cut_to (Nat.le_of_lt hk), in_strs, hnot]) ⟨.no, .no, rfl⟩
  have e1 : decide ((2 : Int) ≤ (zs.length : Int)) = true := decide_eq_true (by omega)
  have e2 : decide ((zs.length : Int) ≤ 7) = true := decide_eq_true (by omega)
  open_line with [m_look_at_places, b_look_at_places, List.length_map, e1, e2, hl]
theorem ties_ok {zs : List Str} {ts : List Tie} (h14 : ts.length ≤ 14) (nm : NamesOk zs) (ht : ∀ t ∈ ts, TieOk zs t) : m_look_at_ties [.lst (ts.map tieD), .lst (zs.map D.str)] = .ok .non := by
  obtain ⟨ρ', hl, _⟩ := for_lst (ds := numbered 0 (ts.map tieD)) (tg := gUnp [2, 3]) (ρ := [.sh (.lst (ts.map tieD)), .sh (.lst (zs.map D.str)), .no, .no])
    (body := (sSeq (sIf (dOr (dNot (bindA (aCons (dVar 3) aNil) m_is_tie)) (dOr (bind2 (bind2 (dVar 3) (dC (.int 0)) dIx) (dVar 1) dNotIn) (bind2 (bind2 (dVar 3) (dC (.int 1)) dIx) (dVar 1) dNotIn))) (sSeq sStuck sNext) sNext) sNext))
    (fun k ρ => ∃ a b, ρ = [.sh (.lst (ts.map tieD)), .sh (.lst (zs.map D.str)), a, b]) (by
      rintro k d hd ρ ⟨a, b, rfl⟩
      obtain ⟨t, ht', rfl⟩ := numbered_map hd
      refine ⟨_, [.sh (.lst (ts.map tieD)), .sh (.lst (zs.map D.str)), .sh (.int (k : Int)), .sh (tieD t)], ev_gU rfl, ?_, _, _, rfl⟩
      have hT := ht t (List.mem_of_getElem? ht')
      have h1 := tie_true nm hT
      rw [show tieD t = .tup [.str t.a, .str t.b, .str t.w, fr t.l, worthO t.o] from rfl] at h1 ⊢
      open_line with [h1, notIn_strs, decide_eq_true hT.a, decide_eq_true hT.b]) ⟨.no, .no, rfl⟩
  have e1 : decide ((14 : Int) < (ts.length : Int)) = false := decide_eq_false (by omega)
  open_line with [m_look_at_ties, b_look_at_ties, List.length_map, e1, decide_eq_false (show ¬ (ts.length : Int) > 14 by omega), hl]
theorem web_ok {w : Web} (h : WebOk w) : m_look_at_web [webD w] = .ok .non := by
  obtain ⟨ps, ts, fi, la⟩ := w
  have h1 := places_ok h.n2 h.n7 h.nm
  have h2 := ties_ok h.t14 h.nm h.ts
  have h3 := place_true (h.nm.nm fi h.fi) h.fi
  have h4 := place_true (h.nm.nm la h.la) h.la
  have h5 : (la == fi) = false := beq_eq_false_iff_ne.mpr (Ne.symm h.ne)
  rw [show webD ⟨ps, ts, fi, la⟩ = .tup [.lst (ps.map D.str), .lst (ts.map tieD), .str fi, .str la] from rfl]
  open_line with [m_look_at_web, b_look_at_web, h1, h2, h3, h4, eq_strs, h5]
end Com
set_option Elab.async false
set_option linter.all false
set_option maxRecDepth 100000
namespace Com
open PySem L2 DL
def b_shared_bottom : Ev → Res Fl :=
  (sSeq (sSet 1 (dC (.int 1)))
  (sSeq (sFor (dVar 0) (gSet 2)
  (sSeq (sSet 1 (bind2 (bind2 (dVar 1) (bindA (aCons (dVar 1) (aCons (bind2 (dVar 2) (dC (.int 1)) dIx) aNil)) m_common_divisor) dDiv) (bind2 (dVar 2) (dC (.int 1)) dIx) dMulL))
  sNext))
  (sSeq (sRet (dVar 1))
  sNext)))
def m_shared_bottom : List D → Res D := runD 3 b_shared_bottom
def b_as_whole : Ev → Res Fl :=
  (sSeq (sRet (bind2 (bind2 (dVar 0) (dC (.int 0)) dIx) (bind2 (dVar 1) (bind2 (dVar 0) (dC (.int 1)) dIx) dDiv) dMulL))
  sNext)
def m_as_whole : List D → Res D := runD 2 b_as_whole
def b_on_one_scale : Ev → Res Fl :=
  (sSeq (sSet 1 (bindA (aCons (compD 1 [] (srcL (dVar 0)) (gSet 0) (bind2 (dVar 0) (dC (.non)) dNotN) (dVar 0)) aNil) m_shared_bottom))
  (sSeq (sRet (bindA (aCons (compD 1 [1] (srcL (dVar 0)) (gSet 0) mYes (dIf (bind2 (dVar 0) (dC (.non)) dIsN) (dC (.non)) (bindA (aCons (dVar 0) (aCons (dVar 1) aNil)) m_as_whole))) (aCons (dVar 1) aNil)) mTup))
  sNext))
def m_on_one_scale : List D → Res D := runD 2 b_on_one_scale
theorem tot_snoc {xs : List Fra} {x : Fra} : tot (xs ++ [x]) = un (tot xs) x := by unfold tot; rw [List.foldl_append]; rfl
end Com
set_option Elab.async false
set_option linter.all false
set_option maxRecDepth 100000
namespace Com
open PySem L2 DL
def bstep (b : Int) (x : Fra) : Int := b / (Int.gcd b x.2 : Int) * x.2
def bot (xs : List Fra) : Int := xs.foldl bstep 1
structure BotOk (k : Nat) (b : Int) : Prop where
  pos : 0 < b
  bd : b.natAbs ≤ 2 ^ (200 * k)
theorem pow_B13 {k : Nat} (h : k ≤ 60) : 2 ^ (200 * k) < B13 := by rw [B13_eq]; exact Nat.pow_lt_pow_right (by decide) (by omega)
theorem gcdI_pos {a b : Int} (h : b ≠ 0) : 0 < (Int.gcd a b : Int) := gcd_pos h
theorem BotOk.step {k : Nat} {b : Int} {x : Fra} (h : BotOk k b) (hx : Fin60 x) : BotOk (k + 1) (bstep b x) ∧ b ∣ bstep b x ∧ x.2 ∣ bstep b x := by
  have q1 := hx.q1
  have hg : 0 < (Int.gcd b x.2 : Int) := gcdI_pos (by omega)
  have hd : (Int.gcd b x.2 : Int) ∣ b := Int.gcd_dvd_left ..
  have hd2 : (Int.gcd b x.2 : Int) ∣ x.2 := Int.gcd_dvd_right ..
  have hq : 0 < b / (Int.gcd b x.2 : Int) := Int.ediv_pos_of_pos_of_dvd h.pos (by omega) hd
  refine ⟨⟨Int.mul_pos hq (by omega), ?_⟩, ?_, ⟨b / (Int.gcd b x.2 : Int), by unfold bstep; rw [Int.mul_comm]⟩⟩
  · unfold bstep
    rw [Int.natAbs_mul, show 200 * (k + 1) = 200 * k + 200 by omega, Nat.pow_add]
    refine Nat.mul_le_mul (Nat.le_trans (Int.natAbs_ediv_le_natAbs _ _) h.bd) (Nat.le_trans (Nat.le_of_lt hx.qN) N60_200)
  · obtain ⟨c, hc⟩ := hd
    obtain ⟨d, hd'⟩ := hd2
    refine ⟨d, ?_⟩
    unfold bstep
    generalize (Int.gcd b x.2 : Int) = g at *
    have e1 : b / g = c := by rw [hc]; exact Int.mul_ediv_cancel_left c (by omega)
    rw [e1, hd', hc, ← Int.mul_assoc, Int.mul_comm c g]
theorem bot_ok {xs : List Fra} (hx : ∀ x ∈ xs, Fin60 x) : ∀ (b : Int) (k : Nat), BotOk k b → BotOk (k + xs.length) (xs.foldl bstep b) ∧ b ∣ xs.foldl bstep b ∧ ∀ x ∈ xs, x.2 ∣ xs.foldl bstep b := by
  induction xs with
  | nil => intro b k h; exact ⟨h, Int.dvd_refl b, fun x hx => nomatch hx⟩
  | cons x xs ih =>
    intro b k h
    obtain ⟨h1, h2, h3⟩ := h.step (hx x List.mem_cons_self)
    obtain ⟨k1, k2, k3⟩ := ih (fun y hy => hx y (List.mem_cons_of_mem _ hy)) _ _ h1
    refine ⟨?_, Int.dvd_trans h2 k2, fun y hy => ?_⟩
    · rw [List.length_cons, show k + (xs.length + 1) = k + 1 + xs.length by omega]; exact k1
    · rcases List.mem_cons.mp hy with rfl | hy
      · exact Int.dvd_trans h3 k2
      · exact k3 y hy
theorem bot_loop {L : Sl} : ∀ (xs : List Fra) (k : Nat) (b : Int) (z : Sl), BotOk k b → k + xs.length ≤ 60 → (∀ x ∈ xs, Fin60 x) → ∃ z', forD (gSet 2) (sSeq (sSet 1 (bind2 (bind2 (dVar 1) (bindA (aCons (dVar 1) (aCons (bind2 (dVar 2) (dC (.int 1)) dIx) aNil)) m_common_divisor) dDiv) (bind2 (dVar 2) (dC (.int 1)) dIx) dMulL)) sNext) (xs.map fr) [L, .sh (.int b), z] =
    .ok (.nx [L, .sh (.int (xs.foldl bstep b)), z']) := by
  intro xs
  induction xs with
  | nil => intro k b z _ _ _; exact ⟨z, rfl⟩
  | cons x xs ih =>
    intro k b z h hk hx
    have hxx := hx x List.mem_cons_self
    have q1 := hxx.q1
    obtain ⟨h1, h2, h3⟩ := h.step hxx
    simp only [List.length_cons] at hk
    obtain ⟨z', hz'⟩ := ih (k + 1) _ (.sh (fr x)) h1 (by omega) (fun y hy => hx y (List.mem_cons_of_mem _ hy))
    refine ⟨z', ?_⟩
    have hg : 0 < (Int.gcd b x.2 : Int) := gcdI_pos (by omega)
    have hdiv : divOk b (Int.gcd b x.2 : Int) = true := divB13 (by omega) (Nat.lt_of_le_of_lt h.bd (pow_B13 (by omega)))
    have hb13 : (b / (Int.gcd b x.2 : Int)).natAbs < B13 := Nat.lt_of_le_of_lt (Nat.le_trans (Int.natAbs_ediv_le_natAbs _ _) h.bd) (pow_B13 (by omega))
    have hmul : mulOk (b / (Int.gcd b x.2 : Int)) x.2 = true := mulBig (Nat.lt_of_lt_of_le hb13 B13_B60) (Nat.lt_of_lt_of_le hxx.qN N60_B60)
    rw [List.map_cons, forD_nx (ρ1 := [L, .sh (.int b), .sh (fr x)]) (ρ2 := [L, .sh (.int (bstep b x)), .sh (fr x)]) rfl ?_]
    · exact hz'
    · rw [show fr x = .tup [.int x.1, .int x.2] from rfl]
      open_line with [common_eq, ev_div hdiv, fdiv_dvd hg, ev_mul hmul]
      rfl
theorem bottom_ok {xs : List Fra} (hl : xs.length ≤ 60) (hx : ∀ x ∈ xs, Fin60 x) : m_shared_bottom [.lst (xs.map fr)] = .ok (.int (bot xs)) := by
  obtain ⟨z', hz⟩ := bot_loop (L := .sh (.lst (xs.map fr))) xs 0 1 .no ⟨by decide, by decide⟩ (by omega) hx
  open_line with [m_shared_bottom, b_shared_bottom, hz]
  rfl
def wI (b : Int) : Option Fra → D
  | none => .non
  | some x => .int (x.1 * (b / x.2))
def somes (os : List (Option Fra)) : List Fra := os.filterMap id
theorem mem_somes {os : List (Option Fra)} {x : Fra} : x ∈ somes os ↔ some x ∈ os := by unfold somes; simp
theorem whole_ok {x : Fra} {b : Int} (hx : Fin60 x) (hb : b.natAbs < B13) : m_as_whole [fr x, .int b] = .ok (.int (x.1 * (b / x.2))) := by
  have q1 := hx.q1
  have hdiv : divOk b x.2 = true := divB9 (by omega) (Nat.lt_of_lt_of_le hx.qN N60_B9)
  have hmul : mulOk x.1 (b / x.2) = true := mulBig (Nat.lt_of_lt_of_le hx.pN N60_B60) (Nat.lt_of_lt_of_le (Nat.lt_of_le_of_lt (Int.natAbs_ediv_le_natAbs _ _) hb) B13_B60)
  rw [show fr x = .tup [.int x.1, .int x.2] from rfl]
  open_line with [m_as_whole, b_as_whole, ev_div hdiv, fdiv_dvd (show 0 < x.2 by omega), ev_mul hmul]
theorem somes_filter : ∀ os : List (Option Fra), (os.map worthO).filter (fun d => !(isNon d)) = (somes os).map fr
  | [] => rfl
  | none :: os => by
    rw [List.map_cons, List.filter_cons_of_neg (by decide), somes_filter os]; rfl
  | some x :: os => by
    have : isNon (worthO (some x)) = false := rfl
    rw [List.map_cons, List.filter_cons_of_pos (by rw [this]; rfl), somes_filter os]; rfl
theorem scale_ok {os : List (Option Fra)} (hl : os.length ≤ 60) (hx : ∀ x, some x ∈ os → Fin60 x) : m_on_one_scale [.lst (os.map worthO)] = .ok (.tup [.lst (os.map (wI (bot (somes os)))), .int (bot (somes os))]) := by
  have hxs : ∀ x ∈ somes os, Fin60 x := fun x h => hx x (mem_somes.mp h)
  have hls : (somes os).length ≤ 60 := Nat.le_trans (List.length_filterMap_le _ _) hl
  have h1 := bottom_ok hls hxs
  obtain ⟨B, _, _⟩ := bot_ok hxs 1 0 ⟨by decide, by decide⟩
  have hb : (bot (somes os)).natAbs < B13 := Nat.lt_of_le_of_lt B.bd (pow_B13 (by omega))
  have c1 : compK 1 [] (gSet 0) (bind2 (dVar 0) (dC (.non)) dNotN) (dVar 0) [.sh (.lst (os.map worthO)), .no] (os.map worthO) = .ok (.lst ((somes os).map fr)) := by
    rw [comp_filter (F := id) (p := fun d => !(isNon d)) (by rw [List.length_map]; omega)]
    · rw [List.map_id, somes_filter]
    · intro d hd
      exact ⟨[.sh d], rfl, rfl, fun _ => rfl⟩
  have c2 : compK 1 [1] (gSet 0) mYes (dIf (bind2 (dVar 0) (dC (.non)) dIsN) (dC (.non)) (bindA (aCons (dVar 0) (aCons (dVar 1) aNil)) m_as_whole)) [.sh (.lst (os.map worthO)), .sh (.int (bot (somes os)))] (os.map worthO) = .ok (.lst (os.map (wI (bot (somes os))))) := by
    rw [comp_map (F := fun d => match d with | .tup [.int p, .int q] => .int (p * (bot (somes os) / q)) | _ => .non) (by rw [List.length_map]; omega)]
    · congr 2
      rw [List.map_map]
      apply List.map_congr_left
      intro o _
      cases o <;> rfl
    · intro d hd
      obtain ⟨o, ho, rfl⟩ := List.mem_map.mp hd
      refine ⟨[.sh (worthO o), .sh (.int (bot (somes os)))], rfl, rfl, ?_⟩
      cases o with
      | none => rfl
      | some x =>
        have hw := whole_ok (hx x ho) hb
        rw [show fr x = .tup [.int x.1, .int x.2] from rfl] at hw
        rw [show worthO (some x) = .tup [.int x.1, .int x.2] from rfl]
        open_line with [hw]
  open_line with [m_on_one_scale, b_on_one_scale, c1, h1, c2]
end Com
set_option Elab.async false
set_option linter.all false
set_option maxRecDepth 100000
namespace Com
open PySem L2 DL
end Com
set_option Elab.async false
set_option linter.all false
set_option maxRecDepth 100000
namespace Com
open PySem L2 DL
def zs_ : List Int → Int
  | [] => 0
  | a :: l => a + zs_ l
theorem zs_append : ∀ a b : List Int, zs_ (a ++ b) = zs_ a + zs_ b
  | [], b => by show zs_ b = 0 + zs_ b; omega
  | x :: a, b => by show x + zs_ (a ++ b) = x + zs_ a + zs_ b; rw [zs_append a b]; omega
theorem tot_scale {b : Int} : ∀ (xs : List Fra) (s : Fra) (z : Int), (∀ x ∈ xs, x.2 ∣ b) → s.1 * b = z * s.2 → (xs.foldl un s).1 * b = (z + zs_ (xs.map fun x => x.1 * (b / x.2))) * (xs.foldl un s).2
  | [], s, z, _, h => by show s.1 * b = (z + 0) * s.2; rw [Int.add_zero]; exact h
  | x :: xs, s, z, hd, h => by
    have hx : b / x.2 * x.2 = b := Int.ediv_mul_cancel (hd x List.mem_cons_self)
    have e : (un s x).1 * b = (z + x.1 * (b / x.2)) * (un s x).2 := by
      show (s.1 * x.2 + x.1 * s.2) * b = (z + x.1 * (b / x.2)) * (s.2 * x.2)
      generalize b / x.2 = q at *
      have e1 : (s.1 * x.2 + x.1 * s.2) * b = (s.1 * b) * x.2 + x.1 * s.2 * b := by grind
      rw [e1, h]
      rw [← hx]
      grind
    have := tot_scale xs (un s x) _ (fun y hy => hd y (List.mem_cons_of_mem _ hy)) e
    show (xs.foldl un (un s x)).1 * b = (z + (x.1 * (b / x.2) + zs_ (xs.map fun x => x.1 * (b / x.2)))) * _
    rw [this, Int.add_assoc]
    rfl
end Com
set_option Elab.async false
set_option linter.all false
set_option maxRecDepth 100000
namespace Com
open PySem L2 DL
def setLK (i : Nat) (ρ : Ev) (d : D) : Res Fl := if flat d = true then .ok (.nx (ρ.set i (.sh d))) else .stuck
theorem ev_setL {i : Nat} {f : Ev → Res D} {ρ : Ev} : sSetL i f ρ = (f (shr ρ)).bind (setLK i ρ) := rfl
theorem setL_fr {i : Nat} {ρ : Ev} {x : Fra} : setLK i ρ (fr x) = .ok (.nx (ρ.set i (.sh (fr x)))) := rfl
theorem ne_fr {x : Fra} : dNe (fr x) (fr x) = .ok (.bl false) := by
  unfold dNe
  rw [if_pos ⟨shal_fr x, shal_fr x⟩, eq_fr_refl]; rfl
theorem shal_tie {n : Nat} {t : Tie} : shal (n + 3) (tieD t) = true := by
  obtain ⟨a, b, w, l, o⟩ := t
  cases o <;> cases n <;> rfl
theorem while_nx {c : Ev → Res D} {s : Ev → Res Fl} {n : Nat} {ρ ρ2 : Ev} (h1 : c (shr ρ) = .ok (.bl true)) (h2 : s ρ = .ok (.nx ρ2)) : whileD c s (n + 1) ρ = whileD c s n ρ2 := by
  conv => lhs; unfold whileD
  rw [h1, h2]
  rfl
theorem while_end {c : Ev → Res D} {s : Ev → Res Fl} {n : Nat} {ρ : Ev} (h1 : c (shr ρ) = .ok (.bl false)) : whileD c s (n + 1) ρ = .ok (.nx ρ) := by
  conv => lhs; unfold whileD
  rw [h1]
  rfl
end Com
set_option Elab.async false
set_option linter.all false
set_option maxRecDepth 100000
namespace Cod
open PySem L2 DL Com
def b__law_draws : Ev → Res Fl :=
  (sSeq (sOwn 2 (bindA aNil mLst))
  (sSeq (sSet 3 (bindA (aCons (dVar 0) aNil) (m1 dAbs)))
  (sSeq (sSet 4 (bind2 (bind2 (bind2 (dVar 0) (dC (.int 2147483647)) dMod) (dC (.int 48271)) dMulL) (dC (.int 2147483647)) dMod))
  (sSeq (sForR (bindA (aCons (dVar 1) aNil) (m1 dLen)) (gSet 5)
  (sSeq (sIf (bind2 (bindA (aCons (dVar 0) aNil) (m1 dAbs)) (bind2 (dC (.int 10)) (dC (.int 18)) dPow) dGe)
  (sSeq (sAppend 2 (bind2 (dVar 3) (bind2 (dVar 1) (dVar 5) dIx) dMod))
  (sSeq (sSet 3 (bind2 (dVar 3) (bind2 (dVar 1) (dVar 5) dIx) dDiv))
  sNext))
  (sSeq (sSet 4 (bind2 (bind2 (bind2 (bind2 (bind2 (dVar 4) (dVar 4) dMulL) (bind2 (dC (.int 69621)) (dVar 4) dMulL) dAdd) (bind2 (dC (.int 7919)) (dVar 5) dMulL) dAdd) (dC (.int 1000003)) dAdd) (dC (.int 2147483647)) dMod))
  (sSeq (sAppend 2 (bind2 (bind2 (bind2 (dVar 4) (dC (.int 39373)) dMulL) (dC (.int 2147483629)) dMod) (bind2 (dVar 1) (dVar 5) dIx) dMod))
  sNext)))
  sNext))
  (sSeq (sRet (dVar 2))
  sNext)))))
def m__law_draws : List D → Res D := runD 6 b__law_draws
theorem N60_lt9 : N60 < B9 := by rw [B9_eq]; exact Nat.lt_of_lt_of_le (show N60 < 2 ^ 200 by decide) (Nat.pow_le_pow_right (by decide) (by decide))
theorem abs_ok {c : Int} : dAbs (.int c) = .ok (.int (c.natAbs : Int)) := by
  show Res.ok (D.int (if c < 0 then -c else c)) = _
  congr 2
  split <;> omega
theorem draws_ok (c : Int) (sz : List Int) (hp : ∀ s ∈ sz, 0 < s ∧ s ≤ (N60 : Int)) (hn : sz.length ≤ 900) : ∃ vs, m__law_draws [.int c, .lst (sz.map D.int)] = .ok (.lst (vs.map D.int)) ∧ Drawn sz vs := by
  have hmix0 := fmodr (a := c.fmod 2147483647 * 48271) (b := 2147483647) (by decide)
  have hcm := fmodr (a := c) (b := 2147483647) (by decide)
  obtain ⟨ρ', hl, vs, hv, hb, lf, mx, x5, rfl, _⟩ := for_rng (i := 5) (n := sz.length)
    (ρ := [.sh (.int c), .sh (.lst (sz.map D.int)), .ow (.lst []), .sh (.int (c.natAbs : Int)), .sh (.int ((c.fmod 2147483647 * 48271).fmod 2147483647)), .no])
    (body := (sSeq (sIf (bind2 (bindA (aCons (dVar 0) aNil) (m1 dAbs)) (bind2 (dC (.int 10)) (dC (.int 18)) dPow) dGe)
  (sSeq (sAppend 2 (bind2 (dVar 3) (bind2 (dVar 1) (dVar 5) dIx) dMod))
  (sSeq (sSet 3 (bind2 (dVar 3) (bind2 (dVar 1) (dVar 5) dIx) dDiv))
  sNext))
  (sSeq (sSet 4 (bind2 (bind2 (bind2 (bind2 (bind2 (dVar 4) (dVar 4) dMulL) (bind2 (dC (.int 69621)) (dVar 4) dMulL) dAdd) (bind2 (dC (.int 7919)) (dVar 5) dMulL) dAdd) (dC (.int 1000003)) dAdd) (dC (.int 2147483647)) dMod))
  (sSeq (sAppend 2 (bind2 (bind2 (bind2 (dVar 4) (dC (.int 39373)) dMulL) (dC (.int 2147483629)) dMod) (bind2 (dVar 1) (dVar 5) dIx) dMod))
  sNext)))
  sNext))
    (fun k ρ => ∃ vs : List Int, vs.length = k ∧ (∀ (i : Nat) (v s : Int), vs[i]? = some v → sz[i]? = some s → 0 ≤ v ∧ v < s) ∧ ∃ (lf mx : Int) (x5 : Sl), ρ = [.sh (.int c), .sh (.lst (sz.map D.int)), .ow (.lst (vs.map D.int)), .sh (.int lf), .sh (.int mx), x5] ∧ 0 ≤ mx ∧ mx < 2147483647) (by
      rintro k hk ρ ⟨vs, rfl, hb, lf, mx, x5, rfl, m0, m1_⟩
      have hs := hp sz[vs.length] (List.getElem_mem hk)
      have hix : dIx (.lst (sz.map D.int)) (.int (vs.length : Int)) = .ok (.int sz[vs.length]) := ix_lst (by rw [List.getElem?_map, List.getElem?_eq_getElem hk]; rfl)
      have hsz0 : (sz[vs.length] == 0) = false := beq_eq_false_iff_ne.mpr (by omega)
      have hap : decide ((vs.map D.int).length ≤ 999) = true := decide_eq_true (by rw [List.length_map]; omega)
      have hbn : ∀ v : Int, 0 ≤ v → v < sz[vs.length] → ∀ (i : Nat) (u s : Int), (vs ++ [v])[i]? = some u → sz[i]? = some s → 0 ≤ u ∧ u < s := fun v v0 v1 i u s e1 e2 => by
        by_cases hi : i < vs.length
        · rw [List.getElem?_append_left hi] at e1; exact hb i u s e1 e2
        · have : i = vs.length := by
            have := (List.getElem?_eq_some_iff.mp e1).1
            simp at this; omega
          subst this
          rw [List.getElem?_append_right (Nat.le_refl _), Nat.sub_self] at e1
          cases e1
          rw [List.getElem?_eq_getElem hk] at e2
          cases e2
          exact ⟨v0, v1⟩
      by_cases hc : (1000000000000000000 : Int) ≤ (c.natAbs : Int)
      · have f := fmodr (a := lf) (b := sz[vs.length]) hs.1
        have hdiv : divOk lf sz[vs.length] = true := divB9 (by omega) (Nat.lt_of_le_of_lt (show sz[vs.length].natAbs ≤ N60 by omega) N60_lt9)
        refine ⟨[.sh (.int c), .sh (.lst (sz.map D.int)), .ow (.lst ((vs ++ [lf.fmod sz[vs.length]]).map D.int)), .sh (.int (lf.fdiv sz[vs.length])), .sh (.int mx), .sh (.int (vs.length : Int))], ?_, vs ++ [lf.fmod sz[vs.length]], by simp, hbn _ f.1 f.2, _, _, _, rfl, m0, m1_⟩
        open_line with [abs_ok, ev_p18, decide_eq_true hc, decide_eq_true (show (c.natAbs : Int) ≥ 1000000000000000000 from hc), hix, hsz0, ev_app1 hap, ev_div hdiv, List.map_append]
      · have f1 := fmodr (a := mx * mx + 69621 * mx + 7919 * (vs.length : Int) + 1000003) (b := 2147483647) (by decide)
        generalize hmx : (mx * mx + 69621 * mx + 7919 * (vs.length : Int) + 1000003).fmod 2147483647 = my at f1
        have f := fmodr (a := (my * 39373).fmod 2147483629) (b := sz[vs.length]) hs.1
        have o1 : mulOk mx mx = true := mulSmall (by omega) (by omega)
        have o2 : mulOk 69621 mx = true := mulSmall (by decide) (by omega)
        have o3 : mulOk 7919 (vs.length : Int) = true := mulSmall (by decide) (by omega)
        have o4 : mulOk my 39373 = true := mulSmall (by omega) (by decide)
        refine ⟨[.sh (.int c), .sh (.lst (sz.map D.int)), .ow (.lst ((vs ++ [((my * 39373).fmod 2147483629).fmod sz[vs.length]]).map D.int)), .sh (.int lf), .sh (.int my), .sh (.int (vs.length : Int))], ?_, vs ++ [((my * 39373).fmod 2147483629).fmod sz[vs.length]], by simp, hbn _ f.1 f.2, _, _, _, rfl, f1.1, f1.2⟩
        open_line with [abs_ok, ev_p18, decide_eq_false hc, decide_eq_false (show ¬ (c.natAbs : Int) ≥ 1000000000000000000 from hc), ev_mul o1, ev_mul o2, ev_mul o3, hmx, ev_mul o4, hix, hsz0, ev_app1 hap, List.map_append]) ⟨[], rfl, fun i v s e => (by simp at e), _, _, _, rfl, hmix0.1, hmix0.2⟩
  refine ⟨vs, ?_, hv, hb⟩
  have o0 : mulOk (c.fmod 2147483647) 48271 = true := mulSmall (by omega) (by decide)
  open_line with [m__law_draws, b__law_draws, abs_ok, ev_mul o0, List.length_map, ev_forR, forR_nat (show sz.length ≤ 1000000 by omega), hl]
def b__law_low : Ev → Res Fl :=
  (sSeq (sSet 2 (bindA (aCons (dVar 0) aNil) (m1 dAbs)))
  (sSeq (sSet 3 (dVar 1))
  (sSeq (sWhile (fuelInt 3) (bind2 (dVar 3) (dC (.int 0)) dNe)
  (sSeq (sPar 2 3 (aCons (dVar 3) (aCons (bind2 (dVar 2) (dVar 3) dMod) aNil)))
  sNext))
  (sSeq (sRet (bindA (aCons (bind2 (dVar 0) (dVar 2) dDiv) (aCons (bind2 (dVar 1) (dVar 2) dDiv) aNil)) mTup))
  sNext))))
def m__law_low : List D → Res D := runD 4 b__law_low
theorem low_loop {A B : Sl} : ∀ (n : Nat) (a b : Int), 0 ≤ a → 0 ≤ b → b.natAbs < n → whileD (bind2 (dVar 3) (dC (.int 0)) dNe) (sSeq (sPar 2 3 (aCons (dVar 3) (aCons (bind2 (dVar 2) (dVar 3) dMod) aNil))) sNext) n [A, B, .sh (.int a), .sh (.int b)] = .ok (.nx [A, B, .sh (.int (Int.gcd a b : Int)), .sh (.int 0)])
  | 0, a, b, _, _, h => absurd h (Nat.not_lt_zero _)
  | n + 1, a, b, ha, hb, h => by
    by_cases h0 : b = 0
    · subst h0
      have hc : (bind2 (dVar 3) (dC (.int 0)) dNe) (shr [A, B, .sh (.int a), .sh (.int 0)]) = .ok (.bl false) := by
        cases A <;> cases B <;> rfl
      rw [while_end hc]
      have : ((Int.gcd a 0 : Nat) : Int) = a := by rw [Int.gcd_zero_right]; omega
      rw [this]
    · have hc : (bind2 (dVar 3) (dC (.int 0)) dNe) (shr [A, B, .sh (.int a), .sh (.int b)]) = .ok (.bl true) := by
        have : (b == 0) = false := beq_eq_false_iff_ne.mpr h0
        cases A <;> cases B <;> open_line with [this]
      have f := fmodr (a := a) (b := b) (by omega)
      have hb0 : (b == 0) = false := beq_eq_false_iff_ne.mpr h0
      rw [while_nx (ρ2 := [A, B, .sh (.int b), .sh (.int (a.fmod b))]) hc ?_, low_loop n b (a.fmod b) (by omega) f.1 (by omega)]
      · rw [gcd_step]
      · cases A <;> cases B <;> open_line with [hb0]
theorem low_ok {a b : Int} (hb : 0 < b) (h1 : a.natAbs < B13) (h2 : b.natAbs < B13) : m__law_low [.int a, .int b] = .ok (fr (low a b)) := by
  have hg : 0 < (Int.gcd a b : Int) := gcd_pos (by omega)
  have hgn : (Int.gcd (a.natAbs : Int) b : Int) = (Int.gcd a b : Int) := by
    congr 1
  have hl := low_loop (A := .sh (.int a)) (B := .sh (.int b)) (b.natAbs + 1) (a.natAbs : Int) b (by omega) (by omega) (Nat.lt_succ_self _)
  rw [hgn] at hl
  have hwh : ∀ (c : Ev → Res D) (s : Ev → Res Fl), sWhile (fuelInt 3) c s [.sh (.int a), .sh (.int b), .sh (.int (a.natAbs : Int)), .sh (.int b)] = whileD c s (b.natAbs + 1) [.sh (.int a), .sh (.int b), .sh (.int (a.natAbs : Int)), .sh (.int b)] := fun _ _ => rfl
  have d1 : (Int.gcd a b : Int) ∣ a := Int.gcd_dvd_left ..
  have d2 : (Int.gcd a b : Int) ∣ b := Int.gcd_dvd_right ..
  have q1 : divOk a (Int.gcd a b : Int) = true := divB13 (by omega) h1
  have q2 : divOk b (Int.gcd a b : Int) = true := divB13 (by omega) h2
  have e1 : a.fdiv (Int.gcd a b : Int) = a / (Int.gcd a b : Int) := fdiv_dvd hg
  have e2 : b.fdiv (Int.gcd a b : Int) = b / (Int.gcd a b : Int) := fdiv_dvd hg
  open_line with [m__law_low, b__law_low, abs_ok, hwh, hl, ev_div q1, ev_div q2, e1, e2]
  rfl
def b__law_fraction : Ev → Res Fl :=
  (sSeq (sSet 1 (bind2 (bindA (aCons (dC (.int 0)) (aCons (bind2 (bind2 (dVar 0) (dC (.int 1)) dIx) (dC (.int 7)) dMod) (aCons (bind2 (bind2 (dVar 0) (dC (.int 1)) dIx) (dC (.int 60)) dMod) (aCons (bind2 (dVar 0) (dC (.int 1)) dIx) (aCons (bind2 (bind2 (dVar 0) (dC (.int 1)) dIx) (dC (.int 1000)) dMod) aNil))))) mLst) (bind2 (dVar 0) (dC (.int 0)) dIx) dIx))
  (sSeq (sSet 2 (bind2 (bindA (aCons (dC (.int 1)) (aCons (dC (.int 1)) (aCons (bind2 (dC (.int 1)) (bind2 (dVar 0) (dC (.int 2)) dIx) dAdd) (aCons (dC (.int 1)) (aCons (bind2 (dC (.int 1)) (bind2 (bind2 (dVar 0) (dC (.int 2)) dIx) (dC (.int 4)) dMod) dAdd) aNil))))) mLst) (bind2 (dVar 0) (dC (.int 0)) dIx) dIx))
  (sSeq (sRet (bindA (aCons (dVar 1) (aCons (dVar 2) aNil)) m__law_low))
  sNext)))
def m__law_fraction : List D → Res D := runD 3 b__law_fraction
theorem fraction_ok {w a b : Int} (hw : 0 ≤ w ∧ w < 5) (ha : 0 ≤ a ∧ a < 1000000000000000000) (hb : 0 ≤ b ∧ b < 30) : ∃ x : Fra, m__law_fraction [.lst [.int w, .int a, .int b]] = .ok (fr x) ∧ Fin60 x ∧ 0 ≤ x.1 := by
  have hN : (1000000000000000000000 : Int) < (N60 : Int) := by decide
  have f7 := fmodr (a := a) (b := 7) (by decide)
  have f60 := fmodr (a := a) (b := 60) (by decide)
  have f1000 := fmodr (a := a) (b := 1000) (by decide)
  have f4 := fmodr (a := b) (b := 4) (by decide)
  obtain ⟨p, q, hp, hq, i1, i2⟩ : ∃ p q : Int, (0 ≤ p ∧ p < 1000000000000000000) ∧ (1 ≤ q ∧ q < 1000) ∧ dIx (.lst [.int 0, .int (a.fmod 7), .int (a.fmod 60), .int a, .int (a.fmod 1000)]) (.int w) = .ok (.int p) ∧ dIx (.lst [.int 1, .int 1, .int (1 + b), .int 1, .int (1 + b.fmod 4)]) (.int w) = .ok (.int q) := by
    have : w = 0 ∨ w = 1 ∨ w = 2 ∨ w = 3 ∨ w = 4 := by omega
    rcases this with rfl | rfl | rfl | rfl | rfl
    · exact ⟨0, 1, by decide, by decide, rfl, rfl⟩
    · exact ⟨a.fmod 7, 1, by omega, by decide, rfl, rfl⟩
    · exact ⟨a.fmod 60, 1 + b, by omega, by omega, rfl, rfl⟩
    · exact ⟨a, 1, by omega, by decide, rfl, rfl⟩
    · exact ⟨a.fmod 1000, 1 + b.fmod 4, by omega, by omega, rfl, rfl⟩
  have hlo := low_ok (a := p) (b := q) (by omega) (lt13 (by omega) (by omega)) (lt13 (by omega) (by omega))
  refine ⟨low p q, ?_, low60 (by omega) (by omega) (by omega), low_nonneg (by omega) (by omega)⟩
  open_line with [m__law_fraction, b__law_fraction, i1, i2, hlo]
end Cod
set_option Elab.async false
set_option linter.all false
set_option maxRecDepth 100000
namespace Cod
open PySem L2 DL Com
def b__law_names : Ev → Res Fl :=
  (sSeq (sSet 2 (dC (.str "abcdefghijklmnopqrstuvwxyz")))
  (sSeq (sOwn 3 (bindA aNil mLst))
  (sSeq (sForR (dVar 1) (gSet 4)
  (sSeq (sSet 5 (dSlA (dVar 0) (oSome (bind2 (dC (.int 10)) (dVar 4) dMulL)) (oSome (bind2 (bind2 (dC (.int 10)) (dVar 4) dMulL) (dC (.int 10)) dAdd))))
  (sSeq (sSet 6 (dJoin (dC (.str "")) (aCons (compD 1 [2, 5] (srcR1 (bind2 (dC (.int 1)) (bind2 (dVar 5) (dC (.int 0)) dIx) dAdd)) (gSet 0) mYes (bind2 (dVar 1) (bind2 (dVar 2) (bind2 (dC (.int 2)) (dVar 0) dAdd) dIx) dIx)) aNil)))
  (sSeq (sIf (dAnd (bind2 (dVar 4) (dC (.int 0)) dGt) (bind2 (bind2 (dVar 5) (dC (.int 1)) dIx) (dC (.int 0)) dEq))
  (sSeq (sSetL 6 (bind2 (dSlA (bind2 (dVar 3) (bind2 (dVar 4) (dC (.int 1)) dSub) dIx) oNone (oSome (bind2 (dVar 5) (dC (.int 0)) dIx))) (bind2 (dVar 2) (bind2 (dVar 5) (dC (.int 2)) dIx) dIx) dAdd))
  sNext)
  sNext)
  (sSeq (sSet 7 (bind2 (dVar 5) (dC (.int 9)) dIx))
  (sSeq (sWhile (fun _ => 30) (bind2 (dVar 6) (dVar 3) dIn)
  (sSeq (sSet 7 (bind2 (dVar 7) (dC (.int 1)) dAdd))
  (sSeq (sSet 6 (bind2 (dSlA (dVar 6) oNone (oSome (bind1 (dC (.int 1)) dNeg))) (bind2 (dVar 2) (bind2 (dVar 7) (dC (.int 26)) dMod) dIx) dAdd))
  sNext)))
  (sSeq (sAppend 3 (dVar 6))
  sNext)))))))
  (sSeq (sRet (dVar 3))
  sNext))))
def m__law_names : List D → Res D := runD 8 b__law_names
def S (cs : List Nat) : Str := ⟨cs.toArray⟩
theorem S_inj {a b : List Nat} (h : S a = S b) : a = b := by
  have := congrArg (fun s : Str => s.cps.toList) h
  simpa [S] using this
theorem S_len (a : List Nat) : (S a).length = a.length := cs_len a
structure IsNm (cs : List Nat) : Prop where
  l1 : 1 ≤ cs.length
  l8 : cs.length ≤ 8
  ab : ∀ x ∈ cs, inAbc x = true
theorem IsNm.nameB {cs : List Nat} (h : IsNm cs) : Com.nameB (S cs) = true := by
  unfold Com.nameB
  rw [S_len]
  simp only [Bool.and_eq_true, decide_eq_true_eq]
  exact ⟨h.l1, h.l8, List.all_eq_true.mpr fun x hx => h.ab x (by simpa [S] using hx)⟩
def nmsD (css : List (List Nat)) : List D := css.map fun cs => D.str (S cs)
theorem in_nms {css : List (List Nat)} {cs : List Nat} : dIn (.str (S cs)) (.lst (nmsD css)) = .ok (.bl (decide (cs ∈ css))) := by
  have e : nmsD css = (css.map S).map D.str := by unfold nmsD; rw [List.map_map]; rfl
  rw [e, in_strs]
  congr 2
  apply decide_eq_decide.mpr
  constructor
  · intro h
    obtain ⟨b, hb, hs⟩ := List.mem_map.mp h
    rw [← S_inj hs]; exact hb
  · exact fun h => List.mem_map.mpr ⟨cs, h, rfl⟩
theorem cut_neg {cs : List Nat} (h : 1 ≤ cs.length) (h8 : cs.length ≤ 1000) : slK2 (.str (S cs)) none (some (-1)) = .ok (.str (S cs.dropLast)) := by
  rw [sl_strs (by rw [S_len]; exact h8)]
  congr 2
  have e1 : Txt.slice (S cs) none (some (-1)) = Txt.slice (S cs) none (some (-1 + ((S cs).length : Int))) := StrLaws.sliceText_neg_hi (S cs) none (by decide) (by rw [S_len]; omega)
  rw [e1, S_len, show (-1 + (cs.length : Int)) = ((cs.length - 1 : Nat) : Int) by omega, show S cs = ⟨cs.toArray⟩ from rfl, slice_to (by omega)]
  rw [List.dropLast_eq_take]; rfl
def cand (pre : List Nat) (at_ : Int) (i : Nat) : List Nat := pre ++ [97 + ((at_ + (i : Int)).fmod 26).toNat]
theorem cand_nm {pre : List Nat} {at_ : Int} {i : Nat} (hl : pre.length ≤ 7) (hp : ∀ x ∈ pre, inAbc x = true) : IsNm (cand pre at_ i) := by
  have f := fmodr (a := at_ + (i : Int)) (b := 26) (by decide)
  refine ⟨by unfold cand; simp, by unfold cand; simp; omega, fun x hx => ?_⟩
  unfold cand at hx
  rw [List.mem_append] at hx
  rcases hx with hx | hx
  · exact hp x hx
  · have : x = 97 + ((at_ + (i : Int)).fmod 26).toNat := by simpa using hx
    rw [this]
    exact abc_in _ (by omega)
theorem nodup_le {α : Type} [DecidableEq α] : ∀ {l m : List α}, l.Nodup → (∀ x ∈ l, x ∈ m) → l.length ≤ m.length
  | [], _, _, _ => Nat.zero_le _
  | a :: l, m, nd, h => by
    rw [List.nodup_cons] at nd
    have ha := h a List.mem_cons_self
    have := nodup_le (l := l) (m := m.erase a) nd.2 fun x hx => by
      have hne : x ≠ a := fun z => nd.1 (z ▸ hx)
      exact (List.mem_erase_of_ne hne).mpr (h x (List.mem_cons_of_mem _ hx))
    rw [List.length_erase_of_mem ha] at this
    have := List.length_pos_of_mem ha
    simp only [List.length_cons]
    omega
theorem cand_free {pre : List Nat} {at_ : Int} {css : List (List Nat)} (h6 : css.length ≤ 6) : ∃ j, j ≤ 6 ∧ cand pre at_ (1 + j) ∉ css := by
  refine Classical.byContradiction fun hno => ?_
  have hall : ∀ j, j ≤ 6 → cand pre at_ (1 + j) ∈ css := fun j hj => Classical.byContradiction fun hn => hno ⟨j, hj, hn⟩
  have nd : ((List.range 7).map fun j => cand pre at_ (1 + j)).Nodup := by
    rw [List.nodup_iff_pairwise_ne, List.pairwise_map]
    refine List.Pairwise.imp_of_mem ?_ List.pairwise_lt_range
    intro k j hk hj hlt heq
    rw [List.mem_range] at hk hj
    have h1 := List.append_inj_right heq rfl
    have h2 : 97 + ((at_ + ((1 + k : Nat) : Int)).fmod 26).toNat = 97 + ((at_ + ((1 + j : Nat) : Int)).fmod 26).toNat := by simpa using h1
    rw [Int.fmod_eq_emod_of_nonneg _ (by decide), Int.fmod_eq_emod_of_nonneg _ (by decide)] at h2
    omega
  have := nodup_le nd (m := css) fun x hx => by
    obtain ⟨j, hj, rfl⟩ := List.mem_map.mp hx
    rw [List.mem_range] at hj
    exact hall j (by omega)
  simp at this
  omega
theorem nm_step {a b c e : D} {css : List (List Nat)} {cs : List Nat} {at_ : Int} (h1 : 1 ≤ cs.length) (h8 : cs.length ≤ 8) : (sSeq (sSet 7 (bind2 (dVar 7) (dC (.int 1)) dAdd))
  (sSeq (sSet 6 (bind2 (dSlA (dVar 6) oNone (oSome (bind1 (dC (.int 1)) dNeg))) (bind2 (dVar 2) (bind2 (dVar 7) (dC (.int 26)) dMod) dIx) dAdd))
  sNext)) [.sh a, .sh b, .sh (.str "abcdefghijklmnopqrstuvwxyz"), .ow (.lst (nmsD css)), .sh c, .sh e, .sh (.str (S cs)), .sh (.int at_)] = .ok (.nx [.sh a, .sh b, .sh (.str "abcdefghijklmnopqrstuvwxyz"), .ow (.lst (nmsD css)), .sh c, .sh e, .sh (.str (S (cs.dropLast ++ [97 + ((at_ + 1).fmod 26).toNat]))), .sh (.int (at_ + 1))]) := by
  have f := fmodr (a := at_ + 1) (b := 26) (by decide)
  have hs := cut_neg h1 (by omega)
  have hi := abc_ix f.1 f.2
  have hadd : dAdd (.str (S cs.dropLast)) (.str ⟨#[97 + ((at_ + 1).fmod 26).toNat]⟩) = .ok (.str (S (cs.dropLast ++ [97 + ((at_ + 1).fmod 26).toNat]))) := by
    have hln : (S cs.dropLast).length + (⟨#[97 + ((at_ + 1).fmod 26).toNat]⟩ : Str).length ≤ 1000 := by
      rw [S_len, List.length_dropLast]
      show cs.length - 1 + 1 ≤ 1000
      omega
    rw [add_strs hln]
    exact congrArg (fun z => Res.ok (D.str z)) (cs_append cs.dropLast [97 + ((at_ + 1).fmod 26).toNat])
  open_line with [hs, hi, hadd]
theorem nm_while {a b c e : D} {css : List (List Nat)} {pre : List Nat} {at_ : Int} (hl : pre.length ≤ 7) : ∀ (d i fuel : Nat), cand pre at_ (i + d) ∉ css → d < fuel → ∃ i', whileD (bind2 (dVar 6) (dVar 3) dIn)
  (sSeq (sSet 7 (bind2 (dVar 7) (dC (.int 1)) dAdd))
  (sSeq (sSet 6 (bind2 (dSlA (dVar 6) oNone (oSome (bind1 (dC (.int 1)) dNeg))) (bind2 (dVar 2) (bind2 (dVar 7) (dC (.int 26)) dMod) dIx) dAdd))
  sNext)) fuel [.sh a, .sh b, .sh (.str "abcdefghijklmnopqrstuvwxyz"), .ow (.lst (nmsD css)), .sh c, .sh e, .sh (.str (S (cand pre at_ i))), .sh (.int (at_ + (i : Int)))] = .ok (.nx [.sh a, .sh b, .sh (.str "abcdefghijklmnopqrstuvwxyz"), .ow (.lst (nmsD css)), .sh c, .sh e, .sh (.str (S (cand pre at_ i'))), .sh (.int (at_ + (i' : Int)))]) ∧ cand pre at_ i' ∉ css := by
  intro d
  induction d with
  | zero =>
    intro i fuel hn hf
    obtain ⟨f, rfl⟩ : ∃ f, fuel = f + 1 := ⟨fuel - 1, by omega⟩
    have hn : cand pre at_ i ∉ css := hn
    refine ⟨i, ?_, hn⟩
    rw [while_end]
    have := in_nms (css := css) (cs := cand pre at_ i)
    rw [decide_eq_false hn] at this
    open_line with [this]
  | succ d ih =>
    intro i fuel hn hf
    obtain ⟨f, rfl⟩ : ∃ f, fuel = f + 1 := ⟨fuel - 1, by omega⟩
    by_cases hm : cand pre at_ i ∈ css
    · obtain ⟨i', h1, h2⟩ := ih (i + 1) f (by rw [show i + 1 + d = i + (d + 1) by omega]; exact hn) (by omega)
      refine ⟨i', ?_, h2⟩
      have hst := nm_step (a := a) (b := b) (c := c) (e := e) (css := css) (cs := cand pre at_ i) (at_ := at_ + (i : Int)) (by unfold cand; simp) (by unfold cand; simp; omega)
      have e1 : (cand pre at_ i).dropLast ++ [97 + ((at_ + (i : Int) + 1).fmod 26).toNat] = cand pre at_ (i + 1) := by
        unfold cand
        rw [List.dropLast_concat, show at_ + (i : Int) + 1 = at_ + ((i + 1 : Nat) : Int) by omega]
      rw [e1, show at_ + (i : Int) + 1 = at_ + ((i + 1 : Nat) : Int) by omega] at hst
      rw [while_nx ?_ hst]
      · exact h1
      · have := in_nms (css := css) (cs := cand pre at_ i)
        rw [decide_eq_true hm] at this
        open_line with [this]
    · refine ⟨i, ?_, hm⟩
      rw [while_end]
      have := in_nms (css := css) (cs := cand pre at_ i)
      rw [decide_eq_false hm] at this
      open_line with [this]
theorem nm_told {a b c e : D} {css : List (List Nat)} {cs : List Nat} {at_ : Int} (h6 : css.length ≤ 6) (h : IsNm cs) : ∃ cs' at', whileD (bind2 (dVar 6) (dVar 3) dIn)
  (sSeq (sSet 7 (bind2 (dVar 7) (dC (.int 1)) dAdd))
  (sSeq (sSet 6 (bind2 (dSlA (dVar 6) oNone (oSome (bind1 (dC (.int 1)) dNeg))) (bind2 (dVar 2) (bind2 (dVar 7) (dC (.int 26)) dMod) dIx) dAdd))
  sNext)) 30 [.sh a, .sh b, .sh (.str "abcdefghijklmnopqrstuvwxyz"), .ow (.lst (nmsD css)), .sh c, .sh e, .sh (.str (S cs)), .sh (.int at_)] = .ok (.nx [.sh a, .sh b, .sh (.str "abcdefghijklmnopqrstuvwxyz"), .ow (.lst (nmsD css)), .sh c, .sh e, .sh (.str (S cs')), .sh (.int at')]) ∧ IsNm cs' ∧ cs' ∉ css := by
  by_cases hm : cs ∈ css
  · have hpl : cs.dropLast.length ≤ 7 := by rw [List.length_dropLast]; have := h.l8; omega
    obtain ⟨j, hj, hn⟩ := cand_free (pre := cs.dropLast) (at_ := at_) (css := css) h6
    obtain ⟨i', h1, h2⟩ := nm_while (a := a) (b := b) (c := c) (e := e) hpl j 1 29 hn (by omega)
    refine ⟨cand cs.dropLast at_ i', at_ + (i' : Int), ?_, cand_nm hpl fun x hx => h.ab x (List.dropLast_subset _ hx), h2⟩
    have hst := nm_step (a := a) (b := b) (c := c) (e := e) (css := css) (cs := cs) (at_ := at_) h.l1 h.l8
    rw [while_nx ?_ hst]
    · exact h1
    · have := in_nms (css := css) (cs := cs)
      rw [decide_eq_true hm] at this
      open_line with [this]
  · refine ⟨cs, at_, ?_, h, hm⟩
    rw [while_end]
    have := in_nms (css := css) (cs := cs)
    rw [decide_eq_false hm] at this
    open_line with [this]
def dsz : List Int := [8, 3, 26, 26, 26, 26, 26, 26, 26, 26, 8, 3, 26, 26, 26, 26, 26, 26, 26, 26, 8, 3, 26, 26, 26, 26, 26, 26, 26, 26, 8, 3, 26, 26, 26, 26, 26, 26, 26, 26, 8, 3, 26, 26, 26, 26, 26, 26, 26, 26, 8, 3, 26, 26, 26, 26, 26, 26, 26, 26, 8, 3, 26, 26, 26, 26, 26, 26, 26, 26]
theorem dsz_at : ∀ k, k < 7 → ∀ j, j < 10 → dsz[10 * k + j]? = some (if j = 0 then 8 else if j = 1 then 3 else 26) := by decide
structure Ten (es : List Int) : Prop where
  len : es.length = 10
  e0 : ∃ v, es[0]? = some v ∧ 0 ≤ v ∧ v < 8
  e1 : ∃ v, es[1]? = some v ∧ 0 ≤ v ∧ v < 3
  el : ∀ j, 2 ≤ j → j < 10 → ∃ v, es[j]? = some v ∧ 0 ≤ v ∧ v < 26
theorem ten_of {ds : List Int} (W : Drawn dsz ds) {k : Nat} (hk : k < 7) : Ten ((ds.drop (10 * k)).take 10) := by
  have hl : ds.length = 70 := W.len
  have at_ : ∀ j, j < 10 → ∃ v, ((ds.drop (10 * k)).take 10)[j]? = some v ∧ 0 ≤ v ∧ v < (if j = 0 then 8 else if j = 1 then 3 else 26 : Int) := fun j hj => by
    rw [List.getElem?_take_of_lt hj, List.getElem?_drop]
    obtain ⟨v, h1, h2, _⟩ := W.at (10 * k + j) (dsz_at k hk j hj)
    exact ⟨v, h1, h2.1, h2.2⟩
  refine ⟨by rw [List.length_take, List.length_drop]; omega, ?_, ?_, fun j h2 h10 => ?_⟩
  · have := at_ 0 (by decide); simpa using this
  · have := at_ 1 (by decide); simpa using this
  · obtain ⟨v, h⟩ := at_ j h10
    rw [if_neg (by omega), if_neg (by omega)] at h
    exact ⟨v, h⟩
theorem Ten.ix {es : List Int} {j : Nat} {v : Int} (h : es[j]? = some v) : dIx (.lst (es.map D.int)) (.int (j : Int)) = .ok (.int v) := ix_lst (by rw [List.getElem?_map, h]; rfl)
def srcR1K (d : D) : Res (List D) := match d with
  | .int j => if -4611686018427387904 ≤ j ∧ j < 4611686018427387904 then .ok (intsFrom 0 j.toNat) else .stuck
  | _ => .stuck
theorem ev_srcR1 {f : Ev → Res D} {ρ : Ev} : srcR1 f ρ = (f ρ).bind srcR1K := nrfl rfl
theorem srcR1_nat {k : Nat} (h : k ≤ 1000000) : srcR1K (.int (k : Int)) = .ok (intsFrom 0 k) := by
  unfold srcR1K
  dsimp only
  rw [if_pos ⟨by omega, by omega⟩, Int.toNat_natCast]
def first (es : List Int) (m : Nat) : List Nat := (List.range m).map fun j => 97 + ((es[2 + j]?).getD 0).toNat
theorem first_nm {es : List Int} (T : Ten es) {m : Nat} (h1 : 1 ≤ m) (h8 : m ≤ 8) : IsNm (first es m) := by
  refine ⟨by unfold first; simpa using h1, by unfold first; simpa using h8, fun x hx => ?_⟩
  unfold first at hx
  obtain ⟨j, hj, rfl⟩ := List.mem_map.mp hx
  rw [List.mem_range] at hj
  obtain ⟨v, e, b⟩ := T.el (2 + j) (by omega) (by omega)
  rw [e, Option.getD_some]
  exact abc_in _ (by omega)
theorem first_comp {es : List Int} (T : Ten es) {m : Nat} (h8 : m ≤ 8) {a b n k : D} {x6 x7 : Sl} : compK 1 [2, 5] (gSet 0) mYes (bind2 (dVar 1) (bind2 (dVar 2) (bind2 (dC (.int 2)) (dVar 0) dAdd) dIx) dIx) [.sh a, .sh b, .sh (.str "abcdefghijklmnopqrstuvwxyz"), .ow n, .sh k, .sh (.lst (es.map D.int)), x6, x7] (intsFrom 0 m) = .ok (.lst ((first es m).map fun c => D.str ⟨#[c]⟩)) := by
  have hlen : (DL.intsFrom 0 m).length = m := by unfold DL.intsFrom; simp
  rw [comp_map (F := fun d => match d with | .int j => .str ⟨#[97 + ((es[2 + j.toNat]?).getD 0).toNat]⟩ | d => d) (by rw [hlen]; omega)]
  · congr 2
    unfold DL.intsFrom first
    rw [List.map_map, List.map_map]
    apply List.map_congr_left
    intro j _
    show D.str ⟨#[97 + ((es[2 + (0 + (j : Int)).toNat]?).getD 0).toNat]⟩ = _
    rw [show (0 + (j : Int)).toNat = j by omega]
    rfl
  · intro d hd
    unfold DL.intsFrom at hd
    obtain ⟨j, hj, rfl⟩ := List.mem_map.mp hd
    rw [List.mem_range] at hj
    obtain ⟨v, e, hb⟩ := T.el (2 + j) (by omega) (by omega)
    refine ⟨[.sh (.int (0 + (j : Int))), .sh (.str "abcdefghijklmnopqrstuvwxyz"), .sh (.lst (es.map D.int))], rfl, rfl, ?_⟩
    have hix : dIx (.lst (es.map D.int)) (.int (2 + (0 + (j : Int)))) = .ok (.int v) := by
      rw [show (2 + (0 + (j : Int))) = ((2 + j : Nat) : Int) by omega]
      exact Ten.ix e
    open_line with [hix, abc_ix hb.1 hb.2]
    rw [show (0 + (j : Int)).toNat = j by omega, e]
    rfl
theorem slice_over {z : Str} {j : Int} (h : (z.length : Int) ≤ j) : Txt.slice z none (some j) = Txt.slice z none (some (z.length : Int)) := by
  show StrLaws.sliceText z none (some j) = StrLaws.sliceText z none (some (z.length : Int))
  have e : Builtin.Str.strSliceIndices none (some j) 1 z.length = Builtin.Str.strSliceIndices none (some (z.length : Int)) 1 z.length := by
    have a : ¬ j < 0 := by omega
    have b : ¬ ((z.length : Int) < 0) := by omega
    have c : min j (z.length : Int) = (z.length : Int) := by omega
    have d : min (z.length : Int) (z.length : Int) = (z.length : Int) := by omega
    simp [Builtin.Str.strSliceIndices, a, b, c, d]
  unfold StrLaws.sliceText
  rw [e]
theorem nodup_snoc {α : Type} {l : List α} {x : α} (h : l.Nodup) (hx : x ∉ l) : (l ++ [x]).Nodup := by
  rw [List.nodup_append]
  refine ⟨h, by simp, fun a ha b hb => ?_⟩
  have : b = x := by simpa using hb
  subst this
  intro z; subst z; exact hx ha
set_option maxHeartbeats 1000000 in
theorem names_ok {ds : List Int} (W : Drawn dsz ds) {n : Nat} (hn : n ≤ 7) : ∃ css : List (List Nat), m__law_names [.lst (ds.map D.int), .int (n : Int)] = .ok (.lst (nmsD css)) ∧ css.length = n ∧ css.Nodup ∧ ∀ cs ∈ css, IsNm cs := by
  have hdl : ds.length = 70 := W.len
  obtain ⟨ρ', hl, css, hc, hnd, hnm, x4, x5, x6, x7, rfl⟩ := for_rng (i := 4) (n := n)
    (ρ := [.sh (.lst (ds.map D.int)), .sh (.int (n : Int)), .sh (.str "abcdefghijklmnopqrstuvwxyz"), .ow (.lst []), .no, .no, .no, .no])
    (body := (sSeq (sSet 5 (dSlA (dVar 0) (oSome (bind2 (dC (.int 10)) (dVar 4) dMulL)) (oSome (bind2 (bind2 (dC (.int 10)) (dVar 4) dMulL) (dC (.int 10)) dAdd))))
  (sSeq (sSet 6 (dJoin (dC (.str "")) (aCons (compD 1 [2, 5] (srcR1 (bind2 (dC (.int 1)) (bind2 (dVar 5) (dC (.int 0)) dIx) dAdd)) (gSet 0) mYes (bind2 (dVar 1) (bind2 (dVar 2) (bind2 (dC (.int 2)) (dVar 0) dAdd) dIx) dIx)) aNil)))
  (sSeq (sIf (dAnd (bind2 (dVar 4) (dC (.int 0)) dGt) (bind2 (bind2 (dVar 5) (dC (.int 1)) dIx) (dC (.int 0)) dEq))
  (sSeq (sSetL 6 (bind2 (dSlA (bind2 (dVar 3) (bind2 (dVar 4) (dC (.int 1)) dSub) dIx) oNone (oSome (bind2 (dVar 5) (dC (.int 0)) dIx))) (bind2 (dVar 2) (bind2 (dVar 5) (dC (.int 2)) dIx) dIx) dAdd))
  sNext)
  sNext)
  (sSeq (sSet 7 (bind2 (dVar 5) (dC (.int 9)) dIx))
  (sSeq (sWhile (fun _ => 30) (bind2 (dVar 6) (dVar 3) dIn)
  (sSeq (sSet 7 (bind2 (dVar 7) (dC (.int 1)) dAdd))
  (sSeq (sSet 6 (bind2 (dSlA (dVar 6) oNone (oSome (bind1 (dC (.int 1)) dNeg))) (bind2 (dVar 2) (bind2 (dVar 7) (dC (.int 26)) dMod) dIx) dAdd))
  sNext)))
  (sSeq (sAppend 3 (dVar 6))
  sNext)))))))
    (fun k ρ => ∃ css : List (List Nat), css.length = k ∧ css.Nodup ∧ (∀ cs ∈ css, IsNm cs) ∧ ∃ x4 x5 x6 x7, ρ = [.sh (.lst (ds.map D.int)), .sh (.int (n : Int)), .sh (.str "abcdefghijklmnopqrstuvwxyz"), .ow (.lst (nmsD css)), x4, x5, x6, x7]) (by
      rintro k hk ρ ⟨css, rfl, hnd, hnm, x4, x5, x6, x7, rfl⟩
      have T := ten_of W (k := css.length) (by omega)
      generalize hes : (ds.drop (10 * css.length)).take 10 = es at T
      have hcut : cutD (ds.map D.int) (some (10 * (css.length : Int))) (some (10 * (css.length : Int) + 10)) = es.map D.int := by
        rw [cut_ints (a := 10 * css.length) (b := 10 * css.length + 10) (by omega) (by omega) (by omega) (by omega), show 10 * css.length + 10 - 10 * css.length = 10 by omega, hes]
      obtain ⟨e0, g0, b0, b0'⟩ := T.e0
      obtain ⟨e1, g1, b1, b1'⟩ := T.e1
      obtain ⟨e2, g2, b2, b2'⟩ := T.el 2 (by decide) (by decide)
      obtain ⟨e9, g9, b9, b9'⟩ := T.el 9 (by decide) (by decide)
      have i0 : dIx (.lst (es.map D.int)) (.int 0) = .ok (.int e0) := Ten.ix (j := 0) g0
      have i1 : dIx (.lst (es.map D.int)) (.int 1) = .ok (.int e1) := Ten.ix (j := 1) g1
      have i2 : dIx (.lst (es.map D.int)) (.int 2) = .ok (.int e2) := Ten.ix (j := 2) g2
      have i9 : dIx (.lst (es.map D.int)) (.int 9) = .ok (.int e9) := Ten.ix (j := 9) g9
      obtain ⟨m, rfl⟩ := Int.eq_ofNat_of_zero_le b0
      have hm1 : mulOk 10 (css.length : Int) = true := mulSmall (by decide) (by omega)
      have hsrc : srcR1K (.int (1 + (m : Int))) = .ok (DL.intsFrom 0 (1 + m)) := by
        rw [show (1 + (m : Int)) = ((1 + m : Nat) : Int) by omega]; exact srcR1_nat (by omega)
      have hjoin := join_sings (cs := first es (1 + m)) (by unfold first; simp; omega)
      have hF := first_nm T (m := 1 + m) (by omega) (by omega)
      have hcomp := fun (x6 x7 : Sl) => first_comp T (m := 1 + m) (by omega) (a := .lst (ds.map D.int)) (b := .int (n : Int)) (n := .lst (nmsD css)) (k := .int (css.length : Int)) (x6 := x6) (x7 := x7)
      have hwh : ∀ (c : Ev → Res D) (s : Ev → Res Fl) (ρ : Ev), sWhile (fun _ => 30) c s ρ = whileD c s 30 ρ := fun _ _ _ => rfl
      have hap : decide ((nmsD css).length ≤ 999) = true := decide_eq_true (by unfold nmsD; rw [List.length_map]; omega)
      have fin : ∀ cs, cs ∉ css → IsNm cs → (css ++ [cs]).Nodup ∧ ∀ c ∈ css ++ [cs], IsNm c := fun cs h1 h2 => ⟨nodup_snoc hnd h1, fun c hc => by
        rw [List.mem_append] at hc
        rcases hc with hc | hc
        · exact hnm c hc
        · have : c = cs := by simpa using hc
          subst this; exact h2⟩
      have hmp : ∀ cs, nmsD (css ++ [cs]) = nmsD css ++ [.str (S cs)] := fun cs => by unfold nmsD; rw [List.map_append]; rfl
      have hS : ∀ cs : List Nat, (⟨cs.toArray⟩ : Str) = S cs := fun _ => rfl
      rw [hS] at hjoin
      cases hcc : (decide ((css.length : Int) > 0) && (e1 == 0)) with
      | false =>
        obtain ⟨cs', at', hw, hN, hO⟩ := nm_told (a := .lst (ds.map D.int)) (b := .int (n : Int)) (c := .int (css.length : Int)) (e := .lst (es.map D.int)) (css := css) (cs := first es (1 + m)) (at_ := e9) (by omega) hF
        refine ⟨[.sh (.lst (ds.map D.int)), .sh (.int (n : Int)), .sh (.str "abcdefghijklmnopqrstuvwxyz"), .ow (.lst (nmsD (css ++ [cs']))), .sh (.int (css.length : Int)), .sh (.lst (es.map D.int)), .sh (.str (S cs')), .sh (.int at')], ?_, css ++ [cs'], by simp, (fin cs' hO hN).1, (fin cs' hO hN).2, _, _, _, _, rfl⟩
        rw [hmp]
        by_cases hk0 : (css.length : Int) > 0
        · have h10 : (e1 == 0) = false := by rw [decide_eq_true hk0] at hcc; simpa using hcc
          open_line with [ev_mul hm1, hcut, i0, ev_srcR1, hsrc, hcomp, hjoin, decide_eq_true hk0, i1, h10, i9, hwh, hw, ev_app1 hap]
        · open_line with [ev_mul hm1, hcut, i0, ev_srcR1, hsrc, hcomp, hjoin, decide_eq_false hk0, i9, hwh, hw, ev_app1 hap]
      | true =>
        rw [Bool.and_eq_true, decide_eq_true_eq] at hcc
        have hk0 := hcc.1
        have hlast : css.length - 1 < css.length := by omega
        have hpx := hnm css[css.length - 1] (List.getElem_mem hlast)
        have hixn : dIx (.lst (nmsD css)) (.int ((css.length : Int) - 1)) = .ok (.str (S css[css.length - 1])) := by
          rw [show ((css.length : Int) - 1) = ((css.length - 1 : Nat) : Int) by omega]
          exact ix_lst (by unfold nmsD; rw [List.getElem?_map, List.getElem?_eq_getElem hlast]; rfl)
        generalize css[css.length - 1] = pv at hixn hpx
        have hsl : slK2 (.str (S pv)) none (some (m : Int)) = .ok (.str (S (pv.take m))) := by
          rw [sl_strs (by rw [S_len]; have := hpx.l8; omega)]
          by_cases hmm : m ≤ pv.length
          · exact congrArg (fun z => Res.ok (D.str z)) (slice_to hmm)
          · rw [slice_over (by rw [S_len]; omega), S_len]
            refine congrArg (fun z => Res.ok (D.str z)) ((slice_to (Nat.le_refl _)).trans ?_)
            rw [List.take_length, List.take_of_length_le (by omega)]; rfl
        have hadd : dAdd (.str (S (pv.take m))) (.str ⟨#[97 + e2.toNat]⟩) = .ok (.str (S (pv.take m ++ [97 + e2.toNat]))) := by
          have hln : (S (pv.take m)).length + (⟨#[97 + e2.toNat]⟩ : Str).length ≤ 1000 := by
            rw [S_len, List.length_take]
            show min m pv.length + 1 ≤ 1000
            omega
          rw [add_strs hln]
          exact congrArg (fun z => Res.ok (D.str z)) (cs_append (pv.take m) [97 + e2.toNat])
        have hset : ∀ (i : Nat) (ρ : Ev) (z : Str), setLK i ρ (.str z) = .ok (.nx (ρ.set i (.sh (.str z)))) := fun _ _ _ => rfl
        have hF2 : IsNm (pv.take m ++ [97 + e2.toNat]) := by
          refine ⟨by simp, by simp; omega, fun x hx => ?_⟩
          rw [List.mem_append] at hx
          rcases hx with hx | hx
          · exact hpx.ab x (List.mem_of_mem_take hx)
          · have : x = 97 + e2.toNat := by simpa using hx
            rw [this]; exact abc_in _ (by omega)
        obtain ⟨cs', at', hw, hN, hO⟩ := nm_told (a := .lst (ds.map D.int)) (b := .int (n : Int)) (c := .int (css.length : Int)) (e := .lst (es.map D.int)) (css := css) (cs := pv.take m ++ [97 + e2.toNat]) (at_ := e9) (by omega) hF2
        refine ⟨[.sh (.lst (ds.map D.int)), .sh (.int (n : Int)), .sh (.str "abcdefghijklmnopqrstuvwxyz"), .ow (.lst (nmsD (css ++ [cs']))), .sh (.int (css.length : Int)), .sh (.lst (es.map D.int)), .sh (.str (S cs')), .sh (.int at')], ?_, css ++ [cs'], by simp, (fin cs' hO hN).1, (fin cs' hO hN).2, _, _, _, _, rfl⟩
        rw [hmp]
        open_line with [ev_mul hm1, hcut, i0, ev_srcR1, hsrc, hcomp, hjoin, decide_eq_true hk0, i1, hcc.2, dSub, hixn, hsl, i2, abc_ix b2 b2', hadd, ev_setL, hset, i9, hwh, hw, ev_app1 hap]) ⟨[], rfl, List.nodup_nil, fun c hc => (nomatch hc), _, _, _, _, rfl⟩
  refine ⟨css, ?_, hc, hnd, hnm⟩
  open_line with [m__law_names, b__law_names, ev_forR, forR_nat (show n ≤ 1000000 by omega), hl]
end Cod
set_option Elab.async false
set_option linter.all false
set_option maxRecDepth 100000
namespace Cod
open PySem L2 DL Com
def b__law_tie : Ev → Res Fl :=
  (sSeq (sSet 3 (bindA (aCons (dVar 0) (aCons (bindA (aCons (dC (.int 420)) (aCons (dC (.int 60)) (aCons (dC (.int 2)) (aCons (dC (.int 5)) (aCons (bind2 (dC (.int 10)) (dC (.int 18)) dPow) (aCons (dC (.int 30)) (aCons (dC (.int 6)) (aCons (dC (.int 5)) (aCons (bind2 (dC (.int 10)) (dC (.int 18)) dPow) (aCons (dC (.int 30)) (aCons (dC (.int 3)) aNil))))))))))) mLst) aNil)) m__law_draws))
  (sSeq (sSet 4 (bind2 (bind2 (dVar 3) (dC (.int 0)) dIx) (bindA (aCons (dVar 2) aNil) (m1 dLen)) dMod))
  (sSeq (sSet 5 (bind2 (bind2 (bind2 (dVar 4) (dC (.int 1)) dAdd) (bind2 (bind2 (dVar 3) (dC (.int 1)) dIx) (bind2 (bindA (aCons (dVar 2) aNil) (m1 dLen)) (dC (.int 1)) dSub) dMod) dAdd) (bindA (aCons (dVar 2) aNil) (m1 dLen)) dMod))
  (sSeq (sIf (bind2 (bind2 (dVar 3) (dC (.int 10)) dIx) (dC (.int 0)) dEq)
  (sSeq (sSet 4 (bind2 (dVar 1) (bind2 (bindA (aCons (dVar 2) aNil) (m1 dLen)) (dC (.int 1)) dSub) dMod))
  (sSeq (sSet 5 (bind2 (dVar 4) (dC (.int 1)) dAdd))
  sNext))
  sNext)
  (sSeq (sSet 6 (dC (.non)))
  (sSeq (sIf (bind2 (bind2 (dVar 3) (dC (.int 6)) dIx) (dC (.int 0)) dGt)
  (sSeq (sSet 6 (bindA (aCons (dSlA (dVar 3) (oSome (dC (.int 7))) (oSome (dC (.int 10)))) aNil) m__law_fraction))
  (sSeq (sIf (bind2 (bind2 (dVar 6) (dC (.int 0)) dIx) (dC (.int 0)) dEq)
  (sSeq (sSet 6 (bindA (aCons (dC (.int 1)) (aCons (dC (.int 1)) aNil)) mTup))
  sNext)
  sNext)
  sNext))
  sNext)
  (sSeq (sRet (bindA (aCons (bind2 (dVar 2) (dVar 4) dIx) (aCons (bind2 (dVar 2) (dVar 5) dIx) (aCons (bind2 (bindA (aCons (dC (.str "one")) (aCons (dC (.str "both")) aNil)) mLst) (bind2 (dVar 3) (dC (.int 2)) dIx) dIx) (aCons (bindA (aCons (dSlA (dVar 3) (oSome (dC (.int 3))) (oSome (dC (.int 6)))) aNil) m__law_fraction) (aCons (dVar 6) aNil))))) mTup))
  sNext)))))))
def m__law_tie : List D → Res D := runD 7 b__law_tie
theorem worth_one : Fin60 (1, 1) ∧ 0 < ((1, 1) : Fra).1 := ⟨⟨⟨by decide, by decide⟩, by decide, by decide⟩, by decide⟩
set_option maxHeartbeats 1000000 in
theorem tie_ok {zs : List Str} {c : Int} {k : Nat} (h2 : 2 ≤ zs.length) (h8 : zs.length ≤ 8) (nd : zs.Nodup) : ∃ t, m__law_tie [.int c, .int (k : Int), .lst (zs.map D.str)] = .ok (tieD t) ∧ TieOk zs t := by
  obtain ⟨vs, hd, W⟩ := draws_ok c [420, 60, 2, 5, 1000000000000000000, 30, 6, 5, 1000000000000000000, 30, 3] (by decide) (by decide)
  have hd' : m__law_draws [.int c, .lst [.int 420, .int 60, .int 2, .int 5, .int 1000000000000000000, .int 30, .int 6, .int 5, .int 1000000000000000000, .int 30, .int 3]] = .ok (.lst (vs.map D.int)) := hd
  obtain ⟨d0, g0, b0, i0⟩ := W.ix 0 0 rfl rfl
  obtain ⟨d1, g1, b1, i1⟩ := W.ix 1 1 rfl rfl
  obtain ⟨d2, g2, b2, i2⟩ := W.ix 2 2 rfl rfl
  obtain ⟨d3, g3, b3, _⟩ := W.at 3 rfl
  obtain ⟨d4, g4, b4, _⟩ := W.at 4 rfl
  obtain ⟨d5, g5, b5, _⟩ := W.at 5 rfl
  obtain ⟨d6, g6, b6, i6⟩ := W.ix 6 6 rfl rfl
  obtain ⟨d7, g7, b7, _⟩ := W.at 7 rfl
  obtain ⟨d8, g8, b8, _⟩ := W.at 8 rfl
  obtain ⟨d9, g9, b9, _⟩ := W.at 9 rfl
  obtain ⟨d10, g10, b10, i10⟩ := W.ix 10 10 rfl rfl
  have c3 := cut3 (x := 3) (y := 6) (i := 3) rfl rfl g3 g4 g5
  have c7 := cut3 (x := 7) (y := 10) (i := 7) rfl rfl g7 g8 g9
  obtain ⟨x, hx, fx, lx⟩ := fraction_ok (w := d3) (a := d4) (b := d5) b3 b4 b5
  obtain ⟨y, hy, fy, ly⟩ := fraction_ok (w := d7) (a := d8) (b := d9) b7 b8 b9
  obtain ⟨wd, hw, jw⟩ := word_ix b2.1 b2.2
  have hn0 : ((zs.length : Int) == 0) = false := beq_eq_false_iff_ne.mpr (by omega)
  have hn1 : ((zs.length : Int) - 1 == 0) = false := beq_eq_false_iff_ne.mpr (by omega)
  obtain ⟨p, q, hp, hq, hpq, hplace⟩ : ∃ p q : Int, (0 ≤ p ∧ p < (zs.length : Int)) ∧ (0 ≤ q ∧ q < (zs.length : Int)) ∧ p ≠ q ∧ (((d10 == 0) = true ∧ p = (k : Int).fmod ((zs.length : Int) - 1) ∧ q = p + 1) ∨ ((d10 == 0) = false ∧ p = d0.fmod (zs.length : Int) ∧ q = (d0.fmod (zs.length : Int) + 1 + d1.fmod ((zs.length : Int) - 1)).fmod (zs.length : Int))) := by
    cases h10 : (d10 == 0) with
    | true =>
      have f := fmodr (a := (k : Int)) (b := (zs.length : Int) - 1) (by omega)
      exact ⟨(k : Int).fmod ((zs.length : Int) - 1), (k : Int).fmod ((zs.length : Int) - 1) + 1, by omega, by omega, by omega, .inl ⟨rfl, rfl, rfl⟩⟩
    | false =>
      have f := fmodr (a := d0) (b := (zs.length : Int)) (by omega)
      have f' := fmodr (a := d1) (b := (zs.length : Int) - 1) (by omega)
      obtain ⟨hr, hne⟩ := apart_mod (n := (zs.length : Int)) (d := d0.fmod (zs.length : Int)) (e := d1.fmod ((zs.length : Int) - 1)) (by omega) f.1 f.2 f'.1 f'.2
      exact ⟨_, _, f, hr, Ne.symm hne, .inr ⟨rfl, rfl, rfl⟩⟩
  obtain ⟨z1, k1, j1⟩ := str_ix (zs := zs) hp.1 hp.2
  obtain ⟨z2, k2, j2⟩ := str_ix (zs := zs) hq.1 hq.2
  have hz12 : z1 ≠ z2 := nodup_at nd k1 k2 (by omega)
  have f1 : dIx (fr y) (.int 0) = .ok (.int y.1) := rfl
  obtain ⟨o, ho, hworth⟩ : ∃ o : Option Fra, (∀ v, o = some v → Fin60 v ∧ 0 < v.1) ∧ ((¬ d6 > 0 ∧ o = none) ∨ (d6 > 0 ∧ (y.1 == 0) = true ∧ o = some (1, 1)) ∨ (d6 > 0 ∧ (y.1 == 0) = false ∧ o = some y)) := by
    by_cases h6 : d6 > 0
    · cases hy0 : (y.1 == 0) with
      | true => exact ⟨some (1, 1), fun v hv => by cases hv; exact worth_one, .inr (.inl ⟨h6, rfl, rfl⟩)⟩
      | false => exact ⟨some y, fun v hv => by cases hv; exact ⟨fy, by have : y.1 ≠ 0 := beq_eq_false_iff_ne.mp hy0; omega⟩, .inr (.inr ⟨h6, rfl, rfl⟩)⟩
    · exact ⟨none, fun v hv => (nomatch hv), .inl ⟨h6, rfl⟩⟩
  refine ⟨⟨z1, z2, wd, x, o⟩, ?_, List.mem_of_getElem? k1, List.mem_of_getElem? k2, hz12, hw, fx, lx, ho⟩
  rw [show tieD ⟨z1, z2, wd, x, o⟩ = .tup [.str z1, .str z2, .str wd, fr x, worthO o] from rfl]
  rcases hplace with ⟨h10, e1, e2⟩ | ⟨h10, e1, e2⟩ <;> rcases hworth with ⟨h6, e3⟩ | ⟨h6, hy0, e3⟩ | ⟨h6, hy0, e3⟩ <;> subst e3
  · rw [e2, e1] at j2; rw [e1] at j1
    open_line with [m__law_tie, b__law_tie, ev_p18, hd', i0, i1, i2, i6, i10, List.length_map, hn0, hn1, dSub, h10, decide_eq_false h6, j1, j2, jw, c3, hx]
    rfl
  · rw [e2, e1] at j2; rw [e1] at j1
    open_line with [m__law_tie, b__law_tie, ev_p18, hd', i0, i1, i2, i6, i10, List.length_map, hn0, hn1, dSub, h10, decide_eq_true h6, c7, hy, f1, hy0, j1, j2, jw, c3, hx]
    rfl
  · rw [e2, e1] at j2; rw [e1] at j1
    open_line with [m__law_tie, b__law_tie, ev_p18, hd', i0, i1, i2, i6, i10, List.length_map, hn0, hn1, dSub, h10, decide_eq_true h6, c7, hy, f1, hy0, j1, j2, jw, c3, hx]
    rfl
  · rw [e2] at j2; rw [e1] at j1
    open_line with [m__law_tie, b__law_tie, ev_p18, hd', i0, i1, i2, i6, i10, List.length_map, hn0, hn1, dSub, h10, decide_eq_false h6, j1, j2, jw, c3, hx]
    rfl
  · rw [e2] at j2; rw [e1] at j1
    open_line with [m__law_tie, b__law_tie, ev_p18, hd', i0, i1, i2, i6, i10, List.length_map, hn0, hn1, dSub, h10, decide_eq_true h6, c7, hy, f1, hy0, j1, j2, jw, c3, hx]
    rfl
  · rw [e2] at j2; rw [e1] at j1
    open_line with [m__law_tie, b__law_tie, ev_p18, hd', i0, i1, i2, i6, i10, List.length_map, hn0, hn1, dSub, h10, decide_eq_true h6, c7, hy, f1, hy0, j1, j2, jw, c3, hx]
    rfl
def b__law_cells : Ev → Res Fl :=
  (sSeq (sSet 1 (bindA (aCons (bind2 (bind2 (dVar 0) (bindA (aCons (dC (.int 0)) aNil) mLst) dAdd) (dC (.int 0)) dIx) (aCons (bind2 (bind2 (bindA (aCons (dC (.int 6)) (aCons (dC (.int 420)) (aCons (dC (.int 60)) aNil))) mLst) (repL (bind2 (bindA (aCons (dC (.int 8)) (aCons (dC (.int 3)) aNil)) mLst) (repL (bindA (aCons (dC (.int 26)) aNil) mLst) (dC (.int 8))) dCat) (dC (.int 7))) dAdd) (bindA (aCons (dC (.int 18)) aNil) mLst) dAdd) aNil)) m__law_draws))
  (sSeq (sSet 2 (bindA (aCons (dC (.int 14)) (aCons (bind2 (dVar 1) (dC (.int 73)) dIx) aNil)) (m2 dMin)))
  (sSeq (sRet (bindA (aCons (dSlA (dVar 0) (oSome (dC (.int 1))) (oSome (bind2 (dC (.int 1)) (dVar 2) dAdd))) (aCons (dSlA (dVar 0) (oSome (bind2 (dC (.int 1)) (dVar 2) dAdd)) (oSome (dC (.int 63)))) aNil)) mTup))
  sNext)))
def m__law_cells : List D → Res D := runD 3 b__law_cells
def hd0 (ns : List Int) : Int := (ns ++ [0]).headD 0
theorem head_ok {ns : List Int} (hn : ns.length ≤ 900) {ρ : Ev} (h : ρ[0]? = some (.sh (.lst (ns.map D.int)))) : (bind2 (bind2 (dVar 0) (bindA (aCons (dC (.int 0)) aNil) mLst) dAdd) (dC (.int 0)) dIx) ρ = .ok (.int (hd0 ns)) := by
  have hadd : dAdd (.lst (ns.map D.int)) (.lst [.int 0]) = .ok (.lst ((ns ++ [0]).map D.int)) := by
    rw [ev_addL (decide_eq_true (by rw [List.length_map]; simp; omega)), List.map_append]; rfl
  have hix : dIx (.lst ((ns ++ [0]).map D.int)) (.int 0) = .ok (.int (hd0 ns)) := by
    refine ix_lst (k := 0) ?_
    unfold hd0
    cases ns <;> rfl
  have hv : dVar 0 ρ = .ok (.lst (ns.map D.int)) := by
    show (match ρ[0]? with | some (.sh d) => Res.ok d | _ => .stuck) = _
    rw [h]
  rw [ev_b2, ev_b2, hv]
  open_line with [hadd, hix]
def szW : List Int := [6, 420, 60] ++ dsz
def szC : List Int := szW ++ [18]
theorem szW_ok {ρ : Ev} : (bind2 (bindA (aCons (dC (.int 6)) (aCons (dC (.int 420)) (aCons (dC (.int 60)) aNil))) mLst) (repL (bind2 (bindA (aCons (dC (.int 8)) (aCons (dC (.int 3)) aNil)) mLst) (repL (bindA (aCons (dC (.int 26)) aNil) mLst) (dC (.int 8))) dCat) (dC (.int 7))) dAdd) ρ = .ok (.lst (szW.map D.int)) := rfl
theorem szC_ok {ρ : Ev} : (bind2 (bind2 (bindA (aCons (dC (.int 6)) (aCons (dC (.int 420)) (aCons (dC (.int 60)) aNil))) mLst) (repL (bind2 (bindA (aCons (dC (.int 8)) (aCons (dC (.int 3)) aNil)) mLst) (repL (bindA (aCons (dC (.int 26)) aNil) mLst) (dC (.int 8))) dCat) (dC (.int 7))) dAdd) (bindA (aCons (dC (.int 18)) aNil) mLst) dAdd) ρ = .ok (.lst (szC.map D.int)) := rfl
theorem cut_any {ns : List Int} {lo hi : Option Int} : ∃ ms : List Int, cutD (ns.map D.int) lo hi = ms.map D.int ∧ ms.length ≤ ns.length := by
  rw [cut_sub]
  exact ⟨_, rfl, Nat.le_trans (List.length_take_le' ..) (by rw [List.length_drop]; omega)⟩
theorem cells_ok {ns : List Int} (hn : ns.length ≤ 63) : ∃ c1 c2 : List Int, m__law_cells [.lst (ns.map D.int)] = .ok (.tup [.lst (c1.map D.int), .lst (c2.map D.int)]) ∧ c1.length ≤ 14 ∧ c2.length ≤ 63 := by
  obtain ⟨vs, hd, W⟩ := draws_ok (hd0 ns) szC (by decide) (by decide)
  obtain ⟨d, g, b, i⟩ := W.ix 73 73 rfl rfl
  have hmin : dMin (.int 14) (.int d) = .ok (.int (min 14 d)) := by
    show Res.ok (D.int (if d < 14 then d else 14)) = _
    congr 2
    split <;> omega
  obtain ⟨c2, hc2, hl2⟩ := cut_any (ns := ns) (lo := some (1 + min 14 d)) (hi := some 63)
  obtain ⟨m, hm⟩ := Int.eq_ofNat_of_zero_le (show 0 ≤ min 14 d by omega)
  have hc1 : ∃ c1 : List Int, cutD (ns.map D.int) (some 1) (some (1 + min 14 d)) = c1.map D.int ∧ c1.length ≤ 14 := by
    rw [cut_sub]
    refine ⟨_, rfl, Nat.le_trans (List.length_take_le ..) ?_⟩
    rw [hm, show (1 + (m : Int)) = ((1 + m : Nat) : Int) by omega, HT.sIx_nat, show (1 : Int) = ((1 : Nat) : Int) from rfl, HT.sIx_nat]
    omega
  obtain ⟨c1, hc1, hl1⟩ := hc1
  refine ⟨c1, c2, ?_, hl1, by omega⟩
  have hh := head_ok (ns := ns) (by omega) (ρ := [.sh (.lst (ns.map D.int)), .no, .no]) rfl
  rw [m__law_cells, b__law_cells]
  rw [ev_run]
  show ((sSeq _ _) [.sh (.lst (ns.map D.int)), .no, .no]).bind runK = _
  rw [ev_seq, ev_set, ev_bA, ev_cons, hh, ev_ok, ev_cons1, ev_cons, szC_ok]
  open_line with [hd, i, hmin, hc1, hc2]
def b__law_web : Ev → Res Fl :=
  (sSeq (sSet 1 (bindA (aCons (bind2 (bind2 (dVar 0) (bindA (aCons (dC (.int 0)) aNil) mLst) dAdd) (dC (.int 0)) dIx) (aCons (bind2 (bindA (aCons (dC (.int 6)) (aCons (dC (.int 420)) (aCons (dC (.int 60)) aNil))) mLst) (repL (bind2 (bindA (aCons (dC (.int 8)) (aCons (dC (.int 3)) aNil)) mLst) (repL (bindA (aCons (dC (.int 26)) aNil) mLst) (dC (.int 8))) dCat) (dC (.int 7))) dAdd) aNil)) m__law_draws))
  (sSeq (sSet 2 (bindA (aCons (dSlA (dVar 1) (oSome (dC (.int 3))) oNone) (aCons (bind2 (dC (.int 2)) (bind2 (dVar 1) (dC (.int 0)) dIx) dAdd) aNil)) m__law_names))
  (sSeq (sSet 3 (bind2 (bind2 (dVar 1) (dC (.int 1)) dIx) (bindA (aCons (dVar 2) aNil) (m1 dLen)) dMod))
  (sSeq (sSet 4 (bind2 (bind2 (bind2 (dVar 3) (dC (.int 1)) dAdd) (bind2 (bind2 (dVar 1) (dC (.int 2)) dIx) (bind2 (bindA (aCons (dVar 2) aNil) (m1 dLen)) (dC (.int 1)) dSub) dMod) dAdd) (bindA (aCons (dVar 2) aNil) (m1 dLen)) dMod))
  (sSeq (sSet 5 (compD 2 [3, 4] (srcE (dVar 2)) (gUnp [0, 1]) (bind2 (dVar 0) (bindA (aCons (dVar 2) (aCons (dVar 3) aNil)) mTup) dNotIn) (dVar 1)))
  (sSeq (sSet 6 (bind2 (bind2 (bindA (aCons (bind2 (dVar 2) (dVar 3) dIx) aNil) mLst) (dVar 5) dAdd) (bindA (aCons (bind2 (dVar 2) (dVar 4) dIx) aNil) mLst) dAdd))
  (sSeq (sSet 7 (compD 2 [6] (srcE (bind2 (bindA (aCons (dVar 0) aNil) m__law_cells) (dC (.int 0)) dIx)) (gUnp [0, 1]) mYes (bindA (aCons (dVar 1) (aCons (dVar 0) (aCons (dVar 2) aNil))) m__law_tie)))
  (sSeq (sRet (bindA (aCons (dVar 2) (aCons (dVar 7) (aCons (bind2 (dVar 2) (dVar 3) dIx) (aCons (bind2 (dVar 2) (dVar 4) dIx) aNil)))) mTup))
  sNext))))))))
def m__law_web : List D → Res D := runD 8 b__law_web
theorem numbered_range {zs : List Str} : numbered 0 (zs.map D.str) = (List.range zs.length).map fun (k : Nat) => D.tup [.int (k : Int), .str (zs[k]?.getD ("" : Str))] := by
  apply List.ext_getElem?
  intro i
  rw [numbered_get, List.getElem?_map, List.getElem?_map]
  by_cases h : i < zs.length
  · rw [List.getElem?_eq_getElem h, List.getElem?_range h]
    simp
    rw [List.getElem?_eq_getElem h]; rfl
  · rw [List.getElem?_eq_none (by omega), List.getElem?_eq_none (by simp; omega)]; rfl
theorem notin_two {k f l : Nat} : dNotIn (.int (k : Int)) (.tup [.int (f : Int), .int (l : Int)]) = .ok (.bl (!(decide (k = f) || decide (k = l)))) := by
  have e : inD (.int (k : Int)) (.tup [.int (f : Int), .int (l : Int)]) = some (decide (k = f) || decide (k = l)) := by
    have e0 : inD (.int (k : Int)) (.tup [.int (f : Int), .int (l : Int)]) = some (((f : Int) == (k : Int)) || (((l : Int) == (k : Int)) || false)) := rfl
    rw [e0]
    refine congrArg some ?_
    show (((f : Int) == (k : Int)) || (((l : Int) == (k : Int)) || false)) = _
    rw [Bool.or_false]
    congr 1
    · by_cases h : k = f
      · subst h; simp
      · rw [decide_eq_false h]; exact beq_eq_false_iff_ne.mpr (by omega)
    · by_cases h : k = l
      · subst h; simp
      · rw [decide_eq_false h]; exact beq_eq_false_iff_ne.mpr (by omega)
  unfold dNotIn
  rw [e]
def amid (zs : List Str) (f l : Nat) : List Str := ((List.range zs.length).filter fun k => !(decide (k = f) || decide (k = l))).map fun (k : Nat) => zs[k]?.getD ("" : Str)
theorem amid_comp {zs : List Str} {f l : Nat} (h : zs.length ≤ 8) {a b x5 x6 x7 : Sl} : compK 2 [3, 4] (gUnp [0, 1]) (bind2 (dVar 0) (bindA (aCons (dVar 2) (aCons (dVar 3) aNil)) mTup) dNotIn) (dVar 1) [a, b, .sh (.lst (zs.map D.str)), .sh (.int (f : Int)), .sh (.int (l : Int)), x5, x6, x7] (numbered 0 (zs.map D.str)) = .ok (.lst ((amid zs f l).map D.str)) := by
  rw [comp_filter (F := fun d => match d with | .tup [_, z] => z | d => d) (p := fun d => match d with | .tup [.int k, _] => !(decide (k.toNat = f) || decide (k.toNat = l)) | _ => false) (by rw [numbered_len, List.length_map]; omega)]
  · congr 2
    rw [numbered_range]
    unfold amid
    rw [List.filter_map, List.map_map, List.map_map]
    rfl
  · intro d hd
    rw [numbered_range] at hd
    obtain ⟨k, _, rfl⟩ := List.mem_map.mp hd
    refine ⟨[.sh (.int (k : Int)), .sh (.str (zs[k]?.getD ("" : Str))), .sh (.int (f : Int)), .sh (.int (l : Int))], rfl, ?_, fun _ => rfl⟩
    open_line with [notin_two, Int.toNat_natCast]
def walk (zs : List Str) (f l : Nat) : List Str := (zs[f]?.getD ("" : Str)) :: (amid zs f l ++ [zs[l]?.getD ("" : Str)])
def wix (n f l : Nat) : List Nat := f :: ((List.range n).filter (fun k => !(decide (k = f) || decide (k = l))) ++ [l])
theorem walk_wix {zs : List Str} {f l : Nat} : walk zs f l = (wix zs.length f l).map fun (k : Nat) => zs[k]?.getD ("" : Str) := by
  unfold walk wix amid
  rw [List.map_cons, List.map_append]; rfl
theorem wix_nd {n f l : Nat} (hfl : f ≠ l) : (wix n f l).Nodup := by
  unfold wix
  rw [List.nodup_cons, List.nodup_append]
  refine ⟨fun h => ?_, List.nodup_range.filter _, by simp, fun a ha b hb => ?_⟩
  · rw [List.mem_append] at h
    rcases h with h | h
    · have := (List.mem_filter.mp h).2
      simp at this
    · exact hfl (by simpa using h)
  · have hb' : b = l := by simpa using hb
    subst hb'
    intro z; subst z
    have := (List.mem_filter.mp ha).2
    simp at this
theorem wix_lt {n f l : Nat} (hf : f < n) (hl : l < n) : ∀ k ∈ wix n f l, k < n := fun k hk => by
  unfold wix at hk
  rw [List.mem_cons, List.mem_append] at hk
  rcases hk with rfl | hk | hk
  · exact hf
  · exact List.mem_range.mp (List.mem_filter.mp hk).1
  · have : k = l := by simpa using hk
    subst this; exact hl
theorem walk_nd {zs : List Str} (nd : zs.Nodup) {f l : Nat} (hf : f < zs.length) (hl : l < zs.length) (hfl : f ≠ l) : (walk zs f l).Nodup := by
  rw [walk_wix, List.nodup_iff_pairwise_ne, List.pairwise_map]
  refine List.Pairwise.imp_of_mem ?_ (List.nodup_iff_pairwise_ne.mp (wix_nd hfl))
  intro a b ha hb hab
  have h1 := wix_lt hf hl a ha
  have h2 := wix_lt hf hl b hb
  rw [List.getElem?_eq_getElem h1, List.getElem?_eq_getElem h2, Option.getD_some, Option.getD_some]
  exact fun z => hab ((List.getElem_inj nd).mp z)
theorem walk_sub {zs : List Str} {f l : Nat} (hf : f < zs.length) (hl : l < zs.length) : ∀ z ∈ walk zs f l, z ∈ zs := fun z hz => by
  rw [walk_wix] at hz
  obtain ⟨k, hk, rfl⟩ := List.mem_map.mp hz
  have h1 := wix_lt hf hl k hk
  rw [List.getElem?_eq_getElem h1, Option.getD_some]
  exact List.getElem_mem h1
theorem walk_len {zs : List Str} (nd : zs.Nodup) {f l : Nat} (hf : f < zs.length) (hl : l < zs.length) (hfl : f ≠ l) : 2 ≤ (walk zs f l).length ∧ (walk zs f l).length ≤ zs.length := by
  refine ⟨by unfold walk; simp, nodup_le (walk_nd nd hf hl hfl) (walk_sub hf hl)⟩
theorem ties_comp {ws : List Str} {cs : List Int} (h2 : 2 ≤ ws.length) (h8 : ws.length ≤ 8) (nd : ws.Nodup) (h14 : cs.length ≤ 14) {x0 x1 x2 x3 x4 x5 x7 : Sl} : ∃ ts : List Tie, compK 2 [6] (gUnp [0, 1]) mYes (bindA (aCons (dVar 1) (aCons (dVar 0) (aCons (dVar 2) aNil))) m__law_tie) [x0, x1, x2, x3, x4, x5, .sh (.lst (ws.map D.str)), x7] (numbered 0 (cs.map D.int)) = .ok (.lst (ts.map tieD)) ∧ ts.length = cs.length ∧ ∀ t ∈ ts, TieOk ws t := by
  have key : ∀ (c : Int) (k : Nat), ∃ t, m__law_tie [.int c, .int (k : Int), .lst (ws.map D.str)] = .ok (tieD t) ∧ TieOk ws t := fun c k => tie_ok h2 h8 nd
  obtain ⟨g, hg⟩ : ∃ g : Int → Nat → Tie, ∀ (c : Int) (k : Nat), m__law_tie [.int c, .int (k : Int), .lst (ws.map D.str)] = .ok (tieD (g c k)) ∧ TieOk ws (g c k) := ⟨fun c k => Classical.choose (key c k), fun c k => Classical.choose_spec (key c k)⟩
  refine ⟨(List.range cs.length).map fun (k : Nat) => g (cs[k]?.getD 0) k, ?_, by simp, fun t ht => ?_⟩
  · rw [comp_map (F := fun d => match d with | .tup [.int k, .int c] => tieD (g c k.toNat) | d => d) (by rw [numbered_len, List.length_map]; omega)]
    · congr 2
      apply List.ext_getElem?
      intro i
      rw [List.getElem?_map, numbered_get, List.getElem?_map, List.getElem?_map, List.getElem?_map]
      by_cases h : i < cs.length
      · rw [List.getElem?_eq_getElem h, List.getElem?_range h]
        show some (tieD (g cs[i] (((0 + i : Nat) : Int)).toNat)) = some (tieD (g (cs[i]?.getD 0) i))
        rw [List.getElem?_eq_getElem h, Option.getD_some, Int.toNat_natCast, Nat.zero_add]
      · rw [List.getElem?_eq_none (by omega), List.getElem?_eq_none (by simp; omega)]; rfl
    · intro d hd
      obtain ⟨i, hi⟩ := List.mem_iff_getElem?.mp hd
      rw [numbered_get, List.getElem?_map] at hi
      cases e : cs[i]? with
      | none => rw [e] at hi; cases hi
      | some c =>
        rw [e] at hi
        have hi' : D.tup [.int ((0 + i : Nat) : Int), .int c] = d := Option.some.inj hi
        rw [Nat.zero_add] at hi'
        subst hi'
        refine ⟨[.sh (.int (i : Int)), .sh (.int c), .sh (.lst (ws.map D.str))], rfl, rfl, ?_⟩
        have h := (hg c i).1
        open_line with [h, Int.toNat_natCast]
  · obtain ⟨k, _, rfl⟩ := List.mem_map.mp ht
    exact (hg _ _).2
set_option maxHeartbeats 1000000 in
theorem web_drawn {ns : List Int} (hn : ns.length ≤ 63) : ∃ w, m__law_web [.lst (ns.map D.int)] = .ok (webD w) ∧ WebOk w := by
  obtain ⟨vs, hd, W⟩ := draws_ok (hd0 ns) szW (by decide) (by decide)
  have hvl : vs.length = 73 := W.len
  obtain ⟨d0, g0, b0, i0⟩ := W.ix 0 0 rfl rfl
  obtain ⟨d1, g1, b1, i1⟩ := W.ix 1 1 rfl rfl
  obtain ⟨d2, g2, b2, i2⟩ := W.ix 2 2 rfl rfl
  have W3 : Drawn dsz (vs.drop 3) := ⟨by rw [List.length_drop, hvl]; rfl, fun i v s e1 e2 => by
    rw [List.getElem?_drop] at e1
    refine W.bnd (3 + i) v s e1 ?_
    have : szW[3 + i]? = dsz[i]? := by
      unfold szW
      rw [List.getElem?_append_right (by simp)]
      simp
    rw [this]; exact e2⟩
  obtain ⟨m, rfl⟩ := Int.eq_ofNat_of_zero_le b0.1
  obtain ⟨css, hnm, hcl, hnd, hall⟩ := names_ok W3 (n := 2 + m) (by omega)
  have hnm' : m__law_names [.lst ((vs.drop 3).map D.int), .int (2 + (m : Int))] = .ok (.lst ((css.map S).map D.str)) := by
    have : nmsD css = (css.map S).map D.str := by unfold nmsD; rw [List.map_map]; rfl
    rw [← this]; exact hnm
  have hzl : (css.map S).length = 2 + m := by rw [List.length_map, hcl]
  have nd : (css.map S).Nodup := by
    rw [List.nodup_iff_pairwise_ne, List.pairwise_map]
    exact List.Pairwise.imp (fun h z => h (S_inj z)) (List.nodup_iff_pairwise_ne.mp hnd)
  have nm : NamesOk (css.map S) := ⟨nd, fun z hz => by
    obtain ⟨cs, hc, rfl⟩ := List.mem_map.mp hz
    exact (hall cs hc).nameB⟩
  generalize css.map S = zs at *
  have hcut : cutD (vs.map D.int) (some 3) none = (vs.drop 3).map D.int := by
    rw [cut_sub, HT.sIx_none, show (3 : Int) = ((3 : Nat) : Int) from rfl, HT.sIx_nat, hvl]
    rw [List.take_of_length_le (by rw [List.length_drop]; omega)]
    rfl
  have hn0 : ((zs.length : Int) == 0) = false := beq_eq_false_iff_ne.mpr (by omega)
  have hn1 : ((zs.length : Int) - 1 == 0) = false := beq_eq_false_iff_ne.mpr (by omega)
  have f1 := fmodr (a := d1) (b := (zs.length : Int)) (by omega)
  have f2 := fmodr (a := d2) (b := (zs.length : Int) - 1) (by omega)
  obtain ⟨hr, hne⟩ := apart_mod (n := (zs.length : Int)) (d := d1.fmod (zs.length : Int)) (e := d2.fmod ((zs.length : Int) - 1)) (by omega) f1.1 f1.2 f2.1 f2.2
  obtain ⟨f, hf⟩ := Int.eq_ofNat_of_zero_le f1.1
  obtain ⟨l, hl⟩ := Int.eq_ofNat_of_zero_le hr.1
  have hfn : f < zs.length := by omega
  have hln : l < zs.length := by omega
  have hfl : f ≠ l := by omega
  have hixf : dIx (.lst (zs.map D.str)) (.int (f : Int)) = .ok (.str zs[f]) := ix_lst (by rw [List.getElem?_map, List.getElem?_eq_getElem hfn]; rfl)
  have hixl : dIx (.lst (zs.map D.str)) (.int (l : Int)) = .ok (.str zs[l]) := ix_lst (by rw [List.getElem?_map, List.getElem?_eq_getElem hln]; rfl)
  obtain ⟨c1, c2, hcells, hc1, _⟩ := cells_ok hn
  obtain ⟨w2, w8⟩ := walk_len nd hfn hln hfl
  have hwl : (amid zs f l).length + 2 = (walk zs f l).length := by unfold walk; simp
  have a1 : dAdd (.lst [.str zs[f]]) (.lst ((amid zs f l).map D.str)) = .ok (.lst (.str zs[f] :: (amid zs f l).map D.str)) := by
    rw [ev_addL (decide_eq_true (by rw [List.length_map]; simp; omega))]; rfl
  have a2 : dAdd (.lst (.str zs[f] :: (amid zs f l).map D.str)) (.lst [.str zs[l]]) = .ok (.lst ((walk zs f l).map D.str)) := by
    rw [ev_addL (decide_eq_true (by simp; omega))]
    unfold walk
    rw [List.map_cons, List.map_append, List.getElem?_eq_getElem hfn, List.getElem?_eq_getElem hln]
    rfl
  have hh := head_ok (ns := ns) (by omega) (ρ := [.sh (.lst (ns.map D.int)), .no, .no, .no, .no, .no, .no, .no]) rfl
  obtain ⟨ts, hts, htl, htall⟩ := ties_comp (ws := walk zs f l) (cs := c1) w2 (by omega) (walk_nd nd hfn hln hfl) hc1 (x0 := .sh (.lst (ns.map D.int))) (x1 := .sh (.lst (vs.map D.int))) (x2 := .sh (.lst (zs.map D.str))) (x3 := .sh (.int (f : Int))) (x4 := .sh (.int (l : Int))) (x5 := .sh (.lst ((amid zs f l).map D.str))) (x7 := .no)
  refine ⟨⟨zs, ts, zs[f], zs[l]⟩, ?_, ⟨by show 2 ≤ zs.length; omega, by show zs.length ≤ 7; omega, nm, by show ts.length ≤ 14; omega, fun t ht => ?_, List.getElem_mem hfn, List.getElem_mem hln, fun z => hfl ((List.getElem_inj nd).mp z)⟩⟩
  · rw [m__law_web, b__law_web, ev_run]
    show ((sSeq _ _) [.sh (.lst (ns.map D.int)), .no, .no, .no, .no, .no, .no, .no]).bind runK = _
    rw [ev_seq, ev_set, ev_bA, ev_cons, hh, ev_ok, ev_cons1, ev_cons, szW_ok]
    open_line with [hd, hcut, i0, hnm', i1, i2, List.length_map, hn0, hn1, dSub, hf]
    rw [hf] at hl
    open_line with [hl, ev_comp, ev_srcE, ev_srcE1, amid_comp (show zs.length ≤ 8 by omega), hixf, hixl, a1, a2, hcells, hts]
    rfl
  · have T := htall t ht
    exact ⟨walk_sub hfn hln _ T.a, walk_sub hfn hln _ T.b, T.ne, T.w, T.l, T.l0, T.o⟩
end Cod
set_option Elab.async false
set_option linter.all false
set_option maxRecDepth 100000
namespace K36
open PySem L2 DL
abbrev m__law_draws : List D → Res D := Cod.m__law_draws
abbrev m__law_names : List D → Res D := Cod.m__law_names
abbrev m__law_cells : List D → Res D := Cod.m__law_cells
abbrev m__law_low : List D → Res D := Cod.m__law_low
abbrev m__law_fraction : List D → Res D := Cod.m__law_fraction
abbrev m__law_tie : List D → Res D := Cod.m__law_tie
abbrev m__law_web : List D → Res D := Cod.m__law_web
def b__law_amounts : Ev → Res Fl :=
  (sSeqF (sSet 2 (bindA (aCons (dVar 1) (aCons (repL (bindA (aCons (dC (.int 5)) (aCons (bind2 (dC (.int 10)) (dC (.int 18)) dPow) (aCons (dC (.int 30)) (aCons (dC (.int 2)) aNil)))) mLst) (dC (.int 14))) aNil)) m__law_draws))
  (sSeqF (sOwn 3 (bindA aNil mLst))
  (sSeqF (sForR (bindA (aCons (bind2 (dVar 0) (dC (.int 1)) dIx) aNil) (m1 dLen)) (gSet 4)
  (sSeq (sSet 5 (bindA (aCons (dSlA (dVar 2) (oSome (bind2 (dC (.int 4)) (dVar 4) dMulL)) (oSome (bind2 (bind2 (dC (.int 4)) (dVar 4) dMulL) (dC (.int 3)) dAdd))) aNil) m__law_fraction))
  (sSeq (sAppend 3 (bindA (aCons (bind2 (bind2 (dC (.int 1)) (bind2 (dC (.int 2)) (bind2 (dVar 2) (bind2 (bind2 (dC (.int 4)) (dVar 4) dMulL) (dC (.int 3)) dAdd) dIx) dMulL) dSub) (bind2 (dVar 5) (dC (.int 0)) dIx) dMulL) (aCons (bind2 (dVar 5) (dC (.int 1)) dIx) aNil)) mTup))
  sNext)))
  (sRetO 3))))
def m__law_amounts : List D → Res D := runF 6 b__law_amounts
def b__law_plus : Ev → Res Fl :=
  (sSeq (sRet (bindA (aCons (bind2 (bind2 (bind2 (dVar 0) (dC (.int 0)) dIx) (bind2 (dVar 1) (dC (.int 1)) dIx) dMulL) (bind2 (bind2 (dVar 2) (bind2 (dVar 1) (dC (.int 0)) dIx) dMulL) (bind2 (dVar 0) (dC (.int 1)) dIx) dMulL) dAdd) (aCons (bind2 (bind2 (dVar 0) (dC (.int 1)) dIx) (bind2 (dVar 1) (dC (.int 1)) dIx) dMulL) aNil)) m__law_low))
  sNext)
def m__law_plus : List D → Res D := runD 3 b__law_plus
def b__law_going : Ev → Res Fl :=
  (sSeq (sSet 3 (bindA (aCons (dC (.int 0)) (aCons (dC (.int 1)) aNil)) mTup))
  (sSeq (sForI (srcE (bind2 (dVar 0) (dC (.int 1)) dIx)) (gUnp [4, 5])
  (sSeq (sIf (bind2 (bind2 (dVar 5) (dC (.int 0)) dIx) (dVar 2) dEq)
  (sSeq (sSet 3 (bindA (aCons (dVar 3) (aCons (bind2 (dVar 1) (dVar 4) dIx) (aCons (dC (.int 1)) aNil))) m__law_plus))
  sNext)
  sNext)
  (sSeq (sIf (bind2 (bind2 (dVar 5) (dC (.int 1)) dIx) (dVar 2) dEq)
  (sSeq (sSet 3 (bindA (aCons (dVar 3) (aCons (bind2 (dVar 1) (dVar 4) dIx) (aCons (bind1 (dC (.int 1)) dNeg) aNil))) m__law_plus))
  sNext)
  sNext)
  sNext)))
  (sSeq (sRet (dVar 3))
  sNext)))
def m__law_going : List D → Res D := runD 6 b__law_going
abbrev m__law_whole : List D → Res D := Com.m__law_whole
def b__law_same : Ev → Res Fl :=
  (sSeq (sIf (dOr (dNot (bind1 (dVar 0) (dIsI "tuple"))) (bind2 (dVar 0) (dVar 1) dNe))
  (sSeq (sRet (dC (.bl false)))
  sNext)
  sNext)
  (sSeq (sRet (dAnd (bindA (aCons (bind2 (dVar 0) (dC (.int 0)) dIx) aNil) m__law_whole) (bindA (aCons (bind2 (dVar 0) (dC (.int 1)) dIx) aNil) m__law_whole)))
  sNext))
def m__law_same : List D → Res D := runD 2 b__law_same
abbrev m_is_name : List D → Res D := Com.m_is_name
abbrev m_look_at_places : List D → Res D := Com.m_look_at_places
abbrev m_is_whole : List D → Res D := Com.m_is_whole
abbrev m_common_divisor : List D → Res D := Com.m_common_divisor
abbrev m_is_ratio : List D → Res D := Com.m_is_ratio
abbrev m_is_length : List D → Res D := Com.m_is_length
abbrev m_is_worth : List D → Res D := Com.m_is_worth
abbrev m_is_tie : List D → Res D := Com.m_is_tie
abbrev m_look_at_ties : List D → Res D := Com.m_look_at_ties
abbrev m_is_place : List D → Res D := Com.m_is_place
abbrev m_look_at_web : List D → Res D := Com.m_look_at_web
abbrev m_shared_bottom : List D → Res D := Com.m_shared_bottom
abbrev m_as_whole : List D → Res D := Com.m_as_whole
abbrev m_on_one_scale : List D → Res D := Com.m_on_one_scale
abbrev m_ratio : List D → Res D := Com.m_ratio
def b_goes_from : Ev → Res Fl :=
  (sSeq (sSet 3 (dC (.int 0)))
  (sSeq (sForI (srcZ (bind2 (dVar 0) (dC (.int 1)) dIx) (dVar 1)) (gUnp [4, 5])
  (sSeq (sIf (bind2 (bind2 (dVar 4) (dC (.int 0)) dIx) (dVar 2) dEq)
  (sSeq (sSet 3 (bind2 (dVar 3) (dVar 5) dAdd))
  sNext)
  sNext)
  (sSeq (sIf (bind2 (bind2 (dVar 4) (dC (.int 1)) dIx) (dVar 2) dEq)
  (sSeq (sSet 3 (bind2 (dVar 3) (dVar 5) dSub))
  sNext)
  sNext)
  sNext)))
  (sSeq (sRet (dVar 3))
  sNext)))
def m_goes_from : List D → Res D := runD 6 b_goes_from
def b_amount_of : Ev → Res Fl :=
  (sSeq (sDrop (bindA (aCons (dVar 0) aNil) m_look_at_web))
  (sSeq (sSet 2 (bindA (aCons (dVar 1) aNil) m_on_one_scale))
  (sSeq (sRet (bindA (aCons (bindA (aCons (dVar 0) (aCons (bind2 (dVar 2) (dC (.int 0)) dIx) (aCons (bind2 (dVar 0) (dC (.int 2)) dIx) aNil))) m_goes_from) (aCons (bind2 (dVar 2) (dC (.int 1)) dIx) aNil)) m_ratio))
  sNext)))
def m_amount_of : List D → Res D := runD 3 b_amount_of
def b_law : Ev → Res Fl :=
  (sSeq (sSet 1 (bindA (aCons (dVar 0) aNil) m__law_web))
  (sSeq (sSet 2 (bindA (aCons (dVar 0) aNil) m__law_web))
  (sSeq (sFor (bind2 (bind2 (bindA (aCons (dVar 0) aNil) m__law_cells) (dC (.int 1)) dIx) (bindA (aCons (dC (.int 7)) aNil) mLst) dAdd) (gSet 3)
  (sSeq (sOwn 4 (bindA (aCons (dVar 1) (aCons (dVar 3) aNil)) m__law_amounts))
  (sSeq (sSetL 5 (bindA (aCons (dVar 1) (aCons (dVar 4) (aCons (bind2 (dVar 1) (dC (.int 2)) dIx) aNil))) m__law_going))
  (sSeq (sIf (dNot (bindA (aCons (bindA (aCons (dVar 2) (aCons (dVar 4) aNil)) m_amount_of) (aCons (dVar 5) aNil)) m__law_same))
  (sSeq (sRet (dC (.bl false)))
  sNext)
  sNext)
  (sSeq (sIf (dOr (bind2 (dVar 4) (bindA (aCons (dVar 1) (aCons (dVar 3) aNil)) m__law_amounts) dNe) (bind2 (dVar 2) (dVar 1) dNe))
  (sSeq (sRet (dC (.bl false)))
  sNext)
  sNext)
  (sSeq (sRev 4)
  (sSeq (sFrz 4 (sSet 6 (bindA (aCons (dVar 2) (aCons (dVar 4) aNil)) m_amount_of)))
  (sSeq (sFrz 4 (sIf (dNot (bindA (aCons (dVar 6) (aCons (bindA (aCons (dVar 1) (aCons (dVar 4) (aCons (bind2 (dVar 1) (dC (.int 2)) dIx) aNil))) m__law_going) aNil)) m__law_same))
  (sSeq (sRet (dC (.bl false)))
  sNext)
  sNext))
  (sSeq (sIf (dNot (bindA (aCons (bindA (aCons (dVar 2) (aCons (bindA (aCons (dVar 1) (aCons (dVar 3) aNil)) m__law_amounts) aNil)) m_amount_of) (aCons (dVar 5) aNil)) m__law_same))
  (sSeq (sRet (dC (.bl false)))
  sNext)
  sNext)
  sNext)))))))))
  (sSeq (sRet (dC (.bl true)))
  sNext))))
def m_law : List D → Res D := runD 7 b_law
end K36
set_option Elab.async false
set_option linter.all false
set_option maxRecDepth 100000
namespace K36
open PySem L2 DL Com
theorem e_draws : m__law_draws = Cod.m__law_draws := rfl
theorem e_low : m__law_low = Cod.m__law_low := rfl
theorem e_fraction : m__law_fraction = Cod.m__law_fraction := rfl
theorem e_web : m__law_web = Cod.m__law_web := rfl
theorem e_cells : m__law_cells = Cod.m__law_cells := rfl
theorem e_look : m_look_at_web = Com.m_look_at_web := rfl
theorem e_scale : m_on_one_scale = Com.m_on_one_scale := rfl
theorem e_ratio : m_ratio = Com.m_ratio := rfl
theorem e_whole {v : Int} : m__law_whole [.int v] = .ok (.bl true) := rfl
theorem ev_sF {s t : Ev → Res Fl} {ρ : Ev} : sSeqF s t ρ = (s ρ).bind (seqF t) := nrfl rfl
theorem ev_sF1 {t : Ev → Res Fl} {ρ : Ev} : seqF t (.nx ρ) = t ρ := nrfl rfl
theorem ev_rO {i : Nat} {ρ : Ev} : sRetO i ρ = retO ρ[i]? := nrfl rfl
theorem ev_rO1 {ds : List D} : retO (some (.ow (.lst ds))) = .ok (.rt (.lst ds)) := nrfl rfl
theorem ev_oF {ds : List D} : outF (.rt (.lst ds)) = .ok (.lst ds) := nrfl rfl
def sg (s : Int) (x : Fra) : Fra := (s * x.1, x.2)
theorem sg_fin {s : Int} {x : Fra} (h : Fin60 x) (hs : s = 1 ∨ s = -1) : Fin60 (sg s x) := by
  rcases hs with rfl | rfl
  · have : sg 1 x = x := by unfold sg; rw [Int.one_mul]
    rw [this]; exact h
  · refine ⟨⟨h.q1, ?_⟩, ?_, h.qN⟩
    · show Int.gcd (-1 * x.1) x.2 = 1
      rw [show (-1 * x.1) = -x.1 by omega, Int.neg_gcd]; exact h.g1
    · show (-1 * x.1).natAbs < N60
      have := h.pN; omega
def aSz : List Int := (List.replicate 14 [5, 1000000000000000000, 30, 2]).flatten
theorem aSz_at : ∀ k, k < 14 → aSz[4 * k]? = some 5 ∧ aSz[4 * k + 1]? = some 1000000000000000000 ∧ aSz[4 * k + 2]? = some 30 ∧ aSz[4 * k + 3]? = some 2 := by decide
theorem aSz_ok {ρ : Ev} : (repL (bindA (aCons (dC (.int 5)) (aCons (bind2 (dC (.int 10)) (dC (.int 18)) dPow) (aCons (dC (.int 30)) (aCons (dC (.int 2)) aNil)))) mLst) (dC (.int 14))) ρ = .ok (.lst (aSz.map D.int)) := rfl
theorem amounts_ok {w : Web} (W : WebOk w) (c : Int) : ∃ xs : List Fra, m__law_amounts [webD w, .int c] = .ok (.lst (xs.map fr)) ∧ xs.length = w.ts.length ∧ ∀ x ∈ xs, Fin60 x := by
  have h14 := W.t14
  obtain ⟨vs, hd, V⟩ := Cod.draws_ok c aSz (by decide) (by decide)
  have hvl : vs.length = 56 := V.len
  obtain ⟨ρ', hl, xs, hx, hall, x4, x5, rfl⟩ := for_rng (i := 4) (n := w.ts.length)
    (ρ := [.sh (webD w), .sh (.int c), .sh (.lst (vs.map D.int)), .ow (.lst []), .no, .no])
    (body := (sSeq (sSet 5 (bindA (aCons (dSlA (dVar 2) (oSome (bind2 (dC (.int 4)) (dVar 4) dMulL)) (oSome (bind2 (bind2 (dC (.int 4)) (dVar 4) dMulL) (dC (.int 3)) dAdd))) aNil) m__law_fraction))
  (sSeq (sAppend 3 (bindA (aCons (bind2 (bind2 (dC (.int 1)) (bind2 (dC (.int 2)) (bind2 (dVar 2) (bind2 (bind2 (dC (.int 4)) (dVar 4) dMulL) (dC (.int 3)) dAdd) dIx) dMulL) dSub) (bind2 (dVar 5) (dC (.int 0)) dIx) dMulL) (aCons (bind2 (dVar 5) (dC (.int 1)) dIx) aNil)) mTup))
  sNext)))
    (fun k ρ => ∃ xs : List Fra, xs.length = k ∧ (∀ x ∈ xs, Fin60 x) ∧ ∃ x4 x5, ρ = [.sh (webD w), .sh (.int c), .sh (.lst (vs.map D.int)), .ow (.lst (xs.map fr)), x4, x5]) (by
      rintro k hk ρ ⟨xs, rfl, hall, x4, x5, rfl⟩
      obtain ⟨s0, s1, s2, s3⟩ := aSz_at xs.length (by omega)
      obtain ⟨d0, g0, b0, _⟩ := V.at _ s0
      obtain ⟨d1, g1, b1, _⟩ := V.at _ s1
      obtain ⟨d2, g2, b2, _⟩ := V.at _ s2
      obtain ⟨d3, g3, b3, i3⟩ := V.ix (4 * (xs.length : Int) + 3) _ (by omega) s3
      have c3 := cut3 (x := 4 * (xs.length : Int)) (y := 4 * (xs.length : Int) + 3) (i := 4 * xs.length) (by omega) (by omega) g0 g1 g2
      obtain ⟨x, hx, fx, lx⟩ := Cod.fraction_ok b0 b1 b2
      have m1_ : mulOk 4 (xs.length : Int) = true := mulSmall (by decide) (by omega)
      have m2_ : mulOk 2 d3 = true := mulSmall (by decide) (by omega)
      have h100 : (100 : Nat) < N60 := by decide
      have m3_ : mulOk (1 - 2 * d3) x.1 = true := mulBig (Nat.lt_of_lt_of_le (show (1 - 2 * d3).natAbs < N60 by omega) N60_B60) (Nat.lt_of_lt_of_le fx.pN N60_B60)
      have hs : (1 - 2 * d3) = 1 ∨ (1 - 2 * d3) = -1 := by omega
      have hF := sg_fin fx hs
      have hap : decide ((xs.map fr).length ≤ 999) = true := decide_eq_true (by rw [List.length_map]; omega)
      have f1 : dIx (fr x) (.int 0) = .ok (.int x.1) := rfl
      have f2 : dIx (fr x) (.int 1) = .ok (.int x.2) := rfl
      refine ⟨[.sh (webD w), .sh (.int c), .sh (.lst (vs.map D.int)), .ow (.lst ((xs ++ [sg (1 - 2 * d3) x]).map fr)), .sh (.int (xs.length : Int)), .sh (fr x)], ?_, xs ++ [sg (1 - 2 * d3) x], by simp, fun y hy => ?_, _, _, rfl⟩
      · rw [List.map_append]
        open_line with [ev_mul m1_, c3, e_fraction, hx, i3, ev_mul m2_, dSub, f1, f2, ev_mul m3_, ev_app1 hap]
        rfl
      · rw [List.mem_append] at hy
        rcases hy with hy | hy
        · exact hall y hy
        · have : y = sg (1 - 2 * d3) x := by simpa using hy
          subst this; exact hF) ⟨[], rfl, fun x hx => (nomatch hx), _, _, rfl⟩
  refine ⟨xs, ?_, hx, hall⟩
  rw [show webD w = .tup [.lst (w.ps.map D.str), .lst (w.ts.map tieD), .str w.fi, .str w.la] from rfl] at hl ⊢
  have hrun : m__law_amounts [.tup [.lst (w.ps.map D.str), .lst (w.ts.map tieD), .str w.fi, .str w.la], .int c] = (b__law_amounts [.sh (.tup [.lst (w.ps.map D.str), .lst (w.ts.map tieD), .str w.fi, .str w.la]), .sh (.int c), .no, .no, .no, .no]).bind outF := rfl
  rw [hrun, b__law_amounts, ev_sF, ev_set, ev_bA, ev_cons]
  rw [show (dVar 1) [.sh (.tup [.lst (w.ps.map D.str), .lst (w.ts.map tieD), .str w.fi, .str w.la]), .sh (.int c), .no, .no, .no, .no] = Res.ok (.int c) from rfl, ev_ok, ev_cons1, ev_cons, aSz_ok]
  open_line with [e_draws, hd, ev_sF, ev_sF1, List.length_map, ev_forR, forR_nat (show w.ts.length ≤ 1000000 by omega), hl, ev_rO, ev_rO1, ev_oF]
def sumF (xs : List Fra) : Fra := low (tot xs).1 (tot xs).2
theorem sum_acc {xs : List Fra} (hl : xs.length ≤ 40) (hx : ∀ x ∈ xs, Fin60 x) : Acc xs.length (sumF xs) ∧ Low (sumF xs) := by
  have A := tot_acc (xs := xs) (by omega) hx
  have hL := low_low (a := (tot xs).1) A.pos
  have := hL.q1
  exact ⟨⟨by show 0 < (low _ _).2; omega, Nat.le_trans low_le1 A.b1, Nat.le_trans low_le2 A.b2⟩, hL⟩
theorem plus_ok {xs : List Fra} {x : Fra} {s : Int} (hl : xs.length ≤ 39) (hxs : ∀ y ∈ xs, Fin60 y) (hx : Fin60 x) (hs : s = 1 ∨ s = -1) : m__law_plus [fr (sumF xs), fr x, .int s] = .ok (fr (sumF (xs ++ [sg s x]))) := by
  have hx' := sg_fin hx hs
  have A := tot_acc (xs := xs) (by omega) hxs
  obtain ⟨hA, _⟩ := sum_acc (xs := xs) (by omega) hxs
  have hB := hA.step hx'
  have bb : bnd (xs.length + 1) < B13 := bnd_B13 (by omega)
  have b60 : bnd xs.length < B60 := Nat.lt_of_lt_of_le (bnd_B13 (by omega)) B13_B60
  have hw : sumF (xs ++ [sg s x]) = low ((sumF xs).1 * x.2 + s * x.1 * (sumF xs).2) ((sumF xs).2 * x.2) := by
    have := low_step (s := tot xs) (x := sg s x) A.pos hx'.q1
    unfold sumF
    rw [tot_snoc, ← this]; rfl
  have hlo := Cod.low_ok (a := (sumF xs).1 * x.2 + s * x.1 * (sumF xs).2) (b := (sumF xs).2 * x.2) hB.pos (Nat.lt_of_le_of_lt hB.b1 bb) (Nat.lt_of_le_of_lt hB.b2 bb)
  have m1_ : mulOk (sumF xs).1 x.2 = true := mulBig (Nat.lt_of_le_of_lt hA.b1 b60) (Nat.lt_of_lt_of_le hx.qN N60_B60)
  have m0_ : mulOk s x.1 = true := mulBig (Nat.lt_of_lt_of_le (show s.natAbs < N60 by rcases hs with rfl | rfl <;> decide) N60_B60) (Nat.lt_of_lt_of_le hx.pN N60_B60)
  have m2_ : mulOk (s * x.1) (sumF xs).2 = true := mulBig (Nat.lt_of_lt_of_le hx'.pN N60_B60) (Nat.lt_of_le_of_lt hA.b2 b60)
  have m3_ : mulOk (sumF xs).2 x.2 = true := mulBig (Nat.lt_of_le_of_lt hA.b2 b60) (Nat.lt_of_lt_of_le hx.qN N60_B60)
  rw [hw]
  generalize sumF xs = u at *
  rw [show fr u = .tup [.int u.1, .int u.2] from rfl, show fr x = .tup [.int x.1, .int x.2] from rfl]
  open_line with [m__law_plus, b__law_plus, ev_mul m1_, ev_mul m0_, ev_mul m2_, ev_mul m3_, e_low, hlo]
def part (p : Str) (t : Tie) (x : Fra) : List Fra := (if t.a = p then [sg 1 x] else []) ++ (if t.b = p then [sg (-1) x] else [])
def parts (p : Str) : List Tie → List Fra → List Fra
  | t :: ts, x :: xs => part p t x ++ parts p ts xs
  | _, _ => []
theorem part_le {p : Str} {t : Tie} {x : Fra} : (part p t x).length ≤ 2 := by
  unfold part
  split <;> split <;> simp
theorem parts_len {p : Str} : ∀ {ts : List Tie} {xs : List Fra}, (parts p ts xs).length ≤ 2 * ts.length
  | [], _ => by simp [parts]
  | _ :: _, [] => by simp [parts]
  | t :: ts, x :: xs => by
    unfold parts
    rw [List.length_append, List.length_cons]
    have := parts_len (p := p) (ts := ts) (xs := xs)
    have := part_le (p := p) (t := t) (x := x)
    omega
theorem part_fin {p : Str} {t : Tie} {x : Fra} (h : Fin60 x) : ∀ y ∈ part p t x, Fin60 y := fun y hy => by
  unfold part at hy
  rw [List.mem_append] at hy
  rcases hy with hy | hy
  · split at hy
    · have : y = sg 1 x := by simpa using hy
      rw [this]; exact sg_fin h (.inl rfl)
    · cases hy
  · split at hy
    · have : y = sg (-1) x := by simpa using hy
      rw [this]; exact sg_fin h (.inr rfl)
    · cases hy
theorem parts_fin {p : Str} : ∀ {ts : List Tie} {xs : List Fra}, (∀ x ∈ xs, Fin60 x) → ∀ y ∈ parts p ts xs, Fin60 y
  | [], _, _, y, hy => by simp [parts] at hy
  | _ :: _, [], _, y, hy => by simp [parts] at hy
  | t :: ts, x :: xs, h, y, hy => by
    unfold parts at hy
    rw [List.mem_append] at hy
    rcases hy with hy | hy
    · exact part_fin (h x List.mem_cons_self) y hy
    · exact parts_fin (fun z hz => h z (List.mem_cons_of_mem _ hz)) y hy
theorem eqs {x y : Str} : dEq (.str x) (.str y) = .ok (.bl (decide (x = y))) := by
  rw [eq_strs]
  congr 2
theorem going_turn {A B p : D} {P : Str} {t : Tie} {x : Fra} {acc : List Fra} {k : Nat} {xs : List Fra} (hp : p = .str P) (hacc : ∀ y ∈ acc, Fin60 y) (hl : acc.length ≤ 37) (hx : xs[k]? = some x) (fx : Fin60 x) : ∃ ρ2, (sSeq (sIf (bind2 (bind2 (dVar 5) (dC (.int 0)) dIx) (dVar 2) dEq)
  (sSeq (sSet 3 (bindA (aCons (dVar 3) (aCons (bind2 (dVar 1) (dVar 4) dIx) (aCons (dC (.int 1)) aNil))) m__law_plus))
  sNext)
  sNext)
  (sSeq (sIf (bind2 (bind2 (dVar 5) (dC (.int 1)) dIx) (dVar 2) dEq)
  (sSeq (sSet 3 (bindA (aCons (dVar 3) (aCons (bind2 (dVar 1) (dVar 4) dIx) (aCons (bind1 (dC (.int 1)) dNeg) aNil))) m__law_plus))
  sNext)
  sNext)
  sNext)) [.sh A, .sh (.lst (xs.map fr)), .sh p, .sh (fr (sumF acc)), .sh (.int (k : Int)), .sh (tieD t)] = .ok (.nx ρ2) ∧ ρ2 = [.sh A, .sh (.lst (xs.map fr)), .sh p, .sh (fr (sumF (acc ++ part P t x))), .sh (.int (k : Int)), .sh (tieD t)] := by
  subst hp
  have hix : dIx (.lst (xs.map fr)) (.int (k : Int)) = .ok (fr x) := ix_lst (by rw [List.getElem?_map, hx]; rfl)
  have i0 : dIx (tieD t) (.int 0) = .ok (.str t.a) := rfl
  have i1 : dIx (tieD t) (.int 1) = .ok (.str t.b) := rfl
  have p1 := plus_ok (xs := acc) (x := x) (s := 1) (by omega) hacc fx (.inl rfl)
  refine ⟨_, ?_, rfl⟩
  by_cases ha : t.a = P
  · have hacc' : ∀ y ∈ acc ++ [sg 1 x], Fin60 y := fun y hy => by
      rw [List.mem_append] at hy
      rcases hy with hy | hy
      · exact hacc y hy
      · have : y = sg 1 x := by simpa using hy
        rw [this]; exact sg_fin fx (.inl rfl)
    have p2 := plus_ok (xs := acc ++ [sg 1 x]) (x := x) (s := -1) (by simp; omega) hacc' fx (.inr rfl)
    by_cases hb : t.b = P
    · have e : acc ++ part P t x = acc ++ [sg 1 x] ++ [sg (-1) x] := by unfold part; rw [if_pos ha, if_pos hb, List.append_assoc]
      rw [e]
      open_line with [i0, i1, eqs, decide_eq_true ha, decide_eq_true hb, hix, p1, p2]
    · have e : acc ++ part P t x = acc ++ [sg 1 x] := by unfold part; rw [if_pos ha, if_neg hb, List.append_nil]
      rw [e]
      open_line with [i0, i1, eqs, decide_eq_true ha, decide_eq_false hb, hix, p1]
  · have p2 := plus_ok (xs := acc) (x := x) (s := -1) (by omega) hacc fx (.inr rfl)
    by_cases hb : t.b = P
    · have e : acc ++ part P t x = acc ++ [sg (-1) x] := by unfold part; rw [if_neg ha, if_pos hb, List.nil_append]
      rw [e]
      open_line with [i0, i1, eqs, decide_eq_false ha, decide_eq_true hb, hix, p2]
    · have e : acc ++ part P t x = acc := by unfold part; rw [if_neg ha, if_neg hb]; simp
      rw [e]
      open_line with [i0, i1, eqs, decide_eq_false ha, decide_eq_false hb]
theorem parts_take {p : Str} : ∀ {ts : List Tie} {xs : List Fra} {k : Nat} {t : Tie} {x : Fra}, ts[k]? = some t → xs[k]? = some x → parts p (ts.take (k + 1)) (xs.take (k + 1)) = parts p (ts.take k) (xs.take k) ++ part p t x
  | t' :: ts, x' :: xs, 0, t, x, h1, h2 => by
    cases h1; cases h2
    show part p t' x' ++ parts p [] [] = [] ++ part p t' x'
    simp [parts]
  | t' :: ts, x' :: xs, k + 1, t, x, h1, h2 => by
    show part p t' x' ++ parts p (ts.take (k + 1)) (xs.take (k + 1)) = (part p t' x' ++ parts p (ts.take k) (xs.take k)) ++ part p t x
    rw [parts_take (ts := ts) (xs := xs) h1 h2, List.append_assoc]
  | [], _, _, _, _, h1, _ => by simp at h1
  | _ :: _, [], _, _, _, _, h2 => by simp at h2
theorem going_ok {w : Web} {P : Str} {xs : List Fra} (h14 : w.ts.length ≤ 14) (hl : xs.length = w.ts.length) (hx : ∀ x ∈ xs, Fin60 x) : m__law_going [webD w, .lst (xs.map fr), .str P] = .ok (fr (sumF (parts P w.ts xs))) := by
  obtain ⟨ρ', hf, x4, x5, rfl⟩ := for_lst (ds := numbered 0 (w.ts.map tieD)) (tg := gUnp [4, 5]) (ρ := [.sh (webD w), .sh (.lst (xs.map fr)), .sh (.str P), .sh (fr (sumF [])), .no, .no])
    (body := (sSeq (sIf (bind2 (bind2 (dVar 5) (dC (.int 0)) dIx) (dVar 2) dEq)
  (sSeq (sSet 3 (bindA (aCons (dVar 3) (aCons (bind2 (dVar 1) (dVar 4) dIx) (aCons (dC (.int 1)) aNil))) m__law_plus))
  sNext)
  sNext)
  (sSeq (sIf (bind2 (bind2 (dVar 5) (dC (.int 1)) dIx) (dVar 2) dEq)
  (sSeq (sSet 3 (bindA (aCons (dVar 3) (aCons (bind2 (dVar 1) (dVar 4) dIx) (aCons (bind1 (dC (.int 1)) dNeg) aNil))) m__law_plus))
  sNext)
  sNext)
  sNext)))
    (fun k ρ => ∃ x4 x5, ρ = [.sh (webD w), .sh (.lst (xs.map fr)), .sh (.str P), .sh (fr (sumF (parts P (w.ts.take k) (xs.take k)))), x4, x5]) (by
      rintro k d hd ρ ⟨x4, x5, rfl⟩
      obtain ⟨t, ht, rfl⟩ := numbered_map hd
      have hk : k < w.ts.length := (List.getElem?_eq_some_iff.mp ht).1
      have hxk : xs[k]? = some xs[k] := List.getElem?_eq_getElem (by omega)
      have hpl : (parts P (w.ts.take k) (xs.take k)).length ≤ 28 := Nat.le_trans parts_len (by rw [List.length_take]; omega)
      obtain ⟨ρ2, h1, h2⟩ := going_turn (A := webD w) (B := .non) (p := .str P) (P := P) (t := t) (acc := parts P (w.ts.take k) (xs.take k)) (xs := xs) rfl (parts_fin fun x hx' => hx x (List.mem_of_mem_take hx')) (by omega) hxk (hx _ (List.getElem_mem (by omega)))
      refine ⟨_, ρ2, ev_gU rfl, h1, .sh (.int (k : Int)), .sh (tieD t), ?_⟩
      rw [h2, parts_take ht hxk]) ⟨.no, .no, rfl⟩
  rw [numbered_len, List.length_map, List.take_length, ← hl, List.take_length] at hf
  have h0 : fr (sumF []) = .tup [.int 0, .int 1] := by
    show fr (low 0 1) = _
    have : low 0 1 = (0, 1) := by decide
    rw [this]; rfl
  rw [h0] at hf
  rw [show webD w = .tup [.lst (w.ps.map D.str), .lst (w.ts.map tieD), .str w.fi, .str w.la] from rfl] at hf ⊢
  open_line with [m__law_going, b__law_going, ev_forI, ev_srcE, ev_srcE1, hf]
def ip (P : Str) (t : Tie) (z : Int) : Int := (if t.a = P then z else 0) - (if t.b = P then z else 0)
def ips (P : Str) : List Tie → List Int → Int
  | t :: ts, z :: zs => ip P t z + ips P ts zs
  | _, _ => 0
theorem ips_take {p : Str} : ∀ {ts : List Tie} {xs : List Int} {k : Nat} {t : Tie} {x : Int}, ts[k]? = some t → xs[k]? = some x → ips p (ts.take (k + 1)) (xs.take (k + 1)) = ips p (ts.take k) (xs.take k) + ip p t x
  | t' :: ts, x' :: xs, 0, t, x, h1, h2 => by
    cases h1; cases h2
    show ip p t' x' + ips p [] [] = 0 + ip p t' x'
    simp [ips]
  | t' :: ts, x' :: xs, k + 1, t, x, h1, h2 => by
    show ip p t' x' + ips p (ts.take (k + 1)) (xs.take (k + 1)) = (ip p t' x' + ips p (ts.take k) (xs.take k)) + ip p t x
    rw [ips_take (ts := ts) (xs := xs) h1 h2, Int.add_assoc]
  | [], _, _, _, _, h1, _ => by simp at h1
  | _ :: _, [], _, _, _, _, h2 => by simp at h2
theorem ips_parts {P : Str} {b : Int} : ∀ (ts : List Tie) (xs : List Fra), ips P ts (xs.map fun x => x.1 * (b / x.2)) = zs_ ((parts P ts xs).map fun x => x.1 * (b / x.2))
  | [], xs => by simp [ips, parts, zs_]
  | _ :: _, [] => by simp [ips, parts, zs_]
  | t :: ts, x :: xs => by
    show ip P t (x.1 * (b / x.2)) + ips P ts (xs.map fun x => x.1 * (b / x.2)) = zs_ ((part P t x ++ parts P ts xs).map fun x => x.1 * (b / x.2))
    rw [ips_parts ts xs, List.map_append, zs_append]
    congr 1
    unfold ip part sg
    by_cases ha : t.a = P
    · by_cases hb : t.b = P
      · rw [if_pos ha, if_pos hb, if_pos ha, if_pos hb]
        show _ = 1 * x.1 * (b / x.2) + (-1 * x.1 * (b / x.2) + 0)
        rw [Int.one_mul, Int.neg_one_mul, Int.neg_mul]; omega
      · rw [if_pos ha, if_neg hb, if_pos ha, if_neg hb]
        show _ = 1 * x.1 * (b / x.2) + 0
        rw [Int.one_mul]; omega
    · by_cases hb : t.b = P
      · rw [if_neg ha, if_pos hb, if_neg ha, if_pos hb]
        show _ = -1 * x.1 * (b / x.2) + 0
        rw [Int.neg_one_mul, Int.neg_mul]; omega
      · rw [if_neg ha, if_neg hb, if_neg ha, if_neg hb]; rfl
def srcZK (g : Ev → Res D) (ρ : Ev) (d : D) : Res (List D) := (g ρ).bind fun e => match d, e with
  | .lst ds, .lst es => .ok (pairedD ds es)
  | _, _ => .stuck
theorem ev_srcZ {f g : Ev → Res D} {ρ : Ev} : srcZ f g ρ = (f ρ).bind (srcZK g ρ) := nrfl rfl
theorem ev_srcZ1 {g : Ev → Res D} {ρ : Ev} {ds es : List D} (h : g ρ = .ok (.lst es)) : srcZK g ρ (.lst ds) = .ok (pairedD ds es) := by unfold srcZK; rw [h]; rfl
theorem paired_at {ts : List Tie} {zs : List Int} {k : Nat} {d : D} (h : (pairedD (ts.map tieD) (zs.map D.int))[k]? = some d) : ∃ t z, ts[k]? = some t ∧ zs[k]? = some z ∧ d = .tup [tieD t, .int z] := by
  obtain ⟨x, y, h1, h2, h3⟩ := paired_get _ _ _ _ h
  rw [List.getElem?_map] at h1 h2
  cases e1 : ts[k]? with
  | none => rw [e1] at h1; cases h1
  | some t =>
    cases e2 : zs[k]? with
    | none => rw [e2] at h2; cases h2
    | some z =>
      rw [e1] at h1; rw [e2] at h2
      cases h1; cases h2
      exact ⟨t, z, rfl, rfl, h3⟩
theorem goes_ok {w : Web} {P : Str} {zs : List Int} (hl : zs.length = w.ts.length) : m_goes_from [webD w, .lst (zs.map D.int), .str P] = .ok (.int (ips P w.ts zs)) := by
  obtain ⟨ρ', hf, x4, x5, rfl⟩ := for_lst (ds := pairedD (w.ts.map tieD) (zs.map D.int)) (tg := gUnp [4, 5]) (ρ := [.sh (webD w), .sh (.lst (zs.map D.int)), .sh (.str P), .sh (.int 0), .no, .no])
    (body := (sSeq (sIf (bind2 (bind2 (dVar 4) (dC (.int 0)) dIx) (dVar 2) dEq)
  (sSeq (sSet 3 (bind2 (dVar 3) (dVar 5) dAdd))
  sNext)
  sNext)
  (sSeq (sIf (bind2 (bind2 (dVar 4) (dC (.int 1)) dIx) (dVar 2) dEq)
  (sSeq (sSet 3 (bind2 (dVar 3) (dVar 5) dSub))
  sNext)
  sNext)
  sNext)))
    (fun k ρ => ∃ x4 x5, ρ = [.sh (webD w), .sh (.lst (zs.map D.int)), .sh (.str P), .sh (.int (ips P (w.ts.take k) (zs.take k))), x4, x5]) (by
      rintro k d hd ρ ⟨x4, x5, rfl⟩
      obtain ⟨t, z, ht, hz, rfl⟩ := paired_at hd
      have i0 : dIx (tieD t) (.int 0) = .ok (.str t.a) := rfl
      have i1 : dIx (tieD t) (.int 1) = .ok (.str t.b) := rfl
      refine ⟨_, [.sh (webD w), .sh (.lst (zs.map D.int)), .sh (.str P), .sh (.int (ips P (w.ts.take (k + 1)) (zs.take (k + 1)))), .sh (tieD t), .sh (.int z)], ev_gU rfl, ?_, _, _, rfl⟩
      rw [ips_take ht hz]
      unfold ip
      show (sSeq _ _) [.sh (webD w), .sh (.lst (zs.map D.int)), .sh (.str P), .sh (.int (ips P (w.ts.take k) (zs.take k))), .sh (tieD t), .sh (.int z)] = _
      by_cases ha : t.a = P
      · by_cases hb : t.b = P
        · rw [if_pos ha, if_pos hb, show ips P (w.ts.take k) (zs.take k) + (z - z) = ips P (w.ts.take k) (zs.take k) + z - z by omega]
          open_line with [i0, i1, eqs, decide_eq_true ha, decide_eq_true hb, dSub]
        · rw [if_pos ha, if_neg hb, Int.sub_zero]
          open_line with [i0, i1, eqs, decide_eq_true ha, decide_eq_false hb, dSub]
      · by_cases hb : t.b = P
        · rw [if_neg ha, if_pos hb, show ips P (w.ts.take k) (zs.take k) + (0 - z) = ips P (w.ts.take k) (zs.take k) - z by omega]
          open_line with [i0, i1, eqs, decide_eq_false ha, decide_eq_true hb, dSub]
        · rw [if_neg ha, if_neg hb, show ips P (w.ts.take k) (zs.take k) + (0 - 0) = ips P (w.ts.take k) (zs.take k) by omega]
          open_line with [i0, i1, eqs, decide_eq_false ha, decide_eq_false hb]) ⟨.no, .no, rfl⟩
  have hpl : (pairedD (w.ts.map tieD) (zs.map D.int)).length = w.ts.length := by
    rw [paired_len, List.length_map, List.length_map]; omega
  rw [hpl, List.take_length, ← hl, List.take_length] at hf
  rw [show webD w = .tup [.lst (w.ps.map D.str), .lst (w.ts.map tieD), .str w.fi, .str w.la] from rfl] at hf ⊢
  open_line with [m_goes_from, b_goes_from, ev_forI, ev_srcZ]
  rw [ev_srcZ1 (es := zs.map D.int) rfl]
  open_line with [ev_forI1, hf]
theorem somes_some (xs : List Fra) : somes (xs.map some) = xs := by unfold somes; rw [List.filterMap_map]; simp
theorem amount_ok {w : Web} {xs : List Fra} (W : WebOk w) (hl : xs.length = w.ts.length) (hx : ∀ x ∈ xs, Fin60 x) : m_amount_of [webD w, .lst (xs.map fr)] = .ok (fr (sumF (parts w.fi w.ts xs))) := by
  have h14 := W.t14
  have hlook := web_ok W
  have hsc := scale_ok (os := xs.map some) (by rw [List.length_map]; omega) (fun x h => by
    obtain ⟨y, hy, e⟩ := List.mem_map.mp h
    cases e; exact hx x hy)
  have e1 : (xs.map some).map worthO = xs.map fr := by rw [List.map_map]; rfl
  obtain ⟨B, _, hdv⟩ := bot_ok hx 1 0 ⟨by decide, by decide⟩
  rw [somes_some, e1] at hsc
  have hB : bot xs = xs.foldl bstep 1 := rfl
  have e2 : (xs.map some).map (wI (bot xs)) = (xs.map fun x => x.1 * (bot xs / x.2)).map D.int := by rw [List.map_map, List.map_map]; rfl
  rw [e2] at hsc
  have hg := goes_ok (w := w) (P := w.fi) (zs := xs.map fun x => x.1 * (bot xs / x.2)) (by rw [List.length_map]; exact hl)
  rw [ips_parts] at hg
  have hpl : (parts w.fi w.ts xs).length ≤ 28 := Nat.le_trans parts_len (by omega)
  have hpf := parts_fin (p := w.fi) (ts := w.ts) hx
  have A := tot_acc (xs := parts w.fi w.ts xs) (by omega) hpf
  obtain ⟨_, hSL⟩ := sum_acc (xs := parts w.fi w.ts xs) (by omega) hpf
  have hdvp : ∀ (ts : List Tie) (xs' : List Fra), (∀ x ∈ xs', x.2 ∣ bot xs) → ∀ x ∈ parts w.fi ts xs', x.2 ∣ bot xs := by
    intro ts
    induction ts with
    | nil => intro xs' _ x hx'; simp [parts] at hx'
    | cons t ts ih =>
      intro xs' h x hx'
      cases xs' with
      | nil => simp [parts] at hx'
      | cons y ys =>
        unfold parts at hx'
        rw [List.mem_append] at hx'
        rcases hx' with hx' | hx'
        · have : x.2 = y.2 := by
            unfold part at hx'
            rw [List.mem_append] at hx'
            rcases hx' with h' | h'
            · split at h'
              · have : x = sg 1 y := by simpa using h'
                rw [this]; rfl
              · cases h'
            · split at h'
              · have : x = sg (-1) y := by simpa using h'
                rw [this]; rfl
              · cases h'
          rw [this]; exact h y List.mem_cons_self
        · exact ih ys (fun z hz => h z (List.mem_cons_of_mem _ hz)) x hx'
  have hts := tot_scale (b := bot xs) (parts w.fi w.ts xs) (0, 1) 0 (hdvp w.ts xs hdv) (by show (0 : Int) * _ = 0 * 1; omega)
  rw [Int.zero_add] at hts
  change (tot (parts w.fi w.ts xs)).1 * bot xs = zs_ ((parts w.fi w.ts xs).map fun x => x.1 * (bot xs / x.2)) * (tot (parts w.fi w.ts xs)).2 at hts
  have hbp : 0 < bot xs := B.pos
  have hbb : (bot xs).natAbs ≤ 2 ^ (200 * 14) := Nat.le_trans B.bd (Nat.pow_le_pow_right (by decide) (by omega))
  have A1 : (tot (parts w.fi w.ts xs)).1.natAbs ≤ 2 ^ (201 * 28) := Nat.le_trans A.b1 (Nat.pow_le_pow_right (by decide) (by omega))
  have Ap := A.pos
  have hr := low_rel (a := (tot (parts w.fi w.ts xs)).1) (b := (tot (parts w.fi w.ts xs)).2)
  have hr2 := low_rel (a := zs_ ((parts w.fi w.ts xs).map fun x => x.1 * (bot xs / x.2))) (b := bot xs)
  have hl2 := low_low (a := zs_ ((parts w.fi w.ts xs).map fun x => x.1 * (bot xs / x.2))) hbp
  unfold sumF at hSL ⊢
  generalize zs_ ((parts w.fi w.ts xs).map fun x => x.1 * (bot xs / x.2)) = Z at *
  generalize tot (parts w.fi w.ts xs) = T at *
  generalize bot xs = b at *
  have hZ : Z.natAbs < B13 := by
    have h1 : Z.natAbs ≤ Z.natAbs * T.2.natAbs := Nat.le_mul_of_pos_right _ (by omega)
    have h2 : Z.natAbs * T.2.natAbs = T.1.natAbs * b.natAbs := by rw [← Int.natAbs_mul, ← Int.natAbs_mul, hts]
    have h3 : T.1.natAbs * b.natAbs ≤ 2 ^ (201 * 28) * 2 ^ (200 * 14) := Nat.mul_le_mul A1 hbb
    rw [← Nat.pow_add] at h3
    refine Nat.lt_of_le_of_lt (Nat.le_trans h1 (h2 ▸ h3)) ?_
    rw [B13_eq]
    exact Nat.pow_lt_pow_right (by decide) (by decide)
  have hb13 : b.natAbs < B13 := Nat.lt_of_le_of_lt hbb (by rw [B13_eq]; exact Nat.pow_lt_pow_right (by decide) (by decide))
  have hra := ratio_fr (a := Z) (b := b) hbp hZ hb13
  have heq : low Z b = low T.1 T.2 := by
    refine low_uniq hl2 hSL ?_
    generalize low Z b = L at *
    generalize low T.1 T.2 = S at *
    have k : L.1 * S.2 * (b * T.2) = S.1 * L.2 * (b * T.2) := by
      have e1 : L.1 * S.2 * (b * T.2) = (L.1 * b) * S.2 * T.2 := by grind
      have e2 : S.1 * L.2 * (b * T.2) = (S.1 * T.2) * L.2 * b := by grind
      have e3 : T.1 * S.2 * L.2 * b = (T.1 * b) * S.2 * L.2 := by grind
      rw [e1, e2, hr2, hr, e3, hts]
      grind
    exact Int.eq_of_mul_eq_mul_right (by have := Int.mul_pos hbp Ap; omega) k
  rw [heq] at hra
  rw [show webD w = .tup [.lst (w.ps.map D.str), .lst (w.ts.map tieD), .str w.fi, .str w.la] from rfl] at hlook hg ⊢
  open_line with [m_amount_of, b_amount_of, e_look, hlook, e_scale, hsc, hg, e_ratio, hra]
theorem shal_web {w : Web} : shal 40 (webD w) = true := by
  have h1 : shal 39 (.lst (w.ps.map D.str)) = true := shal_strs
  have h2 : shal 39 (.lst (w.ts.map tieD)) = true := List.all_eq_true.mpr fun d hd => by
    obtain ⟨t, _, rfl⟩ := List.mem_map.mp hd
    exact shal_tie
  show (shal 39 (.lst (w.ps.map D.str)) && (shal 39 (.lst (w.ts.map tieD)) && (shal 39 (.str w.fi) && (shal 39 (.str w.la) && true)))) = true
  rw [h1, h2]; rfl
theorem ne_web {w : Web} : dNe (webD w) (webD w) = .ok (.bl false) := by
  unfold dNe
  rw [if_pos ⟨shal_web, shal_web⟩, eqD_refl 40 _ shal_web]; rfl
theorem ne_frs {xs : List Fra} : dNe (.lst (xs.map fr)) (.lst (xs.map fr)) = .ok (.bl false) := by
  unfold dNe
  have h : shal 40 (.lst (xs.map fr)) = true := shal_frs xs
  rw [if_pos ⟨h, h⟩, eqD_refl 40 _ h]; rfl
theorem same_ok {x : Fra} : m__law_same [fr x, fr x] = .ok (.bl true) := by
  have hn : dNe (fr x) (fr x) = .ok (.bl false) := ne_fr
  have ht : (dIsI "tuple") (fr x) = .ok (.bl true) := rfl
  have i0 : dIx (fr x) (.int 0) = .ok (.int x.1) := rfl
  have i1 : dIx (fr x) (.int 1) = .ok (.int x.2) := rfl
  open_line with [m__law_same, b__law_same, ht, hn, i0, i1, e_whole]
theorem ev_rev {i : Nat} {ρ : Ev} {ds : List D} (h : ρ[i]? = some (.ow (.lst ds))) : sRev i ρ = .ok (.nx (ρ.set i (.ow (.lst ds.reverse)))) := by unfold sRev ownAt; rw [h]; rfl
theorem law_true (ns : List Int) (hn : ns.length ≤ 63) : m_law [.lst (ns.map D.int)] = .ok (.bl true) := by
  obtain ⟨w, hw, W⟩ := Cod.web_drawn hn
  obtain ⟨c1, c2, hcells, _, hc2⟩ := Cod.cells_ok hn
  have h14 := W.t14
  have hadd : dAdd (.lst (c2.map D.int)) (.lst [.int 7]) = .ok (.lst ((c2 ++ [7]).map D.int)) := by
    rw [ev_addL (decide_eq_true (by rw [List.length_map]; simp; omega)), List.map_append]; rfl
  have hi2 : dIx (webD w) (.int 2) = .ok (.str w.fi) := rfl
  obtain ⟨ρ', hl, x3, x4, x5, x6, rfl⟩ := for_inv (tg := gSet 3) (body := (sSeq (sOwn 4 (bindA (aCons (dVar 1) (aCons (dVar 3) aNil)) m__law_amounts))
  (sSeq (sSetL 5 (bindA (aCons (dVar 1) (aCons (dVar 4) (aCons (bind2 (dVar 1) (dC (.int 2)) dIx) aNil))) m__law_going))
  (sSeq (sIf (dNot (bindA (aCons (bindA (aCons (dVar 2) (aCons (dVar 4) aNil)) m_amount_of) (aCons (dVar 5) aNil)) m__law_same))
  (sSeq (sRet (dC (.bl false)))
  sNext)
  sNext)
  (sSeq (sIf (dOr (bind2 (dVar 4) (bindA (aCons (dVar 1) (aCons (dVar 3) aNil)) m__law_amounts) dNe) (bind2 (dVar 2) (dVar 1) dNe))
  (sSeq (sRet (dC (.bl false)))
  sNext)
  sNext)
  (sSeq (sRev 4)
  (sSeq (sFrz 4 (sSet 6 (bindA (aCons (dVar 2) (aCons (dVar 4) aNil)) m_amount_of)))
  (sSeq (sFrz 4 (sIf (dNot (bindA (aCons (dVar 6) (aCons (bindA (aCons (dVar 1) (aCons (dVar 4) (aCons (bind2 (dVar 1) (dC (.int 2)) dIx) aNil))) m__law_going) aNil)) m__law_same))
  (sSeq (sRet (dC (.bl false)))
  sNext)
  sNext))
  (sSeq (sIf (dNot (bindA (aCons (bindA (aCons (dVar 2) (aCons (bindA (aCons (dVar 1) (aCons (dVar 3) aNil)) m__law_amounts) aNil)) m_amount_of) (aCons (dVar 5) aNil)) m__law_same))
  (sSeq (sRet (dC (.bl false)))
  sNext)
  sNext)
  sNext))))))))) (fun ρ => ∃ x3 x4 x5 x6, ρ = [.sh (.lst (ns.map D.int)), .sh (webD w), .sh (webD w), x3, x4, x5, x6]) (ds := (c2 ++ [7]).map D.int) (fun d hd ρ ⟨x3, x4, x5, x6, hρ⟩ => by
    subst hρ
    obtain ⟨c, _, rfl⟩ := List.mem_map.mp hd
    obtain ⟨xs, ha, hxl, hx⟩ := amounts_ok W c
    have hg := going_ok (P := w.fi) h14 hxl hx
    have hm := amount_ok W hxl hx
    have hxl' : xs.reverse.length = w.ts.length := by rw [List.length_reverse]; exact hxl
    have hx' : ∀ x ∈ xs.reverse, Fin60 x := fun x h => hx x (List.mem_reverse.mp h)
    have hg' := going_ok (P := w.fi) h14 hxl' hx'
    have hm' := amount_ok W hxl' hx'
    have hrv : (xs.map fr).reverse = xs.reverse.map fr := by rw [List.map_reverse]
    have hs1 := same_ok (x := sumF (parts w.fi w.ts xs))
    have hs2 := same_ok (x := sumF (parts w.fi w.ts xs.reverse))
    have hset : ∀ (i : Nat) (ρ : Ev) (x : Fra), setLK i ρ (fr x) = .ok (.nx (ρ.set i (.sh (fr x)))) := fun _ _ _ => rfl
    have hnf := ne_frs (xs := xs)
    have hnw := ne_web (w := w)
    have hrev : ∀ a b c d e f, sRev 4 [a, b, c, d, .ow (.lst (xs.map fr)), e, f] = .ok (.nx [a, b, c, d, .ow (.lst (xs.reverse.map fr)), e, f]) := fun a b c d e f => by
      rw [ev_rev (ds := xs.map fr) rfl, hrv]; rfl
    refine ⟨[.sh (.lst (ns.map D.int)), .sh (webD w), .sh (webD w), .sh (.int c), x4, x5, x6], [.sh (.lst (ns.map D.int)), .sh (webD w), .sh (webD w), .sh (.int c), .sh (.lst (xs.reverse.map fr)), .sh (fr (sumF (parts w.fi w.ts xs))), .sh (fr (sumF (parts w.fi w.ts xs.reverse)))], rfl, ?_, _, _, _, _, rfl⟩
    generalize webD w = Wd at *
    generalize sumF (parts w.fi w.ts xs) = u at *
    generalize sumF (parts w.fi w.ts xs.reverse) = v at *
    cases x6 <;> open_line with [ha, hi2, hg, ev_setL, hset, hm, hs1, hnf, hnw, hrev, hm', hg', hs2]) [.sh (.lst (ns.map D.int)), .sh (webD w), .sh (webD w), .no, .no, .no, .no] ⟨_, _, _, _, rfl⟩
  open_line with [m_law, b_law, e_web, hw, e_cells, hcells, hadd, hl]
end K36
set_option Elab.async false
set_option linter.all false
set_option maxRecDepth 100000
namespace K36
open PySem L2 DL
def top (i : Nat) : Stmt := PySem.Challenge.pw_farthestcut_k36_amounts_of_lists.main.body.getD i (.Pass ⟨0, 0, 0, 0⟩)
abbrev s__law_draws : Stmt := top 43
abbrev s__law_names : Stmt := top 46
abbrev s__law_cells : Stmt := top 48
abbrev s__law_low : Stmt := top 44
abbrev s__law_fraction : Stmt := top 45
abbrev s__law_tie : Stmt := top 47
abbrev s__law_web : Stmt := top 49
abbrev s__law_amounts : Stmt := top 54
abbrev s__law_plus : Stmt := top 50
abbrev s__law_going : Stmt := top 51
abbrev s__law_whole : Stmt := top 52
abbrev s__law_same : Stmt := top 53
abbrev s_is_name : Stmt := top 11
abbrev s_look_at_places : Stmt := top 32
abbrev s_is_whole : Stmt := top 9
abbrev s_common_divisor : Stmt := top 5
abbrev s_is_ratio : Stmt := top 10
abbrev s_is_length : Stmt := top 29
abbrev s_is_worth : Stmt := top 30
abbrev s_is_tie : Stmt := top 28
abbrev s_look_at_ties : Stmt := top 33
abbrev s_is_place : Stmt := top 34
abbrev s_look_at_web : Stmt := top 31
abbrev s_shared_bottom : Stmt := top 37
abbrev s_as_whole : Stmt := top 38
abbrev s_on_one_scale : Stmt := top 36
abbrev s_ratio : Stmt := top 13
abbrev s_goes_from : Stmt := top 40
abbrev s_amount_of : Stmt := top 41
abbrev s_law : Stmt := top 55
theorem sc__law_draws : FnScope ["_law_cell", "_law_tops", "_law_found", "_law_left", "_law_mixed", "_law_k"] ["_law_cell", "_law_tops"] (defScope s__law_draws) := ⟨rfl, rfl, rfl, by decide +kernel, rfl, by decide +kernel, by decide +kernel⟩
theorem sc__law_names : FnScope ["_law_d", "_law_many", "_law_some", "_law_names_here", "_law_k", "_law_e", "_law_name", "_law_at"] ["_law_d", "_law_many"] (defScope s__law_names) := ⟨rfl, rfl, rfl, by decide +kernel, rfl, by decide +kernel, by decide +kernel⟩
theorem sc__law_cells : FnScope ["_law_script", "_law_d", "_law_many"] ["_law_script"] (defScope s__law_cells) := ⟨rfl, rfl, rfl, by decide +kernel, rfl, by decide +kernel, by decide +kernel⟩
theorem sc__law_low : FnScope ["_law_top", "_law_bottom", "_law_one", "_law_other"] ["_law_top", "_law_bottom"] (defScope s__law_low) := ⟨rfl, rfl, rfl, by decide +kernel, rfl, by decide +kernel, by decide +kernel⟩
theorem sc__law_fraction : FnScope ["_law_d", "_law_top", "_law_bottom"] ["_law_d"] (defScope s__law_fraction) := ⟨rfl, rfl, rfl, by decide +kernel, rfl, by decide +kernel, by decide +kernel⟩
theorem sc__law_tie : FnScope ["_law_cell", "_law_k", "_law_walk", "_law_d", "_law_at", "_law_other", "_law_worth"] ["_law_cell", "_law_k", "_law_walk"] (defScope s__law_tie) := ⟨rfl, rfl, rfl, by decide +kernel, rfl, by decide +kernel, by decide +kernel⟩
theorem sc__law_web : FnScope ["_law_script", "_law_d", "_law_places", "_law_first", "_law_last", "_law_amid", "_law_walk", "_law_ties"] ["_law_script"] (defScope s__law_web) := ⟨rfl, rfl, rfl, by decide +kernel, rfl, by decide +kernel, by decide +kernel⟩
theorem sc__law_amounts : FnScope ["_law_web_here", "_law_cell", "_law_d", "_law_found", "_law_k", "_law_one"] ["_law_web_here", "_law_cell"] (defScope s__law_amounts) := ⟨rfl, rfl, rfl, by decide +kernel, rfl, by decide +kernel, by decide +kernel⟩
theorem sc__law_plus : FnScope ["_law_one", "_law_other", "_law_sign"] ["_law_one", "_law_other", "_law_sign"] (defScope s__law_plus) := ⟨rfl, rfl, rfl, by decide +kernel, rfl, by decide +kernel, by decide +kernel⟩
theorem sc__law_going : FnScope ["_law_web_here", "_law_flow", "_law_place", "_law_found", "_law_k", "_law_tie_here"] ["_law_web_here", "_law_flow", "_law_place"] (defScope s__law_going) := ⟨rfl, rfl, rfl, by decide +kernel, rfl, by decide +kernel, by decide +kernel⟩
theorem sc__law_whole : FnScope ["_law_thing"] ["_law_thing"] (defScope s__law_whole) := ⟨rfl, rfl, rfl, by decide +kernel, rfl, by decide +kernel, by decide +kernel⟩
theorem sc__law_same : FnScope ["_law_found", "_law_due"] ["_law_found", "_law_due"] (defScope s__law_same) := ⟨rfl, rfl, rfl, by decide +kernel, rfl, by decide +kernel, by decide +kernel⟩
theorem sc_is_name : FnScope ["thing"] ["thing"] (defScope s_is_name) := ⟨rfl, rfl, rfl, by decide +kernel, rfl, by decide +kernel, by decide +kernel⟩
theorem sc_look_at_places : FnScope ["places", "number", "place"] ["places"] (defScope s_look_at_places) := ⟨rfl, rfl, rfl, by decide +kernel, rfl, by decide +kernel, by decide +kernel⟩
theorem sc_is_whole : FnScope ["thing"] ["thing"] (defScope s_is_whole) := ⟨rfl, rfl, rfl, by decide +kernel, rfl, by decide +kernel, by decide +kernel⟩
theorem sc_common_divisor : FnScope ["one", "other", "larger", "smaller", "rest"] ["one", "other"] (defScope s_common_divisor) := ⟨rfl, rfl, rfl, by decide +kernel, rfl, by decide +kernel, by decide +kernel⟩
theorem sc_is_ratio : FnScope ["thing"] ["thing"] (defScope s_is_ratio) := ⟨rfl, rfl, rfl, by decide +kernel, rfl, by decide +kernel, by decide +kernel⟩
theorem sc_is_length : FnScope ["thing"] ["thing"] (defScope s_is_length) := ⟨rfl, rfl, rfl, by decide +kernel, rfl, by decide +kernel, by decide +kernel⟩
theorem sc_is_worth : FnScope ["thing"] ["thing"] (defScope s_is_worth) := ⟨rfl, rfl, rfl, by decide +kernel, rfl, by decide +kernel, by decide +kernel⟩
theorem sc_is_tie : FnScope ["thing"] ["thing"] (defScope s_is_tie) := ⟨rfl, rfl, rfl, by decide +kernel, rfl, by decide +kernel, by decide +kernel⟩
theorem sc_look_at_ties : FnScope ["ties", "places", "number", "tie"] ["ties", "places"] (defScope s_look_at_ties) := ⟨rfl, rfl, rfl, by decide +kernel, rfl, by decide +kernel, by decide +kernel⟩
theorem sc_is_place : FnScope ["thing", "places"] ["thing", "places"] (defScope s_is_place) := ⟨rfl, rfl, rfl, by decide +kernel, rfl, by decide +kernel, by decide +kernel⟩
theorem sc_look_at_web : FnScope ["thing"] ["thing"] (defScope s_look_at_web) := ⟨rfl, rfl, rfl, by decide +kernel, rfl, by decide +kernel, by decide +kernel⟩
theorem sc_shared_bottom : FnScope ["some", "bottom", "one"] ["some"] (defScope s_shared_bottom) := ⟨rfl, rfl, rfl, by decide +kernel, rfl, by decide +kernel, by decide +kernel⟩
theorem sc_as_whole : FnScope ["one", "bottom"] ["one", "bottom"] (defScope s_as_whole) := ⟨rfl, rfl, rfl, by decide +kernel, rfl, by decide +kernel, by decide +kernel⟩
theorem sc_on_one_scale : FnScope ["some", "bottom"] ["some"] (defScope s_on_one_scale) := ⟨rfl, rfl, rfl, by decide +kernel, rfl, by decide +kernel, by decide +kernel⟩
theorem sc_ratio : FnScope ["top", "bottom", "divisor"] ["top", "bottom"] (defScope s_ratio) := ⟨rfl, rfl, rfl, by decide +kernel, rfl, by decide +kernel, by decide +kernel⟩
theorem sc_goes_from : FnScope ["web", "sizes", "place", "more", "tie", "size"] ["web", "sizes", "place"] (defScope s_goes_from) := ⟨rfl, rfl, rfl, by decide +kernel, rfl, by decide +kernel, by decide +kernel⟩
theorem sc_amount_of : FnScope ["web", "flow", "scaled"] ["web", "flow"] (defScope s_amount_of) := ⟨rfl, rfl, rfl, by decide +kernel, rfl, by decide +kernel, by decide +kernel⟩
theorem sc_law : FnScope ["_law_script", "_law_web_here", "_law_handed", "_law_cell", "_law_flow", "_law_due", "_law_back"] ["_law_script"] (defScope s_law) := ⟨rfl, rfl, rfl, by decide +kernel, rfl, by decide +kernel, by decide +kernel⟩
structure Adr where
  a__law_draws : Addr
  d__law_draws : FuncData
  a__law_names : Addr
  d__law_names : FuncData
  a__law_cells : Addr
  d__law_cells : FuncData
  a__law_low : Addr
  d__law_low : FuncData
  a__law_fraction : Addr
  d__law_fraction : FuncData
  a__law_tie : Addr
  d__law_tie : FuncData
  a__law_web : Addr
  d__law_web : FuncData
  a__law_amounts : Addr
  d__law_amounts : FuncData
  a__law_plus : Addr
  d__law_plus : FuncData
  a__law_going : Addr
  d__law_going : FuncData
  a__law_whole : Addr
  d__law_whole : FuncData
  a__law_same : Addr
  d__law_same : FuncData
  a_is_name : Addr
  d_is_name : FuncData
  a_look_at_places : Addr
  d_look_at_places : FuncData
  a_is_whole : Addr
  d_is_whole : FuncData
  a_common_divisor : Addr
  d_common_divisor : FuncData
  a_is_ratio : Addr
  d_is_ratio : FuncData
  a_is_length : Addr
  d_is_length : FuncData
  a_is_worth : Addr
  d_is_worth : FuncData
  a_is_tie : Addr
  d_is_tie : FuncData
  a_look_at_ties : Addr
  d_look_at_ties : FuncData
  a_is_place : Addr
  d_is_place : FuncData
  a_look_at_web : Addr
  d_look_at_web : FuncData
  a_shared_bottom : Addr
  d_shared_bottom : FuncData
  a_as_whole : Addr
  d_as_whole : FuncData
  a_on_one_scale : Addr
  d_on_one_scale : FuncData
  a_ratio : Addr
  d_ratio : FuncData
  a_goes_from : Addr
  d_goes_from : FuncData
  a_amount_of : Addr
  d_amount_of : FuncData
  a_law : Addr
  d_law : FuncData
structure Txt (K : PySem.W.Frag) (mg : Str → Option Value) (t : Adr) : Prop where
  F__law_draws : Fun K "_law_draws" "_law_draws" s__law_draws t.a__law_draws t.d__law_draws
  b__law_draws : Binds K t.d__law_draws ["_law_cell", "_law_tops"] []
  g__law_draws : mg "_law_draws" = some (.ref t.a__law_draws)
  F__law_names : Fun K "_law_names" "_law_names" s__law_names t.a__law_names t.d__law_names
  b__law_names : Binds K t.d__law_names ["_law_d", "_law_many"] []
  g__law_names : mg "_law_names" = some (.ref t.a__law_names)
  F__law_cells : Fun K "_law_cells" "_law_cells" s__law_cells t.a__law_cells t.d__law_cells
  b__law_cells : Binds K t.d__law_cells ["_law_script"] []
  g__law_cells : mg "_law_cells" = some (.ref t.a__law_cells)
  F__law_low : Fun K "_law_low" "_law_low" s__law_low t.a__law_low t.d__law_low
  b__law_low : Binds K t.d__law_low ["_law_top", "_law_bottom"] []
  g__law_low : mg "_law_low" = some (.ref t.a__law_low)
  F__law_fraction : Fun K "_law_fraction" "_law_fraction" s__law_fraction t.a__law_fraction t.d__law_fraction
  b__law_fraction : Binds K t.d__law_fraction ["_law_d"] []
  g__law_fraction : mg "_law_fraction" = some (.ref t.a__law_fraction)
  F__law_tie : Fun K "_law_tie" "_law_tie" s__law_tie t.a__law_tie t.d__law_tie
  b__law_tie : Binds K t.d__law_tie ["_law_cell", "_law_k", "_law_walk"] []
  g__law_tie : mg "_law_tie" = some (.ref t.a__law_tie)
  F__law_web : Fun K "_law_web" "_law_web" s__law_web t.a__law_web t.d__law_web
  b__law_web : Binds K t.d__law_web ["_law_script"] []
  g__law_web : mg "_law_web" = some (.ref t.a__law_web)
  F__law_amounts : Fun K "_law_amounts" "_law_amounts" s__law_amounts t.a__law_amounts t.d__law_amounts
  b__law_amounts : Binds K t.d__law_amounts ["_law_web_here", "_law_cell"] []
  g__law_amounts : mg "_law_amounts" = some (.ref t.a__law_amounts)
  F__law_plus : Fun K "_law_plus" "_law_plus" s__law_plus t.a__law_plus t.d__law_plus
  b__law_plus : Binds K t.d__law_plus ["_law_one", "_law_other", "_law_sign"] []
  g__law_plus : mg "_law_plus" = some (.ref t.a__law_plus)
  F__law_going : Fun K "_law_going" "_law_going" s__law_going t.a__law_going t.d__law_going
  b__law_going : Binds K t.d__law_going ["_law_web_here", "_law_flow", "_law_place"] []
  g__law_going : mg "_law_going" = some (.ref t.a__law_going)
  F__law_whole : Fun K "_law_whole" "_law_whole" s__law_whole t.a__law_whole t.d__law_whole
  b__law_whole : Binds K t.d__law_whole ["_law_thing"] []
  g__law_whole : mg "_law_whole" = some (.ref t.a__law_whole)
  F__law_same : Fun K "_law_same" "_law_same" s__law_same t.a__law_same t.d__law_same
  b__law_same : Binds K t.d__law_same ["_law_found", "_law_due"] []
  g__law_same : mg "_law_same" = some (.ref t.a__law_same)
  F_is_name : Fun K "is_name" "is_name" s_is_name t.a_is_name t.d_is_name
  b_is_name : Binds K t.d_is_name ["thing"] []
  g_is_name : mg "is_name" = some (.ref t.a_is_name)
  F_look_at_places : Fun K "look_at_places" "look_at_places" s_look_at_places t.a_look_at_places t.d_look_at_places
  b_look_at_places : Binds K t.d_look_at_places ["places"] []
  g_look_at_places : mg "look_at_places" = some (.ref t.a_look_at_places)
  F_is_whole : Fun K "is_whole" "is_whole" s_is_whole t.a_is_whole t.d_is_whole
  b_is_whole : Binds K t.d_is_whole ["thing"] []
  g_is_whole : mg "is_whole" = some (.ref t.a_is_whole)
  F_common_divisor : Fun K "common_divisor" "common_divisor" s_common_divisor t.a_common_divisor t.d_common_divisor
  b_common_divisor : Binds K t.d_common_divisor ["one", "other"] []
  g_common_divisor : mg "common_divisor" = some (.ref t.a_common_divisor)
  F_is_ratio : Fun K "is_ratio" "is_ratio" s_is_ratio t.a_is_ratio t.d_is_ratio
  b_is_ratio : Binds K t.d_is_ratio ["thing"] []
  g_is_ratio : mg "is_ratio" = some (.ref t.a_is_ratio)
  F_is_length : Fun K "is_length" "is_length" s_is_length t.a_is_length t.d_is_length
  b_is_length : Binds K t.d_is_length ["thing"] []
  g_is_length : mg "is_length" = some (.ref t.a_is_length)
  F_is_worth : Fun K "is_worth" "is_worth" s_is_worth t.a_is_worth t.d_is_worth
  b_is_worth : Binds K t.d_is_worth ["thing"] []
  g_is_worth : mg "is_worth" = some (.ref t.a_is_worth)
  F_is_tie : Fun K "is_tie" "is_tie" s_is_tie t.a_is_tie t.d_is_tie
  b_is_tie : Binds K t.d_is_tie ["thing"] []
  g_is_tie : mg "is_tie" = some (.ref t.a_is_tie)
  F_look_at_ties : Fun K "look_at_ties" "look_at_ties" s_look_at_ties t.a_look_at_ties t.d_look_at_ties
  b_look_at_ties : Binds K t.d_look_at_ties ["ties", "places"] []
  g_look_at_ties : mg "look_at_ties" = some (.ref t.a_look_at_ties)
  F_is_place : Fun K "is_place" "is_place" s_is_place t.a_is_place t.d_is_place
  b_is_place : Binds K t.d_is_place ["thing", "places"] []
  g_is_place : mg "is_place" = some (.ref t.a_is_place)
  F_look_at_web : Fun K "look_at_web" "look_at_web" s_look_at_web t.a_look_at_web t.d_look_at_web
  b_look_at_web : Binds K t.d_look_at_web ["thing"] []
  g_look_at_web : mg "look_at_web" = some (.ref t.a_look_at_web)
  F_shared_bottom : Fun K "shared_bottom" "shared_bottom" s_shared_bottom t.a_shared_bottom t.d_shared_bottom
  b_shared_bottom : Binds K t.d_shared_bottom ["some"] []
  g_shared_bottom : mg "shared_bottom" = some (.ref t.a_shared_bottom)
  F_as_whole : Fun K "as_whole" "as_whole" s_as_whole t.a_as_whole t.d_as_whole
  b_as_whole : Binds K t.d_as_whole ["one", "bottom"] []
  g_as_whole : mg "as_whole" = some (.ref t.a_as_whole)
  F_on_one_scale : Fun K "on_one_scale" "on_one_scale" s_on_one_scale t.a_on_one_scale t.d_on_one_scale
  b_on_one_scale : Binds K t.d_on_one_scale ["some"] []
  g_on_one_scale : mg "on_one_scale" = some (.ref t.a_on_one_scale)
  F_ratio : Fun K "ratio" "ratio" s_ratio t.a_ratio t.d_ratio
  b_ratio : Binds K t.d_ratio ["top", "bottom"] []
  g_ratio : mg "ratio" = some (.ref t.a_ratio)
  F_goes_from : Fun K "goes_from" "goes_from" s_goes_from t.a_goes_from t.d_goes_from
  b_goes_from : Binds K t.d_goes_from ["web", "sizes", "place"] []
  g_goes_from : mg "goes_from" = some (.ref t.a_goes_from)
  F_amount_of : Fun K "amount_of" "amount_of" s_amount_of t.a_amount_of t.d_amount_of
  b_amount_of : Binds K t.d_amount_of ["web", "flow"] []
  g_amount_of : mg "amount_of" = some (.ref t.a_amount_of)
  F_law : Fun K "law" "law" s_law t.a_law t.d_law
  b_law : Binds K t.d_law ["_law_script"] []
  g_law : mg "law" = some (.ref t.a_law)
  n_abs : mg "abs" = none
  n_all : mg "all" = none
  n_bool : mg "bool" = none
  n_enumerate : mg "enumerate" = none
  n_int : mg "int" = none
  n_isinstance : mg "isinstance" = none
  n_len : mg "len" = none
  n_list : mg "list" = none
  n_min : mg "min" = none
  n_range : mg "range" = none
  n_str : mg "str" = none
  n_tuple : mg "tuple" = none
  n_zip : mg "zip" = none
  c_FEWEST_PLACES : Kon K mg "FEWEST_PLACES" (.int 2)
  c_FIRST : Kon K mg "FIRST" (.int 2)
  c_LAST : Kon K mg "LAST" (.int 3)
  c_LENGTH : Kon K mg "LENGTH" (.int 3)
  c_LETTERS : Kon K mg "LETTERS" (.str "abcdefghijklmnopqrstuvwxyz")
  c_LONGEST_NAME : Kon K mg "LONGEST_NAME" (.int 8)
  c_MOST_PLACES : Kon K mg "MOST_PLACES" (.int 7)
  c_MOST_TIES : Kon K mg "MOST_TIES" (.int 14)
  c_ONE : Kon K mg "ONE" (.int 0)
  c_OTHER : Kon K mg "OTHER" (.int 1)
  c_PLACES : Kon K mg "PLACES" (.int 0)
  c_TIES : Kon K mg "TIES" (.int 1)
  c_WORD : Kon K mg "WORD" (.int 2)
  c_WORDS : Kon K mg "WORDS" (.tup [(.str "one"), (.str "both")])
  c_WORTH : Kon K mg "WORTH" (.int 4)
section
variable {P : Program} {w : World} {K : PySem.W.Frag} {mg : Str → Option Value} {base : Heap} {t : Adr}
set_option maxHeartbeats 4000000 in
theorem ok__law_draws (T : Txt K mg t) : FnOk P w K mg base CX0 1 t.a__law_draws t.d__law_draws ["_law_cell", "_law_tops"] (spD K 2 m__law_draws) :=
  fn_mirror T.F__law_draws sc__law_draws fun cdv A outer s0 H H₀ E hr => (
  (dss_cons (ds_own (i := 2) sc__law_draws.nd rfl (Or.inl rfl) (df_lst da_nil))
  (dss_cons (ds_set (i := 3) sc__law_draws.nd rfl (Or.inl rfl) (de_callB call_abs cd_abs rfl T.n_abs PyProof.Rows.Boot.«abs» (da_cons (dv 0) da_nil)))
  (dss_cons (ds_set (i := 4) sc__law_draws.nd rfl (Or.inl rfl) (de_mod (de_mul (de_mod (dv 0) de_int) de_int) de_int))
  (dss_cons (ds_forR PassesOwn.never rfl rfl T.n_range (de_callB call_len cd_len rfl T.n_len PyProof.Rows.Boot.«len» (da_cons (dv 1) da_nil)) (dg_name (i := 5) sc__law_draws.nd rfl (Or.inl rfl)) total_set
  (dss_cons (ds_if (dt_cmp op_ge (od_iop0 fun _ _ _ _ => rb _) (de_callB call_abs cd_abs rfl T.n_abs PyProof.Rows.Boot.«abs» (da_cons (dv 0) da_nil)) (de_pow de_int de_int) nm)
  (dss_cons (ds_append (i := 2) rfl (Or.inl rfl) (de_mod (dv 3) (de_item (dv 1) (dv 5))))
  (dss_cons (ds_set (i := 3) sc__law_draws.nd rfl (Or.inl rfl) (de_div (dv 3) (de_item (dv 1) (dv 5))))
  dss_nil))
  (dss_cons (ds_set (i := 4) sc__law_draws.nd rfl (Or.inl rfl) (de_mod (de_add (de_add (de_add (de_mul (dv 4) (dv 4)) (de_mul de_int (dv 4))) (de_mul de_int (dv 5))) de_int) de_int))
  (dss_cons (ds_append (i := 2) rfl (Or.inl rfl) (de_mod (de_mod (de_mul (dv 4) de_int) de_int) (de_item (dv 1) (dv 5))))
  dss_nil)))
  dss_nil))
  (dss_cons (ds_ret (dv 2))
  dss_nil))))))
set_option maxHeartbeats 4000000 in
theorem ok__law_names (T : Txt K mg t) : FnOk P w K mg base CX0 1 t.a__law_names t.d__law_names ["_law_d", "_law_many"] (spD K 2 m__law_names) :=
  fn_mirror T.F__law_names sc__law_names fun cdv A outer s0 H H₀ E hr => (
  (dss_cons (ds_set (i := 2) sc__law_names.nd rfl (Or.inr rfl) de_str)
  (dss_cons (ds_own (i := 3) sc__law_names.nd rfl (Or.inl rfl) (df_lst da_nil))
  (dss_cons (ds_forR PassesOwn.never rfl rfl T.n_range (dv 1) (dg_name (i := 4) sc__law_names.nd rfl (Or.inl rfl)) total_set
  (dss_cons (ds_set (i := 5) sc__law_names.nd rfl (Or.inr rfl) (de_sliceA (dv 0) (do_some (de_mul de_int (dv 4))) (do_some (de_add (de_mul de_int (dv 4)) de_int))))
  (dss_cons (ds_set (i := 6) sc__law_names.nd rfl (Or.inl rfl) (de_join de_str (da_cons (de_co (dcoB ["_law_j", "_law_some", "_law_e"] 1 [2, 5] rfl (di_range1 rfl T.n_range (de_add de_int (de_item (dv 5) de_int))) (tgOk_set (by decide)) (fun s H C fp pn => ⟨fun He H0e => (dg_name (i := 0) (show List.Nodup (["_law_j", "_law_some", "_law_e"] : List Str) from by decide) rfl (Or.inl rfl)), dif_nil, (de_item (dv 1) (de_item (dv 2) (de_add de_int (dv 0))))⟩) ⟨rfl, rfl⟩ rfl rfl rfl rfl)) da_nil)))
  (dss_cons (ds_if (DW.dt (dw_and (dt_cmp op_gt (od_iop0 fun _ _ _ _ => rb _) (dv 4) de_int nm) (dw_one_and (dt_cmp (op_eqD hr.units) od_eq (de_item (dv 5) de_int) de_int nm))))
  (dss_cons (ds_setL (i := 6) sc__law_names.nd rfl (Or.inl rfl) (de_add (de_sliceA (de_item (dv 3) (de_sub (dv 4) de_int)) do_none (do_some (de_item (dv 5) de_int))) (de_item (dv 2) (de_item (dv 5) de_int))))
  dss_nil)
  dss_nil)
  (dss_cons (ds_set (i := 7) sc__law_names.nd rfl (Or.inl rfl) (de_item (dv 5) de_int))
  (dss_cons (ds_while _ PassesOwn.never (dt_cmp (op_in hr.units) od_in (dv 6) (dv 3) rfl)
  (dss_cons (ds_set (i := 7) sc__law_names.nd rfl (Or.inl rfl) (de_add (dv 7) de_int))
  (dss_cons (ds_set (i := 6) sc__law_names.nd rfl (Or.inl rfl) (de_add (de_sliceA (dv 6) do_none (do_some (de_neg de_int))) (de_item (dv 2) (de_mod (dv 7) de_int))))
  dss_nil)))
  (dss_cons (ds_append (i := 3) rfl (Or.inl rfl) (dv 6))
  dss_nil)))))))
  (dss_cons (ds_ret (dv 3))
  dss_nil)))))
set_option maxHeartbeats 4000000 in
theorem ok__law_cells (T : Txt K mg t) : FnOk P w K mg base CX0 2 t.a__law_cells t.d__law_cells ["_law_script"] (spD K 1 m__law_cells) :=
  fn_mirror T.F__law_cells sc__law_cells fun cdv A outer s0 H H₀ E hr => (
  (dss_cons (ds_set (i := 1) sc__law_cells.nd rfl (Or.inl rfl) (de_call ((ok__law_draws T).mono (by decide : 1 ≤ 1)) hr rfl T.g__law_draws T.F__law_draws.kp T.b__law_draws pass0 (da_cons (de_item (de_add (dv 0) (de_lst (da_cons de_int da_nil))) de_int) (da_cons (de_add (de_add (de_lst (da_cons de_int (da_cons de_int (da_cons de_int da_nil)))) (de_rep (df_add (de_lst (da_cons de_int (da_cons de_int da_nil))) (de_rep (df_lst (da_cons de_int da_nil)) de_int)) de_int)) (de_lst (da_cons de_int da_nil))) da_nil)) rfl (fun ρ ds h => (fun _ h => aCons_len (fun _ h => aCons_len (fun _ h => aNil_len h) h) h) ds h)))
  (dss_cons (ds_set (i := 2) sc__law_cells.nd rfl (Or.inl rfl) (de_callB (call_min2 rfl) cd_min rfl T.n_min PyProof.Rows.Boot.«min» (da_cons de_int (da_cons (de_item (dv 1) de_int) da_nil))))
  (dss_cons (ds_ret (de_tup (da_cons (de_sliceA (dv 0) (do_some de_int) (do_some (de_add de_int (dv 2)))) (da_cons (de_sliceA (dv 0) (do_some (de_add de_int (dv 2))) (do_some de_int)) da_nil))))
  dss_nil))))
set_option maxHeartbeats 4000000 in
theorem ok__law_low (T : Txt K mg t) : FnOk P w K mg base CX0 1 t.a__law_low t.d__law_low ["_law_top", "_law_bottom"] (spD K 2 m__law_low) :=
  fn_mirror T.F__law_low sc__law_low fun cdv A outer s0 H H₀ E hr => (
  (dss_cons (ds_set (i := 2) sc__law_low.nd rfl (Or.inl rfl) (de_callB call_abs cd_abs rfl T.n_abs PyProof.Rows.Boot.«abs» (da_cons (dv 0) da_nil)))
  (dss_cons (ds_set (i := 3) sc__law_low.nd rfl (Or.inl rfl) (dv 1))
  (dss_cons (ds_while _ PassesOwn.never (dt_cmp (op_neD hr.units) od_ne (dv 3) de_int nm)
  (dss_cons (ds_par (i := 2) (j := 3) rfl sc__law_low.nd rfl rfl (by decide) rfl rfl (da_cons (dv 3) (da_cons (de_mod (dv 2) (dv 3)) da_nil)) rfl)
  dss_nil))
  (dss_cons (ds_ret (de_tup (da_cons (de_div (dv 0) (dv 2)) (da_cons (de_div (dv 1) (dv 2)) da_nil))))
  dss_nil)))))
set_option maxHeartbeats 4000000 in
theorem ok__law_fraction (T : Txt K mg t) : FnOk P w K mg base CX0 2 t.a__law_fraction t.d__law_fraction ["_law_d"] (spD K 1 m__law_fraction) :=
  fn_mirror T.F__law_fraction sc__law_fraction fun cdv A outer s0 H H₀ E hr => (
  (dss_cons (ds_set (i := 1) sc__law_fraction.nd rfl (Or.inl rfl) (de_item (de_lst (da_cons de_int (da_cons (de_mod (de_item (dv 0) de_int) de_int) (da_cons (de_mod (de_item (dv 0) de_int) de_int) (da_cons (de_item (dv 0) de_int) (da_cons (de_mod (de_item (dv 0) de_int) de_int) da_nil)))))) (de_item (dv 0) de_int)))
  (dss_cons (ds_set (i := 2) sc__law_fraction.nd rfl (Or.inl rfl) (de_item (de_lst (da_cons de_int (da_cons de_int (da_cons (de_add de_int (de_item (dv 0) de_int)) (da_cons de_int (da_cons (de_add de_int (de_mod (de_item (dv 0) de_int) de_int)) da_nil)))))) (de_item (dv 0) de_int)))
  (dss_cons (ds_ret (de_call ((ok__law_low T).mono (by decide : 1 ≤ 1)) hr rfl T.g__law_low T.F__law_low.kp T.b__law_low pass0 (da_cons (dv 1) (da_cons (dv 2) da_nil)) rfl (fun ρ ds h => (fun _ h => aCons_len (fun _ h => aCons_len (fun _ h => aNil_len h) h) h) ds h)))
  dss_nil))))
set_option maxHeartbeats 4000000 in
theorem ok__law_tie (T : Txt K mg t) : FnOk P w K mg base CX0 3 t.a__law_tie t.d__law_tie ["_law_cell", "_law_k", "_law_walk"] (spD K 3 m__law_tie) :=
  fn_mirror T.F__law_tie sc__law_tie fun cdv A outer s0 H H₀ E hr => (
  (dss_cons (ds_set (i := 3) sc__law_tie.nd rfl (Or.inl rfl) (de_call ((ok__law_draws T).mono (by decide : 1 ≤ 2)) hr rfl T.g__law_draws T.F__law_draws.kp T.b__law_draws pass0 (da_cons (dv 0) (da_cons (de_lst (da_cons de_int (da_cons de_int (da_cons de_int (da_cons de_int (da_cons (de_pow de_int de_int) (da_cons de_int (da_cons de_int (da_cons de_int (da_cons (de_pow de_int de_int) (da_cons de_int (da_cons de_int da_nil)))))))))))) da_nil)) rfl (fun ρ ds h => (fun _ h => aCons_len (fun _ h => aCons_len (fun _ h => aNil_len h) h) h) ds h)))
  (dss_cons (ds_set (i := 4) sc__law_tie.nd rfl (Or.inl rfl) (de_mod (de_item (dv 3) de_int) (de_callB call_len cd_len rfl T.n_len PyProof.Rows.Boot.«len» (da_cons (dv 2) da_nil))))
  (dss_cons (ds_set (i := 5) sc__law_tie.nd rfl (Or.inl rfl) (de_mod (de_add (de_add (dv 4) de_int) (de_mod (de_item (dv 3) de_int) (de_sub (de_callB call_len cd_len rfl T.n_len PyProof.Rows.Boot.«len» (da_cons (dv 2) da_nil)) de_int))) (de_callB call_len cd_len rfl T.n_len PyProof.Rows.Boot.«len» (da_cons (dv 2) da_nil))))
  (dss_cons (ds_if (dt_cmp (op_eqD hr.units) od_eq (de_item (dv 3) de_int) de_int nm)
  (dss_cons (ds_set (i := 4) sc__law_tie.nd rfl (Or.inl rfl) (de_mod (dv 1) (de_sub (de_callB call_len cd_len rfl T.n_len PyProof.Rows.Boot.«len» (da_cons (dv 2) da_nil)) de_int)))
  (dss_cons (ds_set (i := 5) sc__law_tie.nd rfl (Or.inl rfl) (de_add (dv 4) de_int))
  dss_nil))
  dss_nil)
  (dss_cons (ds_set (i := 6) sc__law_tie.nd rfl (Or.inl rfl) de_non)
  (dss_cons (ds_if (dt_cmp op_gt (od_iop0 fun _ _ _ _ => rb _) (de_item (dv 3) de_int) de_int nm)
  (dss_cons (ds_set (i := 6) sc__law_tie.nd rfl (Or.inl rfl) (de_call ((ok__law_fraction T).mono (by decide : 2 ≤ 2)) hr rfl T.g__law_fraction T.F__law_fraction.kp T.b__law_fraction pass0 (da_cons (de_sliceA (dv 3) (do_some de_int) (do_some de_int)) da_nil) rfl (fun ρ ds h => (fun _ h => aCons_len (fun _ h => aNil_len h) h) ds h)))
  (dss_cons (ds_if (dt_cmp (op_eqD hr.units) od_eq (de_item (dv 6) de_int) de_int nm)
  (dss_cons (ds_set (i := 6) sc__law_tie.nd rfl (Or.inl rfl) (de_tup (da_cons de_int (da_cons de_int da_nil))))
  dss_nil)
  dss_nil)
  dss_nil))
  dss_nil)
  (dss_cons (ds_ret (de_tup (da_cons (de_item (dv 2) (dv 4)) (da_cons (de_item (dv 2) (dv 5)) (da_cons (de_item (de_lst (da_cons de_str (da_cons de_str da_nil))) (de_item (dv 3) de_int)) (da_cons (de_call ((ok__law_fraction T).mono (by decide : 2 ≤ 2)) hr rfl T.g__law_fraction T.F__law_fraction.kp T.b__law_fraction pass0 (da_cons (de_sliceA (dv 3) (do_some de_int) (do_some de_int)) da_nil) rfl (fun ρ ds h => (fun _ h => aCons_len (fun _ h => aNil_len h) h) ds h)) (da_cons (dv 6) da_nil)))))))
  dss_nil))))))))
set_option maxHeartbeats 4000000 in
theorem ok__law_web (T : Txt K mg t) : FnOk P w K mg base CX0 4 t.a__law_web t.d__law_web ["_law_script"] (spD K 1 m__law_web) :=
  fn_mirror T.F__law_web sc__law_web fun cdv A outer s0 H H₀ E hr => (
  (dss_cons (ds_set (i := 1) sc__law_web.nd rfl (Or.inl rfl) (de_call ((ok__law_draws T).mono (by decide : 1 ≤ 3)) hr rfl T.g__law_draws T.F__law_draws.kp T.b__law_draws pass0 (da_cons (de_item (de_add (dv 0) (de_lst (da_cons de_int da_nil))) de_int) (da_cons (de_add (de_lst (da_cons de_int (da_cons de_int (da_cons de_int da_nil)))) (de_rep (df_add (de_lst (da_cons de_int (da_cons de_int da_nil))) (de_rep (df_lst (da_cons de_int da_nil)) de_int)) de_int)) da_nil)) rfl (fun ρ ds h => (fun _ h => aCons_len (fun _ h => aCons_len (fun _ h => aNil_len h) h) h) ds h)))
  (dss_cons (ds_set (i := 2) sc__law_web.nd rfl (Or.inl rfl) (de_call ((ok__law_names T).mono (by decide : 1 ≤ 3)) hr rfl T.g__law_names T.F__law_names.kp T.b__law_names pass0 (da_cons (de_sliceA (dv 1) (do_some de_int) do_none) (da_cons (de_add de_int (de_item (dv 1) de_int)) da_nil)) rfl (fun ρ ds h => (fun _ h => aCons_len (fun _ h => aCons_len (fun _ h => aNil_len h) h) h) ds h)))
  (dss_cons (ds_set (i := 3) sc__law_web.nd rfl (Or.inr rfl) (de_mod (de_item (dv 1) de_int) (de_callB call_len cd_len rfl T.n_len PyProof.Rows.Boot.«len» (da_cons (dv 2) da_nil))))
  (dss_cons (ds_set (i := 4) sc__law_web.nd rfl (Or.inr rfl) (de_mod (de_add (de_add (dv 3) de_int) (de_mod (de_item (dv 1) de_int) (de_sub (de_callB call_len cd_len rfl T.n_len PyProof.Rows.Boot.«len» (da_cons (dv 2) da_nil)) de_int))) (de_callB call_len cd_len rfl T.n_len PyProof.Rows.Boot.«len» (da_cons (dv 2) da_nil))))
  (dss_cons (ds_setC (i := 5) sc__law_web.nd rfl rfl comp_only (dcoB ["_law_k", "_law_place", "_law_first", "_law_last"] 2 [3, 4] rfl (di_enum rfl T.n_enumerate (dv 2)) (tgOk_unp (by decide)) (fun s H C fp pn => ⟨fun He H0e => (dg_unp rfl (dgs_cons (i := 0) (show List.Nodup (["_law_k", "_law_place", "_law_first", "_law_last"] : List Str) from by decide) rfl (Or.inl rfl) (dgs_cons (i := 1) (show List.Nodup (["_law_k", "_law_place", "_law_first", "_law_last"] : List Str) from by decide) rfl (Or.inl rfl) dgs_nil))), (dif_one (dt_cmp (op_notIn hr.units) od_notIn (dv 0) (de_tup (da_cons (dv 2) (da_cons (dv 3) da_nil))) rfl)), (dv 1)⟩) ⟨rfl, rfl⟩ rfl rfl rfl rfl))
  (dss_cons (ds_set (i := 6) sc__law_web.nd rfl (Or.inr rfl) (de_add (de_add (de_lst (da_cons (de_item (dv 2) (dv 3)) da_nil)) (dv 5)) (de_lst (da_cons (de_item (dv 2) (dv 4)) da_nil))))
  (dss_cons (ds_setC (i := 7) sc__law_web.nd rfl rfl comp_only (dcoB ["_law_k", "_law_cell", "_law_walk"] 2 [6] rfl (di_enum rfl T.n_enumerate (de_item (de_call ((ok__law_cells T).mono (by decide : 2 ≤ 3)) hr rfl T.g__law_cells T.F__law_cells.kp T.b__law_cells pass0 (da_cons (dv 0) da_nil) rfl (fun ρ ds h => (fun _ h => aCons_len (fun _ h => aNil_len h) h) ds h)) de_int)) (tgOk_unp (by decide)) (fun s H C fp pn => ⟨fun He H0e => (dg_unp rfl (dgs_cons (i := 0) (show List.Nodup (["_law_k", "_law_cell", "_law_walk"] : List Str) from by decide) rfl (Or.inl rfl) (dgs_cons (i := 1) (show List.Nodup (["_law_k", "_law_cell", "_law_walk"] : List Str) from by decide) rfl (Or.inl rfl) dgs_nil))), dif_nil, (de_call ((ok__law_tie T).mono (by decide : 3 ≤ 3)) hr rfl T.g__law_tie T.F__law_tie.kp T.b__law_tie pass0 (da_cons (dv 1) (da_cons (dv 0) (da_cons (dv 2) da_nil))) rfl (fun ρ ds h => (fun _ h => aCons_len (fun _ h => aCons_len (fun _ h => aCons_len (fun _ h => aNil_len h) h) h) h) ds h))⟩) ⟨rfl, rfl⟩ rfl rfl rfl rfl))
  (dss_cons (ds_ret (de_tup (da_cons (dv 2) (da_cons (dv 7) (da_cons (de_item (dv 2) (dv 3)) (da_cons (de_item (dv 2) (dv 4)) da_nil))))))
  dss_nil)))))))))
set_option maxHeartbeats 4000000 in
theorem okF__law_amounts (T : Txt K mg t) : FnOk P w K mg base CX0 3 t.a__law_amounts t.d__law_amounts ["_law_web_here", "_law_cell"] (spF K 2 m__law_amounts) :=
  fn_mirrorF T.F__law_amounts sc__law_amounts fun cdv A outer s0 H H₀ E hr => (
  (dssF_cons (ds_set (i := 2) sc__law_amounts.nd rfl (Or.inl rfl) (de_call ((ok__law_draws T).mono (by decide : 1 ≤ 2)) hr rfl T.g__law_draws T.F__law_draws.kp T.b__law_draws pass0 (da_cons (dv 1) (da_cons (de_rep (df_lst (da_cons de_int (da_cons (de_pow de_int de_int) (da_cons de_int (da_cons de_int da_nil))))) de_int) da_nil)) rfl (fun ρ ds h => (fun _ h => aCons_len (fun _ h => aCons_len (fun _ h => aNil_len h) h) h) ds h)))
  (dssF_cons (ds_own (i := 3) sc__law_amounts.nd rfl (Or.inl rfl) (df_lst da_nil))
  (dssF_cons (ds_forR PassesOwn.never rfl rfl T.n_range (de_callB call_len cd_len rfl T.n_len PyProof.Rows.Boot.«len» (da_cons (de_item (dv 0) de_int) da_nil)) (dg_name (i := 4) sc__law_amounts.nd rfl (Or.inl rfl)) total_set
  (dss_cons (ds_set (i := 5) sc__law_amounts.nd rfl (Or.inl rfl) (de_call ((ok__law_fraction T).mono (by decide : 2 ≤ 2)) hr rfl T.g__law_fraction T.F__law_fraction.kp T.b__law_fraction pass0 (da_cons (de_sliceA (dv 2) (do_some (de_mul de_int (dv 4))) (do_some (de_add (de_mul de_int (dv 4)) de_int))) da_nil) rfl (fun ρ ds h => (fun _ h => aCons_len (fun _ h => aNil_len h) h) ds h)))
  (dss_cons (ds_append (i := 3) rfl (Or.inl rfl) (de_tup (da_cons (de_mul (de_sub de_int (de_mul de_int (de_item (dv 2) (de_add (de_mul de_int (dv 4)) de_int)))) (de_item (dv 5) de_int)) (da_cons (de_item (dv 5) de_int) da_nil))))
  dss_nil)))
  (dssF_ret rfl (Or.inl rfl))))))
theorem ok__law_amounts (T : Txt K mg t) : FnOk P w K mg base CX0 3 t.a__law_amounts t.d__law_amounts ["_law_web_here", "_law_cell"] (spD K 2 m__law_amounts) := (okF__law_amounts T).imp (spD_spF fun _ _ h => runF_lst h)
set_option maxHeartbeats 4000000 in
theorem ok__law_plus (T : Txt K mg t) : FnOk P w K mg base CX0 2 t.a__law_plus t.d__law_plus ["_law_one", "_law_other", "_law_sign"] (spD K 3 m__law_plus) :=
  fn_mirror T.F__law_plus sc__law_plus fun cdv A outer s0 H H₀ E hr => (
  (dss_cons (ds_ret (de_call ((ok__law_low T).mono (by decide : 1 ≤ 1)) hr rfl T.g__law_low T.F__law_low.kp T.b__law_low pass0 (da_cons (de_add (de_mul (de_item (dv 0) de_int) (de_item (dv 1) de_int)) (de_mul (de_mul (dv 2) (de_item (dv 1) de_int)) (de_item (dv 0) de_int))) (da_cons (de_mul (de_item (dv 0) de_int) (de_item (dv 1) de_int)) da_nil)) rfl (fun ρ ds h => (fun _ h => aCons_len (fun _ h => aCons_len (fun _ h => aNil_len h) h) h) ds h)))
  dss_nil))
set_option maxHeartbeats 4000000 in
theorem ok__law_going (T : Txt K mg t) : FnOk P w K mg base CX0 3 t.a__law_going t.d__law_going ["_law_web_here", "_law_flow", "_law_place"] (spD K 3 m__law_going) :=
  fn_mirror T.F__law_going sc__law_going fun cdv A outer s0 H H₀ E hr => (
  (dss_cons (ds_set (i := 3) sc__law_going.nd rfl (Or.inl rfl) (de_tup (da_cons de_int (da_cons de_int da_nil))))
  (dss_cons (ds_forI PassesOwn.never rfl (di_enum rfl T.n_enumerate (de_item (dv 0) de_int)) (dg_unp rfl (dgs_cons (i := 4) sc__law_going.nd rfl (Or.inl rfl) (dgs_cons (i := 5) sc__law_going.nd rfl (Or.inl rfl) dgs_nil))) total_unp
  (dss_cons (ds_if (dt_cmp (op_eqD hr.units) od_eq (de_item (dv 5) de_int) (dv 2) nm)
  (dss_cons (ds_set (i := 3) sc__law_going.nd rfl (Or.inl rfl) (de_call ((ok__law_plus T).mono (by decide : 2 ≤ 2)) hr rfl T.g__law_plus T.F__law_plus.kp T.b__law_plus pass0 (da_cons (dv 3) (da_cons (de_item (dv 1) (dv 4)) (da_cons de_int da_nil))) rfl (fun ρ ds h => (fun _ h => aCons_len (fun _ h => aCons_len (fun _ h => aCons_len (fun _ h => aNil_len h) h) h) h) ds h)))
  dss_nil)
  dss_nil)
  (dss_cons (ds_if (dt_cmp (op_eqD hr.units) od_eq (de_item (dv 5) de_int) (dv 2) nm)
  (dss_cons (ds_set (i := 3) sc__law_going.nd rfl (Or.inl rfl) (de_call ((ok__law_plus T).mono (by decide : 2 ≤ 2)) hr rfl T.g__law_plus T.F__law_plus.kp T.b__law_plus pass0 (da_cons (dv 3) (da_cons (de_item (dv 1) (dv 4)) (da_cons (de_neg de_int) da_nil))) rfl (fun ρ ds h => (fun _ h => aCons_len (fun _ h => aCons_len (fun _ h => aCons_len (fun _ h => aNil_len h) h) h) h) ds h)))
  dss_nil)
  dss_nil)
  dss_nil)))
  (dss_cons (ds_ret (dv 3))
  dss_nil))))
set_option maxHeartbeats 4000000 in
theorem ok__law_whole (T : Txt K mg t) : FnOk P w K mg base CX0 1 t.a__law_whole t.d__law_whole ["_law_thing"] (spD K 1 m__law_whole) :=
  fn_mirror T.F__law_whole sc__law_whole fun cdv A outer s0 H H₀ E hr => (
  (dss_cons (ds_ret (de_and (de_isinst kit_ok_int rfl T.n_isinstance rfl T.n_int PyProof.Rows.Boot.«int» (dv 0)) (de_one (de_not (de_isinst kit_ok_bool rfl T.n_isinstance rfl T.n_bool PyProof.Rows.Boot.«bool» (dv 0))))))
  dss_nil))
set_option maxHeartbeats 4000000 in
theorem ok__law_same (T : Txt K mg t) : FnOk P w K mg base CX0 2 t.a__law_same t.d__law_same ["_law_found", "_law_due"] (spD K 2 m__law_same) :=
  fn_mirror T.F__law_same sc__law_same fun cdv A outer s0 H H₀ E hr => (
  (dss_cons (ds_if (DW.dt (dw_or (dt_not (dt_val (de_isinst kit_ok_tuple rfl T.n_isinstance rfl T.n_tuple PyProof.Rows.Boot.«tuple» (dv 0)))) (dw_one_or (dt_cmp (op_neD hr.units) od_ne (dv 0) (dv 1) nm))))
  (dss_cons (ds_ret de_bl)
  dss_nil)
  dss_nil)
  (dss_cons (ds_ret (de_and (de_call ((ok__law_whole T).mono (by decide : 1 ≤ 1)) hr rfl T.g__law_whole T.F__law_whole.kp T.b__law_whole pass0 (da_cons (de_item (dv 0) de_int) da_nil) rfl (fun ρ ds h => (fun _ h => aCons_len (fun _ h => aNil_len h) h) ds h)) (de_one (de_call ((ok__law_whole T).mono (by decide : 1 ≤ 1)) hr rfl T.g__law_whole T.F__law_whole.kp T.b__law_whole pass0 (da_cons (de_item (dv 0) de_int) da_nil) rfl (fun ρ ds h => (fun _ h => aCons_len (fun _ h => aNil_len h) h) ds h)))))
  dss_nil)))
set_option maxHeartbeats 4000000 in
theorem ok_is_name (T : Txt K mg t) : FnOk P w K mg base CX0 1 t.a_is_name t.d_is_name ["thing"] (spD K 1 m_is_name) :=
  fn_mirror T.F_is_name sc_is_name fun cdv A outer s0 H H₀ E hr => (
  (dss_cons (ds_if (DW.dt (dw_or (dt_not (dt_val (de_isinst kit_ok_str rfl T.n_isinstance rfl T.n_str PyProof.Rows.Boot.«str» (dv 0)))) (dw_one_or (dt_not (dt_chain op_le op_le (pure_iop0 fun _ _ _ _ => rb _) (pure_iop0 fun _ _ _ _ => rb _) noexn_iop noexn_iop de_int (de_callB call_len cd_len rfl T.n_len PyProof.Rows.Boot.«len» (da_cons (dv 0) da_nil)) (de_kon T.c_LONGEST_NAME rfl))))))
  (dss_cons (ds_ret de_bl)
  dss_nil)
  dss_nil)
  (dss_cons (ds_ret (de_callB (call_all rfl) cd_all rfl T.n_all PyProof.Rows.Boot.«all» (da_cons (de_co (dcoB ["sign"] 1 [] rfl (di_str (dv 0)) (tgOk_set (by decide)) (fun s H C fp pn => ⟨fun He H0e => (dg_name (i := 0) (show List.Nodup (["sign"] : List Str) from by decide) rfl (Or.inl rfl)), dif_nil, (de_cmp (op_in hr.units) od_in (dv 0) (de_kon T.c_LETTERS rfl) rfl)⟩) ⟨rfl, rfl⟩ rfl rfl rfl rfl)) da_nil)))
  dss_nil)))
set_option maxHeartbeats 4000000 in
theorem ok_look_at_places (T : Txt K mg t) : FnOk P w K mg base CX0 2 t.a_look_at_places t.d_look_at_places ["places"] (spD K 1 m_look_at_places) :=
  fn_mirror T.F_look_at_places sc_look_at_places fun cdv A outer s0 H H₀ E hr => (
  (dss_cons (ds_if (DW.dt (dw_or (dt_not (dt_val (de_isinst kit_ok_list rfl T.n_isinstance rfl T.n_list PyProof.Rows.Boot.«list» (dv 0)))) (dw_one_or (dt_not (dt_chain op_le op_le (pure_iop0 fun _ _ _ _ => rb _) (pure_iop0 fun _ _ _ _ => rb _) noexn_iop noexn_iop (de_kon T.c_FEWEST_PLACES rfl) (de_callB call_len cd_len rfl T.n_len PyProof.Rows.Boot.«len» (da_cons (dv 0) da_nil)) (de_kon T.c_MOST_PLACES rfl))))))
  (dss_cons ds_never
  dss_nil)
  dss_nil)
  (dss_cons (ds_forI PassesOwn.never rfl (di_enum rfl T.n_enumerate (dv 0)) (dg_unp rfl (dgs_cons (i := 1) sc_look_at_places.nd rfl (Or.inl rfl) (dgs_cons (i := 2) sc_look_at_places.nd rfl (Or.inl rfl) dgs_nil))) total_unp
  (dss_cons (ds_if (DW.dt (dw_or (dt_not (dt_val (de_call ((ok_is_name T).mono (by decide : 1 ≤ 1)) hr rfl T.g_is_name T.F_is_name.kp T.b_is_name pass0 (da_cons (dv 2) da_nil) rfl (fun ρ ds h => (fun _ h => aCons_len (fun _ h => aNil_len h) h) ds h)))) (dw_one_or (dt_cmp (op_in hr.units) od_in (dv 2) (de_sliceA (dv 0) do_none (do_some (dv 1))) rfl))))
  (dss_cons ds_never
  dss_nil)
  dss_nil)
  dss_nil))
  dss_nil)))
set_option maxHeartbeats 4000000 in
theorem ok_is_whole (T : Txt K mg t) : FnOk P w K mg base CX0 1 t.a_is_whole t.d_is_whole ["thing"] (spD K 1 m_is_whole) :=
  fn_mirror T.F_is_whole sc_is_whole fun cdv A outer s0 H H₀ E hr => (
  (dss_cons (ds_ret (de_and (de_isinst kit_ok_int rfl T.n_isinstance rfl T.n_int PyProof.Rows.Boot.«int» (dv 0)) (de_one (de_not (de_isinst kit_ok_bool rfl T.n_isinstance rfl T.n_bool PyProof.Rows.Boot.«bool» (dv 0))))))
  dss_nil))
set_option maxHeartbeats 4000000 in
theorem ok_common_divisor (T : Txt K mg t) : FnOk P w K mg base CX0 1 t.a_common_divisor t.d_common_divisor ["one", "other"] (spD K 2 m_common_divisor) :=
  fn_mirror T.F_common_divisor sc_common_divisor fun cdv A outer s0 H H₀ E hr => (
  (dss_cons (ds_set (i := 2) sc_common_divisor.nd rfl (Or.inl rfl) (de_callB call_abs cd_abs rfl T.n_abs PyProof.Rows.Boot.«abs» (da_cons (dv 0) da_nil)))
  (dss_cons (ds_set (i := 3) sc_common_divisor.nd rfl (Or.inl rfl) (de_callB call_abs cd_abs rfl T.n_abs PyProof.Rows.Boot.«abs» (da_cons (dv 1) da_nil)))
  (dss_cons (ds_while _ PassesOwn.never (dt_cmp (op_neD hr.units) od_ne (dv 3) de_int nm)
  (dss_cons (ds_set (i := 4) sc_common_divisor.nd rfl (Or.inl rfl) (de_mod (dv 2) (dv 3)))
  (dss_cons (ds_set (i := 2) sc_common_divisor.nd rfl (Or.inl rfl) (dv 3))
  (dss_cons (ds_set (i := 3) sc_common_divisor.nd rfl (Or.inl rfl) (dv 4))
  dss_nil))))
  (dss_cons (ds_ret (dv 2))
  dss_nil)))))
set_option maxHeartbeats 4000000 in
theorem ok_is_ratio (T : Txt K mg t) : FnOk P w K mg base CX0 2 t.a_is_ratio t.d_is_ratio ["thing"] (spD K 1 m_is_ratio) :=
  fn_mirror T.F_is_ratio sc_is_ratio fun cdv A outer s0 H H₀ E hr => (
  (dss_cons (ds_if (DW.dt (dw_or (dt_not (dt_val (de_isinst kit_ok_tuple rfl T.n_isinstance rfl T.n_tuple PyProof.Rows.Boot.«tuple» (dv 0)))) (dw_one_or (dt_cmp (op_neD hr.units) od_ne (de_callB call_len cd_len rfl T.n_len PyProof.Rows.Boot.«len» (da_cons (dv 0) da_nil)) de_int nm))))
  (dss_cons (ds_ret de_bl)
  dss_nil)
  dss_nil)
  (dss_cons (ds_if (DW.dt (dw_or (dt_not (dt_val (de_call ((ok_is_whole T).mono (by decide : 1 ≤ 1)) hr rfl T.g_is_whole T.F_is_whole.kp T.b_is_whole pass0 (da_cons (de_item (dv 0) de_int) da_nil) rfl (fun ρ ds h => (fun _ h => aCons_len (fun _ h => aNil_len h) h) ds h)))) (dw_one_or (dt_not (dt_val (de_call ((ok_is_whole T).mono (by decide : 1 ≤ 1)) hr rfl T.g_is_whole T.F_is_whole.kp T.b_is_whole pass0 (da_cons (de_item (dv 0) de_int) da_nil) rfl (fun ρ ds h => (fun _ h => aCons_len (fun _ h => aNil_len h) h) ds h)))))))
  (dss_cons (ds_ret de_bl)
  dss_nil)
  dss_nil)
  (dss_cons (ds_ret (de_and (de_cmp op_ge (od_iop0 fun _ _ _ _ => rb _) (de_item (dv 0) de_int) de_int nm) (de_one (de_cmp (op_eqD hr.units) od_eq (de_call ((ok_common_divisor T).mono (by decide : 1 ≤ 1)) hr rfl T.g_common_divisor T.F_common_divisor.kp T.b_common_divisor pass0 (da_cons (de_item (dv 0) de_int) (da_cons (de_item (dv 0) de_int) da_nil)) rfl (fun ρ ds h => (fun _ h => aCons_len (fun _ h => aCons_len (fun _ h => aNil_len h) h) h) ds h)) de_int nm))))
  dss_nil))))
set_option maxHeartbeats 4000000 in
theorem ok_is_length (T : Txt K mg t) : FnOk P w K mg base CX0 3 t.a_is_length t.d_is_length ["thing"] (spD K 1 m_is_length) :=
  fn_mirror T.F_is_length sc_is_length fun cdv A outer s0 H H₀ E hr => (
  (dss_cons (ds_ret (de_and (de_call ((ok_is_ratio T).mono (by decide : 2 ≤ 2)) hr rfl T.g_is_ratio T.F_is_ratio.kp T.b_is_ratio pass0 (da_cons (dv 0) da_nil) rfl (fun ρ ds h => (fun _ h => aCons_len (fun _ h => aNil_len h) h) ds h)) (de_one (de_cmp op_ge (od_iop0 fun _ _ _ _ => rb _) (de_item (dv 0) de_int) de_int nm))))
  dss_nil))
set_option maxHeartbeats 4000000 in
theorem ok_is_worth (T : Txt K mg t) : FnOk P w K mg base CX0 3 t.a_is_worth t.d_is_worth ["thing"] (spD K 1 m_is_worth) :=
  fn_mirror T.F_is_worth sc_is_worth fun cdv A outer s0 H H₀ E hr => (
  (dss_cons (ds_ret (de_or (de_cmp op_isN od_isN (dv 0) de_non nm) (de_one (de_and (de_call ((ok_is_ratio T).mono (by decide : 2 ≤ 2)) hr rfl T.g_is_ratio T.F_is_ratio.kp T.b_is_ratio pass0 (da_cons (dv 0) da_nil) rfl (fun ρ ds h => (fun _ h => aCons_len (fun _ h => aNil_len h) h) ds h)) (de_one (de_cmp op_gt (od_iop0 fun _ _ _ _ => rb _) (de_item (dv 0) de_int) de_int nm))))))
  dss_nil))
set_option maxHeartbeats 4000000 in
theorem ok_is_tie (T : Txt K mg t) : FnOk P w K mg base CX0 4 t.a_is_tie t.d_is_tie ["thing"] (spD K 1 m_is_tie) :=
  fn_mirror T.F_is_tie sc_is_tie fun cdv A outer s0 H H₀ E hr => (
  (dss_cons (ds_if (DW.dt (dw_or (dt_not (dt_val (de_isinst kit_ok_tuple rfl T.n_isinstance rfl T.n_tuple PyProof.Rows.Boot.«tuple» (dv 0)))) (dw_one_or (dt_cmp (op_neD hr.units) od_ne (de_callB call_len cd_len rfl T.n_len PyProof.Rows.Boot.«len» (da_cons (dv 0) da_nil)) de_int nm))))
  (dss_cons (ds_ret de_bl)
  dss_nil)
  dss_nil)
  (dss_cons (ds_if (DW.dt (dw_or (dt_not (dt_val (de_call ((ok_is_name T).mono (by decide : 1 ≤ 3)) hr rfl T.g_is_name T.F_is_name.kp T.b_is_name pass0 (da_cons (de_item (dv 0) (de_kon T.c_ONE rfl)) da_nil) rfl (fun ρ ds h => (fun _ h => aCons_len (fun _ h => aNil_len h) h) ds h)))) (dw_or (dt_not (dt_val (de_call ((ok_is_name T).mono (by decide : 1 ≤ 3)) hr rfl T.g_is_name T.F_is_name.kp T.b_is_name pass0 (da_cons (de_item (dv 0) (de_kon T.c_OTHER rfl)) da_nil) rfl (fun ρ ds h => (fun _ h => aCons_len (fun _ h => aNil_len h) h) ds h)))) (dw_one_or (dt_cmp (op_eqD hr.units) od_eq (de_item (dv 0) (de_kon T.c_ONE rfl)) (de_item (dv 0) (de_kon T.c_OTHER rfl)) nm)))))
  (dss_cons (ds_ret de_bl)
  dss_nil)
  dss_nil)
  (dss_cons (ds_if (DW.dt (dw_or (dt_not (dt_val (de_isinst kit_ok_str rfl T.n_isinstance rfl T.n_str PyProof.Rows.Boot.«str» (de_item (dv 0) (de_kon T.c_WORD rfl))))) (dw_one_or (dt_cmp (op_notIn hr.units) od_notIn (de_item (dv 0) (de_kon T.c_WORD rfl)) (de_kon T.c_WORDS rfl) rfl))))
  (dss_cons (ds_ret de_bl)
  dss_nil)
  dss_nil)
  (dss_cons (ds_ret (de_and (de_call ((ok_is_length T).mono (by decide : 3 ≤ 3)) hr rfl T.g_is_length T.F_is_length.kp T.b_is_length pass0 (da_cons (de_item (dv 0) (de_kon T.c_LENGTH rfl)) da_nil) rfl (fun ρ ds h => (fun _ h => aCons_len (fun _ h => aNil_len h) h) ds h)) (de_one (de_call ((ok_is_worth T).mono (by decide : 3 ≤ 3)) hr rfl T.g_is_worth T.F_is_worth.kp T.b_is_worth pass0 (da_cons (de_item (dv 0) (de_kon T.c_WORTH rfl)) da_nil) rfl (fun ρ ds h => (fun _ h => aCons_len (fun _ h => aNil_len h) h) ds h)))))
  dss_nil)))))
set_option maxHeartbeats 4000000 in
theorem ok_look_at_ties (T : Txt K mg t) : FnOk P w K mg base CX0 5 t.a_look_at_ties t.d_look_at_ties ["ties", "places"] (spD K 2 m_look_at_ties) :=
  fn_mirror T.F_look_at_ties sc_look_at_ties fun cdv A outer s0 H H₀ E hr => (
  (dss_cons (ds_if (DW.dt (dw_or (dt_not (dt_val (de_isinst kit_ok_list rfl T.n_isinstance rfl T.n_list PyProof.Rows.Boot.«list» (dv 0)))) (dw_one_or (dt_cmp op_gt (od_iop0 fun _ _ _ _ => rb _) (de_callB call_len cd_len rfl T.n_len PyProof.Rows.Boot.«len» (da_cons (dv 0) da_nil)) (de_kon T.c_MOST_TIES rfl) nm))))
  (dss_cons ds_never
  dss_nil)
  dss_nil)
  (dss_cons (ds_forI PassesOwn.never rfl (di_enum rfl T.n_enumerate (dv 0)) (dg_unp rfl (dgs_cons (i := 2) sc_look_at_ties.nd rfl (Or.inl rfl) (dgs_cons (i := 3) sc_look_at_ties.nd rfl (Or.inl rfl) dgs_nil))) total_unp
  (dss_cons (ds_if (DW.dt (dw_or (dt_not (dt_val (de_call ((ok_is_tie T).mono (by decide : 4 ≤ 4)) hr rfl T.g_is_tie T.F_is_tie.kp T.b_is_tie pass0 (da_cons (dv 3) da_nil) rfl (fun ρ ds h => (fun _ h => aCons_len (fun _ h => aNil_len h) h) ds h)))) (dw_or (dt_cmp (op_notIn hr.units) od_notIn (de_item (dv 3) (de_kon T.c_ONE rfl)) (dv 1) rfl) (dw_one_or (dt_cmp (op_notIn hr.units) od_notIn (de_item (dv 3) (de_kon T.c_OTHER rfl)) (dv 1) rfl)))))
  (dss_cons ds_never
  dss_nil)
  dss_nil)
  dss_nil))
  dss_nil)))
set_option maxHeartbeats 4000000 in
theorem ok_is_place (T : Txt K mg t) : FnOk P w K mg base CX0 2 t.a_is_place t.d_is_place ["thing", "places"] (spD K 2 m_is_place) :=
  fn_mirror T.F_is_place sc_is_place fun cdv A outer s0 H H₀ E hr => (
  (dss_cons (ds_ret (de_and (de_call ((ok_is_name T).mono (by decide : 1 ≤ 1)) hr rfl T.g_is_name T.F_is_name.kp T.b_is_name pass0 (da_cons (dv 0) da_nil) rfl (fun ρ ds h => (fun _ h => aCons_len (fun _ h => aNil_len h) h) ds h)) (de_one (de_cmp (op_in hr.units) od_in (dv 0) (dv 1) rfl))))
  dss_nil))
set_option maxHeartbeats 4000000 in
theorem ok_look_at_web (T : Txt K mg t) : FnOk P w K mg base CX0 6 t.a_look_at_web t.d_look_at_web ["thing"] (spD K 1 m_look_at_web) :=
  fn_mirror T.F_look_at_web sc_look_at_web fun cdv A outer s0 H H₀ E hr => (
  (dss_cons (ds_if (DW.dt (dw_or (dt_not (dt_val (de_isinst kit_ok_tuple rfl T.n_isinstance rfl T.n_tuple PyProof.Rows.Boot.«tuple» (dv 0)))) (dw_one_or (dt_cmp (op_neD hr.units) od_ne (de_callB call_len cd_len rfl T.n_len PyProof.Rows.Boot.«len» (da_cons (dv 0) da_nil)) de_int nm))))
  (dss_cons ds_never
  dss_nil)
  dss_nil)
  (dss_cons (ds_drop (de_call ((ok_look_at_places T).mono (by decide : 2 ≤ 5)) hr rfl T.g_look_at_places T.F_look_at_places.kp T.b_look_at_places pass0 (da_cons (de_item (dv 0) (de_kon T.c_PLACES rfl)) da_nil) rfl (fun ρ ds h => (fun _ h => aCons_len (fun _ h => aNil_len h) h) ds h)))
  (dss_cons (ds_drop (de_call ((ok_look_at_ties T).mono (by decide : 5 ≤ 5)) hr rfl T.g_look_at_ties T.F_look_at_ties.kp T.b_look_at_ties pass0 (da_cons (de_item (dv 0) (de_kon T.c_TIES rfl)) (da_cons (de_item (dv 0) (de_kon T.c_PLACES rfl)) da_nil)) rfl (fun ρ ds h => (fun _ h => aCons_len (fun _ h => aCons_len (fun _ h => aNil_len h) h) h) ds h)))
  (dss_cons (ds_if (dt_not (dt_val (de_call ((ok_is_place T).mono (by decide : 2 ≤ 5)) hr rfl T.g_is_place T.F_is_place.kp T.b_is_place pass0 (da_cons (de_item (dv 0) (de_kon T.c_FIRST rfl)) (da_cons (de_item (dv 0) (de_kon T.c_PLACES rfl)) da_nil)) rfl (fun ρ ds h => (fun _ h => aCons_len (fun _ h => aCons_len (fun _ h => aNil_len h) h) h) ds h))))
  (dss_cons ds_never
  dss_nil)
  dss_nil)
  (dss_cons (ds_if (DW.dt (dw_or (dt_not (dt_val (de_call ((ok_is_place T).mono (by decide : 2 ≤ 5)) hr rfl T.g_is_place T.F_is_place.kp T.b_is_place pass0 (da_cons (de_item (dv 0) (de_kon T.c_LAST rfl)) (da_cons (de_item (dv 0) (de_kon T.c_PLACES rfl)) da_nil)) rfl (fun ρ ds h => (fun _ h => aCons_len (fun _ h => aCons_len (fun _ h => aNil_len h) h) h) ds h)))) (dw_one_or (dt_cmp (op_eqD hr.units) od_eq (de_item (dv 0) (de_kon T.c_LAST rfl)) (de_item (dv 0) (de_kon T.c_FIRST rfl)) nm))))
  (dss_cons ds_never
  dss_nil)
  dss_nil)
  dss_nil))))))
set_option maxHeartbeats 4000000 in
theorem ok_shared_bottom (T : Txt K mg t) : FnOk P w K mg base CX0 2 t.a_shared_bottom t.d_shared_bottom ["some"] (spD K 1 m_shared_bottom) :=
  fn_mirror T.F_shared_bottom sc_shared_bottom fun cdv A outer s0 H H₀ E hr => (
  (dss_cons (ds_set (i := 1) sc_shared_bottom.nd rfl (Or.inl rfl) de_int)
  (dss_cons (ds_for PassesOwn.never rfl (dv 0) (dg_name (i := 2) sc_shared_bottom.nd rfl (Or.inl rfl)) total_set
  (dss_cons (ds_set (i := 1) sc_shared_bottom.nd rfl (Or.inl rfl) (de_mul (de_div (dv 1) (de_call ((ok_common_divisor T).mono (by decide : 1 ≤ 1)) hr rfl T.g_common_divisor T.F_common_divisor.kp T.b_common_divisor pass0 (da_cons (dv 1) (da_cons (de_item (dv 2) de_int) da_nil)) rfl (fun ρ ds h => (fun _ h => aCons_len (fun _ h => aCons_len (fun _ h => aNil_len h) h) h) ds h))) (de_item (dv 2) de_int)))
  dss_nil))
  (dss_cons (ds_ret (dv 1))
  dss_nil))))
set_option maxHeartbeats 4000000 in
theorem ok_as_whole (T : Txt K mg t) : FnOk P w K mg base CX0 1 t.a_as_whole t.d_as_whole ["one", "bottom"] (spD K 2 m_as_whole) :=
  fn_mirror T.F_as_whole sc_as_whole fun cdv A outer s0 H H₀ E hr => (
  (dss_cons (ds_ret (de_mul (de_item (dv 0) de_int) (de_div (dv 1) (de_item (dv 0) de_int))))
  dss_nil))
set_option maxHeartbeats 4000000 in
theorem ok_on_one_scale (T : Txt K mg t) : FnOk P w K mg base CX0 3 t.a_on_one_scale t.d_on_one_scale ["some"] (spD K 1 m_on_one_scale) :=
  fn_mirror T.F_on_one_scale sc_on_one_scale fun cdv A outer s0 H H₀ E hr => (
  (dss_cons (ds_set (i := 1) sc_on_one_scale.nd rfl (Or.inr rfl) (de_call ((ok_shared_bottom T).mono (by decide : 2 ≤ 2)) hr rfl T.g_shared_bottom T.F_shared_bottom.kp T.b_shared_bottom pass0 (da_cons (de_co (dcoB ["one"] 1 [] rfl (di_list (dv 0)) (tgOk_set (by decide)) (fun s H C fp pn => ⟨fun He H0e => (dg_name (i := 0) (show List.Nodup (["one"] : List Str) from by decide) rfl (Or.inl rfl)), (dif_one (dt_cmp op_notN od_notN (dv 0) de_non nm)), (dv 0)⟩) ⟨rfl, rfl⟩ rfl rfl rfl rfl)) da_nil) rfl (fun ρ ds h => (fun _ h => aCons_len (fun _ h => aNil_len h) h) ds h)))
  (dss_cons (ds_ret (de_tup (da_cons (de_co (dcoB ["one", "bottom"] 1 [1] rfl (di_list (dv 0)) (tgOk_set (by decide)) (fun s H C fp pn => ⟨fun He H0e => (dg_name (i := 0) (show List.Nodup (["one", "bottom"] : List Str) from by decide) rfl (Or.inl rfl)), dif_nil, (de_ifExp (dt_cmp op_isN od_isN (dv 0) de_non nm) de_non (de_call ((ok_as_whole T).mono (by decide : 1 ≤ 2)) hr rfl T.g_as_whole T.F_as_whole.kp T.b_as_whole pass0 (da_cons (dv 0) (da_cons (dv 1) da_nil)) rfl (fun ρ ds h => (fun _ h => aCons_len (fun _ h => aCons_len (fun _ h => aNil_len h) h) h) ds h)))⟩) ⟨rfl, rfl⟩ rfl rfl rfl rfl)) (da_cons (dv 1) da_nil))))
  dss_nil)))
set_option maxHeartbeats 4000000 in
theorem ok_ratio (T : Txt K mg t) : FnOk P w K mg base CX0 2 t.a_ratio t.d_ratio ["top", "bottom"] (spD K 2 m_ratio) :=
  fn_mirror T.F_ratio sc_ratio fun cdv A outer s0 H H₀ E hr => (
  (dss_cons (ds_if (DW.dt (dw_or (dt_not (dt_val (de_call ((ok_is_whole T).mono (by decide : 1 ≤ 1)) hr rfl T.g_is_whole T.F_is_whole.kp T.b_is_whole pass0 (da_cons (dv 0) da_nil) rfl (fun ρ ds h => (fun _ h => aCons_len (fun _ h => aNil_len h) h) ds h)))) (dw_one_or (dt_not (dt_val (de_call ((ok_is_whole T).mono (by decide : 1 ≤ 1)) hr rfl T.g_is_whole T.F_is_whole.kp T.b_is_whole pass0 (da_cons (dv 1) da_nil) rfl (fun ρ ds h => (fun _ h => aCons_len (fun _ h => aNil_len h) h) ds h)))))))
  (dss_cons ds_never
  dss_nil)
  dss_nil)
  (dss_cons (ds_if (dt_cmp (op_eqD hr.units) od_eq (dv 1) de_int nm)
  (dss_cons ds_never
  dss_nil)
  dss_nil)
  (dss_cons (ds_set (i := 2) sc_ratio.nd rfl (Or.inl rfl) (de_call ((ok_common_divisor T).mono (by decide : 1 ≤ 1)) hr rfl T.g_common_divisor T.F_common_divisor.kp T.b_common_divisor pass0 (da_cons (dv 0) (da_cons (dv 1) da_nil)) rfl (fun ρ ds h => (fun _ h => aCons_len (fun _ h => aCons_len (fun _ h => aNil_len h) h) h) ds h)))
  (dss_cons (ds_if (dt_cmp op_lt (od_iop0 fun _ _ _ _ => rb _) (dv 1) de_int nm)
  (dss_cons (ds_set (i := 2) sc_ratio.nd rfl (Or.inl rfl) (de_neg (dv 2)))
  dss_nil)
  dss_nil)
  (dss_cons (ds_ret (de_tup (da_cons (de_div (dv 0) (dv 2)) (da_cons (de_div (dv 1) (dv 2)) da_nil))))
  dss_nil))))))
set_option maxHeartbeats 4000000 in
theorem ok_goes_from (T : Txt K mg t) : FnOk P w K mg base CX0 1 t.a_goes_from t.d_goes_from ["web", "sizes", "place"] (spD K 3 m_goes_from) :=
  fn_mirror T.F_goes_from sc_goes_from fun cdv A outer s0 H H₀ E hr => (
  (dss_cons (ds_set (i := 3) sc_goes_from.nd rfl (Or.inl rfl) de_int)
  (dss_cons (ds_forI PassesOwn.never rfl (di_zip rfl T.n_zip (de_item (dv 0) (de_kon T.c_TIES rfl)) (dv 1)) (dg_unp rfl (dgs_cons (i := 4) sc_goes_from.nd rfl (Or.inl rfl) (dgs_cons (i := 5) sc_goes_from.nd rfl (Or.inl rfl) dgs_nil))) total_unp
  (dss_cons (ds_if (dt_cmp (op_eqD hr.units) od_eq (de_item (dv 4) (de_kon T.c_ONE rfl)) (dv 2) nm)
  (dss_cons (ds_set (i := 3) sc_goes_from.nd rfl (Or.inl rfl) (de_add (dv 3) (dv 5)))
  dss_nil)
  dss_nil)
  (dss_cons (ds_if (dt_cmp (op_eqD hr.units) od_eq (de_item (dv 4) (de_kon T.c_OTHER rfl)) (dv 2) nm)
  (dss_cons (ds_set (i := 3) sc_goes_from.nd rfl (Or.inl rfl) (de_sub (dv 3) (dv 5)))
  dss_nil)
  dss_nil)
  dss_nil)))
  (dss_cons (ds_ret (dv 3))
  dss_nil))))
set_option maxHeartbeats 4000000 in
theorem ok_amount_of (T : Txt K mg t) : FnOk P w K mg base CX0 7 t.a_amount_of t.d_amount_of ["web", "flow"] (spD K 2 m_amount_of) :=
  fn_mirror T.F_amount_of sc_amount_of fun cdv A outer s0 H H₀ E hr => (
  (dss_cons (ds_drop (de_call ((ok_look_at_web T).mono (by decide : 6 ≤ 6)) hr rfl T.g_look_at_web T.F_look_at_web.kp T.b_look_at_web pass0 (da_cons (dv 0) da_nil) rfl (fun ρ ds h => (fun _ h => aCons_len (fun _ h => aNil_len h) h) ds h)))
  (dss_cons (ds_set (i := 2) sc_amount_of.nd rfl (Or.inl rfl) (de_call ((ok_on_one_scale T).mono (by decide : 3 ≤ 6)) hr rfl T.g_on_one_scale T.F_on_one_scale.kp T.b_on_one_scale pass0 (da_cons (dv 1) da_nil) rfl (fun ρ ds h => (fun _ h => aCons_len (fun _ h => aNil_len h) h) ds h)))
  (dss_cons (ds_ret (de_call ((ok_ratio T).mono (by decide : 2 ≤ 6)) hr rfl T.g_ratio T.F_ratio.kp T.b_ratio pass0 (da_cons (de_call ((ok_goes_from T).mono (by decide : 1 ≤ 6)) hr rfl T.g_goes_from T.F_goes_from.kp T.b_goes_from pass0 (da_cons (dv 0) (da_cons (de_item (dv 2) de_int) (da_cons (de_item (dv 0) (de_kon T.c_FIRST rfl)) da_nil))) rfl (fun ρ ds h => (fun _ h => aCons_len (fun _ h => aCons_len (fun _ h => aCons_len (fun _ h => aNil_len h) h) h) h) ds h)) (da_cons (de_item (dv 2) de_int) da_nil)) rfl (fun ρ ds h => (fun _ h => aCons_len (fun _ h => aCons_len (fun _ h => aNil_len h) h) h) ds h)))
  dss_nil))))
set_option maxHeartbeats 4000000 in
theorem ok_law (T : Txt K mg t) : FnOk P w K mg base CX0 8 t.a_law t.d_law ["_law_script"] (spD K 1 m_law) :=
  fn_mirror T.F_law sc_law fun cdv A outer s0 H H₀ E hr => (
  (dss_cons (ds_set (i := 1) sc_law.nd rfl (Or.inl rfl) (de_call ((ok__law_web T).mono (by decide : 4 ≤ 7)) hr rfl T.g__law_web T.F__law_web.kp T.b__law_web pass0 (da_cons (dv 0) da_nil) rfl (fun ρ ds h => (fun _ h => aCons_len (fun _ h => aNil_len h) h) ds h)))
  (dss_cons (ds_set (i := 2) sc_law.nd rfl (Or.inl rfl) (de_call ((ok__law_web T).mono (by decide : 4 ≤ 7)) hr rfl T.g__law_web T.F__law_web.kp T.b__law_web pass0 (da_cons (dv 0) da_nil) rfl (fun ρ ds h => (fun _ h => aCons_len (fun _ h => aNil_len h) h) ds h)))
  (dss_cons (ds_for PassesOwn.never rfl (de_add (de_item (de_call ((ok__law_cells T).mono (by decide : 2 ≤ 7)) hr rfl T.g__law_cells T.F__law_cells.kp T.b__law_cells pass0 (da_cons (dv 0) da_nil) rfl (fun ρ ds h => (fun _ h => aCons_len (fun _ h => aNil_len h) h) ds h)) de_int) (de_lst (da_cons de_int da_nil))) (dg_name (i := 3) sc_law.nd rfl (Or.inl rfl)) total_set
  (dss_cons (ds_own (i := 4) sc_law.nd rfl (Or.inl rfl) (df_call ((okF__law_amounts T).mono (by decide : 3 ≤ 7)) hr rfl T.g__law_amounts T.F__law_amounts.kp T.b__law_amounts pass0 (da_cons (dv 1) (da_cons (dv 3) da_nil)) rfl (fun ρ ds h => (fun _ h => aCons_len (fun _ h => aCons_len (fun _ h => aNil_len h) h) h) ds h)))
  (dss_cons (ds_setL (i := 5) sc_law.nd rfl (Or.inl rfl) (de_call ((ok__law_going T).mono (by decide : 3 ≤ 7)) hr rfl T.g__law_going T.F__law_going.kp T.b__law_going pass0 (da_cons (dv 1) (da_cons (dv 4) (da_cons (de_item (dv 1) de_int) da_nil))) rfl (fun ρ ds h => (fun _ h => aCons_len (fun _ h => aCons_len (fun _ h => aCons_len (fun _ h => aNil_len h) h) h) h) ds h)))
  (dss_cons (ds_if (dt_not (dt_val (de_call ((ok__law_same T).mono (by decide : 2 ≤ 7)) hr rfl T.g__law_same T.F__law_same.kp T.b__law_same pass0 (da_cons (de_call ((ok_amount_of T).mono (by decide : 7 ≤ 7)) hr rfl T.g_amount_of T.F_amount_of.kp T.b_amount_of pass0 (da_cons (dv 2) (da_cons (dv 4) da_nil)) rfl (fun ρ ds h => (fun _ h => aCons_len (fun _ h => aCons_len (fun _ h => aNil_len h) h) h) ds h)) (da_cons (dv 5) da_nil)) rfl (fun ρ ds h => (fun _ h => aCons_len (fun _ h => aCons_len (fun _ h => aNil_len h) h) h) ds h))))
  (dss_cons (ds_ret de_bl)
  dss_nil)
  dss_nil)
  (dss_cons (ds_if (DW.dt (dw_or (dt_cmp (op_neD hr.units) od_ne (dv 4) (de_call ((ok__law_amounts T).mono (by decide : 3 ≤ 7)) hr rfl T.g__law_amounts T.F__law_amounts.kp T.b__law_amounts pass0 (da_cons (dv 1) (da_cons (dv 3) da_nil)) rfl (fun ρ ds h => (fun _ h => aCons_len (fun _ h => aCons_len (fun _ h => aNil_len h) h) h) ds h)) nm) (dw_one_or (dt_cmp (op_neD hr.units) od_ne (dv 2) (dv 1) nm))))
  (dss_cons (ds_ret de_bl)
  dss_nil)
  dss_nil)
  (dss_cons (ds_reverse (i := 4) rfl (Or.inl rfl))
  (dss_cons (ds_frz 4 (ds_set (i := 6) sc_law.nd rfl (Or.inl rfl) (de_call ((ok_amount_of T).mono (by decide : 7 ≤ 7)) hr rfl T.g_amount_of T.F_amount_of.kp T.b_amount_of pass0 (da_cons (dv 2) (da_cons (dv 4) da_nil)) rfl (fun ρ ds h => (fun _ h => aCons_len (fun _ h => aCons_len (fun _ h => aNil_len h) h) h) ds h))))
  (dss_cons (ds_frz 4 (ds_if (dt_not (dt_val (de_call ((ok__law_same T).mono (by decide : 2 ≤ 7)) hr rfl T.g__law_same T.F__law_same.kp T.b__law_same pass0 (da_cons (dv 6) (da_cons (de_call ((ok__law_going T).mono (by decide : 3 ≤ 7)) hr rfl T.g__law_going T.F__law_going.kp T.b__law_going pass0 (da_cons (dv 1) (da_cons (dv 4) (da_cons (de_item (dv 1) de_int) da_nil))) rfl (fun ρ ds h => (fun _ h => aCons_len (fun _ h => aCons_len (fun _ h => aCons_len (fun _ h => aNil_len h) h) h) h) ds h)) da_nil)) rfl (fun ρ ds h => (fun _ h => aCons_len (fun _ h => aCons_len (fun _ h => aNil_len h) h) h) ds h))))
  (dss_cons (ds_ret de_bl)
  dss_nil)
  dss_nil))
  (dss_cons (ds_if (dt_not (dt_val (de_call ((ok__law_same T).mono (by decide : 2 ≤ 7)) hr rfl T.g__law_same T.F__law_same.kp T.b__law_same pass0 (da_cons (de_call ((ok_amount_of T).mono (by decide : 7 ≤ 7)) hr rfl T.g_amount_of T.F_amount_of.kp T.b_amount_of pass0 (da_cons (dv 2) (da_cons (de_call ((ok__law_amounts T).mono (by decide : 3 ≤ 7)) hr rfl T.g__law_amounts T.F__law_amounts.kp T.b__law_amounts pass0 (da_cons (dv 1) (da_cons (dv 3) da_nil)) rfl (fun ρ ds h => (fun _ h => aCons_len (fun _ h => aCons_len (fun _ h => aNil_len h) h) h) ds h)) da_nil)) rfl (fun ρ ds h => (fun _ h => aCons_len (fun _ h => aCons_len (fun _ h => aNil_len h) h) h) ds h)) (da_cons (dv 5) da_nil)) rfl (fun ρ ds h => (fun _ h => aCons_len (fun _ h => aCons_len (fun _ h => aNil_len h) h) h) ds h))))
  (dss_cons (ds_ret de_bl)
  dss_nil)
  dss_nil)
  dss_nil)))))))))
  (dss_cons (ds_ret de_bl)
  dss_nil)))))
end
set_option maxHeartbeats 4000000 in
theorem txt_mk {K : W.Frag} {h : Heap} {mg : Str → Option Value} (X : K.In h) (G : h.Ns mainGlobals mg) {a_0 : Addr} {a_1 : Addr} {a_2 : Addr} {a_3 : Addr} {a_4 : Addr} {a_5 : Addr} {a_6 : Addr} {a_7 : Addr} {a_8 : Addr} {a_9 : Addr} {a_10 : Addr} {a_11 : Addr} {a_12 : Addr} {a_13 : Addr} {a_14 : Addr} {a_15 : Addr} {a_16 : Addr} {a_17 : Addr} {a_18 : Addr} {a_19 : Addr} {a_20 : Addr} {a_21 : Addr} {a_22 : Addr} {a_23 : Addr} {a_24 : Addr} {a_25 : Addr} {a_26 : Addr} {a_27 : Addr} {a_28 : Addr} {a_29 : Addr}
    {oc_0 kV_0 dc_0 pm_0 cd_0 ct_0 : Value} {od_0 an_0 : Option Addr} {sl_0 : Array (Option Value)}
    (e1_0 : W.nsIn K mainGlobals "_law_draws" = some (some (.ref a_0))) (e2_0 : K.lookup a_0 = some ⟨oc_0, od_0, .func (W.fnOf "_law_draws" "_law_draws" (defArgs s__law_draws) (defBody s__law_draws) (defScope s__law_draws) .none kV_0 dc_0 pm_0 an_0 cd_0 ct_0), sl_0⟩) (e3_0 : W.codeIn K cd_0 "_law_draws" = true) (e4_0 : W.keepIn K (.ref a_0) = true)
    {oc_1 kV_1 dc_1 pm_1 cd_1 ct_1 : Value} {od_1 an_1 : Option Addr} {sl_1 : Array (Option Value)}
    (e1_1 : W.nsIn K mainGlobals "_law_names" = some (some (.ref a_1))) (e2_1 : K.lookup a_1 = some ⟨oc_1, od_1, .func (W.fnOf "_law_names" "_law_names" (defArgs s__law_names) (defBody s__law_names) (defScope s__law_names) .none kV_1 dc_1 pm_1 an_1 cd_1 ct_1), sl_1⟩) (e3_1 : W.codeIn K cd_1 "_law_names" = true) (e4_1 : W.keepIn K (.ref a_1) = true)
    {oc_2 kV_2 dc_2 pm_2 cd_2 ct_2 : Value} {od_2 an_2 : Option Addr} {sl_2 : Array (Option Value)}
    (e1_2 : W.nsIn K mainGlobals "_law_cells" = some (some (.ref a_2))) (e2_2 : K.lookup a_2 = some ⟨oc_2, od_2, .func (W.fnOf "_law_cells" "_law_cells" (defArgs s__law_cells) (defBody s__law_cells) (defScope s__law_cells) .none kV_2 dc_2 pm_2 an_2 cd_2 ct_2), sl_2⟩) (e3_2 : W.codeIn K cd_2 "_law_cells" = true) (e4_2 : W.keepIn K (.ref a_2) = true)
    {oc_3 kV_3 dc_3 pm_3 cd_3 ct_3 : Value} {od_3 an_3 : Option Addr} {sl_3 : Array (Option Value)}
    (e1_3 : W.nsIn K mainGlobals "_law_low" = some (some (.ref a_3))) (e2_3 : K.lookup a_3 = some ⟨oc_3, od_3, .func (W.fnOf "_law_low" "_law_low" (defArgs s__law_low) (defBody s__law_low) (defScope s__law_low) .none kV_3 dc_3 pm_3 an_3 cd_3 ct_3), sl_3⟩) (e3_3 : W.codeIn K cd_3 "_law_low" = true) (e4_3 : W.keepIn K (.ref a_3) = true)
    {oc_4 kV_4 dc_4 pm_4 cd_4 ct_4 : Value} {od_4 an_4 : Option Addr} {sl_4 : Array (Option Value)}
    (e1_4 : W.nsIn K mainGlobals "_law_fraction" = some (some (.ref a_4))) (e2_4 : K.lookup a_4 = some ⟨oc_4, od_4, .func (W.fnOf "_law_fraction" "_law_fraction" (defArgs s__law_fraction) (defBody s__law_fraction) (defScope s__law_fraction) .none kV_4 dc_4 pm_4 an_4 cd_4 ct_4), sl_4⟩) (e3_4 : W.codeIn K cd_4 "_law_fraction" = true) (e4_4 : W.keepIn K (.ref a_4) = true)
    {oc_5 kV_5 dc_5 pm_5 cd_5 ct_5 : Value} {od_5 an_5 : Option Addr} {sl_5 : Array (Option Value)}
    (e1_5 : W.nsIn K mainGlobals "_law_tie" = some (some (.ref a_5))) (e2_5 : K.lookup a_5 = some ⟨oc_5, od_5, .func (W.fnOf "_law_tie" "_law_tie" (defArgs s__law_tie) (defBody s__law_tie) (defScope s__law_tie) .none kV_5 dc_5 pm_5 an_5 cd_5 ct_5), sl_5⟩) (e3_5 : W.codeIn K cd_5 "_law_tie" = true) (e4_5 : W.keepIn K (.ref a_5) = true)
    {oc_6 kV_6 dc_6 pm_6 cd_6 ct_6 : Value} {od_6 an_6 : Option Addr} {sl_6 : Array (Option Value)}
    (e1_6 : W.nsIn K mainGlobals "_law_web" = some (some (.ref a_6))) (e2_6 : K.lookup a_6 = some ⟨oc_6, od_6, .func (W.fnOf "_law_web" "_law_web" (defArgs s__law_web) (defBody s__law_web) (defScope s__law_web) .none kV_6 dc_6 pm_6 an_6 cd_6 ct_6), sl_6⟩) (e3_6 : W.codeIn K cd_6 "_law_web" = true) (e4_6 : W.keepIn K (.ref a_6) = true)
    {oc_7 kV_7 dc_7 pm_7 cd_7 ct_7 : Value} {od_7 an_7 : Option Addr} {sl_7 : Array (Option Value)}
    (e1_7 : W.nsIn K mainGlobals "_law_amounts" = some (some (.ref a_7))) (e2_7 : K.lookup a_7 = some ⟨oc_7, od_7, .func (W.fnOf "_law_amounts" "_law_amounts" (defArgs s__law_amounts) (defBody s__law_amounts) (defScope s__law_amounts) .none kV_7 dc_7 pm_7 an_7 cd_7 ct_7), sl_7⟩) (e3_7 : W.codeIn K cd_7 "_law_amounts" = true) (e4_7 : W.keepIn K (.ref a_7) = true)
    {oc_8 kV_8 dc_8 pm_8 cd_8 ct_8 : Value} {od_8 an_8 : Option Addr} {sl_8 : Array (Option Value)}
    (e1_8 : W.nsIn K mainGlobals "_law_plus" = some (some (.ref a_8))) (e2_8 : K.lookup a_8 = some ⟨oc_8, od_8, .func (W.fnOf "_law_plus" "_law_plus" (defArgs s__law_plus) (defBody s__law_plus) (defScope s__law_plus) .none kV_8 dc_8 pm_8 an_8 cd_8 ct_8), sl_8⟩) (e3_8 : W.codeIn K cd_8 "_law_plus" = true) (e4_8 : W.keepIn K (.ref a_8) = true)
    {oc_9 kV_9 dc_9 pm_9 cd_9 ct_9 : Value} {od_9 an_9 : Option Addr} {sl_9 : Array (Option Value)}
    (e1_9 : W.nsIn K mainGlobals "_law_going" = some (some (.ref a_9))) (e2_9 : K.lookup a_9 = some ⟨oc_9, od_9, .func (W.fnOf "_law_going" "_law_going" (defArgs s__law_going) (defBody s__law_going) (defScope s__law_going) .none kV_9 dc_9 pm_9 an_9 cd_9 ct_9), sl_9⟩) (e3_9 : W.codeIn K cd_9 "_law_going" = true) (e4_9 : W.keepIn K (.ref a_9) = true)
    {oc_10 kV_10 dc_10 pm_10 cd_10 ct_10 : Value} {od_10 an_10 : Option Addr} {sl_10 : Array (Option Value)}
    (e1_10 : W.nsIn K mainGlobals "_law_whole" = some (some (.ref a_10))) (e2_10 : K.lookup a_10 = some ⟨oc_10, od_10, .func (W.fnOf "_law_whole" "_law_whole" (defArgs s__law_whole) (defBody s__law_whole) (defScope s__law_whole) .none kV_10 dc_10 pm_10 an_10 cd_10 ct_10), sl_10⟩) (e3_10 : W.codeIn K cd_10 "_law_whole" = true) (e4_10 : W.keepIn K (.ref a_10) = true)
    {oc_11 kV_11 dc_11 pm_11 cd_11 ct_11 : Value} {od_11 an_11 : Option Addr} {sl_11 : Array (Option Value)}
    (e1_11 : W.nsIn K mainGlobals "_law_same" = some (some (.ref a_11))) (e2_11 : K.lookup a_11 = some ⟨oc_11, od_11, .func (W.fnOf "_law_same" "_law_same" (defArgs s__law_same) (defBody s__law_same) (defScope s__law_same) .none kV_11 dc_11 pm_11 an_11 cd_11 ct_11), sl_11⟩) (e3_11 : W.codeIn K cd_11 "_law_same" = true) (e4_11 : W.keepIn K (.ref a_11) = true)
    {oc_12 kV_12 dc_12 pm_12 cd_12 ct_12 : Value} {od_12 an_12 : Option Addr} {sl_12 : Array (Option Value)}
    (e1_12 : W.nsIn K mainGlobals "is_name" = some (some (.ref a_12))) (e2_12 : K.lookup a_12 = some ⟨oc_12, od_12, .func (W.fnOf "is_name" "is_name" (defArgs s_is_name) (defBody s_is_name) (defScope s_is_name) .none kV_12 dc_12 pm_12 an_12 cd_12 ct_12), sl_12⟩) (e3_12 : W.codeIn K cd_12 "is_name" = true) (e4_12 : W.keepIn K (.ref a_12) = true)
    {oc_13 kV_13 dc_13 pm_13 cd_13 ct_13 : Value} {od_13 an_13 : Option Addr} {sl_13 : Array (Option Value)}
    (e1_13 : W.nsIn K mainGlobals "look_at_places" = some (some (.ref a_13))) (e2_13 : K.lookup a_13 = some ⟨oc_13, od_13, .func (W.fnOf "look_at_places" "look_at_places" (defArgs s_look_at_places) (defBody s_look_at_places) (defScope s_look_at_places) .none kV_13 dc_13 pm_13 an_13 cd_13 ct_13), sl_13⟩) (e3_13 : W.codeIn K cd_13 "look_at_places" = true) (e4_13 : W.keepIn K (.ref a_13) = true)
    {oc_14 kV_14 dc_14 pm_14 cd_14 ct_14 : Value} {od_14 an_14 : Option Addr} {sl_14 : Array (Option Value)}
    (e1_14 : W.nsIn K mainGlobals "is_whole" = some (some (.ref a_14))) (e2_14 : K.lookup a_14 = some ⟨oc_14, od_14, .func (W.fnOf "is_whole" "is_whole" (defArgs s_is_whole) (defBody s_is_whole) (defScope s_is_whole) .none kV_14 dc_14 pm_14 an_14 cd_14 ct_14), sl_14⟩) (e3_14 : W.codeIn K cd_14 "is_whole" = true) (e4_14 : W.keepIn K (.ref a_14) = true)
    {oc_15 kV_15 dc_15 pm_15 cd_15 ct_15 : Value} {od_15 an_15 : Option Addr} {sl_15 : Array (Option Value)}
    (e1_15 : W.nsIn K mainGlobals "common_divisor" = some (some (.ref a_15))) (e2_15 : K.lookup a_15 = some ⟨oc_15, od_15, .func (W.fnOf "common_divisor" "common_divisor" (defArgs s_common_divisor) (defBody s_common_divisor) (defScope s_common_divisor) .none kV_15 dc_15 pm_15 an_15 cd_15 ct_15), sl_15⟩) (e3_15 : W.codeIn K cd_15 "common_divisor" = true) (e4_15 : W.keepIn K (.ref a_15) = true)
    {oc_16 kV_16 dc_16 pm_16 cd_16 ct_16 : Value} {od_16 an_16 : Option Addr} {sl_16 : Array (Option Value)}
    (e1_16 : W.nsIn K mainGlobals "is_ratio" = some (some (.ref a_16))) (e2_16 : K.lookup a_16 = some ⟨oc_16, od_16, .func (W.fnOf "is_ratio" "is_ratio" (defArgs s_is_ratio) (defBody s_is_ratio) (defScope s_is_ratio) .none kV_16 dc_16 pm_16 an_16 cd_16 ct_16), sl_16⟩) (e3_16 : W.codeIn K cd_16 "is_ratio" = true) (e4_16 : W.keepIn K (.ref a_16) = true)
    {oc_17 kV_17 dc_17 pm_17 cd_17 ct_17 : Value} {od_17 an_17 : Option Addr} {sl_17 : Array (Option Value)}
    (e1_17 : W.nsIn K mainGlobals "is_length" = some (some (.ref a_17))) (e2_17 : K.lookup a_17 = some ⟨oc_17, od_17, .func (W.fnOf "is_length" "is_length" (defArgs s_is_length) (defBody s_is_length) (defScope s_is_length) .none kV_17 dc_17 pm_17 an_17 cd_17 ct_17), sl_17⟩) (e3_17 : W.codeIn K cd_17 "is_length" = true) (e4_17 : W.keepIn K (.ref a_17) = true)
    {oc_18 kV_18 dc_18 pm_18 cd_18 ct_18 : Value} {od_18 an_18 : Option Addr} {sl_18 : Array (Option Value)}
    (e1_18 : W.nsIn K mainGlobals "is_worth" = some (some (.ref a_18))) (e2_18 : K.lookup a_18 = some ⟨oc_18, od_18, .func (W.fnOf "is_worth" "is_worth" (defArgs s_is_worth) (defBody s_is_worth) (defScope s_is_worth) .none kV_18 dc_18 pm_18 an_18 cd_18 ct_18), sl_18⟩) (e3_18 : W.codeIn K cd_18 "is_worth" = true) (e4_18 : W.keepIn K (.ref a_18) = true)
    {oc_19 kV_19 dc_19 pm_19 cd_19 ct_19 : Value} {od_19 an_19 : Option Addr} {sl_19 : Array (Option Value)}
    (e1_19 : W.nsIn K mainGlobals "is_tie" = some (some (.ref a_19))) (e2_19 : K.lookup a_19 = some ⟨oc_19, od_19, .func (W.fnOf "is_tie" "is_tie" (defArgs s_is_tie) (defBody s_is_tie) (defScope s_is_tie) .none kV_19 dc_19 pm_19 an_19 cd_19 ct_19), sl_19⟩) (e3_19 : W.codeIn K cd_19 "is_tie" = true) (e4_19 : W.keepIn K (.ref a_19) = true)
    {oc_20 kV_20 dc_20 pm_20 cd_20 ct_20 : Value} {od_20 an_20 : Option Addr} {sl_20 : Array (Option Value)}
    (e1_20 : W.nsIn K mainGlobals "look_at_ties" = some (some (.ref a_20))) (e2_20 : K.lookup a_20 = some ⟨oc_20, od_20, .func (W.fnOf "look_at_ties" "look_at_ties" (defArgs s_look_at_ties) (defBody s_look_at_ties) (defScope s_look_at_ties) .none kV_20 dc_20 pm_20 an_20 cd_20 ct_20), sl_20⟩) (e3_20 : W.codeIn K cd_20 "look_at_ties" = true) (e4_20 : W.keepIn K (.ref a_20) = true)
    {oc_21 kV_21 dc_21 pm_21 cd_21 ct_21 : Value} {od_21 an_21 : Option Addr} {sl_21 : Array (Option Value)}
    (e1_21 : W.nsIn K mainGlobals "is_place" = some (some (.ref a_21))) (e2_21 : K.lookup a_21 = some ⟨oc_21, od_21, .func (W.fnOf "is_place" "is_place" (defArgs s_is_place) (defBody s_is_place) (defScope s_is_place) .none kV_21 dc_21 pm_21 an_21 cd_21 ct_21), sl_21⟩) (e3_21 : W.codeIn K cd_21 "is_place" = true) (e4_21 : W.keepIn K (.ref a_21) = true)
    {oc_22 kV_22 dc_22 pm_22 cd_22 ct_22 : Value} {od_22 an_22 : Option Addr} {sl_22 : Array (Option Value)}
    (e1_22 : W.nsIn K mainGlobals "look_at_web" = some (some (.ref a_22))) (e2_22 : K.lookup a_22 = some ⟨oc_22, od_22, .func (W.fnOf "look_at_web" "look_at_web" (defArgs s_look_at_web) (defBody s_look_at_web) (defScope s_look_at_web) .none kV_22 dc_22 pm_22 an_22 cd_22 ct_22), sl_22⟩) (e3_22 : W.codeIn K cd_22 "look_at_web" = true) (e4_22 : W.keepIn K (.ref a_22) = true)
    {oc_23 kV_23 dc_23 pm_23 cd_23 ct_23 : Value} {od_23 an_23 : Option Addr} {sl_23 : Array (Option Value)}
    (e1_23 : W.nsIn K mainGlobals "shared_bottom" = some (some (.ref a_23))) (e2_23 : K.lookup a_23 = some ⟨oc_23, od_23, .func (W.fnOf "shared_bottom" "shared_bottom" (defArgs s_shared_bottom) (defBody s_shared_bottom) (defScope s_shared_bottom) .none kV_23 dc_23 pm_23 an_23 cd_23 ct_23), sl_23⟩) (e3_23 : W.codeIn K cd_23 "shared_bottom" = true) (e4_23 : W.keepIn K (.ref a_23) = true)
    {oc_24 kV_24 dc_24 pm_24 cd_24 ct_24 : Value} {od_24 an_24 : Option Addr} {sl_24 : Array (Option Value)}
    (e1_24 : W.nsIn K mainGlobals "as_whole" = some (some (.ref a_24))) (e2_24 : K.lookup a_24 = some ⟨oc_24, od_24, .func (W.fnOf "as_whole" "as_whole" (defArgs s_as_whole) (defBody s_as_whole) (defScope s_as_whole) .none kV_24 dc_24 pm_24 an_24 cd_24 ct_24), sl_24⟩) (e3_24 : W.codeIn K cd_24 "as_whole" = true) (e4_24 : W.keepIn K (.ref a_24) = true)
    {oc_25 kV_25 dc_25 pm_25 cd_25 ct_25 : Value} {od_25 an_25 : Option Addr} {sl_25 : Array (Option Value)}
    (e1_25 : W.nsIn K mainGlobals "on_one_scale" = some (some (.ref a_25))) (e2_25 : K.lookup a_25 = some ⟨oc_25, od_25, .func (W.fnOf "on_one_scale" "on_one_scale" (defArgs s_on_one_scale) (defBody s_on_one_scale) (defScope s_on_one_scale) .none kV_25 dc_25 pm_25 an_25 cd_25 ct_25), sl_25⟩) (e3_25 : W.codeIn K cd_25 "on_one_scale" = true) (e4_25 : W.keepIn K (.ref a_25) = true)
    {oc_26 kV_26 dc_26 pm_26 cd_26 ct_26 : Value} {od_26 an_26 : Option Addr} {sl_26 : Array (Option Value)}
    (e1_26 : W.nsIn K mainGlobals "ratio" = some (some (.ref a_26))) (e2_26 : K.lookup a_26 = some ⟨oc_26, od_26, .func (W.fnOf "ratio" "ratio" (defArgs s_ratio) (defBody s_ratio) (defScope s_ratio) .none kV_26 dc_26 pm_26 an_26 cd_26 ct_26), sl_26⟩) (e3_26 : W.codeIn K cd_26 "ratio" = true) (e4_26 : W.keepIn K (.ref a_26) = true)
    {oc_27 kV_27 dc_27 pm_27 cd_27 ct_27 : Value} {od_27 an_27 : Option Addr} {sl_27 : Array (Option Value)}
    (e1_27 : W.nsIn K mainGlobals "goes_from" = some (some (.ref a_27))) (e2_27 : K.lookup a_27 = some ⟨oc_27, od_27, .func (W.fnOf "goes_from" "goes_from" (defArgs s_goes_from) (defBody s_goes_from) (defScope s_goes_from) .none kV_27 dc_27 pm_27 an_27 cd_27 ct_27), sl_27⟩) (e3_27 : W.codeIn K cd_27 "goes_from" = true) (e4_27 : W.keepIn K (.ref a_27) = true)
    {oc_28 kV_28 dc_28 pm_28 cd_28 ct_28 : Value} {od_28 an_28 : Option Addr} {sl_28 : Array (Option Value)}
    (e1_28 : W.nsIn K mainGlobals "amount_of" = some (some (.ref a_28))) (e2_28 : K.lookup a_28 = some ⟨oc_28, od_28, .func (W.fnOf "amount_of" "amount_of" (defArgs s_amount_of) (defBody s_amount_of) (defScope s_amount_of) .none kV_28 dc_28 pm_28 an_28 cd_28 ct_28), sl_28⟩) (e3_28 : W.codeIn K cd_28 "amount_of" = true) (e4_28 : W.keepIn K (.ref a_28) = true)
    {oc_29 kV_29 dc_29 pm_29 cd_29 ct_29 : Value} {od_29 an_29 : Option Addr} {sl_29 : Array (Option Value)}
    (e1_29 : W.nsIn K mainGlobals "law" = some (some (.ref a_29))) (e2_29 : K.lookup a_29 = some ⟨oc_29, od_29, .func (W.fnOf "law" "law" (defArgs s_law) (defBody s_law) (defScope s_law) .none kV_29 dc_29 pm_29 an_29 cd_29 ct_29), sl_29⟩) (e3_29 : W.codeIn K cd_29 "law" = true) (e4_29 : W.keepIn K (.ref a_29) = true)
    (z_abs : W.nsIn K mainGlobals "abs" = some none)
    (z_all : W.nsIn K mainGlobals "all" = some none)
    (z_bool : W.nsIn K mainGlobals "bool" = some none)
    (z_enumerate : W.nsIn K mainGlobals "enumerate" = some none)
    (z_int : W.nsIn K mainGlobals "int" = some none)
    (z_isinstance : W.nsIn K mainGlobals "isinstance" = some none)
    (z_len : W.nsIn K mainGlobals "len" = some none)
    (z_list : W.nsIn K mainGlobals "list" = some none)
    (z_min : W.nsIn K mainGlobals "min" = some none)
    (z_range : W.nsIn K mainGlobals "range" = some none)
    (z_str : W.nsIn K mainGlobals "str" = some none)
    (z_tuple : W.nsIn K mainGlobals "tuple" = some none)
    (z_zip : W.nsIn K mainGlobals "zip" = some none)
    {t_FEWEST_PLACES : Tok} (y_FEWEST_PLACES : W.nsIn K mainGlobals "FEWEST_PLACES" = some (some (.int 2 t_FEWEST_PLACES)))
    {t_FIRST : Tok} (y_FIRST : W.nsIn K mainGlobals "FIRST" = some (some (.int 2 t_FIRST)))
    {t_LAST : Tok} (y_LAST : W.nsIn K mainGlobals "LAST" = some (some (.int 3 t_LAST)))
    {t_LENGTH : Tok} (y_LENGTH : W.nsIn K mainGlobals "LENGTH" = some (some (.int 3 t_LENGTH)))
    {t_LETTERS : Tok} (y_LETTERS : W.nsIn K mainGlobals "LETTERS" = some (some (.str "abcdefghijklmnopqrstuvwxyz" t_LETTERS)))
    {t_LONGEST_NAME : Tok} (y_LONGEST_NAME : W.nsIn K mainGlobals "LONGEST_NAME" = some (some (.int 8 t_LONGEST_NAME)))
    {t_MOST_PLACES : Tok} (y_MOST_PLACES : W.nsIn K mainGlobals "MOST_PLACES" = some (some (.int 7 t_MOST_PLACES)))
    {t_MOST_TIES : Tok} (y_MOST_TIES : W.nsIn K mainGlobals "MOST_TIES" = some (some (.int 14 t_MOST_TIES)))
    {t_ONE : Tok} (y_ONE : W.nsIn K mainGlobals "ONE" = some (some (.int 0 t_ONE)))
    {t_OTHER : Tok} (y_OTHER : W.nsIn K mainGlobals "OTHER" = some (some (.int 1 t_OTHER)))
    {t_PLACES : Tok} (y_PLACES : W.nsIn K mainGlobals "PLACES" = some (some (.int 0 t_PLACES)))
    {t_TIES : Tok} (y_TIES : W.nsIn K mainGlobals "TIES" = some (some (.int 1 t_TIES)))
    {t_WORD : Tok} (y_WORD : W.nsIn K mainGlobals "WORD" = some (some (.int 2 t_WORD)))
    {q_WORDS : Addr} {o_WORDS : Obj} (y_WORDS : W.nsIn K mainGlobals "WORDS" = some (some (.ref q_WORDS))) (x_WORDS : K.lookup q_WORDS = some o_WORDS) (w_WORDS : ∃ od its n sl vs, o_WORDS = ⟨.type "tuple", od, .seq its n, sl⟩ ∧ Vals vs its.toList ∧ its.size ≤ sizeLine ∧ ∀ H, Reps K H [.str "one", .str "both"] vs)
    {t_WORTH : Tok} (y_WORTH : W.nsIn K mainGlobals "WORTH" = some (some (.int 4 t_WORTH))) :
    ∃ t : Adr, Txt K mg t ∧ t.a_law = a_29 ∧ ∃ kV doc pm an cdv ct, t.d_law = W.fnOf "law" "law" (defArgs s_law) (defBody s_law) (defScope s_law) .none kV doc pm an cdv ct := by
  refine ⟨⟨a_0, _, a_1, _, a_2, _, a_3, _, a_4, _, a_5, _, a_6, _, a_7, _, a_8, _, a_9, _, a_10, _, a_11, _, a_12, _, a_13, _, a_14, _, a_15, _, a_16, _, a_17, _, a_18, _, a_19, _, a_20, _, a_21, _, a_22, _, a_23, _, a_24, _, a_25, _, a_26, _, a_27, _, a_28, _, a_29, _⟩, ⟨fun_mk e2_0 e3_0 e4_0, ?b_0, W.mg_of X G e1_0, fun_mk e2_1 e3_1 e4_1, ?b_1, W.mg_of X G e1_1, fun_mk e2_2 e3_2 e4_2, ?b_2, W.mg_of X G e1_2, fun_mk e2_3 e3_3 e4_3, ?b_3, W.mg_of X G e1_3, fun_mk e2_4 e3_4 e4_4, ?b_4, W.mg_of X G e1_4, fun_mk e2_5 e3_5 e4_5, ?b_5, W.mg_of X G e1_5, fun_mk e2_6 e3_6 e4_6, ?b_6, W.mg_of X G e1_6, fun_mk e2_7 e3_7 e4_7, ?b_7, W.mg_of X G e1_7, fun_mk e2_8 e3_8 e4_8, ?b_8, W.mg_of X G e1_8, fun_mk e2_9 e3_9 e4_9, ?b_9, W.mg_of X G e1_9, fun_mk e2_10 e3_10 e4_10, ?b_10, W.mg_of X G e1_10, fun_mk e2_11 e3_11 e4_11, ?b_11, W.mg_of X G e1_11, fun_mk e2_12 e3_12 e4_12, ?b_12, W.mg_of X G e1_12, fun_mk e2_13 e3_13 e4_13, ?b_13, W.mg_of X G e1_13, fun_mk e2_14 e3_14 e4_14, ?b_14, W.mg_of X G e1_14, fun_mk e2_15 e3_15 e4_15, ?b_15, W.mg_of X G e1_15, fun_mk e2_16 e3_16 e4_16, ?b_16, W.mg_of X G e1_16, fun_mk e2_17 e3_17 e4_17, ?b_17, W.mg_of X G e1_17, fun_mk e2_18 e3_18 e4_18, ?b_18, W.mg_of X G e1_18, fun_mk e2_19 e3_19 e4_19, ?b_19, W.mg_of X G e1_19, fun_mk e2_20 e3_20 e4_20, ?b_20, W.mg_of X G e1_20, fun_mk e2_21 e3_21 e4_21, ?b_21, W.mg_of X G e1_21, fun_mk e2_22 e3_22 e4_22, ?b_22, W.mg_of X G e1_22, fun_mk e2_23 e3_23 e4_23, ?b_23, W.mg_of X G e1_23, fun_mk e2_24 e3_24 e4_24, ?b_24, W.mg_of X G e1_24, fun_mk e2_25 e3_25 e4_25, ?b_25, W.mg_of X G e1_25, fun_mk e2_26 e3_26 e4_26, ?b_26, W.mg_of X G e1_26, fun_mk e2_27 e3_27 e4_27, ?b_27, W.mg_of X G e1_27, fun_mk e2_28 e3_28 e4_28, ?b_28, W.mg_of X G e1_28, fun_mk e2_29 e3_29 e4_29, ?b_29, W.mg_of X G e1_29, W.mg_none_of X G z_abs, W.mg_none_of X G z_all, W.mg_none_of X G z_bool, W.mg_none_of X G z_enumerate, W.mg_none_of X G z_int, W.mg_none_of X G z_isinstance, W.mg_none_of X G z_len, W.mg_none_of X G z_list, W.mg_none_of X G z_min, W.mg_none_of X G z_range, W.mg_none_of X G z_str, W.mg_none_of X G z_tuple, W.mg_none_of X G z_zip, ?c_FEWEST_PLACES, ?c_FIRST, ?c_LAST, ?c_LENGTH, ?c_LETTERS, ?c_LONGEST_NAME, ?c_MOST_PLACES, ?c_MOST_TIES, ?c_ONE, ?c_OTHER, ?c_PLACES, ?c_TIES, ?c_WORD, ?c_WORDS, ?c_WORTH⟩, rfl, _, _, _, _, _, _, rfl⟩
  case b_0 => exact (fun_mk (st := s__law_draws) e2_0 e3_0 e4_0).binds fun _ _ _ _ _ _ us hl => match us, hl with | [_, _], _ => rfl
  case b_1 => exact (fun_mk (st := s__law_names) e2_1 e3_1 e4_1).binds fun _ _ _ _ _ _ us hl => match us, hl with | [_, _], _ => rfl
  case b_2 => exact (fun_mk (st := s__law_cells) e2_2 e3_2 e4_2).binds fun _ _ _ _ _ _ us hl => match us, hl with | [_], _ => rfl
  case b_3 => exact (fun_mk (st := s__law_low) e2_3 e3_3 e4_3).binds fun _ _ _ _ _ _ us hl => match us, hl with | [_, _], _ => rfl
  case b_4 => exact (fun_mk (st := s__law_fraction) e2_4 e3_4 e4_4).binds fun _ _ _ _ _ _ us hl => match us, hl with | [_], _ => rfl
  case b_5 => exact (fun_mk (st := s__law_tie) e2_5 e3_5 e4_5).binds fun _ _ _ _ _ _ us hl => match us, hl with | [_, _, _], _ => rfl
  case b_6 => exact (fun_mk (st := s__law_web) e2_6 e3_6 e4_6).binds fun _ _ _ _ _ _ us hl => match us, hl with | [_], _ => rfl
  case b_7 => exact (fun_mk (st := s__law_amounts) e2_7 e3_7 e4_7).binds fun _ _ _ _ _ _ us hl => match us, hl with | [_, _], _ => rfl
  case b_8 => exact (fun_mk (st := s__law_plus) e2_8 e3_8 e4_8).binds fun _ _ _ _ _ _ us hl => match us, hl with | [_, _, _], _ => rfl
  case b_9 => exact (fun_mk (st := s__law_going) e2_9 e3_9 e4_9).binds fun _ _ _ _ _ _ us hl => match us, hl with | [_, _, _], _ => rfl
  case b_10 => exact (fun_mk (st := s__law_whole) e2_10 e3_10 e4_10).binds fun _ _ _ _ _ _ us hl => match us, hl with | [_], _ => rfl
  case b_11 => exact (fun_mk (st := s__law_same) e2_11 e3_11 e4_11).binds fun _ _ _ _ _ _ us hl => match us, hl with | [_, _], _ => rfl
  case b_12 => exact (fun_mk (st := s_is_name) e2_12 e3_12 e4_12).binds fun _ _ _ _ _ _ us hl => match us, hl with | [_], _ => rfl
  case b_13 => exact (fun_mk (st := s_look_at_places) e2_13 e3_13 e4_13).binds fun _ _ _ _ _ _ us hl => match us, hl with | [_], _ => rfl
  case b_14 => exact (fun_mk (st := s_is_whole) e2_14 e3_14 e4_14).binds fun _ _ _ _ _ _ us hl => match us, hl with | [_], _ => rfl
  case b_15 => exact (fun_mk (st := s_common_divisor) e2_15 e3_15 e4_15).binds fun _ _ _ _ _ _ us hl => match us, hl with | [_, _], _ => rfl
  case b_16 => exact (fun_mk (st := s_is_ratio) e2_16 e3_16 e4_16).binds fun _ _ _ _ _ _ us hl => match us, hl with | [_], _ => rfl
  case b_17 => exact (fun_mk (st := s_is_length) e2_17 e3_17 e4_17).binds fun _ _ _ _ _ _ us hl => match us, hl with | [_], _ => rfl
  case b_18 => exact (fun_mk (st := s_is_worth) e2_18 e3_18 e4_18).binds fun _ _ _ _ _ _ us hl => match us, hl with | [_], _ => rfl
  case b_19 => exact (fun_mk (st := s_is_tie) e2_19 e3_19 e4_19).binds fun _ _ _ _ _ _ us hl => match us, hl with | [_], _ => rfl
  case b_20 => exact (fun_mk (st := s_look_at_ties) e2_20 e3_20 e4_20).binds fun _ _ _ _ _ _ us hl => match us, hl with | [_, _], _ => rfl
  case b_21 => exact (fun_mk (st := s_is_place) e2_21 e3_21 e4_21).binds fun _ _ _ _ _ _ us hl => match us, hl with | [_, _], _ => rfl
  case b_22 => exact (fun_mk (st := s_look_at_web) e2_22 e3_22 e4_22).binds fun _ _ _ _ _ _ us hl => match us, hl with | [_], _ => rfl
  case b_23 => exact (fun_mk (st := s_shared_bottom) e2_23 e3_23 e4_23).binds fun _ _ _ _ _ _ us hl => match us, hl with | [_], _ => rfl
  case b_24 => exact (fun_mk (st := s_as_whole) e2_24 e3_24 e4_24).binds fun _ _ _ _ _ _ us hl => match us, hl with | [_, _], _ => rfl
  case b_25 => exact (fun_mk (st := s_on_one_scale) e2_25 e3_25 e4_25).binds fun _ _ _ _ _ _ us hl => match us, hl with | [_], _ => rfl
  case b_26 => exact (fun_mk (st := s_ratio) e2_26 e3_26 e4_26).binds fun _ _ _ _ _ _ us hl => match us, hl with | [_, _], _ => rfl
  case b_27 => exact (fun_mk (st := s_goes_from) e2_27 e3_27 e4_27).binds fun _ _ _ _ _ _ us hl => match us, hl with | [_, _, _], _ => rfl
  case b_28 => exact (fun_mk (st := s_amount_of) e2_28 e3_28 e4_28).binds fun _ _ _ _ _ _ us hl => match us, hl with | [_, _], _ => rfl
  case b_29 => exact (fun_mk (st := s_law) e2_29 e3_29 e4_29).binds fun _ _ _ _ _ _ us hl => match us, hl with | [_], _ => rfl
  case c_FEWEST_PLACES => exact kon_int (W.mg_of X G y_FEWEST_PLACES)
  case c_FIRST => exact kon_int (W.mg_of X G y_FIRST)
  case c_LAST => exact kon_int (W.mg_of X G y_LAST)
  case c_LENGTH => exact kon_int (W.mg_of X G y_LENGTH)
  case c_LETTERS => exact kon_str (W.mg_of X G y_LETTERS)
  case c_LONGEST_NAME => exact kon_int (W.mg_of X G y_LONGEST_NAME)
  case c_MOST_PLACES => exact kon_int (W.mg_of X G y_MOST_PLACES)
  case c_MOST_TIES => exact kon_int (W.mg_of X G y_MOST_TIES)
  case c_ONE => exact kon_int (W.mg_of X G y_ONE)
  case c_OTHER => exact kon_int (W.mg_of X G y_OTHER)
  case c_PLACES => exact kon_int (W.mg_of X G y_PLACES)
  case c_TIES => exact kon_int (W.mg_of X G y_TIES)
  case c_WORD => exact kon_int (W.mg_of X G y_WORD)
  case c_WORDS =>
    obtain ⟨od, its, n, sl, vs, rfl, h1, h2, h3⟩ := w_WORDS
    exact kon_tup (W.mg_of X G y_WORDS) x_WORDS h1 h2 h3
  case c_WORTH => exact kon_int (W.mg_of X G y_WORTH)
theorem txt_wr {K : PySem.W.Frag} {mg : Str → Option Value} {a : Addr} {R : Adr → Prop} (h : ∃ t : Adr, Txt K mg t ∧ t.a_law = a ∧ R t) : ∃ t : Adr, Txt K mg t ∧ mg "law" = some (.ref t.a_law) ∧ R t := h.elim fun t ⟨T, _, r⟩ => ⟨t, T, T.g_law, r⟩
end K36
namespace K36
open PySem L2 DL
theorem sp_law (K : PySem.W.Frag) (H : Hp) (a : Addr) (ns : List Int) (hl : ns.length ≤ 63) (hS : SqL K H a (ns.map V.int)) : spD K 1 m_law [.ref a] H (fun v _ => v = .bl true) fun _ _ _ => False := by
  refine ⟨rfl, H, [.lst (ns.map D.int)], Same.refl _, Reps.cons (Rep.lst_iff.mpr ⟨a, _, rfl, hS, Reps.ints ns⟩) Reps.nil, ?_⟩
  rw [law_true ns hl]
  exact fun v H' H₀' _ r => Rep.bl_iff.mp r
end K36
def PySem.W.Fast.tw6697287567221201732 : Nat := 0
def PySem.W.Fast.tw3003581567452248998 : Nat := 0
def PySem.W.Fast.tw3352215642409201356 : Nat := 0
def PySem.W.Fast.tw675718297366579086 : Nat := 0
def PySem.W.Fast.tw12831847452464987023 : Nat := 0
def PySem.W.Fast.tw2561825196208425394 : Nat := 0
def PySem.W.Fast.tw8602522975383435794 : Nat := 0
def PySem.W.Fast.tw14128977725109670771 : Nat := 0
def PySem.W.Fast.tw12125477837262810038 : Nat := 0
def PySem.W.Fast.tw11143295068280417849 : Nat := 0
def PySem.W.Fast.tw17556758413108692893 : Nat := 0
open PySem PySem.W PyProof.Rows
set_option maxRecDepth 100000 in
set_option maxHeartbeats 0 in
theorem PySem.Challenge.cw_farthestcut_k36_amounts_of_lists_holds : PySem.Challenge.rw_farthestcut_k36_amounts_of_lists.Holds := by
  w_on; o_law; k_head; (case hw => w_witness2)
  k_fill
  refine L2.walk_ofK (l := PySem.Challenge.rw_farthestcut_k36_amounts_of_lists) (n := 63) (k := 8) (x := "_law_script") (CX := L2.CX0) (sp := fun K => DL.spD K 1 K36.m_law) rfl (by decide) rfl ⟨rfl, by decide, by decide⟩ (fun w h Y => PySem.W.kIn_of Y) ?F ?S ?C
  case S => exact fun K H a ns hl _ hS => K36.sp_law K H a ns hl hS
  case C => exact fun _ _ _ _ h => h
  case F =>
    intro w mg fa h KX G hmg
    have T : ∃ t : K36.Adr, K36.Txt (L2.KOf KX) mg t ∧ mg "law" = some (.ref t.a_law) ∧ ∃ kV doc pm an cdv ct, t.d_law = PySem.W.fnOf "law" "law" (L2.defArgs K36.s_law) (L2.defBody K36.s_law) (L2.defScope K36.s_law) .none kV doc pm an cdv ct := by
      dsimp only [L2.KOf]
      refine' K36.txt_wr (K36.txt_mk KX G ?e1_0 ?e2_0 ?e3_0 ?e4_0 ?e1_1 ?e2_1 ?e3_1 ?e4_1 ?e1_2 ?e2_2 ?e3_2 ?e4_2 ?e1_3 ?e2_3 ?e3_3 ?e4_3 ?e1_4 ?e2_4 ?e3_4 ?e4_4 ?e1_5 ?e2_5 ?e3_5 ?e4_5 ?e1_6 ?e2_6 ?e3_6 ?e4_6 ?e1_7 ?e2_7 ?e3_7 ?e4_7 ?e1_8 ?e2_8 ?e3_8 ?e4_8 ?e1_9 ?e2_9 ?e3_9 ?e4_9 ?e1_10 ?e2_10 ?e3_10 ?e4_10 ?e1_11 ?e2_11 ?e3_11 ?e4_11 ?e1_12 ?e2_12 ?e3_12 ?e4_12 ?e1_13 ?e2_13 ?e3_13 ?e4_13 ?e1_14 ?e2_14 ?e3_14 ?e4_14 ?e1_15 ?e2_15 ?e3_15 ?e4_15 ?e1_16 ?e2_16 ?e3_16 ?e4_16 ?e1_17 ?e2_17 ?e3_17 ?e4_17 ?e1_18 ?e2_18 ?e3_18 ?e4_18 ?e1_19 ?e2_19 ?e3_19 ?e4_19 ?e1_20 ?e2_20 ?e3_20 ?e4_20 ?e1_21 ?e2_21 ?e3_21 ?e4_21 ?e1_22 ?e2_22 ?e3_22 ?e4_22 ?e1_23 ?e2_23 ?e3_23 ?e4_23 ?e1_24 ?e2_24 ?e3_24 ?e4_24 ?e1_25 ?e2_25 ?e3_25 ?e4_25 ?e1_26 ?e2_26 ?e3_26 ?e4_26 ?e1_27 ?e2_27 ?e3_27 ?e4_27 ?e1_28 ?e2_28 ?e3_28 ?e4_28 ?e1_29 ?e2_29 ?e3_29 ?e4_29 ?z_abs ?z_all ?z_bool ?z_enumerate ?z_int ?z_isinstance ?z_len ?z_list ?z_min ?z_range ?z_str ?z_tuple ?z_zip ?y_FEWEST_PLACES ?y_FIRST ?y_LAST ?y_LENGTH ?y_LETTERS ?y_LONGEST_NAME ?y_MOST_PLACES ?y_MOST_TIES ?y_ONE ?y_OTHER ?y_PLACES ?y_TIES ?y_WORD ?y_WORDS ?x_WORDS ?w_WORDS ?y_WORTH)
      (case e1_0 => k_is)
      (case e2_0 => k_is)
      (case e3_0 => k_is)
      (case e4_0 => k_is)
      (case e1_1 => k_is)
      (case e2_1 => k_is)
      (case e3_1 => k_is)
      (case e4_1 => k_is)
      (case e1_2 => k_is)
      (case e2_2 => k_is)
      (case e3_2 => k_is)
      (case e4_2 => k_is)
      (case e1_3 => k_is)
      (case e2_3 => k_is)
      (case e3_3 => k_is)
      (case e4_3 => k_is)
      (case e1_4 => k_is)
      (case e2_4 => k_is)
      (case e3_4 => k_is)
      (case e4_4 => k_is)
      (case e1_5 => k_is)
      (case e2_5 => k_is)
      (case e3_5 => k_is)
      (case e4_5 => k_is)
      (case e1_6 => k_is)
      (case e2_6 => k_is)
      (case e3_6 => k_is)
      (case e4_6 => k_is)
      (case e1_7 => k_is)
      (case e2_7 => k_is)
      (case e3_7 => k_is)
      (case e4_7 => k_is)
      (case e1_8 => k_is)
      (case e2_8 => k_is)
      (case e3_8 => k_is)
      (case e4_8 => k_is)
      (case e1_9 => k_is)
      (case e2_9 => k_is)
      (case e3_9 => k_is)
      (case e4_9 => k_is)
      (case e1_10 => k_is)
      (case e2_10 => k_is)
      (case e3_10 => k_is)
      (case e4_10 => k_is)
      (case e1_11 => k_is)
      (case e2_11 => k_is)
      (case e3_11 => k_is)
      (case e4_11 => k_is)
      (case e1_12 => k_is)
      (case e2_12 => k_is)
      (case e3_12 => k_is)
      (case e4_12 => k_is)
      (case e1_13 => k_is)
      (case e2_13 => k_is)
      (case e3_13 => k_is)
      (case e4_13 => k_is)
      (case e1_14 => k_is)
      (case e2_14 => k_is)
      (case e3_14 => k_is)
      (case e4_14 => k_is)
      (case e1_15 => k_is)
      (case e2_15 => k_is)
      (case e3_15 => k_is)
      (case e4_15 => k_is)
      (case e1_16 => k_is)
      (case e2_16 => k_is)
      (case e3_16 => k_is)
      (case e4_16 => k_is)
      (case e1_17 => k_is)
      (case e2_17 => k_is)
      (case e3_17 => k_is)
      (case e4_17 => k_is)
      (case e1_18 => k_is)
      (case e2_18 => k_is)
      (case e3_18 => k_is)
      (case e4_18 => k_is)
      (case e1_19 => k_is)
      (case e2_19 => k_is)
      (case e3_19 => k_is)
      (case e4_19 => k_is)
      (case e1_20 => k_is)
      (case e2_20 => k_is)
      (case e3_20 => k_is)
      (case e4_20 => k_is)
      (case e1_21 => k_is)
      (case e2_21 => k_is)
      (case e3_21 => k_is)
      (case e4_21 => k_is)
      (case e1_22 => k_is)
      (case e2_22 => k_is)
      (case e3_22 => k_is)
      (case e4_22 => k_is)
      (case e1_23 => k_is)
      (case e2_23 => k_is)
      (case e3_23 => k_is)
      (case e4_23 => k_is)
      (case e1_24 => k_is)
      (case e2_24 => k_is)
      (case e3_24 => k_is)
      (case e4_24 => k_is)
      (case e1_25 => k_is)
      (case e2_25 => k_is)
      (case e3_25 => k_is)
      (case e4_25 => k_is)
      (case e1_26 => k_is)
      (case e2_26 => k_is)
      (case e3_26 => k_is)
      (case e4_26 => k_is)
      (case e1_27 => k_is)
      (case e2_27 => k_is)
      (case e3_27 => k_is)
      (case e4_27 => k_is)
      (case e1_28 => k_is)
      (case e2_28 => k_is)
      (case e3_28 => k_is)
      (case e4_28 => k_is)
      (case e1_29 => k_is)
      (case e2_29 => k_is)
      (case e3_29 => k_is)
      (case e4_29 => k_is)
      (case z_abs => k_is)
      (case z_all => k_is)
      (case z_bool => k_is)
      (case z_enumerate => k_is)
      (case z_int => k_is)
      (case z_isinstance => k_is)
      (case z_len => k_is)
      (case z_list => k_is)
      (case z_min => k_is)
      (case z_range => k_is)
      (case z_str => k_is)
      (case z_tuple => k_is)
      (case z_zip => k_is)
      (case y_FEWEST_PLACES => k_is)
      (case y_FIRST => k_is)
      (case y_LAST => k_is)
      (case y_LENGTH => k_is)
      (case y_LETTERS => k_is)
      (case y_LONGEST_NAME => k_is)
      (case y_MOST_PLACES => k_is)
      (case y_MOST_TIES => k_is)
      (case y_ONE => k_is)
      (case y_OTHER => k_is)
      (case y_PLACES => k_is)
      (case y_TIES => k_is)
      (case y_WORD => k_is)
      (case y_WORDS => k_is)
      (case x_WORDS => k_is)
      (case w_WORDS => exact ⟨_, _, _, _, [.str "one", .str "both"], rfl, .cons ⟨_, rfl⟩ (.cons ⟨_, rfl⟩ (.nil)), by decide, fun H => DL.Reps.cons (DL.Rep.str_iff.mpr rfl) (DL.Reps.cons (DL.Rep.str_iff.mpr rfl) (DL.Reps.nil))⟩)
      (case y_WORTH => k_is)
    obtain ⟨t, T, e0, kV, doc, pm, an, cdv, ct, ed⟩ := T
    have e1 := hmg.symm.trans e0
    cases e1
    refine ⟨t.d_law, fun s u => ?_, fun base kb nb => K36.ok_law T⟩
    rw [ed]
    exact .of_eq rfl
