import PyProof.Rows.All
import Wide.All
import OpenK.AllK
import Wide.FinOn
import Lean
import PyProof.EqAt
import PyProof.EqKinds
import PyProof.TupleCall
import PySem.Challenge.RW_meterhouse_k32_jumps
set_option Elab.async false
set_option linter.all false
set_option maxRecDepth 100000
set_option maxHeartbeats 4000000
namespace L2
open PySem PySem.Spec PyProof.Rows

noncomputable abbrev Key := Sum Int Str
noncomputable def keyIs : Key → Value → Bool
  | .inl k, v => Value.isInt k v
  | .inr x, v => Value.isStrOf x v
noncomputable def keyH (w : World) : Key → Int
  | .inl k => hashInt k
  | .inr x => hashStr w x
theorem keyIs_shape : ∀ {k : Key} {v : Value}, keyIs k v = true → (∃ i t, k = Sum.inl i ∧ v = Value.int i t) ∨ (∃ x t, k = Sum.inr x ∧ v = Value.str x t)
  | .inl i, v, h => by
    obtain ⟨t, e⟩ := Value.isInt_shape (k := i) (v := v) h
    exact .inl ⟨i, t, rfl, e⟩
  | .inr x, v, h => by
    obtain ⟨t, e⟩ := Value.isStrOf_shape (x := x) (v := v) h
    exact .inr ⟨x, t, rfl, e⟩
theorem keyIs_int (i : Int) (t : Tok) : keyIs (.inl i) (.int i t) = true := by simp [keyIs, Value.isInt]
theorem keyIs_str (x : Str) (t : Tok) : keyIs (.inr x) (.str x t) = true := by simp [keyIs, Value.isStrOf]
theorem key_ll (a b : Int) : decide ((Sum.inl a : Key) = Sum.inl b) = (a == b) := by
  by_cases e : a = b
  · subst e; simp
  · have h : ¬ (Sum.inl a : Key) = Sum.inl b := fun q => e (Sum.inl.inj q)
    rw [decide_eq_false h]
    exact (beq_eq_false_iff_ne.mpr e).symm
theorem key_rr (a b : Str) : decide ((Sum.inr a : Key) = Sum.inr b) = decide (a = b) := by
  by_cases e : a = b
  · subst e; simp
  · have h : ¬ (Sum.inr a : Key) = Sum.inr b := fun q => e (Sum.inr.inj q)
    rw [decide_eq_false h, decide_eq_false e]
theorem key_lr (a : Int) (b : Str) : decide ((Sum.inl a : Key) = Sum.inr b) = false := decide_eq_false (fun q => nomatch q)
theorem key_rl (a : Str) (b : Int) : decide ((Sum.inr a : Key) = Sum.inl b) = false := decide_eq_false (fun q => nomatch q)

noncomputable def mixKind (prog : Program) (w : World) : PySem.KeyKind prog w Key where
  is := keyIs
  hash := keyH w
  inj := fun v a b ha hb => by
    rcases keyIs_shape ha with ⟨i, t, rfl, rfl⟩ | ⟨x, t, rfl, rfl⟩
    · rcases keyIs_shape hb with ⟨j, u, rfl, e⟩ | ⟨y, u, rfl, e⟩
      · injection e with e1 _; rw [e1]
      · exact nomatch e
    · rcases keyIs_shape hb with ⟨j, u, rfl, e⟩ | ⟨y, u, rfl, e⟩
      · exact nomatch e
      · injection e with e1 _; rw [e1]
  byValue := fun k v h => by
    rcases keyIs_shape h with ⟨i, t, rfl, rfl⟩ | ⟨x, t, rfl, rfl⟩ <;> rfl
  pyHash := fun hv h => by
    rcases keyIs_shape hv with ⟨i, t, rfl, rfl⟩ | ⟨x, t, rfl, rfl⟩
    · exact wpAny_pyHash_int h
    · exact wpAny_pyHash_str h
  eqBool := fun hu hv h => by
    rcases keyIs_shape hu with ⟨i, t, rfl, rfl⟩ | ⟨x, t, rfl, rfl⟩
    · rcases keyIs_shape hv with ⟨j, u, rfl, rfl⟩ | ⟨y, u, rfl, rfl⟩
      · rw [key_ll] at h; exact wpAny_eqBool_int h
      · rw [key_lr] at h; exact SeqAt.EqAt.int_str i t y u _ _ _ _ h
    · rcases keyIs_shape hv with ⟨j, u, rfl, rfl⟩ | ⟨y, u, rfl, rfl⟩
      · rw [key_rl] at h; exact SeqAt.EqAt.str_int x t j u _ _ _ _ h
      · rw [key_rr] at h; exact wpAny_eqBool_str h
  «strs» := fun k x t v h => by
    rcases keyIs_shape h with ⟨i, u, rfl, e⟩ | ⟨y, u, rfl, e⟩
    · exact nomatch e
    · injection e with e1 _
      subst e1
      cases v <;> rfl

theorem mixKind_int (prog : Program) (w : World) (i : Int) (t : Tok) : (mixKind prog w).is (.inl i) (.int i t) = true := keyIs_int i t
theorem mixKind_str (prog : Program) (w : World) (x : Str) (t : Tok) : (mixKind prog w).is (.inr x) (.str x t) = true := keyIs_str x t
end L2

namespace L2
open PySem PySem.Spec PyProof.Rows

inductive V where
  | non | bl (b : Bool) | int (i : Int) | str (x : Str) | byt (b : Array UInt8) | flt (b : UInt64) | ref (a : Addr) | ty (n : String)
  deriving DecidableEq

noncomputable def RelV : V → Value → Prop
  | .non, u => u = Value.none
  | .bl b, u => u = Value.bool b
  | .int i, u => ∃ t, u = Value.int i t
  | .str x, u => ∃ t, u = Value.str x t
  | .byt b, u => ∃ t, u = Value.bytes b t
  | .flt b, u => ∃ t, u = Value.float b t
  | .ref a, u => u = Value.ref a
  | .ty n, u => u = Value.type n

noncomputable abbrev Vals : List V → List Value → Prop := Paired RelV
theorem Vals.length {xs : List V} {us : List Value} (r : Vals xs us) : xs.length = us.length := Paired.length r
theorem Vals.get : ∀ {xs : List V} {us : List Value} {i : Nat} {x : V}, Vals xs us → xs[i]? = some x → ∃ u, us[i]? = some u ∧ RelV x u
  | _, _, _, _, .nil, e => by simp at e
  | _, _, 0, _, .cons r _, e => by simp at e; subst e; exact ⟨_, rfl, r⟩
  | _, _, i + 1, x, .cons _ t, e => by
    obtain ⟨u, h1, h2⟩ := Vals.get (i := i) (x := x) t (by simpa using e)
    exact ⟨u, by simpa using h1, h2⟩
theorem Vals.set {x : V} {u : Value} (r : RelV x u) : ∀ {xs : List V} {us : List Value} (i : Nat), Vals xs us → Vals (xs.set i x) (us.set i u)
  | _, _, _, .nil => .nil
  | _, _, 0, .cons _ t => .cons r t
  | _, _, i + 1, .cons q t => .cons q (Vals.set r i t)
theorem Vals.append : ∀ {xs ys : List V} {us ws : List Value}, Vals xs us → Vals ys ws → Vals (xs ++ ys) (us ++ ws)
  | _, _, _, _, .nil, s => s
  | _, _, _, _, .cons r t, s => .cons r (Vals.append t s)
theorem Vals.take : ∀ {xs : List V} {us : List Value} (n : Nat), Vals xs us → Vals (xs.take n) (us.take n)
  | _, _, 0, _ => .nil
  | _, _, _ + 1, .nil => .nil
  | _, _, n + 1, .cons r t => .cons r (Vals.take n t)
theorem Vals.drop : ∀ {xs : List V} {us : List Value} (n : Nat), Vals xs us → Vals (xs.drop n) (us.drop n)
  | _, _, 0, r => r
  | _, _, _ + 1, .nil => .nil
  | _, _, n + 1, .cons _ t => Vals.drop n t
theorem Vals.none_of : ∀ {xs : List V} {us : List Value} {i : Nat}, Vals xs us → xs[i]? = none → us[i]? = none := fun {xs us i} r e => by
  have h1 := r.length
  have h2 : xs.length ≤ i := List.getElem?_eq_none_iff.mp e
  exact List.getElem?_eq_none_iff.mpr (by omega)

noncomputable def RelO : Option V → Option Value → Prop
  | some v, some u => RelV v u
  | none, none => True
  | _, _ => False
noncomputable def KV {κ : Type} : List (κ × V) → List (κ × Value) → Prop := Paired fun (p : κ × V) (q : κ × Value) => p.1 = q.1 ∧ RelV p.2 q.2

noncomputable def kV : Key → V
  | .inl i => .int i
  | .inr x => .str x

inductive HO where
  /-- a list -/
  | lst (xs : List V)
  /-- a tuple (never changes) -/
  | tup (xs : List V)
  /-- a dict whose keys are ints and texts; one whose keys are tuples of ints and texts (the empty one is both) -/
  | dK (kvs : List (Key × V)) | dT (kvs : List (List Key × V))
  /-- a set of ints: its members, its size -/
  | set (S : Int → Bool) (n : Nat)
  /-- an instance of the class at C, its dict at dx, its attributes -/
  | ins (C dx : Addr) (fs : List (Str × V))
  /-- the dict of the instance at x -/
  | own (x : Addr)
  /-- the dict of an exception -/
  | xd (fs : List (Str × V))
  /-- a bound method, f of x -/
  | met (f x : Addr)
  /-- a range object lo, lo + 1, .. below hi -/
  | rng (lo hi : Int)
  /-- a thing that is known to the object (the script; a dict while a loop walks it): read, never written while it is so -/
  | frz (o : Obj) (u : HO)
  /-- a code object's table -/
  | tbl (ps : Array Value)
  /-- any other thing, by what is true of its one object (a def of one's own: SetO a S n := HO.ext fun h => ..) -/
  | ext (φ : Heap → Prop)

noncomputable abbrev Hp := Addr → Option HO
noncomputable def upd (H : Hp) (a : Addr) (o : HO) : Hp := fun b => if b = a then some o else H b
theorem upd_same {H : Hp} {a : Addr} {o : HO} : upd H a o a = some o := by unfold upd; rw [if_pos rfl]
theorem upd_ne {H : Hp} {a b : Addr} {o : HO} (h : b ≠ a) : upd H a o b = H b := by unfold upd; rw [if_neg h]
theorem upd_upd {H : Hp} {a : Addr} {o u : HO} : upd (upd H a o) a u = upd H a u := by
  funext b; unfold upd; split <;> rfl
theorem ne_of {H : Hp} {a b : Addr} {o u : HO} (h : H a = some o) (h' : H b = some u) (d : o ≠ u) : a ≠ b := by
  intro e; subst e; rw [h] at h'; exact d (Option.some.inj h')
theorem ne_of_none {H : Hp} {a b : Addr} {o : HO} (h : H a = some o) (h' : H b = none) : a ≠ b := by
  intro e; subst e; rw [h] at h'; cases h'

section
variable (P : Program) (w : World)
noncomputable def ObjOk (H : Hp) (h : Heap) (a : Addr) : HO → Prop
  | .lst xs => xs.length ≤ sizeLine ∧ ∃ (its : List Value) (n : Nat), Vals xs its ∧ h.get? a = some { cls := .type "list", data := .seq its.toArray n }
  | .tup xs => xs.length ≤ sizeLine ∧ ∃ its : List Value, Vals xs its ∧ IsTup h a its.toArray
  | .dK kvs => kvs.length ≤ sizeLine ∧ (a == sysModules) = false ∧ ∃ vs, KV kvs vs ∧ h.DictOf (mixKind P w) a vs
  | .dT kvs => kvs.length ≤ sizeLine ∧ (a == sysModules) = false ∧ ∃ xs : List (List Key × Addr × Value),
      Paired (fun (p : List Key × V) (q : List Key × Addr × Value) => p.1 = q.1 ∧ H q.2.1 = some (.tup (p.1.map kV)) ∧ RelV p.2 q.2.2) kvs xs ∧
      ∃ o es ep, h.get? a = some o ∧ o.ExactDict ∧ o.data = .dict es ep ∧ es.toList = xs.map (entryOfKey (tupleKind (mixKind P w))) ∧ (xs.map (·.1)).Nodup
  | .set S n => h.SetOf (intKind P w) a S n
  | .ins C dx fs => H dx = some (.own a) ∧ fs.length ≤ 1000 ∧ dx ≠ a ∧ h.get? a = some (PySem.W.instObj C dx) ∧
      ∃ mA, h.Ns1 dx mA ∧ (∀ f, RelO (fs.lookup f) (mA f)) ∧ PySem.Within mA (fs.map (·.1))
  | .own _ => ∃ o, h.get? a = some o
  | .xd fs => ∃ mA, h.Ns1 a mA ∧ ∀ f, RelO (fs.lookup f) (mA f)
  | .rng lo hi => ∃ t u v, h.get? a = some { cls := .type "range", data := .fields #[.int lo t, .int hi u, .int 1 v] }
  | .frz o u => h.get? a = some o ∧ ObjOk H h a u
  | .tbl ps => h.get? a = some { cls := .none, data := .fields ps }
  | .met f x => h.get? a = some (PySem.W.methodObj (.ref f) (.ref x))
  | .ext φ => φ h ∧ (∃ o, h.get? a = some o) ∧ ∀ h1 h2 : Heap, φ h1 → (∀ o, h1.get? a = some o → h2.get? a = some o) → φ h2
noncomputable def HOk (H : Hp) (h : Heap) : Prop := ∀ a o, H a = some o → ObjOk P w H h a o
end

section
variable {P : Program} {w : World} {H H' : Hp} {h h' : Heap} {a : Addr} {o : HO}
theorem ObjOk.lt (x : ObjOk P w H h a o) : a < h.objs.size := by
  cases o with
  | lst xs => obtain ⟨_, _, _, _, e⟩ := x; exact Heap.lt_size e
  | tup xs => obtain ⟨_, _, _, p⟩ := x; exact p.lt
  | dK kvs => obtain ⟨_, _, _, _, o, _, _, e, _⟩ := x; exact Heap.lt_size e
  | dT kvs => obtain ⟨_, _, _, _, o, _, _, e, _⟩ := x; exact Heap.lt_size e
  | set S n => obtain ⟨o, _, _, _, e, _⟩ := x; exact Heap.lt_size e
  | ins C dx fs => obtain ⟨_, _, _, e, _⟩ := x; exact Heap.lt_size e
  | own y => obtain ⟨_, e⟩ := x; exact Heap.lt_size e
  | xd fs => obtain ⟨_, ⟨_, _, _, e, _⟩, _⟩ := x; exact Heap.lt_size e
  | rng lo hi => obtain ⟨_, _, _, e⟩ := x; exact Heap.lt_size e
  | frz ob u => obtain ⟨e, _⟩ := x; exact Heap.lt_size e
  | tbl ps => exact Heap.lt_size (show h.get? a = some _ from x)
  | met f y => exact Heap.lt_size (show h.get? a = some _ from x)
  | ext φ => obtain ⟨_, ⟨_, e⟩, _⟩ := x; exact Heap.lt_size e
theorem Paired.mapP {α β : Type} {F G : α → β → Prop} : ∀ {l₁ : List α} {l₂ : List β}, Paired F l₁ l₂ → (∀ a b, F a b → G a b) → Paired G l₁ l₂
  | _, _, .nil, _ => .nil
  | _, _, .cons r t, f => .cons (f _ _ r) (Paired.mapP t f)
theorem ObjOk.stay (x : ObjOk P w H h a o) (k : ∀ b u, (b = a ∨ H b = some (.own a)) → h.get? b = some u → h'.get? b = some u)
    (ho : ∀ b, H b = some (.own a) → H' b = some (.own a)) (ht : ∀ b xs, H b = some (.tup xs) → H' b = some (.tup xs)) : ObjOk P w H' h' a o := by
  induction o with
  | lst xs => obtain ⟨z, its, n, r, e⟩ := x; exact ⟨z, its, n, r, k _ _ (.inl rfl) e⟩
  | tup xs => obtain ⟨z, its, r, ob, e, c⟩ := x; exact ⟨z, its, r, ob, k _ _ (.inl rfl) e, c⟩
  | dK kvs => obtain ⟨z, y, vs, r, ob, es, ep, e, c⟩ := x; exact ⟨z, y, vs, r, ob, es, ep, k _ _ (.inl rfl) e, c⟩
  | dT kvs =>
    obtain ⟨z, y, xs, r, ob, es, ep, e, c⟩ := x
    exact ⟨z, y, xs, Paired.mapP r fun p q z => ⟨z.1, ht _ _ z.2.1, z.2.2⟩, ob, es, ep, k _ _ (.inl rfl) e, c⟩
  | set S n => obtain ⟨ob, es, ep, t, e, c⟩ := x; exact ⟨ob, es, ep, t, k _ _ (.inl rfl) e, c⟩
  | ins C dx fs =>
    obtain ⟨d, z, ne, e, mA, ⟨od, es, ep, e2, c⟩, r⟩ := x
    exact ⟨ho _ d, z, ne, k _ _ (.inl rfl) e, mA, ⟨od, es, ep, k _ _ (.inr d) e2, c⟩, r⟩
  | own y => obtain ⟨ob, e⟩ := x; exact ⟨ob, k _ _ (.inl rfl) e⟩
  | xd fs => obtain ⟨mA, ⟨od, es, ep, e, c⟩, r⟩ := x; exact ⟨mA, ⟨od, es, ep, k _ _ (.inl rfl) e, c⟩, r⟩
  | rng lo hi => obtain ⟨t, u, v, e⟩ := x; exact ⟨t, u, v, k _ _ (.inl rfl) e⟩
  | frz ob u ih => obtain ⟨e, q⟩ := x; exact ⟨k _ _ (.inl rfl) e, ih q⟩
  | tbl ps =>
    have e : h.get? a = some { cls := .none, data := .fields ps } := x
    show h'.get? a = some { cls := .none, data := .fields ps }
    exact k a _ (.inl rfl) e
  | met f y =>
    have e : h.get? a = some (PySem.W.methodObj (.ref f) (.ref y)) := x
    show h'.get? a = some (PySem.W.methodObj (.ref f) (.ref y))
    exact k a _ (.inl rfl) e
  | ext φ => obtain ⟨p, ⟨o, e⟩, st⟩ := x; exact ⟨st _ _ p fun o q => k _ _ (.inl rfl) q, ⟨o, k _ _ (.inl rfl) e⟩, st⟩
theorem HOk.lt (x : HOk P w H h) (e : H a = some o) : a < h.objs.size := (x a o e).lt
theorem HOk.fresh (x : HOk P w H h) (e : h.objs.size ≤ a) : H a = none := by
  cases q : H a with
  | none => rfl
  | some u => exact absurd (Nat.lt_of_lt_of_le (x.lt q) e) (Nat.lt_irrefl _)
theorem HOk.kept (x : HOk P w H h) (k : ∀ b u, h.get? b = some u → h'.get? b = some u) : HOk P w H h' := fun a o e =>
  (x a o e).stay (fun b u _ q => k b u q) (fun _ q => q) fun _ _ q => q
theorem HOk.laid (x : HOk P w H h) (k : ∀ b u, h.get? b = some u → h'.get? b = some u) (hp : h.objs.size ≤ a) (new : ObjOk P w (upd H a o) h' a o) : HOk P w (upd H a o) h' := fun b u e => by
  have hn := x.fresh hp
  by_cases hb : b = a
  · subst hb; rw [upd_same] at e; cases e; exact new
  · rw [upd_ne hb] at e
    exact (x b u e).stay (fun c v _ q => k c v q) (fun c q => by rw [upd_ne (ne_of_none q hn)]; exact q) fun c xs q => by rw [upd_ne (ne_of_none q hn)]; exact q
end

noncomputable def Rd (H : Hp) (a : Addr) (u : HO) : Prop := H a = some u ∨ ∃ o, H a = some (.frz o u)
theorem Rd.of {H : Hp} {a : Addr} {u : HO} (h : H a = some u) : Rd H a u := .inl h
theorem Rd.ok {P : Program} {w : World} {H : Hp} {h : Heap} {a : Addr} {u : HO} (r : Rd H a u) (x : HOk P w H h) : ObjOk P w H h a u := by
  rcases r with r | ⟨o, r⟩
  · exact x a u r
  · obtain ⟨_, q⟩ := x a _ r
    exact q
noncomputable def Mut : Option HO → Prop
  | some (.lst _) => True
  | some (.dK _) => True
  | some (.dT _) => True
  | some (.set _ _) => True
  | some (.ins _ _ _) => True
  | some (.ext _) => True
  | _ => False
section
variable {P : Program} {w : World} {H : Hp} {h h' : Heap} {x e : Addr} {o' : HO}
theorem HOk.write (ok : HOk P w H h) (mu : Mut (H x)) (he : e = x ∨ H e = some (.own x)) (k : ∀ b u, b ≠ e → h.get? b = some u → h'.get? b = some u) (heo : ∃ u, h'.get? e = some u)
    (new : ObjOk P w (upd H x o') h' x o') : HOk P w (upd H x o') h' := fun b u q => by
  have nown : ∀ c y, H c = some (.own y) → c ≠ x := fun c y r z => by subst z; rw [r] at mu; exact mu
  have ntup : ∀ c xs, H c = some (.tup xs) → c ≠ x := fun c xs r z => by subst z; rw [r] at mu; exact mu
  by_cases hb : b = x
  · subst hb; rw [upd_same] at q; cases q; exact new
  · rw [upd_ne hb] at q
    by_cases hbe : b = e
    · have q' : H b = some (.own x) := by
        rcases he with z | z
        · exact absurd (hbe.trans z) hb
        · rw [hbe]; exact z
      rw [q] at q'; cases q'
      obtain ⟨v, hv⟩ := heo
      exact ⟨v, by rw [hbe]; exact hv⟩
    · refine (ok b u q).stay (fun c v hc r => k c v ?_ r) (fun c r => by rw [upd_ne (nown c b r)]; exact r) fun c xs r => by rw [upd_ne (ntup c xs r)]; exact r
      rcases hc with rfl | hc
      · exact hbe
      · rintro rfl
        rcases he with z | z
        · exact nown c b hc z
        · rw [hc] at z; cases z; exact hb rfl
end

structure Un (fs ex : List Addr) (H H' : Hp) (h h' : Heap) : Prop where
  keep : ∀ b o, h.get? b = some o → H b = none → b ∉ fs → b ∉ ex → h'.get? b = some o
  slot : ∀ b o, h.get? b = some o → H b = none → b ∈ fs → b ∉ ex → ∃ sl, h'.get? b = some { o with slots := sl }
  free : ∀ b o, h.get? b = some o → H b = none → b ∉ ex → H' b = none
  there : ∀ b o, h.get? b = some o → b ∉ ex → ∃ o', h'.get? b = some o'
  tups : ∀ b xs, H b = some (.tup xs) → H' b = some (.tup xs)
  frzs : ∀ b o u, H b = some (.frz o u) → H' b = some (.frz o u)
  tbls : ∀ b ps, H b = some (.tbl ps) → ∃ more, H' b = some (.tbl (ps ++ more))
section
variable {fs fs' ex ex' : List Addr} {H H1 H2 : Hp} {h h1 h2 h' : Heap} {a x e : Addr} {o : HO}
theorem Un.any (u : Un fs ex H H1 h h1) {b : Addr} {ob : Obj} (q : h.get? b = some ob) (n : H b = none) (hx : b ∉ ex) : ∃ sl, h1.get? b = some { ob with slots := sl } := by
  by_cases hb : b ∈ fs
  · exact u.slot b ob q n hb hx
  · exact ⟨ob.slots, u.keep b ob q n hb hx⟩
theorem Un.trans (a : Un fs ex H H1 h h1) (b : Un fs ex H1 H2 h1 h2) : Un fs ex H H2 h h2 where
  keep := fun c ob q n hc hx => b.keep c ob (a.keep c ob q n hc hx) (a.free c ob q n hx) hc hx
  slot := fun c ob q n hc hx => by
    obtain ⟨sl, e1⟩ := a.slot c ob q n hc hx
    obtain ⟨sl', e2⟩ := b.slot c _ e1 (a.free c ob q n hx) hc hx
    exact ⟨sl', e2⟩
  free := fun c ob q n hx => by
    obtain ⟨o', e1⟩ := a.there c ob q hx
    exact b.free c o' e1 (a.free c ob q n hx) hx
  there := fun c ob q hx => by
    obtain ⟨o', e1⟩ := a.there c ob q hx
    exact b.there c o' e1 hx
  tups := fun c xs q => b.tups c xs (a.tups c xs q)
  frzs := fun c ob xs q => b.frzs c ob xs (a.frzs c ob xs q)
  tbls := fun c ps q => by
    obtain ⟨m1, e1⟩ := a.tbls c ps q
    obtain ⟨m2, e2⟩ := b.tbls c _ e1
    exact ⟨m1 ++ m2, by rw [e2, Array.append_assoc]⟩
theorem Un.kept (k : ∀ b u, h.get? b = some u → h'.get? b = some u) : Un fs ex H H h h' :=
  ⟨fun b ob q _ _ _ => k b ob q, fun b ob q _ _ _ => ⟨ob.slots, k b ob q⟩, fun _ _ _ n _ => n, fun b ob q _ => ⟨ob, k b ob q⟩, fun _ _ q => q, fun _ _ _ q => q, fun _ ps q => ⟨#[], by rw [q]; simp⟩⟩
theorem Un.refl : Un fs ex H H h h := Un.kept fun _ _ q => q
theorem Un.laid (k : ∀ b u, h.get? b = some u → h'.get? b = some u) (hp : h.objs.size ≤ a) (hn : H a = none) : Un fs ex H (upd H a o) h h' where
  keep := fun b u q _ _ _ => k b u q
  slot := fun b u q _ _ _ => ⟨u.slots, k b u q⟩
  free := fun b u q n _ => by rw [upd_ne (Nat.ne_of_lt (Nat.lt_of_lt_of_le (Heap.lt_size q) hp))]; exact n
  there := fun b u q _ => ⟨u, k b u q⟩
  tups := fun b xs q => by rw [upd_ne (ne_of_none q hn)]; exact q
  frzs := fun b u xs q => by rw [upd_ne (ne_of_none q hn)]; exact q
  tbls := fun b ps q => ⟨#[], by rw [upd_ne (ne_of_none q hn), q]; simp⟩
theorem Un.write (mu : Mut (H x)) (he : e = x ∨ H e = some (.own x)) (k : ∀ b u, b ≠ e → h.get? b = some u → h'.get? b = some u) (heo : ∃ u, h'.get? e = some u) : Un fs ex H (upd H x o) h h' := by
  have hx : ∀ b, H b = none → b ≠ x := fun b n z => by subst z; rw [n] at mu; exact mu
  have hb : ∀ b, H b = none → b ≠ e := fun b n z => by
    subst z
    rcases he with r | r
    · exact hx b n r
    · rw [n] at r; cases r
  have hm : ∀ b u, H b = some u → ¬ Mut (some u) → b ≠ x := fun b u q nm z => by subst z; rw [q] at mu; exact nm mu
  refine ⟨fun b u q n _ _ => k b u (hb b n) q, fun b u q n _ _ => ⟨u.slots, k b u (hb b n) q⟩, fun b u q n _ => by rw [upd_ne (hx b n)]; exact n, fun b u q _ => ?_,
    fun b xs q => by rw [upd_ne (hm b _ q fun z => z)]; exact q, fun b u xs q => by rw [upd_ne (hm b _ q fun z => z)]; exact q, fun b ps q => ⟨#[], by rw [upd_ne (hm b _ q fun z => z), q]; simp⟩⟩
  by_cases hbe : b = e
  · subst hbe; exact heo
  · exact ⟨u, k b u hbe q⟩
theorem Un.mono (u : Un fs ex H H1 h h1) (hs : ∀ b ∈ fs, b ∈ fs') (hx : ∀ b ∈ ex, b ∈ ex') : Un fs' ex' H H1 h h1 :=
  ⟨fun b ob q n hb he => u.keep b ob q n (fun z => hb (hs b z)) fun z => he (hx b z), fun _ _ q n _ he => u.any q n fun z => he (hx _ z), fun b ob q n he => u.free b ob q n fun z => he (hx b z), fun b ob q he => u.there b ob q fun z => he (hx b z), u.tups, u.frzs, u.tbls⟩
end

noncomputable def trk (h : Heap) (H : Hp) : List Addr := (List.range h.objs.size).filter fun a => (H a).isSome
noncomputable def hidT (h : Heap) (H : Hp) : Heap := PySem.W.hideAll h (trk h H)
theorem hidT_size (h : Heap) (H : Hp) : (hidT h H).objs.size = h.objs.size := PySem.W.hideAll_size _ _
theorem hidT_get {h : Heap} {H : Hp} {b : Addr} {o : Obj} (e : h.get? b = some o) (n : H b = none) : (hidT h H).get? b = some o :=
  PySem.W.hideAll_get _ e fun hm => by
    have q : (H b).isSome = true := (List.mem_filter.mp hm).2
    rw [n] at q; simp at q
theorem of_hidT {h : Heap} {H : Hp} {b : Addr} {o : Obj} (e : (hidT h H).get? b = some o) : h.get? b = some o ∧ H b = none := by
  have e' : h.get? b = some o := PySem.W.of_hideAll (trk h H) e
  refine ⟨e', ?_⟩
  cases q : H b with
  | none => rfl
  | some x =>
    have hm : b ∈ trk h H := List.mem_filter.mpr ⟨List.mem_range.mpr (Heap.lt_size e'), by simp [q]⟩
    have z : (hidT h H).get? b = none := PySem.W.hideAll_none (trk h H) hm
    rw [z] at e; cases e

noncomputable def allNews (g h : Heap) (L : Addr) : List (Addr × Obj) := (List.range h.objs.size).filterMap fun a => if a = L ∨ (g.get? a).isSome = true then none else (h.get? a).map fun o => (a, o)
noncomputable def rest (g h : Heap) (L d : Addr) : List (Addr × Obj) := (allNews g h L).filter fun p => decide (p.1 ≠ d)
end L2

namespace L2
open PySem PySem.Spec PyProof.Rows

structure Mod (K : PySem.W.Frag) (mg : Str → Option Value) (base : Heap) : Prop where
  kin : K.In base
  glob : base.Ns mainGlobals mg
  blt : ∃ mb, base.Ns builtinsNs mb ∧ ∀ x : Str, x ≠ "__name__" → mb x = bootBuiltins x
  nolimit : base.NoLimit

structure Cx where
  prog : Program
  w : World
  K : PySem.W.Frag
  mg : Str → Option Value
  base : Heap
  A : Around
  N : List Str
  s₀ : Shared
  H₀ : Hp
  env : Env
  outer : List Env
  stack : List Env
  ex : List Addr
  fn : Str → Bool
  calm : Bool
  pn : List (Addr × Obj)
  xe : Value → Shared → Prop
noncomputable def frs (l : List Env) : List Addr := l.filterMap (·.frame)
noncomputable abbrev Cx.fs (X : Cx) : List Addr := frs X.outer

noncomputable def Vis (sc : Scope) (x : Str) : Prop := sc.names.lookup x = some .local ∨ sc.names.lookup x = some .cell ∨ sc.names.lookup x = some .free
noncomputable def Loc (sc : Scope) (x : Str) : Prop := sc.names.lookup x = some .local ∨ sc.names.lookup x = some .cell
noncomputable def Look (env : Env) (h : Heap) (m : Str → Option Value) (x : Str) (u : Value) : Prop :=
  (env.kindOf x = some .local ∧ m x = some u) ∨ ((env.kindOf x = some .cell ∨ env.kindOf x = some .free) ∧ ∃ c, env.cells.lookup x = some c ∧ h.IsCell c (some u))

structure Cx.Ok (X : Cx) : Prop where
  mod : Mod X.K X.mg X.base
  kind : X.env.scope.kind = .function
  glob : X.env.globals = mainGlobals
  blt : X.env.builtins = builtinsNs
  above : X.s₀.heap.objs.size ≤ X.env.locals
  inj : ∀ x y c, X.env.cells.lookup x = some c → X.env.cells.lookup y = some c → x = y
  has : ∀ x, (X.env.kindOf x = some .cell ∨ X.env.kindOf x = some .free) → ∃ c, X.env.cells.lookup x = some c
  cab : ∀ x c, X.fn x = true → X.env.cells.lookup x = some c → X.s₀.heap.objs.size ≤ c
  hd : X.calm = true → X.A.handled = none
  frames : X.A.frames = some X.stack
  stk : X.stack = X.outer ∨ (X.stack = X.env :: X.outer ∧ X.env.frame = some X.env.locals)
  exf : ∀ b ∈ X.ex, b ≠ X.env.locals ∧ ∀ x c, X.env.cells.lookup x = some c → c ≠ b
  bs : ∀ b o, X.base.get? b = some o → X.s₀.heap.get? b = some o ∧ X.H₀ b = none
  bsz : X.base.objs.size ≤ X.s₀.heap.objs.size
  noex : ∀ b o, X.base.get? b = some o → b ∉ X.ex
  exfs : ∀ b ∈ X.ex, b ∉ X.fs
  funs : X.s₀.heap.FunFrames X.base X.outer
  frf : ∀ b ∈ X.fs, X.H₀ b = none

structure Inv (X : Cx) (pins : List (Addr × Obj)) (σ : List (Option V)) (H : Hp) (s : Shared) : Prop where
  ok : X.Ok
  os : s.os = X.s₀.os
  bare : AllBare s.gens
  base : Un X.fs X.ex X.H₀ H X.s₀.heap s.heap
  loc : ∃ m, s.heap.Ns X.env.locals m ∧ ∀ (i : Nat) (x : Str) (v : V), X.N[i]? = some x → σ[i]? = some (some v) → Vis X.env.scope x → ∃ u, RelV v u ∧ Look X.env s.heap m x u
  cell : ∀ x c, X.env.cells.lookup x = some c → ∃ v, s.heap.IsCell c v
  free : H X.env.locals = none
  freeC : ∀ x c, X.env.cells.lookup x = some c → H c = none
  pin : ∀ p ∈ X.pn ++ pins, s.heap.get? p.1 = some p.2 ∧ H p.1 = none ∧ p.1 ≠ X.env.locals ∧ p.1 ∉ X.fs ∧ ∀ v, p.2.data ≠ .cell v
  hok : HOk X.prog X.w H s.heap
  len : σ.length = X.N.length

section
variable {X : Cx} {pins : List (Addr × Obj)} {σ : List (Option V)} {H H' : Hp} {s : Shared} {h' : Heap}

theorem Cx.Ok.nofr (ok : X.Ok) {b : Addr} {o : Obj} (e : X.base.get? b = some o) : b ∉ X.fs := fun hb => by
  have := (ok.funs.mem hb).1
  rw [e] at this; cases this
theorem Inv.bs (I : Inv X pins σ H s) : ∀ b o, X.base.get? b = some o → s.heap.get? b = some o ∧ H b = none := fun b o e =>
  ⟨I.base.keep b o (I.ok.bs b o e).1 (I.ok.bs b o e).2 (I.ok.nofr e) (I.ok.noex b o e), I.base.free b o (I.ok.bs b o e).1 (I.ok.bs b o e).2 (I.ok.noex b o e)⟩
theorem Inv.bk (I : Inv X pins σ H s) : ∀ b o, X.base.get? b = some o → s.heap.get? b = some o := fun b o e => (I.bs b o e).1
theorem Inv.mod (I : Inv X pins σ H s) : Mod X.K X.mg X.base := I.ok.mod
theorem Inv.kIn (I : Inv X pins σ H s) : X.K.In s.heap := I.ok.mod.kin.keeps I.bk
theorem Inv.nolimit (I : Inv X pins σ H s) : s.heap.NoLimit := I.ok.mod.nolimit.keeps I.bk
theorem Inv.fr (I : Inv X pins σ H s) : ∃ m, Fr X.base X.env.locals s.heap m :=
  let ⟨m, hn, _⟩ := I.loc
  ⟨m, hn, I.bk, Nat.le_trans I.ok.bsz I.ok.above⟩
theorem Inv.lt (I : Inv X pins σ H s) : X.env.locals < s.heap.objs.size := let ⟨_, hn, _⟩ := I.loc; hn.lt
theorem Inv.sz (I : Inv X pins σ H s) : X.s₀.heap.objs.size ≤ s.heap.objs.size := Nat.le_trans I.ok.above (Nat.le_of_lt I.lt)
theorem Inv.nofs (I : Inv X pins σ H s) {a : Addr} (h : s.heap.objs.size ≤ a) : a ∉ X.fs := fun hb => by
  obtain ⟨_, o, ho, _⟩ := I.ok.funs.mem hb
  exact absurd (Nat.lt_of_lt_of_le (Heap.lt_size ho) (Nat.le_trans I.sz h)) (Nat.lt_irrefl _)
theorem Inv.cne (I : Inv X pins σ H s) : ∀ x c, X.env.cells.lookup x = some c → c ≠ X.env.locals := fun x c e z => by
  obtain ⟨v, o, ho, hd⟩ := I.cell x c e
  obtain ⟨m, ⟨o', es, ep, ho', hd', _⟩, _⟩ := I.loc
  rw [z, ho'] at ho; cases ho; rw [hd'] at hd; cases hd
theorem Inv.funs (I : Inv X pins σ H s) : s.heap.FunFrames X.base X.outer := by
  have all : ∀ (l : List Env), (∀ b ∈ frs l, b ∈ X.fs) → X.s₀.heap.FunFrames X.base l → s.heap.FunFrames X.base l := by
    intro l
    induction l with
    | nil => intro _ _; trivial
    | cons env r ih =>
      intro hs hl
      obtain ⟨hk, ⟨L, o, hf, hn, ho, hd⟩, hr⟩ := hl
      have hL : L ∈ X.fs := hs L (by unfold frs; rw [List.filterMap_cons, hf]; exact List.mem_cons_self)
      obtain ⟨sl, e⟩ := I.base.slot L o ho (I.ok.frf L hL) hL fun z => I.ok.exfs L z hL
      exact ⟨hk, ⟨L, _, hf, hn, e, hd⟩, ih (fun b hb => hs b (by unfold frs; rw [List.filterMap_cons, hf]; exact List.mem_cons_of_mem _ hb)) hr⟩
  exact all X.outer (fun _ hb => hb) I.ok.funs

theorem Inv.stack (I : Inv X pins σ H s) : s.heap.FunFrames X.base X.stack := by
  rcases I.ok.stk with e | ⟨e, hf⟩
  · rw [e]; exact I.funs
  · rw [e]
    obtain ⟨m, hn, _⟩ := I.loc
    refine .cons (by rw [I.ok.kind]; decide) hf hn ?_ I.funs
    exact Heap.get?_none_of_le (Nat.le_trans I.ok.bsz I.ok.above)
theorem Inv.stkSub (I : Inv X pins σ H s) : ∀ b ∈ frs X.stack, b ∈ X.env.locals :: X.fs := fun b hb => by
  rcases I.ok.stk with e | ⟨e, hf⟩
  · rw [e] at hb; exact List.mem_cons_of_mem _ hb
  · rw [e] at hb
    unfold frs at hb
    rw [List.filterMap_cons, hf] at hb
    exact hb
theorem Inv.stkFree (I : Inv X pins σ H s) : ∀ b ∈ frs X.stack, H b = none := fun b hb => by
  rcases List.mem_cons.mp (I.stkSub b hb) with e | hb
  · rw [e]; exact I.free
  · obtain ⟨_, o, ho, _⟩ := I.ok.funs.mem hb
    exact I.base.free b o ho (I.ok.frf b hb) fun z => I.ok.exfs b z hb

theorem Inv.step {g' : Array GenState} {t' : Nat} {d' : Drawn} {ch : List Addr} (I : Inv X pins σ H s)
    (hch : ∀ b ∈ ch, (b ∈ X.ex ∨ X.s₀.heap.objs.size ≤ b) ∧ b ≠ X.env.locals ∧ (∀ x c, X.env.cells.lookup x = some c → c ≠ b) ∧ ∀ p ∈ X.pn ++ pins, p.1 ≠ b)
    (keep : ∀ b o, b ≠ X.env.locals → b ∉ X.fs → b ∉ ch → s.heap.get? b = some o → H b = none → h'.get? b = some o)
    (slot : ∀ b o, b ≠ X.env.locals → b ∈ X.fs → b ∉ ch → s.heap.get? b = some o → H b = none → ∃ sl, h'.get? b = some { o with slots := sl }) (free : ∀ b o, b ∉ ch → s.heap.get? b = some o → H b = none → H' b = none)
    (there : ∀ b o, b ∉ ch → s.heap.get? b = some o → ∃ o', h'.get? b = some o')
    (tups : ∀ b xs, H b = some (.tup xs) → H' b = some (.tup xs)) (frzs : ∀ b o u, H b = some (.frz o u) → H' b = some (.frz o u)) (tbls : ∀ b ps, H b = some (.tbl ps) → ∃ more, H' b = some (.tbl (ps ++ more)))
    (ns : ∀ m, s.heap.Ns X.env.locals m → h'.Ns X.env.locals m) (hok : HOk X.prog X.w H' h') (hg : AllBare g') :
    Inv X pins σ H' { s with heap := h', gens := g', drawn := d', toks := t' } := by
  have neL : ∀ b o, X.s₀.heap.get? b = some o → b ≠ X.env.locals := fun b o e => Nat.ne_of_lt (Nat.lt_of_lt_of_le (Heap.lt_size e) I.ok.above)
  have neC : ∀ b o, X.s₀.heap.get? b = some o → b ∉ X.ex → b ∉ ch := fun b o e hx hb => by
    rcases (hch b hb).1 with z | z
    · exact hx z
    · exact absurd (Nat.lt_of_lt_of_le (Heap.lt_size e) z) (Nat.lt_irrefl _)
  have cellK : ∀ x c, X.env.cells.lookup x = some c → ∀ v, s.heap.IsCell c v → h'.IsCell c v := fun x c e v ⟨o, ho, hd⟩ => by
    have nch : c ∉ ch := fun z => (hch c z).2.2.1 x c e rfl
    by_cases hc : c ∈ X.fs
    · obtain ⟨sl, q⟩ := slot c o (I.cne x c e) hc nch ho (I.freeC x c e)
      exact ⟨_, q, hd⟩
    · exact ⟨o, keep c o (I.cne x c e) hc nch ho (I.freeC x c e), hd⟩
  refine ⟨I.ok, I.os, hg, ⟨fun b o e n hb hx => ?_, fun b o e n hb hx => ?_, fun b o e n hx => ?_, fun b o e hx => ?_, fun b xs e => tups b xs (I.base.tups b xs e), fun b o xs e => frzs b o xs (I.base.frzs b o xs e), fun b ps e => ?_⟩, ?_, fun x c e => ?_, ?_, fun x c e => ?_, fun p hp => ?_, hok, I.len⟩
  · exact keep b o (neL b o e) hb (neC b o e hx) (I.base.keep b o e n hb hx) (I.base.free b o e n hx)
  · obtain ⟨sl, e1⟩ := I.base.slot b o e n hb hx
    obtain ⟨sl', e2⟩ := slot b _ (neL b o e) hb (neC b o e hx) e1 (I.base.free b o e n hx)
    exact ⟨sl', e2⟩
  · obtain ⟨o', e1⟩ := I.base.there b o e hx
    exact free b o' (neC b o e hx) e1 (I.base.free b o e n hx)
  · obtain ⟨o', e1⟩ := I.base.there b o e hx
    exact there b o' (neC b o e hx) e1
  · obtain ⟨m1, e1⟩ := I.base.tbls b ps e
    obtain ⟨m2, e2⟩ := tbls b _ e1
    exact ⟨m1 ++ m2, by rw [e2, Array.append_assoc]⟩
  · obtain ⟨m, hn, hl⟩ := I.loc
    refine ⟨m, ns m hn, fun i x v e1 e2 e3 => ?_⟩
    obtain ⟨u, r, l⟩ := hl i x v e1 e2 e3
    refine ⟨u, r, ?_⟩
    rcases l with l | ⟨k, c, e, z⟩
    · exact .inl l
    · exact .inr ⟨k, c, e, cellK x c e _ z⟩
  · obtain ⟨v, z⟩ := I.cell x c e
    exact ⟨v, cellK x c e v z⟩
  · obtain ⟨m, ⟨o, _, _, ho, _⟩, _⟩ := I.loc
    exact free _ o (fun z => (hch _ z).2.1 rfl) ho I.free
  · obtain ⟨v, o, ho, hd⟩ := I.cell x c e
    exact free c o (fun z => (hch c z).2.2.1 x c e rfl) ho (I.freeC x c e)
  · obtain ⟨e, n, ne, nf, d⟩ := I.pin p hp
    have nch : p.1 ∉ ch := fun z => (hch p.1 z).2.2.2 p hp rfl
    exact ⟨keep p.1 p.2 ne nf nch e n, free p.1 p.2 nch e n, ne, nf, d⟩
theorem Inv.un {t' : Nat} (I : Inv X pins σ H s) (u : Un X.fs [] H H' s.heap h') (hok : HOk X.prog X.w H' h') : Inv X pins σ H' { s with heap := h', toks := t' } := by
  obtain ⟨m, ⟨o, es, ep, ho, r⟩, _⟩ := id I.loc
  obtain ⟨sl, hL⟩ := u.any ho I.free (by simp)
  exact I.step (g' := s.gens) (d' := s.drawn) (ch := []) (fun _ z => nomatch z) (fun b o _ hb _ e n => u.keep b o e n hb (by simp)) (fun b o _ hb _ e n => u.slot b o e n hb (by simp)) (fun b o _ e n => u.free b o e n (by simp)) (fun b o _ e => u.there b o e (by simp)) u.tups u.frzs u.tbls (fun m' hm => by
    obtain ⟨o', es', ep', ho', r'⟩ := hm
    rw [ho] at ho'; cases ho'
    exact ⟨_, es', ep', hL, r'⟩) hok I.bare
theorem Inv.call {g' : Array GenState} {t' : Nat} {d' : Drawn} {ch : List Addr} (I : Inv X pins σ H s) (u : Un (frs X.stack) ch H H' s.heap h') (hok : HOk X.prog X.w H' h') (hg : AllBare g')
    (hch : ∀ b ∈ ch, (b ∈ X.ex ∨ X.s₀.heap.objs.size ≤ b) ∧ b ≠ X.env.locals ∧ (∀ x c, X.env.cells.lookup x = some c → c ≠ b) ∧ ∀ p ∈ X.pn ++ pins, p.1 ≠ b) :
    Inv X pins σ H' { s with heap := h', gens := g', drawn := d', toks := t' } := by
  obtain ⟨m, ⟨o, es, ep, ho, r⟩, _⟩ := id I.loc
  obtain ⟨sl, hL⟩ := u.any ho I.free fun z => (hch _ z).2.1 rfl
  exact I.step (ch := ch) hch (fun b o hL hb hc e n => u.keep b o e n (fun z => (List.mem_cons.mp (I.stkSub b z)).elim hL hb) hc) (fun b o _ _ hc e n => u.any e n hc) (fun b o hc e n => u.free b o e n hc) (fun b o hc e => u.there b o e hc) u.tups u.frzs u.tbls (fun m' hm => by
    obtain ⟨o', es', ep', ho', r'⟩ := hm
    rw [ho] at ho'; cases ho'
    exact ⟨_, es', ep', hL, r'⟩) hok hg
theorem Inv.turned {t' : Nat} {it : Addr} (I : Inv X pins σ H s) (k : ∀ b o, b ≠ it → s.heap.get? b = some o → h'.get? b = some o) (hn : H it = none) (hL : it ≠ X.env.locals)
    (h1 : it ∈ X.ex ∨ X.s₀.heap.objs.size ≤ it) (h2 : ∀ x c, X.env.cells.lookup x = some c → c ≠ it) (h3 : ∀ p ∈ X.pn ++ pins, p.1 ≠ it) : Inv X pins σ H { s with heap := h', toks := t' } := by
  have nit : ∀ b u, H b = some u → b ≠ it := fun b u e z => by rw [z, hn] at e; cases e
  refine I.step (g' := s.gens) (d' := s.drawn) (ch := [it]) (fun b hb => ?_) (fun b o _ _ hc e _ => k b o (fun z => hc (by simp [z])) e) (fun b o _ _ hc e _ => ⟨o.slots, k b o (fun z => hc (by simp [z])) e⟩) (fun _ _ _ _ n => n)
    (fun b o hc e => ⟨o, k b o (fun z => hc (by simp [z])) e⟩) (fun _ _ e => e) (fun _ _ _ e => e) (fun b ps e => ⟨#[], by rw [e]; simp⟩) (fun m hm => ?_) (fun b u e => ?_) I.bare
  · have e : b = it := by simpa using hb
    subst e
    exact ⟨h1, hL, h2, h3⟩
  · obtain ⟨o, es, ep, ho, r⟩ := hm
    exact ⟨o, es, ep, k _ o (Ne.symm hL) ho, r⟩
  · refine (I.hok b u e).stay (fun c v hc q => k c v ?_ q) (fun _ q => q) fun _ _ q => q
    rcases hc with z | z
    · rw [z]; exact nit b u e
    · exact nit c _ z
theorem Inv.tok (I : Inv X pins σ H s) (t : Nat) : Inv X pins σ H { s with toks := t } := I.un (h' := s.heap) (t' := t) Un.refl I.hok
theorem Inv.kept {t' : Nat} (I : Inv X pins σ H s) (k : ∀ b u, s.heap.get? b = some u → h'.get? b = some u) : Inv X pins σ H { s with heap := h', toks := t' } := I.un (Un.kept k) (I.hok.kept k)
theorem Inv.laid {a : Addr} {o : HO} {t' : Nat} (I : Inv X pins σ H s) (k : ∀ b u, s.heap.get? b = some u → h'.get? b = some u) (hp : s.heap.objs.size ≤ a) (new : ObjOk X.prog X.w (upd H a o) h' a o) :
    Inv X pins σ (upd H a o) { s with heap := h', toks := t' } := I.un (Un.laid k hp (I.hok.fresh hp)) (I.hok.laid k hp new)
theorem Inv.write {x e : Addr} {o : HO} {t' : Nat} (I : Inv X pins σ H s) (mu : Mut (H x)) (he : e = x ∨ H e = some (.own x)) (k : ∀ b u, b ≠ e → s.heap.get? b = some u → h'.get? b = some u) (heo : ∃ u, h'.get? e = some u)
    (new : ObjOk X.prog X.w (upd H x o) h' x o) : Inv X pins σ (upd H x o) { s with heap := h', toks := t' } := I.un (Un.write mu he k heo) (I.hok.write mu he k heo new)
theorem Inv.pins_of {pins' : List (Addr × Obj)} (I : Inv X pins σ H s) (h : ∀ p ∈ pins', s.heap.get? p.1 = some p.2 ∧ H p.1 = none ∧ p.1 ≠ X.env.locals ∧ p.1 ∉ X.fs ∧ ∀ v, p.2.data ≠ .cell v) : Inv X pins' σ H s :=
  ⟨I.ok, I.os, I.bare, I.base, I.loc, I.cell, I.free, I.freeC, fun p hp => (List.mem_append.mp hp).elim (fun z => I.pin p (List.mem_append_left _ z)) (h p), I.hok, I.len⟩

theorem nodup_ix {N : List Str} (hN : N.Nodup) {i j : Nat} {x : Str} (a : N[i]? = some x) (b : N[j]? = some x) : i = j := by
  obtain ⟨h1, e1⟩ := List.getElem?_eq_some_iff.mp a
  obtain ⟨h2, e2⟩ := List.getElem?_eq_some_iff.mp b
  exact (List.getElem_inj hN).mp (e1.trans e2.symm)

theorem store_ok2 {M : Model} {A : Around} {E : Value → Shared → Prop} {i : Nat} {x : Str} {v : V} {u : Value} {Q : Unit → Shared → Prop} (I : Inv X pins σ H s) (hN : X.N.Nodup) (hi : X.N[i]? = some x) (hx : Loc X.env.scope x) (r : RelV v u)
    (h : ∀ s', Inv X pins (σ.set i (some v)) H s' → (∃ a, Heap.SameBut a s.heap s'.heap ∧ (a = X.env.locals ∨ X.env.cells.lookup x = some a)) → Q () s') (hf : X.fn x = true ∨ X.env.scope.names.lookup x = some .local := by first | exact .inl rfl | exact .inr rfl | assumption) : wpAny M A (storeName X.env x u) Q E s := by
  obtain ⟨m, hn, hl⟩ := id I.loc
  have hcls : (X.env.scope.kind == .class || (X.env.scope.kind == .module && X.env.locals != X.env.globals)) = false := by rw [I.ok.kind]; rfl
  have hiσ : i < σ.length := by rw [I.len]; exact (List.getElem?_eq_some_iff.mp hi).1
  have cne := I.cne
  have tracked : ∀ {a : Addr} {h' : Heap}, (∃ o, s.heap.get? a = some o ∧ H a = none) → Heap.SameBut a s.heap h' → HOk X.prog X.w H h' := fun {a h'} ha hs b ob e => by
    obtain ⟨_, _, hfree⟩ := ha
    refine (I.hok b ob e).stay (fun c w' hc q => (hs.2 c ?_).trans q) (fun _ q => q) fun _ _ q => q
    rintro rfl
    rcases hc with rfl | hc
    · rw [hfree] at e; cases e
    · rw [hfree] at hc; cases hc
  rcases hx with hk | hk
  · refine wpAny_storeName_local hk hn (fun h' hn' hs => ?_) hcls
    obtain ⟨oL, _, _, hoL, _⟩ := id hn
    refine h _ ⟨I.ok, I.os, I.bare, ⟨fun b o e n hb hx => ?_, fun b o e n hb hx => ?_, I.base.free, fun b o e hx => ?_, I.base.tups, I.base.frzs, I.base.tbls⟩, ⟨_, hn', fun j y v' e1 e2 e3 => ?_⟩, fun y c e => ?_, I.free, I.freeC, fun p hp => ?_, tracked ⟨oL, hoL, I.free⟩ hs, by simpa using I.len⟩ ⟨_, hs, .inl rfl⟩
    · exact (hs.2 b (Nat.ne_of_lt (Nat.lt_of_lt_of_le (Heap.lt_size e) I.ok.above))).trans (I.base.keep b o e n hb hx)
    · obtain ⟨sl, e1⟩ := I.base.slot b o e n hb hx
      exact ⟨sl, (hs.2 b (Nat.ne_of_lt (Nat.lt_of_lt_of_le (Heap.lt_size e) I.ok.above))).trans e1⟩
    · obtain ⟨o', e1⟩ := I.base.there b o e hx
      exact ⟨o', (hs.2 b (Nat.ne_of_lt (Nat.lt_of_lt_of_le (Heap.lt_size e) I.ok.above))).trans e1⟩
    · by_cases hj : j = i
      · subst hj
        rw [hi] at e1; cases e1
        rw [List.getElem?_set_self hiσ] at e2
        cases e2
        exact ⟨u, r, .inl ⟨hk, by simp⟩⟩
      · rw [List.getElem?_set_ne (Ne.symm hj)] at e2
        obtain ⟨u', r', q⟩ := hl j y v' e1 e2 e3
        refine ⟨u', r', ?_⟩
        rcases q with ⟨k, e⟩ | ⟨k, c, e, z⟩
        · refine .inl ⟨k, ?_⟩
          have : y ≠ x := fun e => hj (nodup_ix hN e1 (e ▸ hi))
          simp [this, e]
        · exact .inr ⟨k, c, e, z.sameBut hs (cne y c e)⟩
    · obtain ⟨w', z⟩ := I.cell y c e
      exact ⟨w', z.sameBut hs (cne y c e)⟩
    · obtain ⟨e, n, ne, nf, d⟩ := I.pin p hp
      exact ⟨(hs.2 p.1 ne).trans e, n, ne, nf, d⟩
  · have hfn : X.fn x = true := by
      rcases hf with z | z
      · exact z
      · rw [z] at hk; cases hk
    obtain ⟨c, hc⟩ := I.ok.has x (.inl hk)
    obtain ⟨w', z⟩ := I.cell x c hc
    refine wpAny_storeName_cell I.ok.kind hk hc z (fun h' hc' hs => ?_)
    obtain ⟨oc, hoc, hocd⟩ := id z
    refine h { s with heap := h' } ⟨I.ok, I.os, I.bare, ⟨fun b o e n hb hx => ?_, fun b o e n hb hx => ?_, I.base.free, fun b o e hx => ?_, I.base.tups, I.base.frzs, I.base.tbls⟩, ⟨m, hn.sameBut hs (Ne.symm (cne x c hc)), fun j y v' e1 e2 e3 => ?_⟩, fun y c' e => ?_, I.free, I.freeC, fun p hp => ?_, tracked ⟨oc, hoc, I.freeC x c hc⟩ hs, by simpa using I.len⟩ ⟨c, hs, .inr hc⟩
    · exact (hs.2 b (Nat.ne_of_lt (Nat.lt_of_lt_of_le (Heap.lt_size e) (I.ok.cab x c hfn hc)))).trans (I.base.keep b o e n hb hx)
    · obtain ⟨sl, e1⟩ := I.base.slot b o e n hb hx
      exact ⟨sl, (hs.2 b (Nat.ne_of_lt (Nat.lt_of_lt_of_le (Heap.lt_size e) (I.ok.cab x c hfn hc)))).trans e1⟩
    · obtain ⟨o', e1⟩ := I.base.there b o e hx
      exact ⟨o', (hs.2 b (Nat.ne_of_lt (Nat.lt_of_lt_of_le (Heap.lt_size e) (I.ok.cab x c hfn hc)))).trans e1⟩
    · by_cases hj : j = i
      · subst hj
        rw [hi] at e1; cases e1
        rw [List.getElem?_set_self hiσ] at e2
        cases e2
        exact ⟨u, r, .inr ⟨.inl hk, c, hc, hc'⟩⟩
      · rw [List.getElem?_set_ne (Ne.symm hj)] at e2
        obtain ⟨u', r', q⟩ := hl j y v' e1 e2 e3
        refine ⟨u', r', ?_⟩
        rcases q with q | ⟨k, c', e, z'⟩
        · exact .inl q
        · refine .inr ⟨k, c', e, z'.sameBut hs ?_⟩
          rintro rfl
          exact hj (nodup_ix hN e1 (I.ok.inj _ _ _ e hc ▸ hi))
    · by_cases hcc : c' = c
      · subst hcc; exact ⟨_, hc'⟩
      · obtain ⟨w2, z2⟩ := I.cell y c' e
        exact ⟨w2, z2.sameBut hs hcc⟩
    · obtain ⟨e, n, ne, nf, d⟩ := I.pin p hp
      refine ⟨(hs.2 p.1 ?_).trans e, n, ne, nf, d⟩
      intro q
      rw [q, hoc] at e
      have q' : oc = p.2 := Option.some.inj e
      exact d w' (by rw [← q']; exact hocd)
theorem store_ok {M : Model} {A : Around} {E : Value → Shared → Prop} {i : Nat} {x : Str} {v : V} {u : Value} {Q : Unit → Shared → Prop} (I : Inv X pins σ H s) (hN : X.N.Nodup) (hi : X.N[i]? = some x) (hx : Loc X.env.scope x) (r : RelV v u)
    (h : ∀ s', Inv X pins (σ.set i (some v)) H s' → Q () s') (hf : X.fn x = true ∨ X.env.scope.names.lookup x = some .local := by first | exact .inl rfl | exact .inr rfl | assumption) : wpAny M A (storeName X.env x u) Q E s :=
  store_ok2 I hN hi hx r (fun s' I' _ => h s' I') hf
theorem Inv.call' {s' : Shared} {ch : List Addr} (I : Inv X pins σ H s) (ho : s'.os = s.os) (u : Un (frs X.stack) ch H H' s.heap s'.heap) (hok : HOk X.prog X.w H' s'.heap) (hg : AllBare s'.gens)
    (hch : ∀ b ∈ ch, (b ∈ X.ex ∨ X.s₀.heap.objs.size ≤ b) ∧ b ≠ X.env.locals ∧ (∀ x c, X.env.cells.lookup x = some c → c ≠ b) ∧ ∀ p ∈ X.pn ++ pins, p.1 ≠ b) : Inv X pins σ H' s' := by
  obtain ⟨h', g', d', t', o'⟩ := s'
  have e : o' = s.os := ho
  subst e
  exact I.call (g' := g') (t' := t') (d' := d') u hok hg hch
end

noncomputable abbrev XK := Value → Option Addr → Hp → Prop
noncomputable abbrev St := List (Option V)
noncomputable abbrev VK := V → Hp → Prop
noncomputable abbrev TE := St → Hp → VK → Prop
noncomputable abbrev TT := St → Hp → (Bool → Hp → Prop) → Prop
noncomputable abbrev TA := St → Hp → (List V → Hp → Prop) → Prop
structure Ends where
  nx : St → Hp → Prop
  rt : VK
  bk : St → Hp → Prop := fun _ _ => False
  ct : St → Hp → Prop := fun _ _ => False
noncomputable abbrev TS := Ends → St → Hp → Prop

noncomputable def EP (X : Cx) (pins : List (Addr × Obj)) (σ : St) (Q : VK) (u : Value) (s' : Shared) : Prop := ∃ v H', Inv X pins σ H' s' ∧ RelV v u ∧ Q v H'
noncomputable def TP (X : Cx) (pins : List (Addr × Obj)) (σ : St) (Q : Bool → Hp → Prop) (b : Bool) (s' : Shared) : Prop := ∃ H', Inv X pins σ H' s' ∧ Q b H'
noncomputable def AP (X : Cx) (pins : List (Addr × Obj)) (σ : St) (Q : List V → Hp → Prop) (us : List Value) (s' : Shared) : Prop := ∃ vs H', Inv X pins σ H' s' ∧ Vals vs us ∧ Q vs H'
noncomputable def SP (X : Cx) (pins : List (Addr × Obj)) (D : Ends) (f : Flow) (s' : Shared) : Prop :=
  match f with
  | .next => ∃ σ' H', Inv X pins σ' H' s' ∧ D.nx σ' H'
  | .brk => ∃ σ' H', Inv X pins σ' H' s' ∧ D.bk σ' H'
  | .cont => ∃ σ' H', Inv X pins σ' H' s' ∧ D.ct σ' H'
  | .ret u => ∃ v σ' H', Inv X pins σ' H' s' ∧ RelV v u ∧ D.rt v H'

noncomputable def PE (X : Cx) (e : Expr) (t : TE) : Prop :=
  ∀ (pins : List (Addr × Obj)) (s : Shared) (σ : St) (H : Hp) (Q : VK), Inv X pins σ H s → t σ H Q → wpAny (model X.prog X.w) X.A (eval e X.env) (EP X pins σ Q) X.xe s
noncomputable def PT (X : Cx) (e : Expr) (t : TT) : Prop :=
  ∀ (pins : List (Addr × Obj)) (s : Shared) (σ : St) (H : Hp) (Q : Bool → Hp → Prop), Inv X pins σ H s → t σ H Q → wpAny (model X.prog X.w) X.A (isTrue e X.env (eval e X.env)) (TP X pins σ Q) X.xe s
noncomputable def PW (X : Cx) (e : Expr) (t : TT) : Prop :=
  ∀ (whole : Sem Value) (pins : List (Addr × Obj)) (s : Shared) (σ : St) (H : Hp) (Q : Bool → Hp → Prop), Inv X pins σ H s → t σ H Q → wpAny (model X.prog X.w) X.A (isTrue e X.env whole) (TP X pins σ Q) X.xe s
theorem PW.pt {X : Cx} {e : Expr} {t : TT} (h : PW X e t) : PT X e t := h _
noncomputable def PA (X : Cx) (es : List Expr) (t : TA) : Prop :=
  ∀ (pos : Pos) (pins : List (Addr × Obj)) (s : Shared) (σ : St) (H : Hp) (Q : List V → Hp → Prop), Inv X pins σ H s → t σ H Q → wpAny (model X.prog X.w) X.A (spliced (backTo pos (starEach es X.env))) (AP X pins σ Q) X.xe s
noncomputable def PS (X : Cx) (st : Stmt) (t : TS) : Prop :=
  ∀ (pins : List (Addr × Obj)) (s : Shared) (σ : St) (H : Hp) (D : Ends), Inv X pins σ H s → t D σ H → wpAny (model X.prog X.w) X.A (exec st X.env) (SP X pins D) X.xe s
noncomputable def PSs (X : Cx) (st : List Stmt) (t : TS) : Prop :=
  ∀ (pins : List (Addr × Obj)) (s : Shared) (σ : St) (H : Hp) (D : Ends), Inv X pins σ H s → t D σ H → wpAny (model X.prog X.w) X.A (execs st X.env) (SP X pins D) X.xe s
theorem thn {α : Type} {t : Sem α} {Q Q' : α → Shared → Prop} {M : Model} {A : Around} {E : Value → Shared → Prop} {s : Shared} (h : wpAny M A t Q E s) (hQ : ∀ a s, Q a s → Q' a s) : wpAny M A t Q' E s := wpAny_mono h hQ fun _ _ x => x
end L2

namespace L2
open PySem PySem.Spec PyProof.Rows
section
variable {X : Cx}

theorem bin {a b : Expr} {ta tb : TE} (ha : PE X a ta) (hb : PE X b tb) {pins : List (Addr × Obj)} {s : Shared} {σ : St} {H : Hp} {R : V → V → Hp → Prop} (I : Inv X pins σ H s) (h : ta σ H fun x H1 => tb σ H1 fun y H2 => R x y H2)
    {α : Type} {Q : α → Shared → Prop} {f : Value → Value → Sem α}
    (hf : ∀ v u s2 x y H2, Inv X pins σ H2 s2 → RelV x v → RelV y u → R x y H2 → wpAny (model X.prog X.w) X.A (f v u) Q X.xe s2) :
    wpAny (model X.prog X.w) X.A (eval a X.env) (fun v s₁ => wpAny (model X.prog X.w) X.A (eval b X.env) (fun u s₂ => wpAny (model X.prog X.w) X.A (f v u) Q X.xe s₂) X.xe s₁) X.xe s := by
  refine thn (ha pins s σ H _ I h) fun v s1 ⟨x, H1, I1, r1, q1⟩ => ?_
  refine thn (hb pins s1 σ H1 _ I1 q1) fun u s2 ⟨y, H2, I2, r2, q2⟩ => ?_
  exact hf v u s2 x y H2 I2 r1 r2 q2

noncomputable def tVar (i : Nat) : TE := fun σ H Q => ∃ v, σ[i]? = some (some v) ∧ Q v H
noncomputable def tC (v : V) : TE := fun _ H Q => Q v H
theorem pe_var {i : Nat} {x : Str} {pos : Pos} (hN : X.N[i]? = some x) (hv : Vis X.env.scope x) (hd : (x == ("__debug__" : Str)) = false := by decide) (hcd : (x == ("__classdict__" : Str)) = false := by decide) : PE X (.Name x pos) (tVar i) := by
  intro pins s σ H Q I h
  obtain ⟨v, e, h⟩ := h
  obtain ⟨m, hn, hl⟩ := I.loc
  obtain ⟨u, r, l⟩ := hl i x v hN e hv
  have fin : EP X pins σ Q u s := ⟨v, H, I, r, h⟩
  rcases l with ⟨hk, hm⟩ | ⟨hk, c, hc, hcell⟩
  · exact wpAny_Name (wpAny_loadName_local I.ok.kind hk hn hm fin) hd
  · rcases hk with hk | hk
    · exact wpAny_Name (wpAny_loadName_cell I.ok.kind hk hc hcell fin) hd
    · exact wpAny_Name (wpAny_loadName_free I.ok.kind hk hc hcell fin hcd) hd
theorem pe_int {i j pos} : PE X (.Constant (.int i) j pos) (tC (.int i)) := fun _ _ _ H _ I h => wpAny_Constant_int ⟨.int i, H, I.tok _, ⟨_, rfl⟩, h⟩
theorem pe_bl {b j pos} : PE X (.Constant (.bool b) j pos) (tC (.bl b)) := fun _ _ _ H _ I h => Constant_bool ⟨.bl b, H, I, rfl, h⟩
theorem pe_non {j pos} : PE X (.Constant .none j pos) (tC .non) := fun _ _ _ H _ I h => Constant_none ⟨.non, H, I, rfl, h⟩
theorem pe_str {x j pos} : PE X (.Constant (.str x) j pos) (tC (.str x)) := fun _ _ _ H _ I h => Calls.Constant_str ⟨.str x, H, I.tok _, ⟨_, rfl⟩, h⟩

noncomputable def Gl (X : Cx) (x : Str) : Prop := X.env.kindOf x = some .globalImplicit
theorem ld_glob {E : Value → Shared → Prop} {pins : List (Addr × Obj)} {s : Shared} {σ : St} {H : Hp} {x : Str} {u : Value} {pos : Pos} {Q : Value → Shared → Prop} (I : Inv X pins σ H s) (hg : Gl X x) (hm : X.mg x = some u) (h : Q u s)
    (hd : (x == ("__debug__" : Str)) = false := by decide) : wpAny (model X.prog X.w) X.A (eval (.Name x pos) X.env) Q E s :=
  Calls.Name_function_global I.ok.kind hg (Calls.loadGlobal_global (by rw [I.ok.glob]; exact I.mod.glob.keeps I.bk) hm h) hd
theorem ld_blt {E : Value → Shared → Prop} {pins : List (Addr × Obj)} {s : Shared} {σ : St} {H : Hp} {x : Str} {u : Value} {pos : Pos} {Q : Value → Shared → Prop} (I : Inv X pins σ H s) (hg : Gl X x) (hm : X.mg x = none) (hv : bootBuiltins x = some u) (h : Q u s)
    (hn : x ≠ "__name__" := by decide) (hd : (x == ("__debug__" : Str)) = false := by decide) : wpAny (model X.prog X.w) X.A (eval (.Name x pos) X.env) Q E s := by
  obtain ⟨mb, h1, h2⟩ := I.mod.blt
  exact Calls.Name_function_global I.ok.kind hg (Calls.loadGlobal_builtin (by rw [I.ok.glob]; exact I.mod.glob.keeps I.bk) hm (by rw [I.ok.blt]; exact h1.keeps I.bk) ((h2 x hn).trans hv) h) hd
theorem pe_glob {x : Str} {v : V} {u : Value} {pos : Pos} (hg : Gl X x) (hm : X.mg x = some u) (r : RelV v u) (hd : (x == ("__debug__" : Str)) = false := by decide) : PE X (.Name x pos) (tC v) :=
  fun _ _ _ H _ I h => ld_glob I hg hm ⟨v, H, I, r, h⟩ hd
theorem pe_bltn {x : Str} {v : V} {u : Value} {pos : Pos} (hg : Gl X x) (hm : X.mg x = none) (hv : bootBuiltins x = some u) (r : RelV v u) (hn : x ≠ "__name__" := by decide) (hd : (x == ("__debug__" : Str)) = false := by decide) : PE X (.Name x pos) (tC v) :=
  fun _ _ _ H _ I h => ld_blt I hg hm hv ⟨v, H, I, r, h⟩ hn hd

noncomputable def t2I (ta tb : TE) (k : Int → Int → Hp → Prop) : St → Hp → Prop := fun σ H => ta σ H fun x H1 => tb σ H1 fun y H2 => ∃ i j, x = .int i ∧ y = .int j ∧ k i j H2
variable {a b : Expr} {ta tb : TE} {pos : Pos}
noncomputable def PC (X : Cx) (op : CmpOp) (a b : Expr) (t : TE) : Prop :=
  ∀ (pins : List (Addr × Obj)) (s : Shared) (σ : St) (H : Hp) (Q : VK), Inv X pins σ H s → t σ H Q →
    wpAny (model X.prog X.w) X.A (eval a X.env) (fun v s₁ => wpAny (model X.prog X.w) X.A (eval b X.env) (fun u s₂ => wpAny (model X.prog X.w) X.A (compareOp op v u) (EP X pins σ Q) X.xe s₂) X.xe s₁) X.xe s
theorem nobehind (b : Expr) {op : CmpOp} (h : op ≠ .In) (h2 : op ≠ .NotIn) : behindInMarks op b = false := by
  have e1 : (op == CmpOp.In) = false := by cases op <;> first | rfl | exact absurd rfl h
  have e2 : (op == CmpOp.NotIn) = false := by cases op <;> first | rfl | exact absurd rfl h2
  cases b <;> simp [behindInMarks, e1, e2]
noncomputable def tCmp (p : Int → Int → Bool) (ta tb : TE) : TE := fun σ H Q => t2I ta tb (fun i j H2 => Q (.bl (p i j)) H2) σ H
noncomputable abbrev tLt : TE → TE → TE := tCmp fun i j => decide (i < j)
noncomputable abbrev tLe : TE → TE → TE := tCmp fun i j => decide (i ≤ j)
noncomputable abbrev tGt : TE → TE → TE := tCmp fun i j => decide (j < i)
noncomputable abbrev tGe : TE → TE → TE := tCmp fun i j => decide (j ≤ i)
noncomputable abbrev tEqI : TE → TE → TE := tCmp fun i j => decide (i = j)
noncomputable abbrev tNeI : TE → TE → TE := tCmp fun i j => !decide (i = j)
noncomputable def tB (t : TE) : TT := fun σ H Q => t σ H fun x H1 => ∃ c, x = .bl c ∧ Q c H1
theorem pt_cmp {op : CmpOp} {t : TE} (h : PC X op a b t) (h1 : behindInMarks op b = false := by first | exact nobehind _ (by decide) (by decide) | rfl) : PT X (.Compare a [op] [b] pos) (tB t) := by
  intro pins s σ H Q I hw
  refine wpAny_isTrue_Compare1 (thn (h pins s σ H _ I hw) fun v s1 h1 => thn h1 fun u s2 h2 => thn h2 fun c s3 ⟨x, H1, I1, r1, q1⟩ => ?_) h1
  obtain ⟨d, rfl, q⟩ := q1
  cases r1
  exact wpAny_truthy_bool ⟨H1, I1, q⟩
theorem pt_val {e : Expr} {t : TE} (h : PE X e t) (he : ∀ whole, isTrue e X.env whole = (do let v ← whole; standAt e.pos; holding [v] (truthy v)) := by intro _; rfl) : PT X e (tB t) := by
  intro pins s σ H Q I hw
  refine isTrue_plain (thn (h pins s σ H _ I hw) fun v s1 ⟨x, H1, I1, r1, q1⟩ => ?_) (he _)
  obtain ⟨d, rfl, q⟩ := q1
  cases r1
  exact wpAny_truthy_bool ⟨H1, I1, q⟩

variable {tA tB' : TT} {rest : List Expr}
noncomputable def tAnd (t u : TT) : TT := fun σ H Q => t σ H fun c H1 => if c = true then u σ H1 Q else Q false H1
noncomputable def tOr (t u : TT) : TT := fun σ H Q => t σ H fun c H1 => if c = true then Q true H1 else u σ H1 Q
noncomputable def tNot (t : TT) : TT := fun σ H Q => t σ H fun c H1 => Q (!c) H1
theorem pw_and1 (ha : PT X a tA) : PW X (.BoolOp .And [a] pos) tA := by
  intro wh pins s σ H Q I h
  refine isTrue_and (thn (ha pins s σ H Q I h) fun c s1 e => ?_)
  cases c with
  | true => exact isTrue_and_nil e
  | false => exact e
theorem pw_or1 (ha : PT X a tA) : PW X (.BoolOp .Or [a] pos) tA := by
  intro wh pins s σ H Q I h
  refine isTrue_or (thn (ha pins s σ H Q I h) fun c s1 e => ?_)
  cases c with
  | false => exact isTrue_or_nil e
  | true => exact e
theorem pw_and (ha : PT X a tA) (hb : PW X (.BoolOp .And (b :: rest) pos) tB') : PW X (.BoolOp .And (a :: b :: rest) pos) (tAnd tA tB') := by
  intro wh pins s σ H Q I h
  refine isTrue_and (thn (ha pins s σ H _ I h) fun c s1 ⟨H1, I1, q1⟩ => ?_)
  cases c with
  | true => exact hb wh pins s1 σ H1 Q I1 q1
  | false => exact ⟨H1, I1, q1⟩
theorem pw_or (ha : PT X a tA) (hb : PW X (.BoolOp .Or (b :: rest) pos) tB') : PW X (.BoolOp .Or (a :: b :: rest) pos) (tOr tA tB') := by
  intro wh pins s σ H Q I h
  refine isTrue_or (thn (ha pins s σ H _ I h) fun c s1 ⟨H1, I1, q1⟩ => ?_)
  cases c with
  | true => exact ⟨H1, I1, q1⟩
  | false => exact hb wh pins s1 σ H1 Q I1 q1
theorem pt_not (ha : PT X a tA) : PT X (.UnaryOp .Not a pos) (tNot tA) := by
  intro pins s σ H Q I h
  exact isTrue_not (ha pins s σ H (fun c H1 => Q (!c) H1) I h)
noncomputable def tAndV (ta tb : TE) : TE := fun σ H Q => ta σ H fun x H1 => ∃ c, x = .bl c ∧ if c = true then tb σ H1 Q else Q (.bl false) H1
noncomputable def tOrV (ta tb : TE) : TE := fun σ H Q => ta σ H fun x H1 => ∃ c, x = .bl c ∧ if c = true then Q (.bl true) H1 else tb σ H1 Q
noncomputable def tNotV (ta : TE) : TE := fun σ H Q => ta σ H fun x H1 => ∃ c, x = .bl c ∧ Q (.bl (!c)) H1
theorem pe_one {op} {t : TE} (h : PE X a t) : PE X (.BoolOp op [a] pos) t := fun pins s σ H Q I hw => BoolOp_one (h pins s σ H Q I hw)
theorem pe_and (ha : PE X a ta) (hb : PE X (.BoolOp .And (b :: rest) pos) tb) : PE X (.BoolOp .And (a :: b :: rest) pos) (tAndV ta tb) := by
  intro pins s σ H Q I h
  refine BoolOp_and (thn (ha pins s σ H _ I h) fun v s1 ⟨x, H1, I1, r1, q1⟩ => ?_)
  obtain ⟨c, rfl, q1⟩ := q1
  cases r1
  refine wpAny_truthy_bool ?_
  cases c with
  | true => exact hb pins s1 σ H1 Q I1 q1
  | false => exact ⟨.bl false, H1, I1, rfl, q1⟩
theorem pe_or (ha : PE X a ta) (hb : PE X (.BoolOp .Or (b :: rest) pos) tb) : PE X (.BoolOp .Or (a :: b :: rest) pos) (tOrV ta tb) := by
  intro pins s σ H Q I h
  refine BoolOp_or (thn (ha pins s σ H _ I h) fun v s1 ⟨x, H1, I1, r1, q1⟩ => ?_)
  obtain ⟨c, rfl, q1⟩ := q1
  cases r1
  refine wpAny_truthy_bool ?_
  cases c with
  | false => exact hb pins s1 σ H1 Q I1 q1
  | true => exact ⟨.bl true, H1, I1, rfl, q1⟩
theorem pe_not (ha : PE X a ta) : PE X (.UnaryOp .Not a pos) (tNotV ta) := by
  intro pins s σ H Q I h
  refine UnaryOp_ (thn (ha pins s σ H _ I h) fun v s1 ⟨x, H1, I1, r1, q1⟩ => ?_)
  obtain ⟨c, rfl, q1⟩ := q1
  cases r1
  exact not_of (wpAny_truthy_bool ⟨.bl (!c), H1, I1, rfl, q1⟩)
noncomputable def tIf (t : TT) (ta tb : TE) : TE := fun σ H Q => t σ H fun c H1 => if c = true then ta σ H1 Q else tb σ H1 Q
theorem pe_ifExp {c : Expr} (hc : PT X c tA) (ha : PE X a ta) (hb : PE X b tb) : PE X (.IfExp c a b pos) (tIf tA ta tb) := by
  intro pins s σ H Q I h
  refine wpAny_IfExp (thn (hc pins s σ H _ I h) fun d s1 ⟨H1, I1, q1⟩ => ?_)
  cases d with
  | true => exact ha pins s1 σ H1 Q I1 q1
  | false => exact hb pins s1 σ H1 Q I1 q1
end
end L2

namespace L2
open PySem PySem.Spec PyProof.Rows

noncomputable def SqL (K : PySem.W.Frag) (H : Hp) (a : Addr) (xs : List V) : Prop :=
  Rd H a (.lst xs) ∨
    ∃ (o : Obj) (its : Array Value) (n : Nat), K.lookup a = some o ∧ o.cls = .type "list" ∧ o.dict = none ∧ o.data = .seq its n ∧ its.size ≤ sizeLine ∧ Vals xs its.toList
noncomputable def SqT (K : PySem.W.Frag) (H : Hp) (a : Addr) (xs : List V) : Prop :=
  Rd H a (.tup xs) ∨
    ∃ (o : Obj) (its : Array Value) (n : Nat), K.lookup a = some o ∧ o.cls = .type "tuple" ∧ o.data = .seq its n ∧ its.size ≤ sizeLine ∧ Vals xs its.toList
noncomputable def absV : Value → Option V
  | .none => some .non
  | .bool b => some (.bl b)
  | .int i _ => some (.int i)
  | .str x _ => some (.str x)
  | .bytes b _ => some (.byt b)
  | .float b _ => some (.flt b)
  | .ref a => some (.ref a)
  | .type n => some (.ty n)
  | _ => none
theorem RelV.abs {x : V} {u : Value} (r : RelV x u) : absV u = some x := by
  cases x with
  | non => cases r; rfl
  | bl _ => cases r; rfl
  | int _ => obtain ⟨t, rfl⟩ := r; rfl
  | str _ => obtain ⟨t, rfl⟩ := r; rfl
  | byt _ => obtain ⟨t, rfl⟩ := r; rfl
  | flt _ => obtain ⟨t, rfl⟩ := r; rfl
  | ref _ => cases r; rfl
  | ty _ => cases r; rfl
theorem RelV.inj {x y : V} {u : Value} (r : RelV x u) (q : RelV y u) : x = y := Option.some.inj (r.abs.symm.trans q.abs)
theorem Vals.inj : ∀ {xs ys : List V} {us : List Value}, Vals xs us → Vals ys us → xs = ys
  | _, _, _, .nil, .nil => rfl
  | _, _, _, .cons r t, .cons r' t' => by rw [r.inj r', Vals.inj t t']
section
variable {X : Cx} {pins : List (Addr × Obj)} {σ : St} {H : Hp} {s : Shared} {a : Addr} {xs ys : List V}
theorem SqL.of {K : PySem.W.Frag} (h : H a = some (.lst xs)) : SqL K H a xs := .inl (.inl h)
theorem SqT.of {K : PySem.W.Frag} (h : H a = some (.tup xs)) : SqT K H a xs := .inl (.inl h)
theorem Inv.list (I : Inv X pins σ H s) (h : SqL X.K H a xs) : ∃ its : List Value, Vals xs its ∧ PlainL s.heap a its.toArray ∧ xs.length ≤ sizeLine := by
  rcases h with h | ⟨o, its, n, hk, hc, hd, hs, hz, r⟩
  · obtain ⟨z, its, n, r, e⟩ := h.ok I.hok
    exact ⟨its, r, ⟨_, n, e, rfl, rfl, rfl⟩, z⟩
  · refine ⟨its.toList, r, ⟨o, n, I.kIn a o hk, hc, hd, by simpa using hs⟩, ?_⟩
    have e := r.length
    simp only [Array.length_toList] at e
    omega
theorem Inv.tuple (I : Inv X pins σ H s) (h : SqT X.K H a xs) : ∃ its : List Value, Vals xs its ∧ IsTup s.heap a its.toArray ∧ xs.length ≤ sizeLine := by
  rcases h with h | ⟨o, its, n, hk, hc, hs, hz, r⟩
  · obtain ⟨z, its, r, p⟩ := h.ok I.hok
    exact ⟨its, r, p, z⟩
  · refine ⟨its.toList, r, ⟨o, I.kIn a o hk, hc, n, by simpa using hs⟩, ?_⟩
    have e := r.length
    simp only [Array.length_toList] at e
    omega
theorem Inv.list_inj (I : Inv X pins σ H s) (h : SqL X.K H a xs) (h' : SqL X.K H a ys) : xs = ys := by
  obtain ⟨its, r, ⟨o, n, e, _, _, d⟩, _⟩ := I.list h
  obtain ⟨its', r', ⟨o', n', e', _, _, d'⟩, _⟩ := I.list h'
  rw [e] at e'; cases e'
  rw [d] at d'
  injection d' with d1 _
  have : its = its' := by simpa using congrArg Array.toList d1
  subst this
  exact r.inj r'
theorem Inv.tuple_inj (I : Inv X pins σ H s) (h : SqT X.K H a xs) (h' : SqT X.K H a ys) : xs = ys := by
  obtain ⟨its, r, ⟨o, e, _, n, d⟩, _⟩ := I.tuple h
  obtain ⟨its', r', ⟨o', e', _, n', d'⟩, _⟩ := I.tuple h'
  rw [e] at e'; cases e'
  rw [d] at d'
  injection d' with d1 _
  have : its = its' := by simpa using congrArg Array.toList d1
  subst this
  exact r.inj r'
end

noncomputable abbrev Cx.wish (X : Cx) (E : Value → Shared → Prop) : Cx := { X with xe := E }
noncomputable abbrev Cx.nox (X : Cx) : Cx := X.wish fun _ _ => False
theorem Cx.Ok.wish {X : Cx} (ok : X.Ok) (E : Value → Shared → Prop) : (X.wish E).Ok :=
  ⟨ok.mod, ok.kind, ok.glob, ok.blt, ok.above, ok.inj, ok.has, ok.cab, ok.hd, ok.frames, ok.stk, ok.exf, ok.bs, ok.bsz, ok.noex, ok.exfs, ok.funs, ok.frf⟩
theorem Cx.Ok.unwish {X : Cx} {E : Value → Shared → Prop} (ok : (X.wish E).Ok) : X.Ok :=
  ⟨ok.mod, ok.kind, ok.glob, ok.blt, ok.above, ok.inj, ok.has, ok.cab, ok.hd, ok.frames, ok.stk, ok.exf, ok.bs, ok.bsz, ok.noex, ok.exfs, ok.funs, ok.frf⟩
section
variable {X : Cx} {pins : List (Addr × Obj)} {σ : St} {H : Hp} {s : Shared} {E : Value → Shared → Prop}
theorem Inv.wish (I : Inv X pins σ H s) (E : Value → Shared → Prop) : Inv (X.wish E) pins σ H s := ⟨I.ok.wish E, I.os, I.bare, I.base, I.loc, I.cell, I.free, I.freeC, I.pin, I.hok, I.len⟩
theorem Inv.unwish (I : Inv (X.wish E) pins σ H s) : Inv X pins σ H s := ⟨I.ok.unwish, I.os, I.bare, I.base, I.loc, I.cell, I.free, I.freeC, I.pin, I.hok, I.len⟩
theorem SP.unwish {D : Ends} {f : Flow} {s' : Shared} (h : SP (X.wish E) pins D f s') : SP X pins D f s' := by
  cases f with
  | next => obtain ⟨σ', H', I, q⟩ := h; exact ⟨σ', H', I.unwish, q⟩
  | brk => obtain ⟨σ', H', I, q⟩ := h; exact ⟨σ', H', I.unwish, q⟩
  | cont => obtain ⟨σ', H', I, q⟩ := h; exact ⟨σ', H', I.unwish, q⟩
  | ret u => obtain ⟨v, σ', H', I, r, q⟩ := h; exact ⟨v, σ', H', I.unwish, r, q⟩
theorem PE.nox {e : Expr} {t : TE} (h : PE X.nox e t) : PE X e t := fun pins s σ H Q I hw =>
  wpAny_mono (h pins s σ H Q (I.wish _) hw) (fun _ _ ⟨v, H', I', r, q⟩ => ⟨v, H', I'.unwish, r, q⟩) fun _ _ z => False.elim z
theorem PT.nox {e : Expr} {t : TT} (h : PT X.nox e t) : PT X e t := fun pins s σ H Q I hw =>
  wpAny_mono (h pins s σ H Q (I.wish _) hw) (fun _ _ ⟨H', I', q⟩ => ⟨H', I'.unwish, q⟩) fun _ _ z => False.elim z
theorem PSs.nox {st : List Stmt} {t : TS} (h : PSs X.nox st t) : PSs X st t := fun pins s σ H D I hw =>
  wpAny_mono (h pins s σ H D (I.wish _) hw) (fun _ _ q => q.unwish) fun _ _ z => False.elim z
end

section
variable {X : Cx} {st : Stmt} {rest : List Stmt} {t u : TS} {e : Expr} {te : TE} {pos : Pos}
noncomputable def tNext : TS := fun D σ H => D.nx σ H
noncomputable def tSeq (t u : TS) : TS := fun D σ H => t { D with nx := u D } σ H
theorem pss_nil : PSs X [] tNext := fun _ _ σ H _ I h => wpAny_execs_nil ⟨σ, H, I, h⟩
theorem pss_cons (h1 : PS X st t) (h2 : PSs X rest u) : PSs X (st :: rest) (tSeq t u) := by
  intro pins s σ H D I h
  refine wpAny_execs_cons (thn (h1 pins s σ H { D with nx := u D } I h) fun f s1 q => ?_)
  cases f with
  | next =>
    obtain ⟨σ', H', I', q⟩ := q
    exact h2 pins s1 σ' H' D I' q
  | ret v => exact q
  | brk => exact q
  | cont => exact q
theorem pss_one (h1 : PS X st t) : PSs X [st] t := by
  intro pins s σ H D I h
  refine wpAny_execs_cons (thn (h1 pins s σ H D I h) fun f s1 q => ?_)
  cases f with
  | next => exact wpAny_execs_nil q
  | ret v => exact q
  | brk => exact q
  | cont => exact q
theorem ps_pass : PS X (.Pass pos) tNext := fun _ _ σ H _ I h => wpAny_Pass ⟨σ, H, I, h⟩
theorem Inv.quiet {pins : List (Addr × Obj)} {σ : St} {H : Hp} {s : Shared} (I : Inv X pins σ H s) : interactive X.env = false := by simp [interactive, I.ok.kind]
noncomputable def tDrop (te : TE) : TS := fun D σ H => te σ H fun _ H1 => D.nx σ H1
theorem ps_expr (he : PE X e te) (hs : swapsWith e none pos.line X.env = pure false := by rfl) : PS X (.Expr e pos) (tDrop te) := by
  intro pins s σ H D I h
  exact wpAny_Expr_any (thn (he pins s σ H _ I h) fun v s1 ⟨x, H1, I1, r1, q1⟩ => ⟨σ, H1, I1, q1⟩) I.quiet hs
noncomputable def tRet (te : TE) : TS := fun D σ H => te σ H D.rt
theorem ps_ret (he : PE X e te) : PS X (.Return (some e) pos) (tRet te) := by
  intro pins s σ H D I h
  exact wpAny_Return_some (thn (he pins s σ H _ I h) fun v s1 ⟨x, H1, I1, r1, q1⟩ => ⟨x, σ, H1, I1, r1, q1⟩)
noncomputable def tRetN : TS := fun D _ H => D.rt .non H
theorem ps_retN : PS X (.Return none pos) tRetN := fun _ _ σ H _ I h => wpAny_Return_none ⟨.non, σ, H, I, rfl, h⟩
noncomputable def tIfS (c : TT) (t u : TS) : TS := fun D σ H => c σ H fun b H1 => if b = true then t D σ H1 else u D σ H1
theorem ps_if {c : Expr} {a b : List Stmt} {tc : TT} (hc : PT X c tc) (ha : PSs X a t) (hb : PSs X b u) : PS X (.If c a b pos) (tIfS tc t u) := by
  intro pins s σ H D I h
  refine wpAny_If (thn (hc pins s σ H _ I h) fun d s1 ⟨H1, I1, q1⟩ => ?_)
  cases d with
  | true => exact ha pins s1 σ H1 D I1 q1
  | false => exact hb pins s1 σ H1 D I1 q1
end

noncomputable abbrev TG := V → St → Hp → (St → Hp → Prop) → Prop
noncomputable abbrev TGs := List V → St → Hp → (St → Hp → Prop) → Prop
noncomputable def PG (X : Cx) (target : Expr) (t : TG) : Prop :=
  ∀ (pins : List (Addr × Obj)) (s : Shared) (σ : St) (H : Hp) (v : V) (u : Value) (Q : St → Hp → Prop), Inv X pins σ H s → RelV v u → t v σ H Q →
    wpAny (model X.prog X.w) X.A (assign target X.env u) (fun _ s' => ∃ σ' H', Inv X pins σ' H' s' ∧ Q σ' H') X.xe s
noncomputable abbrev TSet := V → V → V → Hp → (Hp → Prop) → Prop
noncomputable def PSet (X : Cx) (t : TSet) : Prop :=
  ∀ (pins : List (Addr × Obj)) (s : Shared) (σ : St) (H : Hp) (o i v : V) (ov iv u : Value) (Q : Hp → Prop), Inv X pins σ H s → RelV o ov → RelV i iv → RelV v u → t o i v H Q →
    wpAny (model X.prog X.w) X.A (setItem ov iv u) (fun _ s' => ∃ H', Inv X pins σ H' s' ∧ Q H') X.xe s
noncomputable abbrev TIp := V → V → Hp → VK → Prop
section
variable {X : Cx} {pos : Pos}
noncomputable def gName (i : Nat) : TG := fun v σ H Q => Q (σ.set i (some v)) H
theorem pg_name {i : Nat} {x : Str} (hN : X.N.Nodup) (hi : X.N[i]? = some x) (hx : Loc X.env.scope x) (hf : X.fn x = true ∨ X.env.scope.names.lookup x = some .local := by first | exact .inl rfl | exact .inr rfl | assumption) : PG X (.Name x pos) (gName i) := by
  intro pins s σ H v u Q I r h
  exact wpAny_assign_Name (store_ok I hN hi hx r (fun s' I' => ⟨_, H, I', h⟩) hf)
noncomputable def gSub (to ti : TE) (t : TSet) : TG := fun v σ H Q => to σ H fun o H1 => ti σ H1 fun i H2 => t o i v H2 fun H3 => Q σ H3
theorem pg_sub {o i : Expr} {to ti : TE} {t : TSet} (ho : PE X o to) (hi : PE X i ti) (hs : PSet X t)
    (ha : ∀ v, assign (.Subscript o i pos) X.env v = (do
      let ov ← holding [v] (eval o X.env)
      let iv ← holding [v, ov] (eval i X.env)
      standAt pos
      holding [v, ov, iv] (setItem ov iv v)
      release [v, ov, iv] []) := by intro _; rfl) : PG X (.Subscript o i pos) (gSub to ti t) := by
  intro pins s σ H v u Q I r h
  rw [ha]
  refine wpAny_bind (wpAny_holding (thn (ho pins s σ H _ I h) fun ov s1 ⟨x, H1, I1, r1, q1⟩ => ?_))
  refine wpAny_bind (wpAny_holding (thn (hi pins s1 σ H1 _ I1 q1) fun iv s2 ⟨y, H2, I2, r2, q2⟩ => ?_))
  refine wpAny_bind (wpAny_standAt (wpAny_bind (wpAny_holding (thn (hs pins s2 σ H2 x y v ov iv u _ I2 r1 r2 r q2) fun _ s3 ⟨H3, I3, q3⟩ => ?_))))
  exact wpAny_release ⟨σ, H3, I3, q3⟩
noncomputable def tAsg (te : TE) (g : TG) : TS := fun D σ H => te σ H fun x H1 => g x σ H1 D.nx
theorem ps_asg {tg e : Expr} {te : TE} {g : TG} (he : PE X e te) (hg : PG X tg g) (hs : swapsWithSole [tg] e pos.line X.env = pure false := by rfl) (hw : swappedStores [tg] e X.env = pure none := by rfl)
    (h1 : (assignEach [tg] X.env).map (·.2) = [assign tg X.env] := by rfl) : PS X (.Assign [tg] e pos) (tAsg te g) := by
  intro pins s σ H D I h
  refine wpAny_Assign_stores (thn (he pins s σ H _ I h) fun v s1 ⟨x, H1, I1, r1, q1⟩ => ?_) hs hw
  rw [h1]
  exact thn (hg pins s1 σ H1 x v _ I1 r1 q1) fun _ s2 q => q
theorem ps_set {i : Nat} {x : Str} {e : Expr} {te : TE} {pos' : Pos} (hN : X.N.Nodup) (hi : X.N[i]? = some x) (hx : Loc X.env.scope x) (he : PE X e te) (hs : swapsWith e (some (.Name x pos')) pos.line X.env = pure false := by rfl) (hf : X.fn x = true ∨ X.env.scope.names.lookup x = some .local := by first | exact .inl rfl | exact .inr rfl | assumption) :
    PS X (.Assign [.Name x pos'] e pos) (tAsg te (gName i)) := by
  intro pins s σ H D I h
  refine wpAny_Assign_Name (thn (he pins s σ H _ I h) fun v s1 ⟨y, H1, I1, r1, q1⟩ => ?_) hs
  exact store_ok I1 hN hi hx r1 (fun s2 I2 => ⟨_, H1, I2, q1⟩) hf
end

section
variable {X : Cx} {pos : Pos}
noncomputable def tWhile (c : TT) (tb : TS) : TS := fun D σ H => ∃ W : Nat → St → Hp → Prop, (∃ m, W m σ H) ∧ ∀ m σ H, W m σ H →
  c σ H fun b H1 => if b = true then ∃ N : St → Hp → Prop, (∀ σ' H', N σ' H' → ∃ m', m' < m ∧ W m' σ' H') ∧ tb { D with nx := N, ct := N, bk := D.nx } σ H1 else D.nx σ H1
theorem ps_while {c : Expr} {body : List Stmt} {tc : TT} {tb : TS} (hp : PassesOwn (model X.prog X.w) X.A X.env X.xe) (hc : PT X c tc) (hb : PSs X body tb) : PS X (.While c body [] pos) (tWhile tc tb) := by
  intro pins s σ H D I h
  obtain ⟨W, ⟨m0, w0⟩, turn⟩ := h
  refine wpAny_While (codeAny_whileLoop (fun n s' => ∃ σ' H', Inv X pins σ' H' s' ∧ W n σ' H') ?_ m0 ⟨σ, H, I, w0⟩)
  rintro n s1 ⟨σ1, H1, I1, w1⟩
  refine wpAny_passesOwn hp (thn (hc pins s1 σ1 H1 _ I1 (turn n σ1 H1 w1)) fun b s2 ⟨H2, I2, q2⟩ => ?_)
  cases b with
  | true =>
    obtain ⟨N, hN, q2⟩ := q2
    rw [if_pos rfl]
    refine wpAny_passesOwn hp (thn (hb pins s2 σ1 H2 _ I2 q2) fun f s3 q3 => ?_)
    cases f with
    | next =>
      obtain ⟨σ3, H3, I3, n3⟩ := q3
      obtain ⟨m', hm, w3⟩ := hN σ3 H3 n3
      exact ⟨m', hm, σ3, H3, I3, w3⟩
    | cont =>
      obtain ⟨σ3, H3, I3, n3⟩ := q3
      obtain ⟨m', hm, w3⟩ := hN σ3 H3 n3
      exact ⟨m', hm, σ3, H3, I3, w3⟩
    | brk => exact q3
    | ret v => exact q3
  | false =>
    rw [if_neg Bool.false_ne_true]
    exact wpAny_execs_nil ⟨σ1, H2, I2, q2⟩
end

structure It where
  go : Nat → Hp → Prop
  yld : Nat → Hp → V → Hp → Prop
  stop : Nat → Hp → Prop
noncomputable def FpOk (X : Cx) (pins : List (Addr × Obj)) (H : Hp) (b : Addr) : Prop :=
  H b = none ∧ b ≠ X.env.locals ∧ b ∉ X.fs ∧ (b ∈ X.ex ∨ X.s₀.heap.objs.size ≤ b) ∧ (∀ x c, X.env.cells.lookup x = some c → c ≠ b) ∧ ∀ p ∈ X.pn ++ pins, p.1 ≠ b
theorem Inv.fpOk {X : Cx} {pins : List (Addr × Obj)} {σ : St} {H H' : Hp} {s : Shared} {b : Addr} (I : Inv X pins σ H s) (hb : s.heap.objs.size ≤ b) (hn : H' b = none) : FpOk X pins H' b := by
  refine ⟨hn, Nat.ne_of_gt (Nat.lt_of_lt_of_le I.lt hb), I.nofs hb, .inr (Nat.le_trans I.sz hb), fun x c e z => ?_, fun p hp z => ?_⟩
  · obtain ⟨v, q⟩ := I.cell x c e
    exact absurd (Nat.lt_of_lt_of_le q.lt (by rw [z]; exact hb)) (Nat.lt_irrefl _)
  · exact absurd (Nat.lt_of_lt_of_le (Heap.lt_size (I.pin p hp).1) (by rw [z]; exact hb)) (Nat.lt_irrefl _)
structure Turn (P : Program) (w : World) (K : PySem.W.Frag) (tg : Expr) (J : It) (fp : List Addr) (it : Addr) (tn : Nat → Heap → Prop) : Prop where
  mem : it ∈ fp
  obj : ∀ i h, tn i h → ∀ b ∈ fp, ∃ o, h.get? b = some o ∧ ∀ v, o.data ≠ .cell v
  keep : ∀ i h h', tn i h → (∀ b ∈ fp, ∀ o, h.get? b = some o → h'.get? b = some o) → tn i h'
  item : ∀ (X : Cx), X.prog = P → X.w = w → X.K = K → X.calm = true → ∀ (i : Nat) (pins : List (Addr × Obj)) (s : Shared) (σ : St) (H : Hp) (E : Value → Shared → Prop), Inv X pins σ H s → (∀ b ∈ fp, FpOk X pins H b) → tn i s.heap → J.go i H →
    wpAny (model P w) X.A (pyNext (.ref it)) (fun r s1 => ∃ u, r = some u ∧
      wpAny (model P w) X.A (letOwnedTupleGo tg (.ref it) u) (fun _ s2 => ∃ x H', Inv X pins σ H' s2 ∧ RelV x u ∧ J.yld i H x H' ∧ tn (i + 1) s2.heap ∧ ∀ b ∈ fp, H' b = none) E s1) E s
  done : ∀ (X : Cx), X.prog = P → X.w = w → X.K = K → X.calm = true → ∀ (i : Nat) (pins : List (Addr × Obj)) (s : Shared) (σ : St) (H : Hp) (E : Value → Shared → Prop), Inv X pins σ H s → (∀ b ∈ fp, FpOk X pins H b) → tn i s.heap → J.stop i H →
    wpAny (model P w) X.A (pyNext (.ref it)) (fun r s1 => r = none ∧ Inv X pins σ H s1) E s
  self : ∀ (A : Around) (i : Nat) (s : Shared) (Q : Value → Shared → Prop) (E : Value → Shared → Prop), tn i s.heap → Q (.ref it) s → wpAny (model P w) A (pyIter (.ref it)) Q E s
noncomputable abbrev TI := St → Hp → (It → Hp → Prop) → Prop
noncomputable def PIE (X : Cx) (pins : List (Addr × Obj)) (σ : St) (tg : Expr) (R : It → Hp → Prop) (itv : Value) (s2 : Shared) : Prop :=
  ∃ (it : Addr) (fp : List Addr) (tn : Nat → Heap → Prop) (J : It) (H' : Hp), itv = .ref it ∧ Inv X pins σ H' s2 ∧ Turn X.prog X.w X.K tg J fp it tn ∧ tn 0 s2.heap ∧ (∀ b ∈ fp, FpOk X pins H' b) ∧ R J H'
noncomputable def PI (X : Cx) (tg iter : Expr) (wi : TI) : Prop :=
  ∀ (pins : List (Addr × Obj)) (s : Shared) (σ : St) (H : Hp) (R : It → Hp → Prop), Inv X pins σ H s → wi σ H R →
    wpAny (model X.prog X.w) X.A (eval iter X.env) (fun v s1 => wpAny (model X.prog X.w) X.A (pyIter v) (PIE X pins σ tg R) X.xe s1) X.xe s

theorem go_of {M : Model} {A : Around} {E : Value → Shared → Prop} {s : Shared} {tg : Expr} {it : Addr} {u : Value} {o : Obj} {n : String} {vs : Array Value} {Q : Unit → Shared → Prop} (ho : s.heap.get? it = some o) (hc : o.cls = .type n) (hd : o.data = .fields vs)
    (hn : ["enumerate", "zip", "dict_itemiterator", "dict_reverseitemiterator", "odict_iterator", "itertools.zip_longest", "itertools.pairwise"].contains n = false) (hQ : Q () s) : wpAny M A (letOwnedTupleGo tg (.ref it) u) Q E s := by
  unfold letOwnedTupleGo
  cases tg <;> first
    | exact wpAny_pure hQ
    | (cases u <;> first
        | exact wpAny_pure hQ
        | (refine wpAny_bind (wpAny_load ho ?_)
           rw [hc, hd]
           show wpAny M A (if (["enumerate", "zip", "dict_itemiterator", "dict_reverseitemiterator", "odict_iterator", "itertools.zip_longest", "itertools.pairwise"].contains n && vs[0]? == some (rawInt _)) = true then _ else _) Q E s
           rw [if_neg (by intro h; rw [hn, Bool.false_and] at h; cases h)]
           exact wpAny_pure hQ))

noncomputable def Itl (K : PySem.W.Frag) (a : Addr) : It :=
  ⟨fun i H => ∃ xs x, SqL K H a xs ∧ xs[i]? = some x, fun i H x H' => H' = H ∧ ∀ xs, SqL K H a xs → xs[i]? = some x, fun i H => ∃ xs, SqL K H a xs ∧ xs.length ≤ i⟩
noncomputable def Itr (lo : Int) (n : Nat) : It := ⟨fun i _ => i < n, fun i H x H' => H' = H ∧ x = .int (lo + i), fun i _ => n ≤ i⟩
theorem turn_list {P : Program} {w : World} {K : PySem.W.Frag} {tg : Expr} (a it : Addr) : Turn P w K tg (Itl K a) [it] it (fun i h => h.IsListIter it a i) where
  mem := by simp
  obj := fun i h st b hb => by
    have e : b = it := by simpa using hb
    subst e
    obtain ⟨o, e, c, d⟩ := st
    exact ⟨o, e, fun v z => by rw [d] at z; cases z⟩
  keep := fun i h h' st k => st.at fun o e => k it (by simp) o e
  item := by
    intro X hP hw hK hc i pins s σ H E I hf st hg
    subst hP hw hK
    obtain ⟨xs, x, hq, hx⟩ := hg
    obtain ⟨its, rv, p, hz⟩ := I.list hq
    obtain ⟨u, hu, ru⟩ := rv.get hx
    obtain ⟨f0, f1, f2, f3, f4, f5⟩ := hf it (by simp)
    refine wpAny_pyNext_list_item st p.isList (x := u) (by simpa using hu) fun h' st' sb => ?_
    have I1 : Inv X pins σ H { s with heap := h' } := I.turned (t' := s.toks) (fun b o hb e => (sb.2 b hb).trans e) f0 f1 f3 f4 f5
    obtain ⟨o, e, c, d⟩ := id st'
    exact ⟨u, rfl, go_of (s := { s with heap := h' }) e c d (by decide) ⟨x, H, I1, ru, ⟨rfl, fun ys hy => by rw [I.list_inj hy hq]; exact hx⟩, st', fun b hb => (hf b hb).1⟩⟩
  done := by
    intro X hP hw hK hc i pins s σ H E I hf st hg
    subst hP hw hK
    obtain ⟨xs, hq, hx⟩ := hg
    obtain ⟨its, rv, p, hz⟩ := I.list hq
    obtain ⟨f0, f1, f2, f3, f4, f5⟩ := hf it (by simp)
    have hl := rv.length
    exact wpAny_pyNext_list_end (I.ok.hd hc) st p.isList (by simp; omega) fun h' eb => ⟨rfl, I.turned (t' := s.toks) (fun b o hb e => eb b o hb e) f0 f1 f3 f4 f5⟩
  self := fun _ _ _ _ _ st h => wpAny_pyIter_listiter st h
theorem turn_range {P : Program} {w : World} {K : PySem.W.Frag} {tg : Expr} (it : Addr) (lo : Int) (n : Nat) : Turn P w K tg (Itr lo n) [it] it (fun i h => IsRangeIter h it (lo + (i : Nat) * 1) ((n : Int) - (i : Nat)) 1) where
  mem := by simp
  obj := fun i h st b hb => by
    have e : b = it := by simpa using hb
    subst e
    exact ⟨_, st, fun v z => by
      have z' : Data.fields _ = Data.cell v := z
      cases z'⟩
  keep := fun i h h' st k => k it (by simp) _ st
  item := by
    intro X hP hw hK hc i pins s σ H E I hf st hg
    subst hP hw hK
    obtain ⟨f0, f1, f2, f3, f4, f5⟩ := hf it (by simp)
    have W := Walks.range (prog := X.prog) (w := X.w) (I.ok.hd hc) it lo 1 n
    refine W.item i s _ _ hg st fun v h' tk hv st' kk => ?_
    obtain ⟨t, rfl⟩ := hv
    have I1 : Inv X pins σ H { s with heap := h', toks := tk } := I.turned (fun b o hb e => kk b o (by simpa using hb) e) f0 f1 f3 f4 f5
    refine ⟨_, rfl, go_of (s := { s with heap := h', toks := tk }) (n := "range_iterator") st' rfl rfl (by decide) ⟨.int (lo + i), H, I1, ⟨t, ?_⟩, ⟨rfl, rfl⟩, st', fun b hb => (hf b hb).1⟩⟩
    rw [Int.mul_one]
  done := by
    intro X hP hw hK hc i pins s σ H E I hf st hg
    subst hP hw hK
    obtain ⟨f0, f1, f2, f3, f4, f5⟩ := hf it (by simp)
    exact wpAny_pyNext_range_end (I.ok.hd hc) st (by have : n ≤ i := hg; omega) fun h' eb => ⟨rfl, I.turned (t' := s.toks) (fun b o hb e => eb b o hb e) f0 f1 f3 f4 f5⟩
  self := fun _ _ _ _ _ st h => wpAny_pyIter_rangeiter st h
end L2

namespace L2
open PySem PySem.Spec PyProof.Rows
section
variable {X : Cx} {tg : Expr}
noncomputable def iList (K : PySem.W.Frag) (tl : TE) : TI := fun σ H R => tl σ H fun x H1 => ∃ a, x = .ref a ∧ (∃ xs, SqL K H1 a xs) ∧ R (Itl K a) H1
theorem pi_list {l : Expr} {tl : TE} (hl : PE X l tl) : PI X tg l (iList X.K tl) := by
  intro pins s σ H R I h
  refine thn (hl pins s σ H _ I h) fun v s1 ⟨x, H1, I1, r1, q1⟩ => ?_
  obtain ⟨a, e, ⟨xs, hq⟩, q⟩ := q1
  subst e
  cases r1
  obtain ⟨its, rv, p, hz⟩ := I1.list hq
  refine wpAny_pyIter_list p.isList ?_
  refine ⟨s1.heap.objs.size, [s1.heap.objs.size], _, _, H1, rfl, I1.kept (t' := s1.toks) fun b o e => Heap.get?_push_of_some _ e, turn_list a _, ⟨_, Heap.get?_push_size _ rfl, rfl, rfl⟩, fun b hb => ?_, q⟩
  have e : b = s1.heap.objs.size := by simpa using hb
  subst e
  exact I1.fpOk (Nat.le_refl _) (I1.hok.fresh (Nat.le_refl _))
theorem range_it {pins : List (Addr × Obj)} {σ : St} {H : Hp} {s : Shared} {R : It → Hp → Prop} {E : Value → Shared → Prop} {lo hi : Int} {t u v : Tok} {tk : Nat} (I : Inv X pins σ H s) (h1 : -(2 ^ 62) ≤ lo) (h2 : lo < 2 ^ 62) (h3 : -(2 ^ 62) ≤ hi) (h4 : hi < 2 ^ 62)
    (q : R (Itr lo (hi - lo).toNat) H) : wpAny (model X.prog X.w) X.A (pyIter (.ref s.heap.objs.size)) (PIE X pins σ tg R) E { s with heap := s.heap.push { cls := .type "range", data := .fields #[.int lo t, .int hi u, .int 1 v] }, toks := tk } := by
  refine wpAny_pyIter_range (IsRange.new ..) (small_one h1 h2 h3 h4) ?_
  have I1 : Inv X pins σ H { s with heap := s.heap.push { cls := .type "range", data := .fields #[.int lo t, .int hi u, .int 1 v] }, toks := tk } := I.kept fun b o e => Heap.get?_push_of_some _ e
  refine ⟨(s.heap.push { cls := .type "range", data := .fields #[.int lo t, .int hi u, .int 1 v] }).objs.size, [(s.heap.push { cls := .type "range", data := .fields #[.int lo t, .int hi u, .int 1 v] }).objs.size], _, _, H, rfl,
    I1.kept (t' := tk) fun b o e => Heap.get?_push_of_some _ e, turn_range _ lo (hi - lo).toNat, ?_, fun b hb => ?_, q⟩
  · have e1 : lo + ((0 : Nat) : Int) * 1 = lo := by simp
    have e2 : (((hi - lo).toNat : Nat) : Int) - ((0 : Nat) : Int) = Builtin.Range.rangeSize lo hi 1 := by rw [rangeSize_one]; split <;> omega
    show IsRangeIter _ _ (lo + ((0 : Nat) : Int) * 1) ((((hi - lo).toNat : Nat) : Int) - ((0 : Nat) : Int)) 1
    rw [e1, e2]
    exact Heap.get?_push_size _ rfl
  · have e : b = (s.heap.push { cls := .type "range", data := .fields #[.int lo t, .int hi u, .int 1 v] }).objs.size := by simpa using hb
    subst e
    exact I1.fpOk (Nat.le_refl _) (I1.hok.fresh (Nat.le_refl _))
noncomputable def iRng1 (ta : TA) : TI := fun σ H R => ta σ H fun vs H1 => ∃ j : Int, vs = [.int j] ∧ -(2 ^ 62) ≤ j ∧ j < 2 ^ 62 ∧ R (Itr 0 j.toNat) H1
theorem pi_range1 {a : Expr} {ta : TA} {p pos : Pos} (hg : Gl X "range") (hm : X.mg "range" = none) (ha : PA X [a] ta) (hs : starEach [a] X.env = [(false, eval a X.env)] := by rfl) : PI X tg (.Call (.Name "range" p) [a] [] pos) (iRng1 ta) := by
  intro pins s σ H R I h
  refine Call_ (ld_blt I hg hm boot_range (PyProof.Rows.callWith_type1 (thn (ha pos pins s σ H _ I h) fun us s1 ⟨vs, H1, I1, r1, q1⟩ => ?_) hs rfl))
  obtain ⟨j, e, q1, q2, q⟩ := q1
  subst e
  cases r1 with
  | cons r rr =>
    cases rr
    obtain ⟨t, rfl⟩ := r
    exact call_range_1 (range_it I1 (by omega) (by omega) q1 q2 (by simpa using q))
noncomputable def tFor (wi : TI) (g : TG) (tb : TS) : TS := fun D σ H => wi σ H fun J H1 => ∃ W : Nat → Nat → St → Hp → Prop, (∃ m, W 0 m σ H1) ∧ ∀ i m σ H, W i m σ H →
  (J.stop i H ∧ D.nx σ H) ∨ (J.go i H ∧ ∃ N : St → Hp → Prop, (∀ σ' H', N σ' H' → ∃ m', m' < m ∧ W (i + 1) m' σ' H') ∧ ∀ x H', J.yld i H x H' → g x σ H' fun σ2 H2 => tb { D with nx := N, ct := N, bk := D.nx } σ2 H2)
noncomputable def pinsAt (fp : List Addr) (h : Heap) : List (Addr × Obj) := fp.filterMap fun b => (h.get? b).map fun o => (b, o)
theorem mem_pinsAt {fp : List Addr} {h : Heap} {b : Addr} {o : Obj} (hb : b ∈ fp) (e : h.get? b = some o) : (b, o) ∈ pinsAt fp h := List.mem_filterMap.mpr ⟨b, hb, by rw [e]; rfl⟩
theorem of_pinsAt {fp : List Addr} {h : Heap} {p : Addr × Obj} (hp : p ∈ pinsAt fp h) : p.1 ∈ fp ∧ h.get? p.1 = some p.2 := by
  obtain ⟨b, hb, e⟩ := List.mem_filterMap.mp hp
  cases q : h.get? b with
  | none => rw [q] at e; cases e
  | some o =>
    rw [q] at e
    have e' : (b, o) = p := Option.some.inj e
    subst e'
    exact ⟨hb, q⟩
theorem Inv.pinned {pins : List (Addr × Obj)} {σ : St} {H : Hp} {s : Shared} {fp : List Addr} (I : Inv X pins σ H s) (hf : ∀ b ∈ fp, FpOk X pins H b) (ho : ∀ b ∈ fp, ∃ o, s.heap.get? b = some o ∧ ∀ v, o.data ≠ .cell v) : Inv X (pins ++ pinsAt fp s.heap) σ H s :=
  I.pins_of fun p hp => (List.mem_append.mp hp).elim (fun z => I.pin p (List.mem_append_right _ z)) fun z => by
    obtain ⟨hb, e⟩ := of_pinsAt z
    obtain ⟨f0, f1, f2, _⟩ := hf p.1 hb
    obtain ⟨o, e', d⟩ := ho p.1 hb
    rw [e] at e'; cases e'
    exact ⟨e, f0, f1, f2, d⟩
theorem Inv.unpinned {pins pl : List (Addr × Obj)} {σ : St} {H : Hp} {s : Shared} (I : Inv X (pins ++ pl) σ H s) : Inv X pins σ H s := I.pins_of fun p hp => I.pin p (List.mem_append_right _ (List.mem_append_left _ hp))
theorem ps_for {iter : Expr} {body : List Stmt} {wi : TI} {g : TG} {tb : TS} {pos : Pos} (hp : PassesOwn (model X.prog X.w) X.A X.env X.xe) (hc : X.calm = true) (hi : PI X tg iter wi) (hg : PG X tg g) (hb : PSs X body tb)
    (hs : ∀ x, foldedSetIterable iter X.env x = pure x := by intro _; rfl) : PS X (.For tg iter body [] pos) (tFor wi g tb) := by
  intro pins s σ H D I h
  refine wpAny_For (thn (hi pins s σ H _ I h) fun v s1 h1 => thn h1 fun itv s2 h2 => ?_) hs
  obtain ⟨it, fp, tn, J, H2, e, I2, T, st2, f2, W, ⟨m0, w0⟩, turn⟩ := h2
  subst e
  -- what stays true of the iterator's objects through the loop
  have stat : ∀ {H' : Hp}, (∀ b ∈ fp, H' b = none) → ∀ b ∈ fp, FpOk X pins H' b := fun hn b hb => ⟨hn b hb, (f2 b hb).2⟩
  refine codeAny_forLoop_any (fun n s' => ∃ i σ' H', Inv X pins σ' H' s' ∧ tn i s'.heap ∧ (∀ b ∈ fp, H' b = none) ∧ W i n σ' H') ?_ m0 ⟨0, σ, H2, I2, st2, fun b hb => (f2 b hb).1, w0⟩
  rintro n s3 ⟨i, σ3, H3, I3, st3, fr3, w3⟩
  rcases turn i n σ3 H3 w3 with ⟨stop, qn⟩ | ⟨go, N, hN, step⟩
  · refine wpAny_passesOwn hp (thn (T.done X rfl rfl rfl hc i pins s3 σ3 H3 X.xe I3 (stat fr3) st3 stop) fun r s4 ⟨hr, I4⟩ => ?_)
    subst hr
    exact wpAny_execs_nil ⟨σ3, H3, I4, qn⟩
  · refine wpAny_passesOwn hp (thn (T.item X rfl rfl rfl hc i pins s3 σ3 H3 X.xe I3 (stat fr3) st3 go) fun r s4 ⟨u, hr, h4⟩ => ?_)
    subst hr
    refine wpAny_passesOwn hp (thn h4 fun _ s5 ⟨x, H5, I5, r5, y5, st5, fr5⟩ => ?_)
    have I5' := I5.pinned (stat fr5) (T.obj _ _ st5)
    refine wpAny_passesOwn hp (thn (hg _ s5 σ3 H5 x u _ I5' r5 (step x H5 y5)) fun _ s6 ⟨σ6, H6, I6, q6⟩ => ?_)
    refine wpAny_passesOwn hp (thn (hb _ s6 σ6 H6 _ I6 q6) fun f s7 q7 => ?_)
    have again : ∀ {σ7 : St} {H7 : Hp}, Inv X (pins ++ pinsAt fp s5.heap) σ7 H7 s7 → N σ7 H7 → ∃ m, m < n ∧ ∃ i σ' H', Inv X pins σ' H' s7 ∧ tn i s7.heap ∧ (∀ b ∈ fp, H' b = none) ∧ W i m σ' H' := fun {σ7 H7} I7 n7 => by
      obtain ⟨m', hm, w7⟩ := hN σ7 H7 n7
      refine ⟨m', hm, i + 1, σ7, H7, I7.unpinned, T.keep _ _ _ st5 fun b hb o e => (I7.pin (b, o) (List.mem_append_right _ (List.mem_append_right _ (mem_pinsAt hb e)))).1, fun b hb => ?_, w7⟩
      obtain ⟨o, e, d⟩ := T.obj _ _ st5 b hb
      exact (I7.pin (b, o) (List.mem_append_right _ (List.mem_append_right _ (mem_pinsAt hb e)))).2.1
    cases f with
    | next => obtain ⟨σ7, H7, I7, n7⟩ := q7; exact again I7 n7
    | cont => obtain ⟨σ7, H7, I7, n7⟩ := q7; exact again I7 n7
    | brk => obtain ⟨σ7, H7, I7, q7⟩ := q7; exact ⟨σ7, H7, I7.unpinned, q7⟩
    | ret v => obtain ⟨x7, σ7, H7, I7, r7, q7⟩ := q7; exact ⟨x7, σ7, H7, I7.unpinned, r7, q7⟩
end

theorem for_list {K : PySem.W.Frag} {a : Addr} {xs : List V} {g : TG} {tb : TS} {D : Ends} {σ : St} {H : Hp} (Pv : Nat → St → Hp → Prop) (h0 : Pv 0 σ H) (hl : ∀ i σ H, i ≤ xs.length → Pv i σ H → SqL K H a xs)
    (hs : ∀ i x σ H, xs[i]? = some x → Pv i σ H → g x σ H fun σ2 H2 => tb { D with nx := Pv (i + 1), ct := Pv (i + 1), bk := D.nx } σ2 H2) (hd : ∀ σ H, Pv xs.length σ H → D.nx σ H) :
    ∃ W : Nat → Nat → St → Hp → Prop, (∃ m, W 0 m σ H) ∧ ∀ i m σ H, W i m σ H →
      ((Itl K a).stop i H ∧ D.nx σ H) ∨ ((Itl K a).go i H ∧ ∃ N : St → Hp → Prop, (∀ σ' H', N σ' H' → ∃ m', m' < m ∧ W (i + 1) m' σ' H') ∧ ∀ x H', (Itl K a).yld i H x H' → g x σ H' fun σ2 H2 => tb { D with nx := N, ct := N, bk := D.nx } σ2 H2) := by
  refine ⟨fun i m σ H => m = xs.length - i ∧ i ≤ xs.length ∧ Pv i σ H, ⟨xs.length, by simp, Nat.zero_le _, h0⟩, ?_⟩
  rintro i m σ H ⟨rfl, hi, p⟩
  have q := hl i σ H hi p
  by_cases hlt : i < xs.length
  · refine .inr ⟨⟨xs, xs[i], q, by simp [hlt]⟩, Pv (i + 1), fun σ' H' p' => ⟨xs.length - (i + 1), by omega, rfl, hlt, p'⟩, fun x H' y => ?_⟩
    obtain ⟨e, y⟩ := y
    subst e
    exact hs i x σ _ (y xs q) p
  · have e : i = xs.length := by omega
    subst e
    exact .inl ⟨⟨xs, q, Nat.le_refl _⟩, hd σ H p⟩
theorem for_range {lo : Int} {n : Nat} {g : TG} {tb : TS} {D : Ends} {σ : St} {H : Hp} (Pv : Nat → St → Hp → Prop) (h0 : Pv 0 σ H)
    (hs : ∀ i σ H, i < n → Pv i σ H → g (.int (lo + i)) σ H fun σ2 H2 => tb { D with nx := Pv (i + 1), ct := Pv (i + 1), bk := D.nx } σ2 H2) (hd : ∀ σ H, Pv n σ H → D.nx σ H) :
    ∃ W : Nat → Nat → St → Hp → Prop, (∃ m, W 0 m σ H) ∧ ∀ i m σ H, W i m σ H →
      ((Itr lo n).stop i H ∧ D.nx σ H) ∨ ((Itr lo n).go i H ∧ ∃ N : St → Hp → Prop, (∀ σ' H', N σ' H' → ∃ m', m' < m ∧ W (i + 1) m' σ' H') ∧ ∀ x H', (Itr lo n).yld i H x H' → g x σ H' fun σ2 H2 => tb { D with nx := N, ct := N, bk := D.nx } σ2 H2) := by
  refine ⟨fun i m σ H => m = n - i ∧ i ≤ n ∧ Pv i σ H, ⟨n, by simp, Nat.zero_le _, h0⟩, ?_⟩
  rintro i m σ H ⟨rfl, hi, p⟩
  by_cases hlt : i < n
  · refine .inr ⟨hlt, Pv (i + 1), fun σ' H' p' => ⟨n - (i + 1), by omega, rfl, hlt, p'⟩, fun x H' y => ?_⟩
    obtain ⟨e, y⟩ := y
    subst e y
    exact hs i σ _ hlt p
  · have e : i = n := by omega
    subst e
    exact .inl ⟨Nat.le_refl _, hd σ H p⟩
end L2

namespace L2
open PySem PySem.Spec PyProof.Rows

noncomputable abbrev R2 := V → V → Hp → VK → Prop
noncomputable def OpR (X : Cx) (f : Value → Value → Sem Value) (r : R2) : Prop :=
  ∀ (pins : List (Addr × Obj)) (s : Shared) (σ : St) (H : Hp) (x y : V) (v u : Value) (Q : VK), Inv X pins σ H s → RelV x v → RelV y u → r x y H Q →
    wpAny (model X.prog X.w) X.A (f v u) (EP X pins σ Q) X.xe s
noncomputable def UnR (X : Cx) (f : Value → Sem Value) (r : V → Hp → VK → Prop) : Prop :=
  ∀ (pins : List (Addr × Obj)) (s : Shared) (σ : St) (H : Hp) (x : V) (v : Value) (Q : VK), Inv X pins σ H s → RelV x v → r x H Q →
    wpAny (model X.prog X.w) X.A (f v) (EP X pins σ Q) X.xe s
noncomputable def CallR (X : Cx) (f : Value) (r : List V → Hp → VK → Prop) : Prop :=
  ∀ (pins : List (Addr × Obj)) (s : Shared) (σ : St) (H : Hp) (xs : List V) (us : List Value) (Q : VK), Inv X pins σ H s → Vals xs us → r xs H Q →
    wpAny (model X.prog X.w) X.A (call f us) (EP X pins σ Q) X.xe s
noncomputable def tOp (r : R2) (ta tb : TE) : TE := fun σ H Q => ta σ H fun x H1 => tb σ H1 fun y H2 => r x y H2 Q
noncomputable def tUn (r : V → Hp → VK → Prop) (ta : TE) : TE := fun σ H Q => ta σ H fun x H1 => r x H1 Q
noncomputable def rI (C : Int → Int → Prop) (g : Int → Int → V) : R2 := fun x y H Q => ∃ i j, x = .int i ∧ y = .int j ∧ C i j ∧ Q (g i j) H
noncomputable def rI0 (g : Int → Int → V) : R2 := fun x y H Q => ∃ i j, x = .int i ∧ y = .int j ∧ Q (g i j) H
noncomputable def rU (g : Int → V) : V → Hp → VK → Prop := fun x H Q => ∃ i, x = .int i ∧ Q (g i) H

section
variable {X : Cx} {a b c : Expr} {ta tb tc : TE} {pos : Pos}

theorem binT (ha : PE X a ta) (hb : PE X b tb) {pins : List (Addr × Obj)} {s : Shared} {σ : St} {H : Hp} {R : V → V → Hp → Prop} (I : Inv X pins σ H s)
    (h : ta σ H fun x H1 => tb σ H1 fun y H2 => R x y H2) {Q : Value → Shared → Prop} {f : Value → Value → Sem Value}
    (hf : ∀ v u s2 x y H2, Inv X pins σ H2 s2 → RelV x v → RelV y u → R x y H2 → wpAny (model X.prog X.w) X.A (f v u) Q X.xe s2) :
    wpAny (model X.prog X.w) X.A (eval a X.env) (fun v s₁ => wpAny (model X.prog X.w) X.A (eval b X.env) (fun u s₂ => wpAny (model X.prog X.w) X.A (f v u) Q X.xe s₂) X.xe s₁) X.xe s := by
  refine thn (ha pins s σ H _ I h) fun v s1 ⟨x, H1, I1, r1, q1⟩ => ?_
  refine thn (hb pins s1 σ H1 _ I1 q1) fun u s2 ⟨y, H2, I2, r2, q2⟩ => ?_
  exact hf v u s2 x y H2 I2 r1 r2 q2

theorem pe_op {op : Operator} {r : R2} (ho : OpR X (binaryOp op) r) (ha : PE X a ta) (hb : PE X b tb) : PE X (.BinOp a op b pos) (tOp r ta tb) := by
  intro pins s σ H Q I h
  exact wpAny_BinOp (binT ha hb I h fun v u s2 x y H2 I2 rx ry q => ho pins s2 σ H2 x y v u Q I2 rx ry q)
theorem pe_un {op : UnaryOp} {r : V → Hp → VK → Prop} (ho : UnR X (unaryOp op) r) (ha : PE X a ta) : PE X (.UnaryOp op a pos) (tUn r ta) := by
  intro pins s σ H Q I h
  exact UnaryOp_ (thn (ha pins s σ H _ I h) fun v s1 ⟨x, H1, I1, r1, q1⟩ => ho pins s1 σ H1 x v Q I1 r1 q1)
theorem opI {f : Value → Value → Sem Value} {C : Int → Int → Prop} {g : Int → Int → Int}
    (rule : ∀ (i j : Int) (t u : Tok) (s : Shared) (Q : Value → Shared → Prop) (E : Value → Shared → Prop), C i j → Q (.int (g i j) s.toks) { s with toks := s.toks + 1 } → wpAny (model X.prog X.w) X.A (f (.int i t) (.int j u)) Q E s) :
    OpR X f (rI C fun i j => .int (g i j)) := by
  intro pins s σ H x y v u Q I rx ry h
  obtain ⟨i, j, rfl, rfl, hc, q⟩ := h
  obtain ⟨t, rfl⟩ := rx
  obtain ⟨t', rfl⟩ := ry
  exact rule i j t t' s _ _ hc ⟨.int (g i j), H, I.tok _, ⟨_, rfl⟩, q⟩
theorem opI0 {f : Value → Value → Sem Value} {g : Int → Int → Int}
    (rule : ∀ (i j : Int) (t u : Tok) (s : Shared) (Q : Value → Shared → Prop) (E : Value → Shared → Prop), Q (.int (g i j) s.toks) { s with toks := s.toks + 1 } → wpAny (model X.prog X.w) X.A (f (.int i t) (.int j u)) Q E s) :
    OpR X f (rI0 fun i j => .int (g i j)) := by
  intro pins s σ H x y v u Q I rx ry h
  obtain ⟨i, j, rfl, rfl, q⟩ := h
  obtain ⟨t, rfl⟩ := rx
  obtain ⟨t', rfl⟩ := ry
  exact rule i j t t' s _ _ ⟨.int (g i j), H, I.tok _, ⟨_, rfl⟩, q⟩
theorem opB0 {f : Value → Value → Sem Value} {g : Int → Int → Bool}
    (rule : ∀ (i j : Int) (t u : Tok) (s : Shared) (Q : Value → Shared → Prop) (E : Value → Shared → Prop), Q (.bool (g i j)) s → wpAny (model X.prog X.w) X.A (f (.int i t) (.int j u)) Q E s) :
    OpR X f (rI0 fun i j => .bl (g i j)) := by
  intro pins s σ H x y v u Q I rx ry h
  obtain ⟨i, j, rfl, rfl, q⟩ := h
  obtain ⟨t, rfl⟩ := rx
  obtain ⟨t', rfl⟩ := ry
  exact rule i j t t' s _ _ ⟨.bl (g i j), H, I, rfl, q⟩

noncomputable def CPow (i j : Int) : Prop := 0 ≤ j ∧ j ≤ 1000000 ∧ i.natAbs < 2 ^ 64
noncomputable def CMul (i j : Int) : Prop := (-(2 ^ 64) < i ∧ i < 2 ^ 64) ∨ (-(2 ^ 64) < j ∧ j < 2 ^ 64)
theorem CMul.ok {i j : Int} (h : CMul i j) : IntMulOk i j := by
  rcases h with ⟨h1, h2⟩ | ⟨h1, h2⟩
  · exact .of_left (intBits_le_64 h1 h2)
  · exact .of_right (intBits_le_64 h1 h2)
theorem two_pow_nn (k : Nat) : (0 : Int) ≤ 2 ^ k := by
  rw [two_pow_cast]
  exact Int.natCast_nonneg _

theorem op_add : OpR X (binaryOp .Add) (rI0 fun i j => .int (i + j)) := opI0 fun _ _ _ _ _ _ _ q => add_int q
theorem op_sub : OpR X (binaryOp .Sub) (rI0 fun i j => .int (i - j)) := opI0 fun _ _ _ _ _ _ _ q => sub_int q
theorem op_mul : OpR X (binaryOp .Mult) (rI CMul fun i j => .int (i * j)) := opI fun _ _ _ _ _ _ _ hc q => mul_int q hc.ok
theorem op_mod : OpR X (binaryOp .Mod) (rI (fun _ j => 0 < j) fun i j => .int (i % j)) := opI fun i j _ _ _ _ _ hc q => by
  have h1 : (0 : Int) < j := hc
  exact mod_int' (by omega) (by rw [Int.fmod_eq_emod_of_nonneg i (by omega)]; exact q)
theorem op_pow : OpR X (binaryOp .Pow) (rI CPow fun i j => .int (i ^ j.toNat)) := opI fun _ _ _ _ _ _ _ hc q => pow_int_small hc.1 hc.2.1 hc.2.2 q
theorem op_shl : OpR X (binaryOp .LShift) (rI CPow fun i j => .int (i * 2 ^ j.toNat)) := opI fun _ _ _ _ _ _ _ hc q => lshift_int_small hc.1 hc.2.1 hc.2.2 q
theorem op_shr : OpR X (binaryOp .RShift) (rI (fun _ j => 0 ≤ j) fun i j => .int (i / 2 ^ j.toNat)) := opI fun i j _ _ _ _ _ hc q =>
  rshift_int hc (by rw [Int.fdiv_eq_ediv_of_nonneg i (two_pow_nn _)]; exact q)
theorem op_and : OpR X (binaryOp .BitAnd) (rI0 fun i j => .int (Builtin.bitAnd i j)) := opI0 fun _ _ _ _ _ _ _ q => and_int q
theorem op_or : OpR X (binaryOp .BitOr) (rI0 fun i j => .int (Builtin.bitOr i j)) := opI0 fun _ _ _ _ _ _ _ q => or_int q
theorem op_xor : OpR X (binaryOp .BitXor) (rI0 fun i j => .int (Builtin.bitXor i j)) := opI0 fun _ _ _ _ _ _ _ q => xor_int q

theorem unI {f : Value → Sem Value} {g : Int → Int}
    (rule : ∀ (i : Int) (t : Tok) (s : Shared) (Q : Value → Shared → Prop) (E : Value → Shared → Prop), Q (.int (g i) s.toks) { s with toks := s.toks + 1 } → wpAny (model X.prog X.w) X.A (f (.int i t)) Q E s) :
    UnR X f (rU fun i => .int (g i)) := by
  intro pins s σ H x v Q I rx h
  obtain ⟨i, rfl, q⟩ := h
  obtain ⟨t, rfl⟩ := rx
  exact rule i t s _ _ ⟨.int (g i), H, I.tok _, ⟨_, rfl⟩, q⟩
theorem un_neg : UnR X (unaryOp .USub) (rU fun i => .int (-i)) := unI fun _ _ _ _ _ q => neg_int q
end

noncomputable def scal : V → V → Bool
  | .non, .non => true | .non, .int _ => true | .int _, .non => true | .non, .bl _ => true | .bl _, .non => true | .non, .str _ => true | .str _, .non => true
  | .int _, .int _ => true | .bl _, .bl _ => true | .str _, .str _ => true | .byt _, .byt _ => true
  | .int _, .str _ => true | .str _, .int _ => true | .bl _, .str _ => true | .str _, .bl _ => true
  | _, _ => false
noncomputable def rEq : R2 := fun x y H Q => scal x y = true ∧ Q (.bl (decide (x = y))) H
noncomputable def rNe : R2 := fun x y H Q => scal x y = true ∧ Q (.bl (!decide (x = y))) H

theorem dec_int {i j : Int} : decide (V.int i = V.int j) = (i == j) := by
  rw [Bool.eq_iff_iff]
  simp
theorem dec_bl {i j : Bool} : decide (V.bl i = V.bl j) = (i == j) := by
  rw [Bool.eq_iff_iff]
  simp
theorem dec_str {i j : Str} : decide (V.str i = V.str j) = (i == j) := by
  rw [Bool.eq_iff_iff]
  simp
theorem dec_byt {i j : Array UInt8} : decide (V.byt i = V.byt j) = (i.toList == j.toList) := by
  rw [Bool.eq_iff_iff]
  cases i
  cases j
  simp

section
variable {X : Cx} {a b c : Expr} {ta tb tc : TE} {pos : Pos}
theorem fin_bl {pins : List (Addr × Obj)} {σ : St} {H : Hp} {s : Shared} {Q : VK} {k k' : Bool} (I : Inv X pins σ H s) (q : Q (.bl k) H) (e : k = k') : EP X pins σ Q (.bool k') s := by
  subst e
  exact ⟨.bl k, H, I, rfl, q⟩
theorem op_eq : OpR X (compareOp .Eq) rEq := by
  intro pins s σ H x y v u Q I rx ry h
  obtain ⟨hs, q⟩ := h
  cases x with
  | non =>
    cases rx
    cases y with
    | non => cases ry; exact PySem.EqNone.eq_none_none (fin_bl I q (by simp))
    | bl j => cases ry; exact PySem.EqNone.eq_none_bool (fin_bl I q (by simp))
    | int j => obtain ⟨t', rfl⟩ := ry; exact PySem.EqNone.eq_none_int (fin_bl I q (by simp))
    | str j => obtain ⟨t', rfl⟩ := ry; exact PySem.EqNone.eq_none_str (fin_bl I q (by simp))
    | _ => exact absurd (show false = true from hs) Bool.false_ne_true
  | bl i =>
    cases rx
    cases y with
    | non => cases ry; exact PySem.EqNone.eq_bool_none (fin_bl I q (by simp))
    | bl j => cases ry; exact eq_bool (fin_bl I q dec_bl)
    | str j => obtain ⟨t', rfl⟩ := ry; exact PySem.EqMixed.eq_bool_str (fin_bl I q (by simp))
    | _ => exact absurd (show false = true from hs) Bool.false_ne_true
  | int i =>
    obtain ⟨t, rfl⟩ := rx
    cases y with
    | non => cases ry; exact PySem.EqNone.eq_int_none (fin_bl I q (by simp))
    | int j => obtain ⟨t', rfl⟩ := ry; exact eq_int (fin_bl I q dec_int)
    | str j => obtain ⟨t', rfl⟩ := ry; exact PySem.EqMixed.eq_int_str (fin_bl I q (by simp))
    | _ => exact absurd (show false = true from hs) Bool.false_ne_true
  | str i =>
    obtain ⟨t, rfl⟩ := rx
    cases y with
    | non => cases ry; exact PySem.EqNone.eq_str_none (fin_bl I q (by simp))
    | bl j => cases ry; exact PySem.EqMixed.eq_str_bool (fin_bl I q (by simp))
    | int j => obtain ⟨t', rfl⟩ := ry; exact PySem.EqMixed.eq_str_int (fin_bl I q (by simp))
    | str j => obtain ⟨t', rfl⟩ := ry; exact eq_str (fin_bl I q dec_str)
    | _ => exact absurd (show false = true from hs) Bool.false_ne_true
  | byt i =>
    obtain ⟨t, rfl⟩ := rx
    cases y with
    | byt j => obtain ⟨t', rfl⟩ := ry; exact PySem.W.eq_bytes (fin_bl I q dec_byt)
    | _ => exact absurd (show false = true from hs) Bool.false_ne_true
  | _ => cases y <;> exact absurd (show false = true from hs) Bool.false_ne_true
theorem op_ne : OpR X (compareOp .NotEq) rNe := by
  intro pins s σ H x y v u Q I rx ry h
  obtain ⟨hs, q⟩ := h
  cases x with
  | non =>
    cases rx
    cases y with
    | non => cases ry; exact PySem.EqNone.ne_none_none (fin_bl I q (by simp))
    | bl j => cases ry; exact PySem.EqNone.ne_none_bool (fin_bl I q (by simp))
    | int j => obtain ⟨t', rfl⟩ := ry; exact PySem.EqNone.ne_none_int (fin_bl I q (by simp))
    | str j => obtain ⟨t', rfl⟩ := ry; exact PySem.EqNone.ne_none_str (fin_bl I q (by simp))
    | _ => exact absurd (show false = true from hs) Bool.false_ne_true
  | bl i =>
    cases rx
    cases y with
    | non => cases ry; exact PySem.EqNone.ne_bool_none (fin_bl I q (by simp))
    | bl j => cases ry; exact ne_bool (fin_bl I q (congrArg not dec_bl))
    | str j => obtain ⟨t', rfl⟩ := ry; exact PySem.EqMixed.ne_bool_str (fin_bl I q (by simp))
    | _ => exact absurd (show false = true from hs) Bool.false_ne_true
  | int i =>
    obtain ⟨t, rfl⟩ := rx
    cases y with
    | non => cases ry; exact PySem.EqNone.ne_int_none (fin_bl I q (by simp))
    | int j => obtain ⟨t', rfl⟩ := ry; exact ne_int (fin_bl I q (congrArg not dec_int))
    | str j => obtain ⟨t', rfl⟩ := ry; exact PySem.EqMixed.ne_int_str (fin_bl I q (by simp))
    | _ => exact absurd (show false = true from hs) Bool.false_ne_true
  | str i =>
    obtain ⟨t, rfl⟩ := rx
    cases y with
    | non => cases ry; exact PySem.EqNone.ne_str_none (fin_bl I q (by simp))
    | bl j => cases ry; exact PySem.EqMixed.ne_str_bool (fin_bl I q (by simp))
    | int j => obtain ⟨t', rfl⟩ := ry; exact PySem.EqMixed.ne_str_int (fin_bl I q (by simp))
    | str j => obtain ⟨t', rfl⟩ := ry; exact ne_str (fin_bl I q (congrArg not dec_str))
    | _ => exact absurd (show false = true from hs) Bool.false_ne_true
  | byt i =>
    obtain ⟨t, rfl⟩ := rx
    cases y with
    | byt j => obtain ⟨t', rfl⟩ := ry; exact PySem.W.ne_bytes (fin_bl I q (congrArg not dec_byt))
    | _ => exact absurd (show false = true from hs) Bool.false_ne_true
  | _ => cases y <;> exact absurd (show false = true from hs) Bool.false_ne_true

theorem op_lt : OpR X (compareOp .Lt) (rI0 fun i j => .bl (decide (i < j))) := opB0 fun _ _ _ _ _ _ _ q => lt_int q
theorem op_gt : OpR X (compareOp .Gt) (rI0 fun i j => .bl (decide (j < i))) := opB0 fun _ _ _ _ _ _ _ q => gt_int q
theorem op_ge : OpR X (compareOp .GtE) (rI0 fun i j => .bl (decide (j ≤ i))) := opB0 fun _ _ _ _ _ _ _ q => ge_int q
theorem op_isN : OpR X (compareOp .Is) (fun x y H Q => y = .non ∧ Q (.bl (decide (x = .non))) H) := by
  intro pins s σ H x y v u Q I rx ry h
  obtain ⟨rfl, q⟩ := h
  cases ry
  refine is_none_gen (fin_bl I q ?_)
  cases x <;> first
    | (cases rx; rfl)
    | (obtain ⟨t, rfl⟩ := rx; rfl)
theorem OpR.or {f : Value → Value → Sem Value} {r r' : R2} (h : OpR X f r) (h' : OpR X f r') : OpR X f (fun x y H Q => r x y H Q ∨ r' x y H Q) := by
  intro pins s σ H x y v u Q I rx ry q
  rcases q with q | q
  · exact h pins s σ H x y v u Q I rx ry q
  · exact h' pins s σ H x y v u Q I rx ry q

theorem nomark (b : Expr) {op : CmpOp} (h : op ≠ .In := by decide) (h2 : op ≠ .NotIn := by decide) : behindInMarks op b = false := by
  have e1 : (op == CmpOp.In) = false := by cases op <;> first | rfl | exact absurd rfl h
  have e2 : (op == CmpOp.NotIn) = false := by cases op <;> first | rfl | exact absurd rfl h2
  cases b <;> simp [behindInMarks, e1, e2]
theorem pe_cmpR {op : CmpOp} {r : R2} (ho : OpR X (compareOp op) r) (ha : PE X a ta) (hb : PE X b tb) (hm : behindInMarks op b = false) : PE X (.Compare a [op] [b] pos) (tOp r ta tb) := by
  intro pins s σ H Q I h
  exact wpAny_Compare1 (binT ha hb I h fun v u s2 x y H2 I2 rx ry q => ho pins s2 σ H2 x y v u Q I2 rx ry q) hm
noncomputable def tTest (t : TE) : TT := fun σ H Q => t σ H fun x H' => ∃ k, x = .bl k ∧ Q k H'
theorem pt_cmpR {op : CmpOp} {r : R2} (ho : OpR X (compareOp op) r) (ha : PE X a ta) (hb : PE X b tb) (hm : behindInMarks op b = false) : PT X (.Compare a [op] [b] pos) (tTest (tOp r ta tb)) := by
  intro pins s σ H Q I h
  refine wpAny_isTrue_Compare1 (thn (ha pins s σ H _ I h) fun v s1 ⟨x, H1, I1, r1, q1⟩ => thn (hb pins s1 σ H1 _ I1 q1) fun u s2 ⟨y, H2, I2, r2, q2⟩ =>
    thn (ho pins s2 σ H2 x y v u _ I2 r1 r2 q2) fun c s3 ⟨z, H3, I3, r3, k, e, q3⟩ => ?_) hm
  subst e
  cases r3
  exact wpAny_truthy_bool ⟨H3, I3, q3⟩
theorem line63 : (sizeLine : Nat) < 2 ^ 63 := by rw [sizeLine_eq]; decide
theorem vals1 {x : V} {us : List Value} (r : Vals [x] us) : ∃ u, us = [u] ∧ RelV x u := by
  cases r with
  | cons r1 r2 => cases r2; exact ⟨_, rfl, r1⟩
theorem vals2 {x y : V} {us : List Value} (r : Vals [x, y] us) : ∃ u w', us = [u, w'] ∧ RelV x u ∧ RelV y w' := by
  cases r with
  | cons r1 r2 =>
    cases r2 with
    | cons r3 r4 => cases r4; exact ⟨_, _, rfl, r1, r3⟩
theorem call_max2 (hc : X.calm = true) : CallR X (.builtin "max") (fun xs H Q => ∃ i j, xs = [.int i, .int j] ∧ Q (.int (if j > i then j else i)) H) := by
  intro pins s σ H xs us Q I r h
  obtain ⟨i, j, rfl, q⟩ := h
  obtain ⟨u, w', rfl, ⟨t, rfl⟩, ⟨t', rfl⟩⟩ := vals2 r
  refine max_two_ints (I.ok.hd hc) fun h' tk k => ⟨_, H, I.kept k, ?_, q⟩
  by_cases hj : j > i
  · rw [if_pos hj, if_pos hj]; exact ⟨_, rfl⟩
  · rw [if_neg hj, if_neg hj]; exact ⟨_, rfl⟩
end
end L2

namespace L2
open PySem PySem.Spec PyProof.Rows

structure ObjM (h : Heap) (x dx C : Addr) (mA : Str → Option Value) : Prop where
  obj : h.get? x = some (PySem.W.instObj C dx)
  ns : h.Ns1 dx mA
  ne : dx ≠ x

theorem lookIn_ns {h : Heap} {dx : Addr} {mA : Str → Option Value} (n : h.Ns1 dx mA) : ∃ od, h.get? dx = some od ∧ ∀ name, PySem.W.lookIn name od = some (mA name) := by
  obtain ⟨o, es, ep, ho, hd, hk, _, hm⟩ := n
  refine ⟨o, ho, fun name => ?_⟩
  have e := hm name
  unfold nsFind findBy at e
  rw [← Array.find?_toList] at e
  unfold PySem.W.lookIn
  rw [hd]
  dsimp only
  split
  · rename_i y q
    rw [q] at e
    exact congrArg some e
  · rename_i q
    rw [q] at e
    have a : es.toList.any (·.refKey) = false := by
      rw [List.any_eq_false]
      intro y hy
      obtain ⟨z, t, hkey⟩ := hk y (Array.mem_toList_iff.mp hy)
      simp [DictEntry.refKey, hkey]
    have a' : ¬ es.toList.any (·.refKey) = true := by rw [a]; exact Bool.false_ne_true
    rw [if_neg a']
    exact congrArg some e

theorem ObjM.look {h : Heap} {x dx C : Addr} {mA : Str → Option Value} (I : ObjM h x dx C mA) : ∃ od, PySem.W.InstAt h x (PySem.W.instObj C dx) C (some od) ∧ ∀ name, PySem.W.lookIn name od = some (mA name) :=
  let ⟨od, ho, hl⟩ := lookIn_ns I.ns
  ⟨od, ⟨I.obj, rfl, rfl, ho⟩, hl⟩

section
variable {prog : Program} {w : World} {A : Around} {E : Value → Shared → Prop} {s : Shared} {K : PySem.W.Frag} {x dx C f : Addr} {mA : Str → Option Value} {name : Str} {v : Value}

theorem get_map {expr : Bool} {Q : Value → Shared → Prop} (X : K.In s.heap) (I : ObjM s.heap x dx C mA) (hg : PySem.W.plainGet K C name = true) (hh : PySem.W.hasDictIn K C = true)
    (ha : PySem.W.findIn K (.ref C) name = some none) (hv : mA name = some v) (hv' : PySem.W.handedIn v = true) (h : Q v { s with toks := s.toks + 1 }) :
    wpAny (model prog w) A (getAttr (.ref x) name expr) Q E s := by
  obtain ⟨od, J, hl⟩ := I.look
  exact PySem.W.get_value X J (PySem.W.plainGet_of hg).1 (PySem.W.findObj_own hh ha rfl (by rw [hl, hv])) hv' h

theorem get_meth {pl : Sem Bool} {Q : Value × List Value → Shared → Prop} (X : K.In s.heap) (I : ObjM s.heap x dx C mA) (hg : PySem.W.plainGet K C name = true)
    (hf : PySem.W.findIn K (.ref C) name = some (some (.ref f))) (ht : PySem.W.isFn K (.ref f) = true) (hv : mA name = none) (h : Q (.ref f, [.ref x]) s) :
    wpAny (model prog w) A (getMethod (.ref x) name pl) Q E s := by
  obtain ⟨od, J, hl⟩ := I.look
  exact PySem.W.method_fn X J (PySem.W.plainGet_of hg).1 (PySem.W.plainGet_of hg).2 hf (beq_iff_eq.mp ht) (by show (PySem.W.lookIn name od).map (·.isSome) = some false; rw [hl, hv]; rfl) h

theorem set_map {ns : List Str} {Q : Unit → Shared → Prop} (X : K.In s.heap) (I : ObjM s.heap x dx C mA)
    (hs : PySem.W.findIn K (.ref C) "__setattr__" = some (some (.builtin "object.__setattr__"))) (hp : PySem.W.plainOver K C = true) (ht : PySem.W.takerIn K C name = some none) (hh : PySem.W.hasDictIn K C = true)
    (hw : PySem.Within mA ns) (hsz : ns.length ≤ sizeLine)
    (h : ∀ h', ObjM h' x dx C (fun y => if y = name then some v else mA y) → Heap.SameBut dx s.heap h' → Q () { s with heap := h', toks := s.toks + 2 }) :
    wpAny (model prog w) A (setAttr (.ref x) name v) Q E s := by
  obtain ⟨od, J, hl⟩ := I.look
  refine PySem.W.set_plain X J hs (PySem.W.osa_open (s := { s with toks := s.toks + 1 }) (r := none) X J hp ht fun b => ?_)
  obtain ⟨cd, hc, hd'⟩ := PySem.W.any_some hh
  have hx : s.heap.get? x = some ⟨.ref C, some dx, .plain, #[]⟩ := I.obj
  refine wpAny_bind (wpAny_pure (wpAny_bind (wpAny_bind (wpAny_loadPart hx (wpAny_bind (PySem.W.Looks.here (s := { s with toks := s.toks + 1 }) (PySem.W.looks_clsIn X hc) ?_))))))
  rw [hd']
  refine wpAny_pure (a := some dx) (wpAny_bind (wpAny_pure (wpAny_bind ?_)))
  refine wpAny_nsSet1 (s := { s with toks := s.toks + 1 }) I.ns fun h' hn2 hs2 => ?_
  obtain ⟨oD, esD, epD, hoD, hdD, hcD⟩ := hn2.count (PySem.Within.cons name v hw)
  refine wpAny_bind (wpAny_lookBehind hoD (by rw [hdD]; exact pastItsLine_dict (Nat.le_trans hcD (by rw [List.length_cons]; omega))) ?_)
  exact wpAny_pure (h _ ⟨(hs2.2 _ (Ne.symm I.ne)).trans I.obj, hn2, I.ne⟩ hs2)

theorem make_map {R : Result → Shared → Prop} {vs : List Value} {kw : List (Str × Value)} (X : K.In s.heap) (hm : PySem.W.makesIn K C = true)
    (hi : PySem.W.findIn K (.ref C) "__init__" = some (some (.ref f))) (hf : PySem.W.typeIn K (.ref f) = some (.type "function"))
    (h : codeAny (model prog w) (A.under (.builtin "type.__call__" ⟨.ref C :: vs, kw⟩)) (.call (.ref f) ⟨.ref (s.heap.objs.size + 1) :: vs, kw⟩) (PySem.W.InitBack (s.heap.objs.size + 1) R)
      { s with heap := (s.heap.push PySem.W.emptyDict).push (PySem.W.instObj C s.heap.objs.size) }) :
    codeAny (model prog w) A (.call (.ref C) ⟨vs, kw⟩) R s := by
  obtain ⟨hh, g, d, t, os⟩ := s
  exact PySem.W.make_core (PySem.W.makes_of X hm) (PySem.W.looks_findIn X hi) (fun self => PySem.W.bind_fn X self hf) (.inl rfl) h
end

noncomputable def putF (f : Str) (v : V) : List (Str × V) → List (Str × V)
  | [] => [(f, v)]
  | (g, x) :: r => if g = f then (g, v) :: r else (g, x) :: putF f v r
theorem lookup_putF (f g : Str) (v : V) : ∀ fs : List (Str × V), (putF f v fs).lookup g = if g = f then some v else fs.lookup g
  | [] => by
    show List.lookup g [(f, v)] = _
    by_cases h : g = f
    · have hb : (g == f) = true := beq_iff_eq.mpr h
      simp only [List.lookup, hb, if_pos h]
    · have hb : (g == f) = false := beq_eq_false_iff_ne.mpr h
      simp only [List.lookup, hb, if_neg h]
  | (k, x) :: r => by
    have ih := lookup_putF f g v r
    rw [show putF f v ((k, x) :: r) = (if k = f then (k, v) :: r else (k, x) :: putF f v r) from rfl]
    by_cases hk : k = f
    · rw [if_pos hk]
      by_cases h : g = k
      · have hb : (g == k) = true := beq_iff_eq.mpr h
        simp only [List.lookup, hb, if_pos (h.trans hk)]
      · have hb : (g == k) = false := beq_eq_false_iff_ne.mpr h
        simp only [List.lookup, hb, if_neg (fun e : g = f => h (e.trans hk.symm))]
    · rw [if_neg hk]
      by_cases h : g = k
      · have hb : (g == k) = true := beq_iff_eq.mpr h
        simp only [List.lookup, hb, if_neg (fun e : g = f => hk (h.symm.trans e))]
      · have hb : (g == k) = false := beq_eq_false_iff_ne.mpr h
        simp only [List.lookup, hb]
        exact ih
theorem keys_putF (f : Str) (v : V) : ∀ fs : List (Str × V), f ∈ (putF f v fs).map (·.1) ∧ ∀ g, g ∈ fs.map (·.1) → g ∈ (putF f v fs).map (·.1)
  | [] => ⟨by simp [putF], fun g h => by simp at h⟩
  | (k, x) :: r => by
    obtain ⟨i1, i2⟩ := keys_putF f v r
    rw [show putF f v ((k, x) :: r) = (if k = f then (k, v) :: r else (k, x) :: putF f v r) from rfl]
    by_cases hk : k = f
    · rw [if_pos hk]
      subst hk
      exact ⟨by simp, fun g h => by simpa using h⟩
    · rw [if_neg hk]
      refine ⟨?_, fun g h => ?_⟩
      · rw [List.map_cons]
        exact List.mem_cons_of_mem _ i1
      · rw [List.map_cons] at h ⊢
        rcases List.mem_cons.mp h with e | e
        · exact List.mem_cons.mpr (.inl e)
        · exact List.mem_cons_of_mem _ (i2 g e)
theorem length_putF (f : Str) (v : V) : ∀ fs : List (Str × V), (putF f v fs).length ≤ fs.length + 1
  | [] => by simp [putF]
  | (k, x) :: r => by
    have ih := length_putF f v r
    rw [show putF f v ((k, x) :: r) = (if k = f then (k, v) :: r else (k, x) :: putF f v r) from rfl]
    by_cases hk : k = f
    · rw [if_pos hk, List.length_cons, List.length_cons]; omega
    · rw [if_neg hk, List.length_cons, List.length_cons]; omega

theorem RelO.some_of {v : V} {o : Option Value} (r : RelO (some v) o) : ∃ u, o = some u ∧ RelV v u := by
  cases o with
  | none => exact (show False from r).elim
  | some u => exact ⟨u, rfl, r⟩
theorem RelO.none_of {o : Option Value} (r : RelO none o) : o = none := by
  cases o with
  | none => rfl
  | some u => exact (show False from r).elim
theorem handed_of {v : V} {u : Value} (r : RelV v u) : PySem.W.handedIn u = true := by
  cases v with
  | non => cases (show u = Value.none from r); rfl
  | bl b => cases (show u = Value.bool b from r); rfl
  | int i => obtain ⟨t, e⟩ := (show ∃ t, u = Value.int i t from r); cases e; rfl
  | str x => obtain ⟨t, e⟩ := (show ∃ t, u = Value.str x t from r); cases e; rfl
  | byt b => obtain ⟨t, e⟩ := (show ∃ t, u = Value.bytes b t from r); cases e; rfl
  | flt b => obtain ⟨t, e⟩ := (show ∃ t, u = Value.float b t from r); cases e; rfl
  | ref a => cases (show u = Value.ref a from r); rfl
  | ty n => cases (show u = Value.type n from r); rfl

section
variable {P : Program} {w : World} {H H' : Hp} {h h' : Heap} {a C dx : Addr} {fs fs' : List (Str × V)}
theorem ins_get (hok : HOk P w H h) (e : H a = some (.ins C dx fs)) : ∃ mA, ObjM h a dx C mA ∧ (∀ f, RelO (fs.lookup f) (mA f)) ∧ PySem.Within mA (fs.map (·.1)) ∧ fs.length ≤ 1000 ∧ H dx = some (.own a) := by
  obtain ⟨d, z, ne, ob, mA, n, r, q⟩ := (show ObjOk P w H h a (.ins C dx fs) from hok a _ e)
  exact ⟨mA, ⟨ob, n, ne⟩, r, q, z, d⟩
end

structure Cls (K : PySem.W.Frag) (C : Addr) : Prop where
  pg : PySem.W.plainGet K C Str.empty = true
  hd : PySem.W.hasDictIn K C = true
  po : PySem.W.plainOver K C = true
  sa : PySem.W.findIn K (.ref C) "__setattr__" = some (some (.builtin "object.__setattr__"))
theorem Cls.get {K : PySem.W.Frag} {C : Addr} (c : Cls K C) (f : Str) : PySem.W.plainGet K C f = true := c.pg
noncomputable def NoAttr (K : PySem.W.Frag) (C : Addr) (f : Str) : Prop := PySem.W.findIn K (.ref C) f = some none
theorem NoAttr.taker {K : PySem.W.Frag} {C : Addr} {f : Str} (n : NoAttr K C f) : PySem.W.takerIn K C f = some none := by
  unfold PySem.W.takerIn
  rw [show PySem.W.findIn K (.ref C) f = some none from n]
  rfl
structure Con (K : PySem.W.Frag) (C : Addr) (f : Str) (v : V) (u : Value) : Prop where
  at_ : PySem.W.findIn K (.ref C) f = some (some u)
  rel : RelV v u
  get : PySem.W.specialIn K u "__get__" = some none
  cp : PySem.W.copiedNames.contains f = false
structure Meth (K : PySem.W.Frag) (C : Addr) (m : Str) (f : Addr) : Prop where
  at_ : PySem.W.findIn K (.ref C) m = some (some (.ref f))
  fn : PySem.W.isFn K (.ref f) = true
  kp : PySem.W.keepIn K (.ref f) = true

section
variable {X : Cx} {pins : List (Addr × Obj)} {σ : St} {H : Hp} {s : Shared} {a C dx : Addr} {fs : List (Str × V)} {f : Str} {v : V} {A : Around} {E : Value → Shared → Prop}

theorem getattr_ok {b : Bool} {Q : Value → Shared → Prop} (I : Inv X pins σ H s) (e : H a = some (.ins C dx fs)) (c : Cls X.K C) (n : NoAttr X.K C f) (l : fs.lookup f = some v)
    (h : ∀ u s', Inv X pins σ H s' → RelV v u → Q u s') : wpAny (model X.prog X.w) A (getAttr (.ref a) f b) Q E s := by
  obtain ⟨mA, O, r, _, _, _⟩ := ins_get I.hok e
  obtain ⟨u, hu, ru⟩ := RelO.some_of (v := v) (o := mA f) (by rw [← l]; exact r f)
  exact get_map I.kIn O (c.get f) c.hd n hu (handed_of ru) (h u _ (I.tok _) ru)

theorem getmeth_ok {m : Str} {g : Addr} {pl : Sem Bool} {Q : Value × List Value → Shared → Prop} (I : Inv X pins σ H s) (e : H a = some (.ins C dx fs)) (c : Cls X.K C) (k : Meth X.K C m g) (l : fs.lookup m = none)
    (h : Q (.ref g, [.ref a]) s) : wpAny (model X.prog X.w) A (getMethod (.ref a) m pl) Q E s := by
  obtain ⟨mA, O, r, _, _, _⟩ := ins_get I.hok e
  have hn : mA m = none := RelO.none_of (by rw [← l]; exact r m)
  exact get_meth I.kIn O (c.get m) k.at_ k.fn hn h

theorem setattr_ok {y : V} {u : Value} {Q : Unit → Shared → Prop} (I : Inv X pins σ H s) (e : H a = some (.ins C dx fs)) (c : Cls X.K C) (n : NoAttr X.K C f) (hl : fs.length < 1000) (ry : RelV y u)
    (h : ∀ s', Inv X pins σ (upd H a (.ins C dx (putF f y fs))) s' → Q () s') : wpAny (model X.prog X.w) A (setAttr (.ref a) f u) Q E s := by
  obtain ⟨mA, O, r, wi, _, ho⟩ := ins_get I.hok e
  have hz : (fs.map (·.1)).length ≤ sizeLine := by rw [List.length_map, sizeLine_eq]; omega
  refine set_map I.kIn O c.sa c.po n.taker c.hd wi hz fun h' O' sb => h _ ?_
  have hd : ∃ o, h'.get? dx = some o := let ⟨o, _, _, e', _⟩ := O'.ns; ⟨o, e'⟩
  refine I.write (x := a) (e := dx) (by rw [e]; exact True.intro) (.inr ho) (fun b q hb z => (sb.2 b hb).trans z) hd ?_
  refine ⟨by rw [upd_ne O.ne]; exact ho, ?_, O.ne, O'.obj, _, O'.ns, fun g => ?_, fun g hg => ?_⟩
  · have := length_putF f y fs; omega
  · show RelO ((putF f y fs).lookup g) (if g = f then some u else mA g)
    rw [lookup_putF]
    by_cases q : g = f
    · rw [if_pos q, if_pos q]; exact ry
    · rw [if_neg q, if_neg q]; exact r g
  · by_cases q : g = f
    · rw [q]; exact (keys_putF f y fs).1
    · refine (keys_putF f y fs).2 g (wi g fun z => hg ?_)
      show (if g = f then some u else mA g) = none
      rw [if_neg q]; exact z

theorem Inv.made (I : Inv X pins σ H s) : Inv X pins σ (upd (upd H s.heap.objs.size (.own (s.heap.objs.size + 1))) (s.heap.objs.size + 1) (.ins C s.heap.objs.size []))
    { s with heap := (s.heap.push PySem.W.emptyDict).push (PySem.W.instObj C s.heap.objs.size) } := by
  have e1 : (s.heap.push PySem.W.emptyDict).get? s.heap.objs.size = some PySem.W.emptyDict := Heap.get?_push_size s.heap rfl
  have e2 : ((s.heap.push PySem.W.emptyDict).push (PySem.W.instObj C s.heap.objs.size)).get? (s.heap.objs.size + 1) = some (PySem.W.instObj C s.heap.objs.size) := by
    have := Heap.get?_push_size (s.heap.push PySem.W.emptyDict) (o := PySem.W.instObj C s.heap.objs.size) rfl
    rwa [Heap.size_push] at this
  have e3 : (s.heap.push PySem.W.emptyDict).Ns s.heap.objs.size (fun _ => none) := ⟨PySem.W.emptyDict, #[], _, e1, rfl, (fun e he => absurd he (by simp)), fun _ => rfl⟩
  have I1 := I.laid (a := s.heap.objs.size) (o := .own (s.heap.objs.size + 1)) (h' := s.heap.push PySem.W.emptyDict) (t' := s.toks) (fun b u q => Heap.get?_push_of_some _ q) (Nat.le_refl _) ⟨_, e1⟩
  refine I1.laid (a := s.heap.objs.size + 1) (o := .ins C s.heap.objs.size []) (t' := s.toks) (fun b u q => Heap.get?_push_of_some _ q) (Nat.le_of_eq (Heap.size_push _ _)) ?_
  have ne : s.heap.objs.size ≠ s.heap.objs.size + 1 := Nat.ne_of_lt (Nat.lt_succ_self _)
  refine ⟨by rw [upd_ne ne, upd_same], Nat.zero_le _, ne, e2, fun _ => none, (Heap.Ns1.of_empty e3).at fun o q => Heap.get?_push_of_some _ q, fun _ => True.intro, fun y hy => absurd rfl hy⟩

theorem attr_of {prog : Program} {w : World} {env : Env} {e : Expr} {f : Str} {pos : Pos} {s : Shared} {Q : Value → Shared → Prop} (hb : attributeBase e f env (eval e env) = eval e env)
    (h : wpAny (model prog w) A (eval e env) (fun o s₁ => wpAny (model prog w) A (getAttr o f true) Q E s₁) E s) : wpAny (model prog w) A (eval (.Attribute e f pos) env) Q E s :=
  Attribute_any_ h (by rw [arm_eval_Attribute, hb])
end

noncomputable def tFld (K : PySem.W.Frag) (ta : TE) (f : Str) : TE := fun σ H Q => ta σ H fun x H1 => ∃ a C dx fs v, x = .ref a ∧ H1 a = some (.ins C dx fs) ∧ Cls K C ∧ NoAttr K C f ∧ fs.lookup f = some v ∧ Q v H1
noncomputable def sFld (K : PySem.W.Frag) (ta tv : TE) (f : Str) : TS := fun D σ H => tv σ H fun y H1 => ta σ H1 fun x H2 => ∃ a C dx fs, x = .ref a ∧ H2 a = some (.ins C dx fs) ∧ Cls K C ∧ NoAttr K C f ∧ fs.length < 1000 ∧
  D.nx σ (upd H2 a (.ins C dx (putF f y fs)))
noncomputable def InOp (X : Cx) (op : Operator) (rd : V → V → Hp → VK → Prop) : Prop :=
  ∀ (pins : List (Addr × Obj)) (s : Shared) (σ : St) (H : Hp) (x y : V) (u v : Value) (Q : VK), Inv X pins σ H s → RelV x u → RelV y v → rd x y H Q → wpAny (model X.prog X.w) X.A (inplaceOp op u v) (EP X pins σ Q) X.xe s
noncomputable def sFldAug (K : PySem.W.Frag) (ta tv : TE) (rd : V → V → Hp → VK → Prop) (f : Str) : TS := fun D σ H => ta σ H fun x H1 => ∃ a C dx fs v, x = .ref a ∧ H1 a = some (.ins C dx fs) ∧ Cls K C ∧ NoAttr K C f ∧ fs.lookup f = some v ∧
  tv σ H1 fun y H2 => rd v y H2 fun z H3 => ∃ dx' fs', H3 a = some (.ins C dx' fs') ∧ fs'.length < 1000 ∧ D.nx σ (upd H3 a (.ins C dx' (putF f z fs')))

section
variable {X : Cx} {o e value : Expr} {f : Str} {pos pos' tpos : Pos} {ta tv : TE}
theorem pe_fld (he : PE X e ta) (hb : attributeBase e f X.env (eval e X.env) = eval e X.env) : PE X (.Attribute e f pos) (tFld X.K ta f) := by
  intro pins s σ H Q I h
  refine attr_of hb (thn (he pins s σ H _ I h) fun u s1 ⟨x, H1, I1, rx, a, C, dx, fs, v, ex, ea, c, n, l, q⟩ => ?_)
  subst ex
  obtain rfl : u = Value.ref a := rx
  exact getattr_ok I1 ea c n l fun u' s2 I2 ru => ⟨v, H1, I2, ru, q⟩
theorem ps_fld (ha : PE X o ta) (hv : PE X value tv) (hs : swapsWith value (some (.Attribute o f pos')) pos.line X.env = pure false) : PS X (.Assign [.Attribute o f pos'] value pos) (sFld X.K ta tv f) := by
  intro pins s σ H D I h
  refine plainObj_wpAny_Assign_Attribute (thn (hv pins s σ H _ I h) fun u s1 ⟨y, H1, I1, ry, q⟩ => thn (ha pins s1 σ H1 _ I1 q) fun ov s2 ⟨x, H2, I2, rx, a, C, dx, fs, ex, ea, c, n, l, q2⟩ => ?_) hs
  subst ex
  obtain rfl : ov = Value.ref a := rx
  exact setattr_ok I2 ea c n l ry fun s3 I3 => ⟨σ, _, I3, q2⟩
theorem ps_fldaug {op : Operator} {rd : V → V → Hp → VK → Prop} (ha : PE X o ta) (hv : PE X value tv) (hop : InOp X op rd) : PS X (.AugAssign (.Attribute o f tpos) op value pos) (sFldAug X.K ta tv rd f) := by
  intro pins s σ H D I h
  refine wpAny_AugAssign_AttributeAny (thn (ha pins s σ H _ I h) fun ov s1 ⟨x, H1, I1, rx, a, C, dx, fs, v, ex, ea, c, n, l, q⟩ => ?_)
  subst ex
  obtain rfl : ov = Value.ref a := rx
  refine getattr_ok I1 ea c n l fun u s2 I2 ru => thn (hv pins s2 σ H1 _ I2 q) fun w3 s3 ⟨y, H2, I3, ry, q3⟩ => thn (hop pins s3 σ H2 v y u w3 _ I3 ru ry q3) fun w4 s4 ⟨z, H3, I4, rz, dx', fs', ea', l', q4⟩ => ?_
  exact setattr_ok I4 ea' c n l' rz fun s5 I5 => ⟨σ, _, I5, q4⟩
noncomputable def rAdd : V → V → Hp → VK → Prop := fun x y H Q => ∃ i j, x = .int i ∧ y = .int j ∧ Q (.int (i + j)) H
noncomputable def rSub : V → V → Hp → VK → Prop := fun x y H Q => ∃ i j, x = .int i ∧ y = .int j ∧ Q (.int (i - j)) H
theorem in_add : InOp X .Add rAdd := by
  rintro pins s σ H x y u v Q I rx ry ⟨i, j, rfl, rfl, q⟩
  obtain ⟨t, rfl⟩ := (show ∃ t, u = Value.int i t from rx)
  obtain ⟨t', rfl⟩ := (show ∃ t', v = Value.int j t' from ry)
  exact PyProof.Rows.iadd_int ⟨.int (i + j), H, I.tok _, ⟨_, rfl⟩, q⟩
theorem in_sub : InOp X .Sub rSub := by
  rintro pins s σ H x y u v Q I rx ry ⟨i, j, rfl, rfl, q⟩
  obtain ⟨t, rfl⟩ := (show ∃ t, u = Value.int i t from rx)
  obtain ⟨t', rfl⟩ := (show ∃ t', v = Value.int j t' from ry)
  exact PyProof.Rows.isub_int ⟨.int (i - j), H, I.tok _, ⟨_, rfl⟩, q⟩

theorem methcall_of {pl : Sem Bool} {m : Str} {apos : Pos} {args : List Expr} {pins : List (Addr × Obj)} {s : Shared} {σ : St} {H : Hp} {Q : Value → Shared → Prop} {te : TE} (he : PE X e te) (I : Inv X pins σ H s)
    (h : te σ H fun x H1 => ∃ a C dx fs g, x = .ref a ∧ H1 a = some (.ins C dx fs) ∧ Cls X.K C ∧ Meth X.K C m g ∧ fs.lookup m = none ∧
      ∀ s1, Inv X pins σ H1 s1 → wpAny (model X.prog X.w) X.A (callWith pos (.ref g) [.ref a] (backTo pos (starEach args X.env)) (backToKw pos (keywordEach [] X.env))) Q X.xe s1)
    (ht : eval (.Call (.Attribute e m apos) args [] pos) X.env = (do
      let ov ← eval e X.env
      standAt apos.atName
      let (f, first) ← holding [ov] (getMethod ov m pl)
      callWith pos f first (backTo pos (starEach args X.env)) (backToKw pos (keywordEach [] X.env)))) :
    wpAny (model X.prog X.w) X.A (eval (.Call (.Attribute e m apos) args [] pos) X.env) Q X.xe s := by
  refine PySem.W.methodCall_KW (pl := pl) (thn (he pins s σ H _ I h) fun u s1 ⟨x, H1, I1, rx, a, C, dx, fs, g, ex, ea, c, k, l, q⟩ => ?_) ht
  subst ex
  obtain rfl : u = Value.ref a := rx
  exact getmeth_ok I1 ea c k l (q s1 I1)
end

section
variable {X : Cx} {pins : List (Addr × Obj)} {σ : St} {H : Hp} {s : Shared} {A : Around} {E : Value → Shared → Prop} {Q : Value → Shared → Prop} {c : Value} {b : Bool}
inductive TyOf (K : PySem.W.Frag) (H : Hp) : V → Value → Prop where
  | non : TyOf K H .non (.type "NoneType")
  | bl (x : Bool) : TyOf K H (.bl x) (.type "bool")
  | int (i : Int) : TyOf K H (.int i) (.type "int")
  | str (x : Str) : TyOf K H (.str x) (.type "str")
  | flt (x : UInt64) : TyOf K H (.flt x) (.type "float")
  | lst {a : Addr} {xs : List V} (e : H a = some (.lst xs)) : TyOf K H (.ref a) (.type "list")
  | frz {a : Addr} {o : Obj} {xs : List V} (e : H a = some (.frz o (.lst xs))) : TyOf K H (.ref a) (.type "list")
  | tup {a : Addr} {xs : List V} (e : H a = some (.tup xs)) : TyOf K H (.ref a) (.type "tuple")
  | dK {a : Addr} {kvs : List (Key × V)} (e : H a = some (.dK kvs)) : TyOf K H (.ref a) (.type "dict")
  | dT {a : Addr} {kvs : List (List Key × V)} (e : H a = some (.dT kvs)) : TyOf K H (.ref a) (.type "dict")
  | ins {a C dx : Addr} {fs : List (Str × V)} (e : H a = some (.ins C dx fs)) (cl : Cls K C) (ha : PySem.W.findIn K (.ref C) "__class__" = some (some (.builtin "object.__class__")))
      (hn : PySem.W.specialIn K (.builtin "object.__class__") "__get__" = some (some (.builtin "getset_descriptor.__get__"))) (htk : PySem.W.takesIn K (.builtin "object.__class__") = some true)
      (hm : PySem.W.mroIn K C (.type "object") = some true) : TyOf K H (.ref a) (.ref C)
end
end L2

namespace L2
open PySem PySem.Spec PyProof.Rows

structure Room (k : Nat) (A : Around) : Prop where
  hd : A.handled = none
  dp : A.depth + 3 * k + 5 < recursionLimit
  un : A.units + 16 * k + 200 < cLine
theorem Room.mono {j k : Nat} {A : Around} (r : Room k A) (h : j ≤ k) : Room j A := ⟨r.hd, by have := r.dp; omega, by have := r.un; omega⟩
theorem Room.deeper {k : Nat} {A : Around} (r : Room (k + 1) A) (env : Env) : Room k (A.deeper env) :=
  ⟨r.hd, by have := r.dp; show A.depth + 1 + 3 * k + 5 < _; omega, by have := r.un; show A.units + 3 + 16 * k + 200 < _; omega⟩
theorem Room.in1 {k : Nat} {A : Around} (r : Room (k + 1) A) : Room k A.in1 :=
  ⟨r.hd, by have := r.dp; show A.depth + 3 * k + 5 < _; omega, by have := r.un; show A.units + 1 + 16 * k + 200 < _; omega⟩
theorem make_depth {A : Around} {C : Addr} {us : List Value} {kw : List (Str × Value)} : (A.under (.builtin "type.__call__" ⟨.ref C :: us, kw⟩)).depth = A.depth + 1 := by
  first | rfl | simp [Around.under, Code.weight, Code.isCreation, Code.isGuard, Code.isCaller, Code.frames, Code.isFrame, guardIds]
theorem make_units {A : Around} {C : Addr} {us : List Value} {kw : List (Str × Value)} : (A.under (.builtin "type.__call__" ⟨.ref C :: us, kw⟩)).units = A.units + 1 := by
  first | rfl | simp [Around.under, Code.cUnits, Code.frames, Code.isFrame]
theorem Room.make {k : Nat} {A : Around} (r : Room (k + 1) A) (C : Addr) (us : List Value) (kw : List (Str × Value)) : Room k (A.under (.builtin "type.__call__" ⟨.ref C :: us, kw⟩)) :=
  ⟨r.hd, by have := r.dp; rw [make_depth]; omega, by have := r.un; rw [make_units]; omega⟩
theorem Room.depth {k : Nat} {A : Around} (r : Room k A) : A.depth < recursionLimit := by have := r.dp; omega
theorem Room.units {k : Nat} {A : Around} (r : Room k A) : A.units + 64 < cLine := by have := r.un; omega
noncomputable def tNil : TA := fun _ H Q => Q [] H
noncomputable def tCons (ta : TE) (tr : TA) : TA := fun σ H Q => ta σ H fun x H1 => tr σ H1 fun xs H2 => Q (x :: xs) H2
section
variable {X : Cx} {e : Expr} {es : List Expr} {te : TE} {t : TA} {pos : Pos}
theorem pa_nil : PA X [] tNil := fun _ _ _ _ H Q I h => Calls.spliced_nil ⟨[], H, I, .nil, h⟩
theorem pa_cons (ha : PE X e te) (hr : PA X es t) (hs : starEach (e :: es) X.env = (false, eval e X.env) :: starEach es X.env := by rfl) : PA X (e :: es) (tCons te t) := by
  intro pos pins s σ H Q I h
  rw [hs]
  show wpAny _ _ (spliced ((false, eval e X.env) :: backTo pos (starEach es X.env))) _ _ s
  refine Calls.spliced_cons (thn (ha pins s σ H _ I h) fun u s1 ⟨x, H1, I1, r1, q1⟩ => ?_)
  exact thn (hr pos pins s1 σ H1 _ I1 q1) fun us s2 ⟨xs, H2, I2, r2, q2⟩ => ⟨x :: xs, H2, I2, .cons r1 r2, q2⟩

noncomputable def tTup (t : TA) : TE := fun σ H Q => t σ H fun xs H1 => xs.length ≤ sizeLine ∧ ∀ p, H1 p = none → Q (.ref p) (upd H1 p (.tup xs))
noncomputable def tLst (t : TA) : TE := fun σ H Q => t σ H fun xs H1 => xs.length ≤ sizeLine ∧ ∀ p, H1 p = none → Q (.ref p) (upd H1 p (.lst xs))
theorem pe_tup {x1} (h : PA X es t) : PE X (.Tuple es x1 pos) (tTup t) := by
  intro pins s σ H Q I hq
  refine wpAny_Tuple_spliced (thn (h pos pins s σ H _ I hq) fun us s1 ⟨xs, H1, I1, r, z, q⟩ => ⟨by rw [← r.length]; exact z, ?_⟩)
  have hf : H1 s1.heap.objs.size = none := I1.hok.fresh (Nat.le_refl _)
  refine ⟨.ref s1.heap.objs.size, upd H1 s1.heap.objs.size (.tup xs), I1.laid (t' := s1.toks) (fun b u e => Heap.get?_push_of_some _ e) (Nat.le_refl _) ?_, rfl, q _ hf⟩
  exact ⟨z, us, r, ⟨_, Heap.get?_push_size _ rfl, rfl, _, rfl⟩⟩
theorem pe_lst (h : PA X es t) : PE X (.List es pos) (tLst t) := by
  intro pins s σ H Q I hq
  refine wpAny_List_spliced (thn (h pos pins s σ H _ I hq) fun us s1 ⟨xs, H1, I1, r, z, q⟩ => ⟨by rw [← r.length]; exact z, ?_⟩)
  have hf : H1 s1.heap.objs.size = none := I1.hok.fresh (Nat.le_refl _)
  refine ⟨.ref s1.heap.objs.size, upd H1 s1.heap.objs.size (.lst xs), I1.laid (t' := s1.toks) (fun b u e => Heap.get?_push_of_some _ e) (Nat.le_refl _) ?_, rfl, q _ hf⟩
  exact ⟨z, us, 0, r, Heap.get?_push_size _ rfl⟩
end

noncomputable abbrev Sp := List V → Hp → VK → XK → Prop
noncomputable abbrev CXT := List Env → Hp → Shared → XK → Value → Shared → Prop

structure Env0 (P : Program) (w : World) (K : PySem.W.Frag) (mg : Str → Option Value) (base : Heap) (A : Around) (outer : List Env) (s : Shared) (H : Hp) : Prop where
  frames : A.frames = some outer
  mod : Mod K mg base
  bs : ∀ b o, base.get? b = some o → s.heap.get? b = some o ∧ H b = none
  bsz : base.objs.size ≤ s.heap.objs.size
  funs : s.heap.FunFrames base outer
  frf : ∀ b ∈ frs outer, H b = none
  hok : HOk P w H s.heap
  bare : AllBare s.gens
noncomputable def CE (outer : List Env) (P : Program) (w : World) (H : Hp) (s : Shared) (Q : VK) (u : Value) (s' : Shared) : Prop :=
  ∃ v H', s'.os = s.os ∧ AllBare s'.gens ∧ Un (frs outer) [] H H' s.heap s'.heap ∧ HOk P w H' s'.heap ∧ RelV v u ∧ Q v H'
noncomputable def CR (CX : CXT) (outer : List Env) (P : Program) (w : World) (H : Hp) (s : Shared) (Q : VK) (E : XK) (r : Result) (s' : Shared) : Prop :=
  match r with
  | .ok (.ret u) => CE outer P w H s Q u s'
  | .ok _ => False
  | .error e => CX outer H s E e s'
structure FnOk (P : Program) (w : World) (K : PySem.W.Frag) (mg : Str → Option Value) (base : Heap) (CX : CXT) (k : Nat) (f : Addr) (fd : FuncData) (ps : List Str) (sp : Sp) : Prop where
  len : ∀ vs H Q E, sp vs H Q E → vs.length = ps.length
  run : ∀ (A : Around) (outer : List Env) (s : Shared) (H : Hp) (args : Args) (us : List Value) (vs : List V) (Q : VK) (E : XK), Room k A → Env0 P w K mg base A outer s H → BindsTo s fd args (ps.zip us) → Vals vs us → sp vs H Q E →
    codeAny (model P w) A (.call (.ref f) args) (CR CX outer P w H s Q E) s
theorem FnOk.mono {P : Program} {w : World} {K : PySem.W.Frag} {mg : Str → Option Value} {base : Heap} {CX : CXT} {j k : Nat} {f : Addr} {fd : FuncData} {ps : List Str} {sp : Sp} (F : FnOk P w K mg base CX j f fd ps sp) (h : j ≤ k) :
    FnOk P w K mg base CX k f fd ps sp := ⟨F.len, fun A outer s H args us vs Q E hr => F.run A outer s H args us vs Q E (hr.mono h)⟩
theorem Env0.make {P : Program} {w : World} {K : PySem.W.Frag} {mg : Str → Option Value} {base : Heap} {A : Around} {outer : List Env} {s : Shared} {H : Hp} (e : Env0 P w K mg base A outer s H) (C : Addr) (us : List Value) (kw : List (Str × Value)) :
    Env0 P w K mg base (A.under (.builtin "type.__call__" ⟨.ref C :: us, kw⟩)) outer s H := ⟨by first | exact e.frames | (simpa [Around.under, Code.envs, Code.isFrame, pushEnvs] using e.frames), e.mod, e.bs, e.bsz, e.funs, e.frf, e.hok, e.bare⟩
theorem Env0.in1 {P : Program} {w : World} {K : PySem.W.Frag} {mg : Str → Option Value} {base : Heap} {A : Around} {outer : List Env} {s : Shared} {H : Hp} (e : Env0 P w K mg base A outer s H) :
    Env0 P w K mg base A.in1 outer s H := ⟨e.frames, e.mod, e.bs, e.bsz, e.funs, e.frf, e.hok, e.bare⟩

section
variable {X : Cx} {pins : List (Addr × Obj)} {σ : St} {H : Hp} {s s' : Shared}
theorem Inv.env0 (I : Inv X pins σ H s) : Env0 X.prog X.w X.K X.mg X.base X.A X.stack s H :=
  ⟨I.ok.frames, I.ok.mod, I.bs, Nat.le_trans I.ok.bsz I.sz, I.stack, I.stkFree, I.hok, I.bare⟩
theorem Inv.after {Q : VK} {u : Value} (I : Inv X pins σ H s) (h : CE X.stack X.prog X.w H s Q u s') : EP X pins σ Q u s' := by
  obtain ⟨v, H', os, bare, un, hok, r, q⟩ := h
  obtain ⟨hh, g, d, t, os'⟩ := s'
  obtain rfl : os' = s.os := os
  exact ⟨v, H', I.call (h' := hh) (g' := g) (d' := d) (t' := t) (ch := []) un hok bare (fun b z => absurd z (by simp)), r, q⟩
end

noncomputable def tCall (sp : Sp) (dvs : List V) (E : XK) (t : TA) : TE := fun σ H Q => t σ H fun vs H1 => sp (vs ++ dvs) H1 Q E
noncomputable def tMeth (C : Addr) (m : Str) (sp : Sp) (dvs : List V) (E : XK) (ta : TE) (t : TA) : TE := fun σ H Q => ta σ H fun x H1 => ∃ a dx fs, x = .ref a ∧ H1 a = some (.ins C dx fs) ∧ fs.lookup m = none ∧
  t σ H1 fun vs H2 => sp (x :: (vs ++ dvs)) H2 Q E
noncomputable def tMake (C : Addr) (sp : Sp) (dvs : List V) (E : XK) (t : TA) : TE := fun σ H Q => t σ H fun vs H1 => ∀ x dx, H1 x = none → H1 dx = none → dx ≠ x →
  sp (.ref x :: (vs ++ dvs)) (upd (upd H1 dx (.own x)) x (.ins C dx [])) (fun v H2 => v = .non ∧ Q (.ref x) H2) E

noncomputable def Binds (K : PySem.W.Frag) (fd : FuncData) (ps : List Str) (ds : List Value) : Prop :=
  ∀ (s : Shared) (us : List Value), K.In s.heap → (us ++ ds).length = ps.length → BindsTo s fd ⟨us, []⟩ (ps.zip (us ++ ds))
theorem Binds.all {K : PySem.W.Frag} {fd : FuncData} {ps : List Str} (h : ∀ us : List Value, us.length = ps.length → bindArgs fd ⟨us, []⟩ = pure (ps.zip us)) : Binds K fd ps [] := fun s us _ hl => by
  rw [List.append_nil] at hl ⊢
  exact .of_eq (h us hl)

noncomputable def Passes (CX : CXT) (X : Cx) (E : XK) : Prop := ∀ (pins : List (Addr × Obj)) (σ : St) (H : Hp) (s : Shared) (e : Value) (s' : Shared), Inv X pins σ H s → CX X.stack H s E e s' → X.xe e s'

section
variable {X : Cx} {CX : CXT} {k : Nat} {f C : Addr} {fd : FuncData} {ps : List Str} {sp : Sp} {dvs : List V} {ds : List Value} {E : XK} {x m : Str} {p pos apos : Pos} {e o : Expr} {es : List Expr} {ta : TE} {t : TA}

theorem run_fn {pins : List (Addr × Obj)} {σ : St} {H : Hp} {s : Shared} {Q : VK} {us : List Value} {vs : List V} (F : FnOk X.prog X.w X.K X.mg X.base CX k f fd ps sp) (hr : Room k X.A) (hb : Binds X.K fd ps ds) (hd : Vals dvs ds) (hx : Passes CX X E)
    (I : Inv X pins σ H s) (r : Vals vs us) (h : sp (vs ++ dvs) H Q E) : wpAny (model X.prog X.w) X.A (call (.ref f) us) (EP X pins σ Q) X.xe s := by
  have r2 : Vals (vs ++ dvs) (us ++ ds) := r.append hd
  have hl : (us ++ ds).length = ps.length := by rw [← r2.length]; exact F.len _ _ _ _ h
  refine wpAny_call (codeAny_mono (F.run X.A X.stack s H ⟨us, []⟩ (us ++ ds) (vs ++ dvs) Q E hr I.env0 (hb s us I.kIn hl) r2 h) fun r s' hq => ?_)
  cases r with
  | error e => exact hx pins σ H s e s' I hq
  | ok fl =>
    cases fl with
    | ret u => exact I.after hq
    | next => exact False.elim hq
    | brk => exact False.elim hq
    | cont => exact False.elim hq

theorem pe_call (F : FnOk X.prog X.w X.K X.mg X.base CX k f fd ps sp) (hr : Room k X.A) (hg : Gl X x) (hm : X.mg x = some (.ref f)) (hk : PySem.W.keepIn X.K (.ref f) = true) (hb : Binds X.K fd ps ds) (hd : Vals dvs ds) (hx : Passes CX X E)
    (ha : PA X (e :: es) t) (hdb : (x == ("__debug__" : Str)) = false := by decide) (he : starEach (e :: es) X.env = (false, eval e X.env) :: starEach es X.env := by rfl) (hpl : (backTo pos (starEach es X.env)).any (·.1) = false := by rfl) :
    PE X (.Call (.Name x p) (e :: es) [] pos) (tCall sp dvs E t) := by
  intro pins s σ H Q I h
  refine wpAny_Call_Name_kw (ld_glob I hg hm ?_ hdb)
  refine PySem.W.callWith_K (h₀ := X.base) I.ok.mod.kin hk (thn (ha pos pins s σ H _ I h) fun us s1 ⟨vs, H1, I1, r, q⟩ => ⟨I1.kIn, ?_⟩) he hpl
  exact run_fn F hr hb hd hx I1 r q
theorem pe_meth {pl : Sem Bool} (he : PE X o ta) (c : Cls X.K C) (hm : Meth X.K C m f) (F : FnOk X.prog X.w X.K X.mg X.base CX k f fd ps sp) (hr : Room k X.A) (hb : Binds X.K fd ps ds) (hd : Vals dvs ds) (hx : Passes CX X E) (ha : PA X (e :: es) t)
    (hst : starEach (e :: es) X.env = (false, eval e X.env) :: starEach es X.env := by rfl) (hpl : (backTo pos (starEach es X.env)).any (·.1) = false := by rfl)
    (ht : eval (.Call (.Attribute o m apos) (e :: es) [] pos) X.env = (do
      let ov ← eval o X.env
      standAt apos.atName
      let (f, first) ← holding [ov] (getMethod ov m pl)
      callWith pos f first (backTo pos (starEach (e :: es) X.env)) (backToKw pos (keywordEach [] X.env))) := by rfl) :
    PE X (.Call (.Attribute o m apos) (e :: es) [] pos) (tMeth C m sp dvs E ta t) := by
  intro pins s σ H Q I h
  refine PySem.W.methodCall_KW (pl := pl) (thn (he pins s σ H _ I h) fun u s1 ⟨x, H1, I1, rx, a, dx, fs, ex, ea, l, q⟩ => ?_) ht
  subst ex
  obtain rfl : u = Value.ref a := rx
  refine getmeth_ok I1 ea c hm l ?_
  refine PySem.W.callWith_K (first := [.ref a]) (h₀ := X.base) I.ok.mod.kin hm.kp (thn (ha pos pins s1 σ H1 _ I1 q) fun us s2 ⟨vs, H2, I2, r, q2⟩ => ⟨I2.kIn, ?_⟩) hst hpl
  exact run_fn (us := .ref a :: us) (vs := .ref a :: vs) F hr hb hd hx I2 (.cons rfl r) q2
theorem pe_meth0 {pl : Sem Bool} (he : PE X o ta) (c : Cls X.K C) (hm : Meth X.K C m f) (F : FnOk X.prog X.w X.K X.mg X.base CX k f fd ps sp) (hr : Room k X.A) (hb : Binds X.K fd ps ds) (hd : Vals dvs ds) (hx : Passes CX X E)
    (ht : eval (.Call (.Attribute o m apos) [] [] pos) X.env = (do
      let ov ← eval o X.env
      standAt apos.atName
      let (f, first) ← holding [ov] (getMethod ov m pl)
      callWith pos f first (backTo pos (starEach [] X.env)) (backToKw pos (keywordEach [] X.env))) := by rfl) :
    PE X (.Call (.Attribute o m apos) [] [] pos) (tMeth C m sp dvs E ta tNil) := by
  intro pins s σ H Q I h
  refine PySem.W.methodCall_KW (pl := pl) (thn (he pins s σ H _ I h) fun u s1 ⟨x, H1, I1, rx, a, dx, fs, ex, ea, l, q⟩ => ?_) ht
  subst ex
  obtain rfl : u = Value.ref a := rx
  refine getmeth_ok I1 ea c hm l ?_
  exact PySem.W.callWith_K0 (first := [.ref a]) I1.kIn hm.kp (run_fn (us := [.ref a]) (vs := [.ref a]) F hr hb hd hx I1 (.cons rfl .nil) q)

structure Mk (K : PySem.W.Frag) (C f : Addr) : Prop where
  makes : PySem.W.makesIn K C = true
  init : PySem.W.findIn K (.ref C) "__init__" = some (some (.ref f))
  fn : PySem.W.isFn K (.ref f) = true
  kp : PySem.W.keepIn K (.ref C) = true

theorem run_make {pins : List (Addr × Obj)} {σ : St} {H : Hp} {s : Shared} {Q : VK} {us : List Value} {vs : List V} (M : Mk X.K C f) (F : FnOk X.prog X.w X.K X.mg X.base CX k f fd ps sp) (hr : Room (k + 1) X.A) (hb : Binds X.K fd ps ds) (hd : Vals dvs ds)
    (hx : Passes CX X E) (I : Inv X pins σ H s) (r : Vals vs us)
    (h : ∀ x dx, H x = none → H dx = none → dx ≠ x → sp (.ref x :: (vs ++ dvs)) (upd (upd H dx (.own x)) x (.ins C dx [])) (fun v H2 => v = .non ∧ Q (.ref x) H2) E) :
    wpAny (model X.prog X.w) X.A (call (.ref C) us) (EP X pins σ Q) X.xe s := by
  have hq := h (s.heap.objs.size + 1) s.heap.objs.size (I.hok.fresh (Nat.le_succ _)) (I.hok.fresh (Nat.le_refl _)) (Nat.ne_of_lt (Nat.lt_succ_self _))
  have I2 := Inv.made (C := C) I
  have r2 : Vals (V.ref (s.heap.objs.size + 1) :: (vs ++ dvs)) (Value.ref (s.heap.objs.size + 1) :: (us ++ ds)) := .cons rfl (r.append hd)
  have hl : (Value.ref (s.heap.objs.size + 1) :: us ++ ds).length = ps.length := by
    have e := r2.length
    rw [F.len _ _ _ _ hq] at e
    exact e.symm
  refine wpAny_call (make_map (f := f) I.kIn M.makes M.init (beq_iff_eq.mp M.fn) (codeAny_mono (F.run _ X.stack _ _ ⟨Value.ref (s.heap.objs.size + 1) :: us, []⟩ (Value.ref (s.heap.objs.size + 1) :: (us ++ ds)) _ _ E (hr.make C us [])
    (I2.env0.make C us []) (hb _ (Value.ref (s.heap.objs.size + 1) :: us) I2.kIn hl) r2 hq) fun r s' hq' => ?_))
  cases r with
  | error e => exact hx pins σ _ _ e s' I2 hq'
  | ok fl =>
    cases fl with
    | ret u =>
      obtain ⟨v, H', I3, rv, ev, q3⟩ := I2.after hq'
      subst ev
      exact ⟨rv, ⟨V.ref (s.heap.objs.size + 1), H', I3, rfl, q3⟩⟩
    | next => exact False.elim hq'
    | brk => exact False.elim hq'
    | cont => exact False.elim hq'
theorem pe_make (M : Mk X.K C f) (F : FnOk X.prog X.w X.K X.mg X.base CX k f fd ps sp) (hr : Room (k + 1) X.A) (hg : Gl X x) (hm : X.mg x = some (.ref C)) (hb : Binds X.K fd ps ds) (hd : Vals dvs ds) (hx : Passes CX X E)
    (ha : PA X (e :: es) t) (hdb : (x == ("__debug__" : Str)) = false := by decide) (he : starEach (e :: es) X.env = (false, eval e X.env) :: starEach es X.env := by rfl) (hpl : (backTo pos (starEach es X.env)).any (·.1) = false := by rfl) :
    PE X (.Call (.Name x p) (e :: es) [] pos) (tMake C sp dvs E t) := by
  intro pins s σ H Q I h
  refine wpAny_Call_Name_kw (ld_glob I hg hm ?_ hdb)
  refine PySem.W.callWith_K (h₀ := X.base) I.ok.mod.kin M.kp (thn (ha pos pins s σ H _ I h) fun us s1 ⟨vs, H1, I1, r, q⟩ => ⟨I1.kIn, ?_⟩) he hpl
  exact run_make M F hr hb hd hx I1 r q
end

section
variable {X : Cx} {CX : CXT} {k : Nat} {f C : Addr} {fd : FuncData} {ps ks : List Str} {sp : Sp} {E : XK} {x m : Str} {p pos apos kpos : Pos} {e o : Expr} {es : List Expr} {kws : List Keyword} {te ta : TE} {t tk : TA} {nm : Option Str}
structure KBinds (K : PySem.W.Frag) (fd : FuncData) (ps ks : List Str) (g : List Value → List Value → List Value) (gV : List V → List V → List V) : Prop where
  to : ∀ (s : Shared) (us ws : List Value), K.In s.heap → (g us ws).length = ps.length → BindsTo s fd ⟨us, ks.zip ws⟩ (ps.zip (g us ws))
  rel : ∀ {vs : List V} {us : List Value} {zs : List V} {ws : List Value}, Vals vs us → Vals zs ws → Vals (gV vs zs) (g us ws)
variable {g : List Value → List Value → List Value} {gV : List V → List V → List V}
end

structure FnScope (N P : List Str) (sc : Scope) : Prop where
  kind : sc.kind = .function
  co : sc.isCoroutine = false
  gen : sc.isGenerator = false
  nd : N.Nodup
  pre : N.take P.length = P
  par : ∀ x ∈ P, sc.names.lookup x = some .local ∨ sc.names.lookup x = some .cell
  nofree : ∀ y ∈ sc.names, y.2 ≠ .free

theorem bindL_out {kindOf : Str → Option NameKind} {x : Str} : ∀ {binds : List (Str × Value)} {m : Str → Option Value}, (∀ v, (x, v) ∉ binds) → bindL kindOf binds m x = m x
  | [], _, _ => rfl
  | (n, v) :: r, m, h => by
    unfold bindL
    rw [bindL_out fun w hw => h w (List.mem_cons_of_mem _ hw)]
    split
    · have : x ≠ n := by rintro rfl; exact h v List.mem_cons_self
      simp [this]
    · rfl
theorem bindC_out {kindOf : Str → Option NameKind} {x : Str} : ∀ {binds : List (Str × Value)} {m : Str → Option Value}, (∀ v, (x, v) ∉ binds) → bindC kindOf binds m x = m x
  | [], _, _ => rfl
  | (n, v) :: r, m, h => by
    unfold bindC
    rw [bindC_out fun w hw => h w (List.mem_cons_of_mem _ hw)]
    split
    · rfl
    · have : x ≠ n := by rintro rfl; exact h v List.mem_cons_self
      simp [this]
theorem bindL_get {kindOf : Str → Option NameKind} {x : Str} {v : Value} : ∀ {P : List Str} {vs : List Value} {i : Nat} {m : Str → Option Value}, P.Nodup → P[i]? = some x → vs[i]? = some v → kindOf x = some .local →
    bindL kindOf (P.zip vs) m x = some v
  | [], _, _, _, _, h, _, _ => by simp at h
  | _ :: _, [], _, _, _, _, h, _ => by simp at h
  | p :: P, w :: vs, 0, m, nd, h1, h2, hk => by
    simp at h1 h2; subst h1; subst h2
    show bindL kindOf ((p, w) :: P.zip vs) m p = _
    unfold bindL
    rw [bindL_out fun v hv => (List.nodup_cons.mp nd).1 (List.of_mem_zip hv).1, if_pos hk]
    simp
  | p :: P, w :: vs, i + 1, m, nd, h1, h2, hk => by
    show bindL kindOf ((p, w) :: P.zip vs) m x = _
    unfold bindL
    exact bindL_get (i := i) (List.nodup_cons.mp nd).2 (by simpa using h1) (by simpa using h2) hk
theorem bindC_get {kindOf : Str → Option NameKind} {x : Str} {v : Value} : ∀ {P : List Str} {vs : List Value} {i : Nat} {m : Str → Option Value}, P.Nodup → P[i]? = some x → vs[i]? = some v → kindOf x ≠ some .local →
    bindC kindOf (P.zip vs) m x = some v
  | [], _, _, _, _, h, _, _ => by simp at h
  | _ :: _, [], _, _, _, _, h, _ => by simp at h
  | p :: P, w :: vs, 0, m, nd, h1, h2, hk => by
    simp at h1 h2; subst h1; subst h2
    show bindC kindOf ((p, w) :: P.zip vs) m p = _
    unfold bindC
    rw [bindC_out fun v hv => (List.nodup_cons.mp nd).1 (List.of_mem_zip hv).1, if_neg hk]
    simp
  | p :: P, w :: vs, i + 1, m, nd, h1, h2, hk => by
    show bindC kindOf ((p, w) :: P.zip vs) m x = _
    unfold bindC
    exact bindC_get (i := i) (List.nodup_cons.mp nd).2 (by simpa using h1) (by simpa using h2) hk

noncomputable def start (N : List Str) (vs : List V) : St := vs.map some ++ List.replicate (N.length - vs.length) none

noncomputable def cxOf (CX : CXT) (P : Program) (w : World) (K : PySem.W.Frag) (mg : Str → Option Value) (base : Heap) (N : List Str) (qual : Str) (scope : Scope) (f : Addr) (cd : Value) (A : Around) (outer : List Env) (s : Shared) (H : Hp) (E : XK) : Cx where
  prog := P
  w := w
  K := K
  mg := mg
  base := base
  A := A.deeper (envOfC qual scope s.heap.objs.size f cd)
  N := N
  s₀ := s
  H₀ := H
  env := envOfC qual scope s.heap.objs.size f cd
  outer := outer
  stack := envOfC qual scope s.heap.objs.size f cd :: outer
  ex := []
  calm := true
  fn := fun _ => true
  pn := []
  xe := fun e s' => wpAny (model P w) (A.deeper (envOfC qual scope s.heap.objs.size f cd)) (leaving (envOfC qual scope s.heap.objs.size f cd) e) (fun _ s'' => CX outer H s E e s'') (fun e' s'' => CX outer H s E e' s'') s'

theorem cell_has {sc : Scope} {n : Nat} {x : Str} (h : sc.names.lookup x = some .cell) : ∃ c, (cellsFrom n sc.names []).lookup x = some c := by
  have q := PySem.W.cellsFrom_some sc.names n [] (.inl h)
  exact Option.isSome_iff_exists.mp q

theorem inv_start {CX : CXT} {P : Program} {w : World} {K : PySem.W.Frag} {mg : Str → Option Value} {base : Heap} {N ps : List Str} {qual : Str} {scope : Scope} {f : Addr} {cd : Value} {A : Around} {outer : List Env} {s s1 : Shared} {H : Hp} {E : XK} {us : List Value} {vs : List V}
    (S : FnScope N ps scope) (hd : A.handled = none) (e0 : Env0 P w K mg base A outer s H) (hl : vs.length = ps.length) (r : Vals vs us)
    (x : InCallC s s.heap.objs.size (bindL (envOfC qual scope s.heap.objs.size f cd).kindOf (ps.zip us) fun _ => none) (cellsFrom (s.heap.objs.size + 1) scope.names []) (bindC (envOfC qual scope s.heap.objs.size f cd).kindOf (ps.zip us) fun _ => none) s1) :
    Inv (cxOf CX P w K mg base N qual scope f cd A outer s H E) [] (start N vs) H s1 := by
  have hpl : ps.length ≤ N.length := by have := congrArg List.length S.pre; rw [List.length_take] at this; omega
  obtain ⟨h1, tk, rfl, hk⟩ := x.done
  have noA : ∀ b : Addr, b ∉ (cxOf CX P w K mg base N qual scope f cd A outer s H E).ex := fun b z => absurd (show b ∈ ([] : List Addr) from z) (by simp)
  refine ⟨⟨e0.mod, S.kind, rfl, rfl, Nat.le_refl _, fun y z c h1 h2 => ?_, fun y hy => ?_, fun y c _ h => ?_, fun _ => hd, Around.frames_deeper e0.frames, .inr ⟨rfl, rfl⟩, fun b z => absurd z (noA b), e0.bs, e0.bsz, fun b _ _ => noA b, fun b z => absurd z (noA b), e0.funs, e0.frf⟩,
    rfl, e0.bare, Un.kept hk, ⟨_, x.toInCall.ns, fun i y v h1 h2 h3 => ?_⟩, fun y c h => ⟨_, x.cell y c h⟩, e0.hok.fresh (Nat.le_refl _), fun y c h => ?_, fun p hp => absurd (show p ∈ ([] : List (Addr × Obj)) from hp) (by simp), e0.hok.kept hk, ?_⟩
  · exact name_of_addr x.apart (PySem.mem_of_lookup h1) (PySem.mem_of_lookup h2)
  · have hy : scope.names.lookup y = some .cell ∨ scope.names.lookup y = some .free := hy
    rcases hy with hy | hy
    · exact cell_has hy
    · exact absurd rfl (S.nofree _ (PySem.mem_of_lookup hy))
  · exact Nat.le_of_lt (x.above y c (PySem.mem_of_lookup h))
  · have hi : i < vs.length := by
      unfold start at h2
      by_cases hi : i < vs.length
      · exact hi
      · rw [List.getElem?_append_right (by simpa using hi)] at h2
        rw [List.getElem?_replicate] at h2
        split at h2 <;> cases h2
    have ha : vs[i]? = some v := by
      unfold start at h2
      rw [List.getElem?_append_left (by simpa using hi), List.getElem?_map] at h2
      cases e : vs[i]? with
      | none => rw [e] at h2; cases h2
      | some a => rw [e] at h2; cases h2; rfl
    obtain ⟨u, hu, rv⟩ := r.get ha
    have hp : ps[i]? = some y := by
      rw [← S.pre, List.getElem?_take_of_lt (by omega)]; exact h1
    have ndP : ps.Nodup := by rw [← S.pre]; exact S.nd.sublist (List.take_sublist _ _)
    refine ⟨u, rv, ?_⟩
    rcases S.par y (List.mem_of_getElem? hp) with k | k
    · exact .inl ⟨k, bindL_get ndP hp hu k⟩
    · obtain ⟨c, e⟩ := cell_has (n := s.heap.objs.size + 1) k
      refine .inr ⟨.inl k, c, e, ?_⟩
      have q := x.cell y c e
      rw [bindC_get ndP hp hu (by show scope.names.lookup y ≠ _; rw [k]; decide)] at q
      exact q
  · exact e0.hok.fresh (Nat.le_of_lt (x.above y c (PySem.mem_of_lookup h)))
  · unfold start
    show _ = N.length
    rw [List.length_append, List.length_map, List.length_replicate]
    omega

theorem fn_of {CX : CXT} {P : Program} {w : World} {K : PySem.W.Frag} {mg : Str → Option Value} {base : Heap} {k : Nat} {f : Addr} {name qual : Str} {params : Arguments} {body : List Stmt} {scope : Scope} {dV kV doc pm cdv ct oc : Value} {an od : Option Addr}
    {osl : Array (Option Value)} {N ps : List Str} {sp : Sp} (lk : K.lookup f = some ⟨oc, od, .func (PySem.W.fnOf name qual params body scope dV kV doc pm an cdv ct), osl⟩) (hcd : PySem.W.codeIn K cdv qual = true) (S : FnScope N ps scope)
    (len : ∀ vs H Q E, sp vs H Q E → vs.length = ps.length)
    (hbody : ∀ (A : Around) (outer : List Env) (s : Shared) (H : Hp) (vs : List V) (Q : VK) (E : XK), Room k (A.deeper (envOfC qual scope s.heap.objs.size f cdv)) → sp vs H Q E →
      ∃ t, PSs (cxOf CX P w K mg base N qual scope f cdv A outer s H E) body t ∧ t { nx := fun _ H' => Q .non H', rt := Q } (start N vs) H) :
    FnOk P w K mg base CX (k + 1) f (PySem.W.fnOf name qual params body scope dV kV doc pm an cdv ct) ps sp := by
  refine ⟨len, fun A outer s H args us vs Q E hr e0 hb r hsp => ?_⟩
  have hl := len _ _ _ _ hsp
  have KX : K.In s.heap := e0.mod.kin.keeps fun b o e => (e0.bs b o e).1
  have lim : s.heap.NoLimit := e0.mod.nolimit.keeps fun b o e => (e0.bs b o e).1
  have hkind : ∀ y ∈ ps.zip us, scope.names.lookup y.1 = some .local ∨ (scope.names.lookup y.1 = some .cell ∧ ((cellsFrom (s.heap.objs.size + 1) scope.names []).lookup y.1).isSome = true) := fun ⟨n, v⟩ hy => by
    rcases S.par n (List.of_mem_zip hy).1 with q | q
    · exact .inl q
    · exact .inr ⟨q, PySem.W.cellsFrom_some _ _ _ (.inl q)⟩
  refine codeAny_call_function hr.depth (KX _ _ lk) rfl S.co S.gen rfl (PySem.W.codeRec_of KX hcd) (hb _ _ _ _ ?_)
  refine wpAny_newFunctionEnv_cells S.kind hkind fun env he s1 x => ?_
  subst he
  refine ⟨lim.keeps x.toInCall.keep, codeAny_func ?_⟩
  obtain ⟨t, ht, hq⟩ := hbody A outer s H vs Q E (hr.deeper _) hsp
  have I : Inv (cxOf CX P w K mg base N qual scope f cdv A outer s H E) [] (start N vs) H s1 := inv_start S hr.hd e0 hl r x
  refine wpAny_mono (ht [] s1 (start N vs) H _ I hq) (fun fl s' hs => ?_) fun e s' hs => hs
  have fin : ∀ {σ' : St} {H' : Hp} {v : V} {u : Value}, Inv (cxOf CX P w K mg base N qual scope f cdv A outer s H E) [] σ' H' s' → RelV v u → Q v H' → CE outer P w H s Q u s' :=
    fun {σ' H' v u} J rv q => ⟨v, H', J.os, J.bare, J.base, J.hok, rv, q⟩
  cases fl with
  | ret u =>
    obtain ⟨v, σ', H', J, rv, q⟩ := hs
    exact fin J rv q
  | next =>
    obtain ⟨σ', H', J, q⟩ := hs
    exact fin (v := V.non) (u := Value.none) J rfl q
  | brk =>
    obtain ⟨_, _, _, q⟩ := hs
    exact False.elim q
  | cont =>
    obtain ⟨_, _, _, q⟩ := hs
    exact False.elim q
end L2

namespace L2
open PySem PySem.Spec PyProof.Rows
section
variable {X : Cx} {x : Str} {p pos : Pos} {e : Expr} {es : List Expr} {t : TA} {id T : String} {r : List V → Hp → VK → Prop}

noncomputable def tCB (r : List V → Hp → VK → Prop) (t : TA) : TE := fun σ H Q => t σ H fun vs H1 => r vs H1 Q
theorem pe_callB (hc : CallR X (.builtin id) r) (hg : Gl X x) (hm : X.mg x = none) (hv : bootBuiltins x = some (.builtin id)) (ha : PA X (e :: es) t) (hn : x ≠ "__name__" := by decide) (hdb : (x == ("__debug__" : Str)) = false := by decide)
    (he : starEach (e :: es) X.env = (false, eval e X.env) :: starEach es X.env := by rfl) (hpl : (backTo pos (starEach es X.env)).any (·.1) = false := by rfl) : PE X (.Call (.Name x p) (e :: es) [] pos) (tCB r t) := by
  intro pins s σ H Q I h
  refine wpAny_Call_Name_kw (ld_blt I hg hm hv ?_ hn hdb)
  exact PyProof.Rows.callWith_builtin1 (thn (ha pos pins s σ H _ I h) fun us s1 ⟨vs, H1, I1, r1, q1⟩ => hc pins s1 σ H1 vs us Q I1 r1 q1) he hpl
theorem pe_callTy (hc : CallR X (.type T) r) (hg : Gl X x) (hm : X.mg x = none) (hv : bootBuiltins x = some (.type T)) (ha : PA X (e :: es) t) (hn : x ≠ "__name__" := by decide) (hdb : (x == ("__debug__" : Str)) = false := by decide)
    (he : starEach (e :: es) X.env = (false, eval e X.env) :: starEach es X.env := by rfl) (hpl : (backTo pos (starEach es X.env)).any (·.1) = false := by rfl) : PE X (.Call (.Name x p) (e :: es) [] pos) (tCB r t) := by
  intro pins s σ H Q I h
  refine wpAny_Call_Name_kw (ld_blt I hg hm hv ?_ hn hdb)
  exact PyProof.Rows.callWith_type1 (thn (ha pos pins s σ H _ I h) fun us s1 ⟨vs, H1, I1, r1, q1⟩ => hc pins s1 σ H1 vs us Q I1 r1 q1) he hpl
end
end L2

namespace HT
open PySem PyProof.Rows

section
open PySem.SeqAt
open PySem.AutoSeq1 (wpAny_loadPart')
open PySem.MeetsSeq PySem.MeetsSeq2 PySem.MeetsSeq3

end

section
variable {prog : Program} {w : World} {A : Around} {E : Value → Shared → Prop} {s : Shared}

noncomputable def sIx (n d : Nat) : Option Int → Nat
  | none => d
  | some v => if v < 0 then (v + (n : Int)).toNat else min v.toNat n
end
end HT

namespace L2
open PySem PySem.Spec PyProof.Rows

noncomputable abbrev TO := St → Hp → (Option Int → Hp → Prop) → Prop
noncomputable def PO (X : Cx) (e : Option Expr) (t : TO) : Prop :=
  ∀ (pins : List (Addr × Obj)) (s : Shared) (σ : St) (H : Hp) (Q : Option Int → Hp → Prop), Inv X pins σ H s → t σ H Q →
    wpAny (model X.prog X.w) X.A (evalPart e X.env) (fun u s' => ∃ o H', Inv X pins σ H' s' ∧ IsPart u o ∧ Q o H') X.xe s
noncomputable def tNoPart : TO := fun _ H Q => Q none H
noncomputable def tPart (t : TE) : TO := fun σ H Q => t σ H fun x H1 => ∃ i, x = .int i ∧ Q (some i) H1

section
variable {X : Cx} {e : Expr} {te : TE} {lo hi : Option Expr} {tl th : TO} {pos p2 : Pos}

theorem po_none : PO X none tNoPart := by
  intro pins s σ H Q I h
  rw [evalPart_none]
  exact wpAny_pure ⟨none, H, I, .none, h⟩
theorem po_some (h : PE X e te) : PO X (some e) (tPart te) := by
  intro pins s σ H Q I hw
  rw [evalPart_some]
  refine thn (h pins s σ H _ I hw) fun u s1 ⟨x, H1, I1, r1, q1⟩ => ?_
  obtain ⟨i, rfl, q⟩ := q1
  obtain ⟨t, rfl⟩ := r1
  exact ⟨some i, H1, I1, .int i t, q⟩

noncomputable def SlR (X : Cx) (r : V → Option Int → Option Int → Hp → VK → Prop) : Prop :=
  ∀ (pins : List (Addr × Obj)) (s : Shared) (σ : St) (H : Hp) (x : V) (v vl vu : Value) (lo hi : Option Int) (sl : Addr) (Q : VK), Inv X pins σ H s → RelV x v → s.heap.IsSliceOf sl vl vu .none → IsPart vl lo → IsPart vu hi → r x lo hi H Q →
    ∃ T id, typeLookup (.type T) "__getitem__" = pure (some (.builtin id)) ∧ s.TypeIs v T ∧ wpAny (model X.prog X.w) X.A (getItem v (.ref sl)) (EP X pins σ Q) X.xe s
theorem SlR.or {r r' : V → Option Int → Option Int → Hp → VK → Prop} (h : SlR X r) (h' : SlR X r') : SlR X (fun x lo hi H Q => r x lo hi H Q ∨ r' x lo hi H Q) := by
  intro pins s σ H x v vl vu lo hi sl Q I rx hs pl pu q
  rcases q with q | q
  · exact h pins s σ H x v vl vu lo hi sl Q I rx hs pl pu q
  · exact h' pins s σ H x v vl vu lo hi sl Q I rx hs pl pu q
noncomputable def tSl (r : V → Option Int → Option Int → Hp → VK → Prop) (te : TE) (tl th : TO) : TE := fun σ H Q => te σ H fun x H1 => tl σ H1 fun l H2 => th σ H2 fun u H3 => r x l u H3 Q
theorem pe_slice {r : V → Option Int → Option Int → Hp → VK → Prop} (hr : SlR X r) (he : PE X e te) (hl : PO X lo tl) (hu : PO X hi th) : PE X (.Subscript e (.Slice lo hi none p2) pos) (tSl r te tl th) := by
  intro pins s σ H Q I h
  refine Subscript_ (thn (he pins s σ H _ I h) fun v s1 ⟨x, H1, I1, r1, q1⟩ => ?_)
  refine wpAny_Slice (thn (hl pins s1 σ H1 _ I1 q1) fun vl s2 ⟨l, H2, I2, pl, q2⟩ => thn (hu pins s2 σ H2 _ I2 q2) fun vu s3 ⟨u, H3, I3, pu, q3⟩ => ?_)
  rw [evalPart_none]
  refine wpAny_pure ?_
  have I4 : Inv X pins σ H3 { s3 with heap := s3.heap.push { cls := .type "slice", data := .fields #[vl, vu, .none] } } := I3.kept (t' := s3.toks) fun b ob q => Heap.get?_push_of_some _ q
  obtain ⟨T, id, hT, ht, hg⟩ := hr pins { s3 with heap := s3.heap.push { cls := .type "slice", data := .fields #[vl, vu, .none] } } σ H3 x v vl vu l u s3.heap.objs.size Q I4 r1 (Heap.IsSliceOf.new ..) pl pu q3
  show wpAny (model X.prog X.w) X.A (subscriptTail e (.Slice lo hi none p2) v (.ref s3.heap.objs.size)) (EP X pins σ Q) X.xe { s3 with heap := s3.heap.push { cls := .type "slice", data := .fields #[vl, vu, .none] } }
  exact tail_any (ops := [.ref s3.heap.objs.size, v]) ht hT hg (by with_unfolding_all rfl)

noncomputable def cutV (xs : List V) (lo hi : Option Int) : List V := (xs.drop (HT.sIx xs.length 0 lo)).take (HT.sIx xs.length xs.length hi - HT.sIx xs.length 0 lo)
theorem cutV_length (xs : List V) (lo hi : Option Int) : (cutV xs lo hi).length ≤ xs.length := by
  unfold cutV
  rw [List.length_take, List.length_drop]
  omega
end
end L2

namespace L2
open PySem PySem.Spec PyProof.Rows

noncomputable def ixN (n : Nat) (i : Int) : Option Nat := if 0 ≤ i then (if i < n then some i.toNat else none) else if -(n : Int) ≤ i then some (i + n).toNat else none
noncomputable def atI {α : Type} (xs : List α) (i : Int) : Option α := (ixN xs.length i).bind fun j => xs[j]?
theorem ixN_seq {n : Nat} {i : Int} {j : Nat} (h : ixN n i = some j) : seqIndex? i n = some j ∧ j < n ∧ -(n : Int) ≤ i ∧ i < n := by
  unfold ixN at h
  by_cases h0 : 0 ≤ i
  · rw [if_pos h0] at h
    by_cases h1 : i < n
    · rw [if_pos h1] at h
      have e : i.toNat = j := Option.some.inj h
      exact ⟨by rw [seqIndex_of h0 h1, e], by omega, by omega, h1⟩
    · rw [if_neg h1] at h; cases h
  · rw [if_neg h0] at h
    by_cases h1 : -(n : Int) ≤ i
    · rw [if_pos h1] at h
      have e : (i + n).toNat = j := Option.some.inj h
      exact ⟨by rw [seqIndex_neg (by omega) h1, e], by omega, h1, by omega⟩
    · rw [if_neg h1] at h; cases h
theorem atI_get {α : Type} {xs : List α} {i : Int} {v : α} (h : atI xs i = some v) : ∃ j, seqIndex? i xs.length = some j ∧ xs[j]? = some v ∧ j < xs.length ∧ -(xs.length : Int) ≤ i ∧ i < xs.length := by
  unfold atI at h
  cases e : ixN xs.length i with
  | none => rw [e] at h; cases h
  | some j =>
    rw [e] at h
    obtain ⟨h1, h2, h3, h4⟩ := ixN_seq e
    exact ⟨j, h1, h, h2, h3, h4⟩
theorem atI_nat {α : Type} {xs : List α} {j : Nat} {v : α} (h : xs[j]? = some v) : atI xs (j : Int) = some v := by
  have hj : j < xs.length := (List.getElem?_eq_some_iff.mp h).1
  have e : ixN xs.length (j : Int) = some j := by
    unfold ixN
    rw [if_pos (by omega), if_pos (by omega)]; simp
  unfold atI; rw [e]; exact h
theorem atI_last {α : Type} (xs : List α) (v : α) : atI (xs ++ [v]) (-1) = some v := by
  have hl : (xs ++ [v]).length = xs.length + 1 := by simp
  have e : ixN (xs ++ [v]).length (-1) = some xs.length := by
    unfold ixN
    rw [hl, if_neg (by decide), if_pos (by omega)]
    congr 1
    omega
  unfold atI
  rw [e]
  show (xs ++ [v])[xs.length]? = some v
  simp

noncomputable def PlainIx (b : Expr) : Prop := ∀ o i, subscripted b false o i = operate [o, i] (getItem o i)
noncomputable def IxR (X : Cx) (r : R2) : Prop :=
  ∀ (value slice : Expr) (pins : List (Addr × Obj)) (s : Shared) (σ : St) (H : Hp) (x y : V) (v u : Value) (Q : VK), Inv X pins σ H s → RelV x v → RelV y u → r x y H Q →
    subscripted slice false v u = operate [v, u] (getItem v u) → wpAny (model X.prog X.w) X.A (subscriptTail value slice v u) (EP X pins σ Q) X.xe s
noncomputable def MtR (X : Cx) (id : String) (r : V → List V → Hp → VK → Prop) : Prop :=
  ∀ (pins : List (Addr × Obj)) (s : Shared) (σ : St) (H : Hp) (x : V) (xs : List V) (v : Value) (us : List Value) (Q : VK), Inv X pins σ H s → RelV x v → Vals xs us → r x xs H Q →
    wpAny (model X.prog X.w) X.A (call (.builtin id) (v :: us)) (EP X pins σ Q) X.xe s
section
variable {X : Cx} {a b : Expr} {ta tb : TE} {pos : Pos}
theorem IxR.or {r r' : R2} (h : IxR X r) (h' : IxR X r') : IxR X (fun x y H Q => r x y H Q ∨ r' x y H Q) := by
  intro value slice pins s σ H x y v u Q I rx ry q hs
  rcases q with q | q
  · exact h value slice pins s σ H x y v u Q I rx ry q hs
  · exact h' value slice pins s σ H x y v u Q I rx ry q hs
theorem MtR.or {id : String} {r r' : V → List V → Hp → VK → Prop} (h : MtR X id r) (h' : MtR X id r') : MtR X id (fun x xs H Q => r x xs H Q ∨ r' x xs H Q) := by
  intro pins s σ H x xs v us Q I rx rs q
  rcases q with q | q
  · exact h pins s σ H x xs v us Q I rx rs q
  · exact h' pins s σ H x xs v us Q I rx rs q
theorem pe_ix {r : R2} (hr : IxR X r) (ha : PE X a ta) (hb : PE X b tb) (hs : PlainIx b) : PE X (.Subscript a b pos) (tOp r ta tb) := by
  intro pins s σ H Q I h
  exact Subscript_ (binT ha hb I h fun v u s2 x y H2 I2 rx ry q => hr a b pins s2 σ H2 x y v u Q I2 rx ry q (hs _ _))

noncomputable def rIxL (K : PySem.W.Frag) : R2 := fun x y H Q => ∃ p xs i v, x = .ref p ∧ y = .int i ∧ SqL K H p xs ∧ atI xs i = some v ∧ Q v H
noncomputable def rIxT (K : PySem.W.Frag) : R2 := fun x y H Q => ∃ p xs i v, x = .ref p ∧ y = .int i ∧ SqT K H p xs ∧ atI xs i = some v ∧ Q v H
noncomputable def rIxS : R2 := fun x y H Q => ∃ z i c, x = .str z ∧ y = .int i ∧ z.length ≤ sizeLine ∧ atI z.cps.toList i = some c ∧ Q (.str ⟨#[c]⟩) H
theorem ix_list : IxR X (rIxL X.K) := by
  intro value slice pins s σ H x y v u Q I rx ry h hs
  obtain ⟨p, xs, i, z, rfl, rfl, hq, he, q⟩ := h
  cases rx
  obtain ⟨t, rfl⟩ := ry
  obtain ⟨its, r, pl, hz⟩ := I.list hq
  obtain ⟨j, h1, h2, h3, h4, h5⟩ := atI_get he
  obtain ⟨w, ew, rw'⟩ := r.get h2
  have hl := r.length
  have hn := line63
  have fin : EP X pins σ Q w s := ⟨z, H, I, rw', q⟩
  by_cases h0 : 0 ≤ i
  · have hj : i.toNat = j := by
      rw [seqIndex_of h0 h5] at h1
      exact Option.some.inj h1
    exact item_listR pl.isList h0 (by omega) (by rw [hj]; simpa using ew) fin hs
  · have hj : (i + (its.toArray.size : Int)).toNat = j := by
      rw [seqIndex_neg (by omega) h4] at h1
      rw [List.size_toArray, ← hl]
      exact Option.some.inj h1
    exact subscriptTail_builtinR (x := w) pl.isList.typeIs slot_list_getitem.lookup
      (wpAny_getItem_list_neg (Q := fun r s' => r = w ∧ EP X pins σ Q r s') pl.isList (by omega) (by rw [List.size_toArray] <;> omega) (by omega) (by rw [hj]; simpa using ew) ⟨rfl, fin⟩) hs
theorem ix_tup : IxR X (rIxT X.K) := by
  intro value slice pins s σ H x y v u Q I rx ry h hs
  obtain ⟨p, xs, i, z, rfl, rfl, hq, he, q⟩ := h
  cases rx
  obtain ⟨t, rfl⟩ := ry
  obtain ⟨its, r, pl, hz⟩ := I.tuple hq
  obtain ⟨j, h1, h2, h3, h4, h5⟩ := atI_get he
  obtain ⟨w, ew, rw'⟩ := r.get h2
  have hl := r.length
  have hn := line63
  have fin : EP X pins σ Q w s := ⟨z, H, I, rw', q⟩
  exact subscriptTail_builtinR (x := w) pl.typeIs slot_tuple_getitem.lookup
    (getItem_tuple (j := j) (Q := fun r s' => r = w ∧ EP X pins σ Q r s') pl (by omega) (by omega) (by rw [List.size_toArray, ← hl]; exact h1) (by simpa using ew) ⟨rfl, fin⟩) hs
theorem ix_str : IxR X rIxS := by
  intro value slice pins s σ H x y v u Q I rx ry h hs
  obtain ⟨z, i, c, rfl, rfl, hz, he, q⟩ := h
  obtain ⟨t, rfl⟩ := rx
  obtain ⟨t', rfl⟩ := ry
  obtain ⟨j, h1, h2, h3, h4, h5⟩ := atI_get he
  have hl : z.cps.toList.length = z.length := by simp [Str.length]
  rw [hl] at h1 h4 h5
  have hn := line63
  exact tail_any (typeIs_str s z t) slot_str_getitem.lookup (getItem_str (c := c) (by
    have e1 : decide (i < -(2 ^ 63 : Int)) = false := decide_eq_false (by omega)
    have e2 : decide (i ≥ 2 ^ 63) = false := decide_eq_false (by omega)
    rw [e1, e2, Bool.or_false]) (by rw [h1]; simpa using h2) ⟨.str ⟨#[c]⟩, H, I.tok _, ⟨_, rfl⟩, q⟩) hs
noncomputable def rIx (K : PySem.W.Frag) : R2 := fun x y H Q => rIxL K x y H Q ∨ rIxT K x y H Q ∨ rIxS x y H Q
theorem ix_seq : IxR X (rIx X.K) := ix_list.or (ix_tup.or ix_str)

theorem mapSeq_set (its : List Value) (n j : Nat) (u : Value) : Obj.mapSeq (·.setIfInBounds j u) { cls := .type "list", data := .seq its.toArray n } = { cls := .type "list", data := .seq (its.set j u).toArray n } := by
  simp [Obj.mapSeq]
theorem Inv.lst {pins : List (Addr × Obj)} {σ : St} {H : Hp} {s : Shared} {p : Addr} {xs : List V} (I : Inv X pins σ H s) (h : H p = some (.lst xs)) :
    ∃ (its : List Value) (n : Nat), Vals xs its ∧ s.heap.get? p = some { cls := .type "list", data := .seq its.toArray n } ∧ xs.length ≤ sizeLine := by
  obtain ⟨z, its, n, r, e⟩ := I.hok p _ h
  exact ⟨its, n, r, e, z⟩
theorem Inv.lstUpd {pins : List (Addr × Obj)} {σ : St} {H : Hp} {s : Shared} {p : Addr} {xs ys : List V} {its its' : List Value} {n n' : Nat} {f : Obj → Obj} (I : Inv X pins σ H s) (h : H p = some (.lst xs))
    (ho : s.heap.get? p = some { cls := .type "list", data := .seq its.toArray n }) (hf : f { cls := .type "list", data := .seq its.toArray n } = { cls := .type "list", data := .seq its'.toArray n' }) (r : Vals ys its') (hz : ys.length ≤ sizeLine) (t : Nat) :
    Inv X pins σ (upd H p (.lst ys)) { s with heap := s.heap.update p f, toks := t } := by
  have e : (s.heap.update p f).get? p = some { cls := .type "list", data := .seq its'.toArray n' } := by
    rw [Heap.get?_update_self f ho (by rw [hf] <;> rfl), hf]
  refine I.write (x := p) (e := p) (by rw [h]; trivial) (.inl rfl) (fun b u hb q => (Heap.get?_update_other _ _ (Ne.symm hb)).trans q) ⟨_, e⟩ ?_
  exact ⟨hz, its', n', r, e⟩
noncomputable def rSetL : V → V → V → Hp → (Hp → Prop) → Prop := fun o i v H Q => ∃ p xs k j, o = .ref p ∧ i = .int k ∧ H p = some (.lst xs) ∧ ixN xs.length k = some j ∧ Q (upd H p (.lst (xs.set j v)))
theorem set_list : PSet X rSetL := by
  intro pins s σ H o i v ov iv u Q I ro ri rv h
  obtain ⟨p, xs, k, j, rfl, rfl, hp, hj, q⟩ := h
  cases ro
  obtain ⟨t, rfl⟩ := ri
  obtain ⟨its, n, r, ho, hz⟩ := I.lst hp
  obtain ⟨h1, h2, h3, h4⟩ := ixN_seq hj
  have hl := r.length
  have hn := line63
  have I' : Inv X pins σ (upd H p (.lst (xs.set j v))) { s with heap := s.heap.update p (Obj.mapSeq (·.setIfInBounds j u)) } :=
    I.lstUpd hp ho (mapSeq_set its n j u) (r.set rv j) (by rw [List.length_set]; exact hz) s.toks
  by_cases h0 : 0 ≤ k
  · have hk : k.toNat = j := by
      rw [seqIndex_of h0 h4] at h1
      exact Option.some.inj h1
    exact PySem.W.ki_setAt ho h0 (by omega) (by rw [List.size_toArray, ← hl]; exact h4) (by rw [hk]; exact ⟨_, I', q⟩)
  · have hk : (k + (its.toArray.size : Int)).toNat = j := by
      rw [seqIndex_neg (by omega) h3] at h1
      rw [List.size_toArray, ← hl]
      exact Option.some.inj h1
    exact PySem.W.ki_setBack ho (by omega) (by rw [List.size_toArray, ← hl]; exact h3) (by omega) (by rw [hk]; exact ⟨_, I', q⟩)

theorem slice_bounds (lo hi : Option Int) (n : Nat) : (sliceBounds lo hi none n).1 = ((HT.sIx n 0 lo : Nat) : Int) ∧ (sliceBounds lo hi none n).2.1 = ((HT.sIx n n hi : Nat) : Int) ∧ (sliceBounds lo hi none n).2.2 = 1 := by
  refine ⟨?_, ?_, rfl⟩
  · cases lo with
    | none => simp [sliceBounds, HT.sIx]
    | some i =>
      simp only [sliceBounds, HT.sIx, Option.getD_none, show (1 : Int) > 0 by decide, if_true]
      by_cases h : i < 0
      · simp only [h, if_true] <;> omega
      · simp only [h, if_false] <;> omega
  · cases hi with
    | none => simp [sliceBounds, HT.sIx]
    | some i =>
      simp only [sliceBounds, HT.sIx, Option.getD_none, show (1 : Int) > 0 by decide, if_true]
      by_cases h : i < 0
      · simp only [h, if_true] <;> omega
      · simp only [h, if_false] <;> omega
theorem slicePick_cut (its : List Value) (lo hi : Option Int) : slicePick its.toArray lo hi none = ((its.drop (HT.sIx its.length 0 lo)).take (HT.sIx its.length its.length hi - HT.sIx its.length 0 lo)).toArray := by
  obtain ⟨h1, h2, h3⟩ := slice_bounds lo hi its.toArray.size
  unfold slicePick
  rw [h1, h2, h3]
  simp only [sliceRange_one, pick_run, List.size_toArray] <;> rfl
noncomputable def rSlL (K : PySem.W.Frag) : V → Option Int → Option Int → Hp → VK → Prop := fun x lo hi H Q => ∃ a xs, x = .ref a ∧ SqL K H a xs ∧ ∀ p, H p = none → Q (.ref p) (upd H p (.lst (cutV xs lo hi)))
theorem sl_list : SlR X (rSlL X.K) := by
  intro pins s σ H x v vl vu lo hi sl Q I rx hs pl pu h
  obtain ⟨a, xs, rfl, hx, q⟩ := h
  cases rx
  obtain ⟨its, r, ht, hz⟩ := I.list hx
  have hlen := r.length
  refine ⟨"list", _, slot_list_getitem.lookup, ht.isList.typeIs, ?_⟩
  refine wpAny_getItem_list_slice ht.isList hs pl pu .none (by simp) ?_ (by rw [List.size_toArray] <;> omega)
  rw [slicePick_cut, ← hlen]
  refine ⟨.ref s.heap.objs.size, _, I.laid (t' := s.toks) (o := .lst (cutV xs lo hi)) (fun b ob q => Heap.get?_push_of_some _ q) (Nat.le_refl _) ?_, rfl, q _ (I.hok.fresh (Nat.le_refl _))⟩
  exact ⟨Nat.le_trans (cutV_length xs lo hi) hz, _, 0, (r.drop (HT.sIx xs.length 0 lo)).take (HT.sIx xs.length xs.length hi - HT.sIx xs.length 0 lo), Heap.get?_push_size _ rfl⟩

noncomputable def flatV : V → Bool
  | .non => true
  | .bl _ => true
  | .int _ => true
  | .str _ => true
  | _ => false
noncomputable def eqV : V → V → Bool
  | .non, .non => true
  | .bl a, .bl b => a == b
  | .bl a, .int b => (if a then 1 else 0) == b
  | .int a, .bl b => a == (if b then 1 else 0)
  | .int a, .int b => a == b
  | .str a, .str b => a == b
  | _, _ => false
theorem eqAt_V {A : Around} {s : Shared} {y x : V} {u v : Value} (ry : RelV y u) (rx : RelV x v) (fy : flatV y = true) (fx : flatV x = true) : SeqAt.EqAt A s u v (eqV y x) := by
  cases y with
  | non =>
    cases ry
    cases x with
    | non => cases rx; exact SeqAt.EqAt.same _
    | bl b => cases rx; exact SeqAt.EqAt.none_bool b
    | int b => obtain ⟨t, rfl⟩ := rx; exact SeqAt.EqAt.none_int b t
    | str b => obtain ⟨t, rfl⟩ := rx; exact SeqAt.EqAt.none_str b t
    | _ => exact absurd (show false = true from fx) Bool.false_ne_true
  | bl a =>
    cases ry
    cases x with
    | non => cases rx; exact SeqAt.EqAt.bool_none a
    | bl b => cases rx; exact SeqAt.EqAt.bool_bool a b
    | int b => obtain ⟨t, rfl⟩ := rx; exact SeqAt.EqAt.bool_int a b t
    | str b => obtain ⟨t, rfl⟩ := rx; exact SeqAt.EqAt.bool_str a b t
    | _ => exact absurd (show false = true from fx) Bool.false_ne_true
  | int a =>
    obtain ⟨t', rfl⟩ := ry
    cases x with
    | non => cases rx; exact SeqAt.EqAt.int_none a t'
    | bl b => cases rx; exact SeqAt.EqAt.int_bool a t' b
    | int b => obtain ⟨t, rfl⟩ := rx; exact SeqAt.EqAt.int_int a t' b t
    | str b => obtain ⟨t, rfl⟩ := rx; exact SeqAt.EqAt.int_str a t' b t
    | _ => exact absurd (show false = true from fx) Bool.false_ne_true
  | str a =>
    obtain ⟨t', rfl⟩ := ry
    cases x with
    | non => cases rx; exact SeqAt.EqAt.str_none a t'
    | bl b => cases rx; exact SeqAt.EqAt.str_bool a t' b
    | int b => obtain ⟨t, rfl⟩ := rx; exact SeqAt.EqAt.str_int a t' b t
    | str b => obtain ⟨t, rfl⟩ := rx; exact SeqAt.EqAt.str_str a t' b t
    | _ => exact absurd (show false = true from fx) Bool.false_ne_true
  | _ => exact absurd (show false = true from fy) Bool.false_ne_true
noncomputable def eqU (x : V) (u : Value) : Bool := match u with
  | .none => eqV .non x
  | .bool b => eqV (.bl b) x
  | .int i _ => eqV (.int i) x
  | .str z _ => eqV (.str z) x
  | _ => false
theorem eqU_of {x y : V} {u : Value} (r : RelV y u) (f : flatV y = true) : eqU x u = eqV y x := by
  cases y with
  | non => cases r; rfl
  | bl b => cases r; rfl
  | int i => obtain ⟨t, rfl⟩ := r; rfl
  | str z => obtain ⟨t, rfl⟩ := r; rfl
  | _ => exact absurd (show false = true from f) Bool.false_ne_true
theorem any_eqU {x : V} : ∀ {xs : List V} {us : List Value}, Vals xs us → xs.all flatV = true → us.any (eqU x) = xs.any fun y => eqV y x
  | _, _, .nil, _ => rfl
  | y :: xs, u :: us, .cons r t, f => by
    rw [List.all_cons, Bool.and_eq_true] at f
    rw [List.any_cons, List.any_cons, eqU_of r f.1, any_eqU t f.2]
theorem mem_eqAt {A : Around} {s : Shared} {x : V} {v : Value} (rx : RelV x v) (fx : flatV x = true) : ∀ {xs : List V} {us : List Value}, Vals xs us → xs.all flatV = true → ∀ u ∈ us, SeqAt.EqAt A s u v (eqU x u)
  | _, _, .nil, _ => fun u hu => by cases hu
  | y :: xs, u :: us, .cons r t, f => fun u' hu => by
    rw [List.all_cons, Bool.and_eq_true] at f
    rcases List.mem_cons.mp hu with rfl | hu
    · rw [eqU_of r f.1]; exact eqAt_V r rx f.1 fx
    · exact mem_eqAt rx fx t f.2 u' hu
noncomputable def inV (x : V) (xs : List V) : Bool := xs.any fun y => eqV y x
noncomputable def rIn (K : PySem.W.Frag) (neg : Bool) : R2 := fun x y H Q => ∃ p xs, y = .ref p ∧ (SqL K H p xs ∨ SqT K H p xs) ∧ flatV x = true ∧ xs.all flatV = true ∧ Q (.bl (if neg then !inV x xs else inV x xs)) H
theorem op_in_seq : OpR X (compareOp .In) (rIn X.K false) := by
  intro pins s σ H x y v u Q I rx ry h
  obtain ⟨p, xs, rfl, hq, fx, fs, q⟩ := h
  cases ry
  rcases hq with hq | hq
  · obtain ⟨its, r, pl, hz⟩ := I.list hq
    refine SeqAt.in_listAt (eqU x) pl.isList (fun w hw => mem_eqAt rx fx r fs w (by simpa using hw)) ⟨.bl _, H, I, rfl, ?_⟩
    rw [show its.toArray.any (eqU x) = its.any (eqU x) by simp, any_eqU r fs]
    exact q
  · obtain ⟨its, r, pl, hz⟩ := I.tuple hq
    refine SeqAt.in_tupleAt (eqU x) pl (fun w hw => mem_eqAt rx fx r fs w (by simpa using hw)) ⟨.bl _, H, I, rfl, ?_⟩
    rw [show its.toArray.any (eqU x) = its.any (eqU x) by simp, any_eqU r fs]
    exact q
theorem call_len_seq : CallR X (.builtin "len") (fun xs H Q => ∃ p ys, xs = [.ref p] ∧ (SqL X.K H p ys ∨ SqT X.K H p ys) ∧ Q (.int ys.length) H) := by
  intro pins s σ H xs us Q I r h
  obtain ⟨p, ys, rfl, hq, q⟩ := h
  obtain ⟨u, rfl, rx⟩ := vals1 r
  cases rx
  have hn := line63
  rcases hq with hq | hq
  · obtain ⟨its, r', pl, hz⟩ := I.list hq
    have hlen := r'.length
    exact Calls.call_len_list pl.isList (by simp only [List.size_toArray] <;> omega) ⟨.int ys.length, H, I.tok _, ⟨s.toks + 1, by rw [List.size_toArray, hlen]⟩, q⟩
  · obtain ⟨its, r', pl, hz⟩ := I.tuple hq
    have hlen := r'.length
    exact len_tuple pl (by simp only [List.size_toArray] <;> omega) ⟨.int ys.length, H, I.tok _, ⟨s.toks + 1, by rw [List.size_toArray, hlen]⟩, q⟩
theorem CallR.or {f : Value} {r r' : List V → Hp → VK → Prop} (h : CallR X f r) (h' : CallR X f r') : CallR X f (fun xs H Q => r xs H Q ∨ r' xs H Q) := by
  intro pins s σ H xs us Q I rs q
  rcases q with q | q
  · exact h pins s σ H xs us Q I rs q
  · exact h' pins s σ H xs us Q I rs q
theorem call_list_of : CallR X (.type "list") (fun xs H Q => ∃ p ys, xs = [.ref p] ∧ (SqL X.K H p ys ∨ SqT X.K H p ys) ∧ ∀ l, H l = none → Q (.ref l) (upd H l (.lst ys))) := by
  intro pins s σ H xs us Q I r h
  obtain ⟨p, ys, rfl, hq, q⟩ := h
  obtain ⟨u, rfl, rx⟩ := vals1 r
  cases rx
  have fin : ∀ (its : List Value), Vals ys its → ys.length ≤ sizeLine → ∀ (h' : Heap) (c' : Nat), (∀ b o', s.heap.get? b = some o' → h'.get? b = some o') →
      h'.get? s.heap.objs.size = some { cls := .type "list", dict := none, data := .seq its.toArray c', slots := #[] } → EP X pins σ Q (.ref s.heap.objs.size) { s with heap := h' } := fun its r' hz h' c' kp e =>
    ⟨.ref s.heap.objs.size, _, I.laid (t' := s.toks) kp (Nat.le_refl _) (show ObjOk X.prog X.w _ h' _ (.lst ys) from ⟨hz, its, c', r', e⟩), rfl, q _ (I.hok.fresh (Nat.le_refl _))⟩
  rcases hq with hq | hq
  · obtain ⟨its, r', pl, hz⟩ := I.list hq
    have hlen := r'.length
    obtain ⟨o, ho, hc, n, hd⟩ := pl.isList
    exact call_list_seq p (.inl rfl) ho hc hd (fun h' c' kp e => fin its r' hz h' c' kp e) (by simp only [List.size_toArray] <;> omega)
  · obtain ⟨its, r', pl, hz⟩ := I.tuple hq
    have hlen := r'.length
    obtain ⟨o, ho, hc, n, hd⟩ := pl
    exact call_list_seq p (.inr rfl) ho hc hd (fun h' c' kp e => fin its r' hz h' c' kp e) (by simp only [List.size_toArray] <;> omega)
noncomputable def tyV (K : PySem.W.Frag) (T : String) (x : V) (H : Hp) : Prop := match x with
  | .str _ => T = "str"
  | .int _ => T = "int"
  | .ref p => (T = "list" ∧ ∃ xs, SqL K H p xs) ∨ (T = "tuple" ∧ ∃ o, K.lookup p = some o ∧ o.cls = .type "tuple" ∧ o.dict = none) ∨
      (T = "dict" ∧ ((∃ kvs, H p = some (.dK kvs)) ∨ ∃ kvs, H p = some (.dT kvs))) ∨ (T = "set" ∧ ∃ S n, H p = some (.set S n))
  | _ => False
theorem tyV_is {pins : List (Addr × Obj)} {σ : St} {H : Hp} {s : Shared} {T : String} {x : V} {v : Value} (I : Inv X pins σ H s) (r : RelV x v) (ty : tyV X.K T x H) :
    s.TypeIs v T ∧ ∀ a, v = .ref a → ∃ ob, s.heap.get? a = some ob ∧ ob.dict = none := by
  cases x with
  | str z =>
    obtain ⟨t, rfl⟩ := r
    cases (show T = "str" from ty)
    exact ⟨typeIs_str s z t, fun _ e => nomatch e⟩
  | int i =>
    obtain ⟨t, rfl⟩ := r
    cases (show T = "int" from ty)
    exact ⟨typeIs_int s i t, fun _ e => nomatch e⟩
  | ref p =>
    cases r
    rcases ty with ⟨rfl, xs, hq⟩ | ⟨rfl, o, hk, hc, hd⟩ | ⟨rfl, hk⟩ | ⟨rfl, S, n, hk⟩
    · obtain ⟨its, _, pl, _⟩ := I.list hq
      refine ⟨pl.isList.typeIs, fun a e => ?_⟩
      cases e
      obtain ⟨o, n, e, c, hd, _⟩ := pl
      exact ⟨o, e, hd⟩
    · refine ⟨⟨o, I.kIn p o hk, hc⟩, fun a e => ?_⟩
      cases e
      exact ⟨o, I.kIn _ o hk, hd⟩
    · have z : ∃ o, s.heap.get? p = some o ∧ o.ExactDict := by
        rcases hk with ⟨kvs, hk⟩ | ⟨kvs, hk⟩
        · obtain ⟨_, _, _, _, o, _, _, e, ex, _⟩ := I.hok p _ hk
          exact ⟨o, e, ex⟩
        · obtain ⟨_, _, _, _, o, _, _, e, ex, _⟩ := I.hok p _ hk
          exact ⟨o, e, ex⟩
      obtain ⟨o, e, ex⟩ := z
      refine ⟨⟨o, e, ex.1⟩, fun a e2 => ?_⟩
      cases e2
      exact ⟨o, e, ex.2.1⟩
    · obtain ⟨o, _, _, _, e, ex, _⟩ := I.hok p _ hk
      refine ⟨⟨o, e, ex.1⟩, fun a e2 => ?_⟩
      cases e2
      exact ⟨o, e, ex.2.1⟩
  | _ => exact False.elim ty
noncomputable def tBM0 (K : PySem.W.Frag) (T : String) (r : V → List V → Hp → VK → Prop) (to : TE) : TE := fun σ H Q => to σ H fun x H1 => tyV K T x H1 ∧ r x [] H1 Q
noncomputable def tBM (K : PySem.W.Frag) (T : String) (r : V → List V → Hp → VK → Prop) (to : TE) (t : TA) : TE := fun σ H Q => to σ H fun x H1 => tyV K T x H1 ∧ t σ H1 fun xs H2 => r x xs H2 Q
variable {o e : Expr} {es : List Expr} {to : TE} {t : TA} {name : Str} {apos cpos : Pos} {T id : String} {r : V → List V → Hp → VK → Prop}
theorem pe_bm0 (pa : PlainAttrs T) (slot : Slot T name id) (hty : typeOf (.builtin id) = pure (.type "method_descriptor")) (hm : MtR X id r) (ho : PE X o to)
    (hbase : attributeBase o name X.env (eval o X.env) = eval o X.env := by rfl) (hline : (apos.endLine == cpos.line) = true := by rfl) : PE X (.Call (.Attribute o name apos) [] [] cpos) (tBM0 X.K T r to) := by
  intro pins s σ H Q I h
  refine wpAny_Call_method0_late hbase hline (thn (ho pins s σ H _ I h) fun v s1 ⟨x, H1, I1, r1, ty, q1⟩ => ?_)
  obtain ⟨h1, h2⟩ := tyV_is I1 r1 ty
  exact ⟨T, id, pa, slot, hty, h1, h2, Calls.callWith_builtin rfl (PySem.evalArgs_none (hm pins s1 σ H1 x [] v [] Q I1 r1 .nil q1))⟩
theorem pe_bm (pa : PlainAttrs T) (slot : Slot T name id) (hty : typeOf (.builtin id) = pure (.type "method_descriptor")) (hm : MtR X id r) (ho : PE X o to) (ha : PA X (e :: es) t)
    (hbase : attributeBase o name X.env (eval o X.env) = eval o X.env := by rfl)
    (hfew : ((backTo cpos (starEach (e :: es) X.env)).all (fun x => !x.1) && (backToKw cpos (keywordEach [] X.env)).all (fun x => x.1.isSome)
      && decide ((e :: es).length + ([] : List Keyword).length + (if ([] : List Keyword).isEmpty then 0 else 1) < 30)) = true := by rfl)
    (hline : (apos.endLine == cpos.line) = true := by rfl) (hs : starEach (e :: es) X.env = (false, eval e X.env) :: starEach es X.env := by rfl) (hplain : (backTo cpos (starEach es X.env)).any (·.1) = false := by rfl) :
    PE X (.Call (.Attribute o name apos) (e :: es) [] cpos) (tBM X.K T r to t) := by
  intro pins s σ H Q I h
  refine wpAny_Call_method_late hbase hfew hline rfl (thn (ho pins s σ H _ I h) fun v s1 ⟨x, H1, I1, r1, ty, q1⟩ => ?_)
  obtain ⟨h1, h2⟩ := tyV_is I1 r1 ty
  refine ⟨T, id, pa, slot, hty, h1, h2, ?_⟩
  have hA := ha cpos pins s1 σ H1 _ I1 q1
  rw [hs] at hA ⊢
  refine Calls.callWith_builtin (by show (false || (backTo cpos (starEach es X.env)).any (·.1)) = false; rw [hplain] <;> rfl) (Calls.evalArgs_plain ?_)
  exact thn hA fun us s2 ⟨vs, H2, I2, r2, q2⟩ => hm pins s2 σ H2 x vs v us Q I2 r1 r2 q2
end
end L2

namespace L2
open PySem PySem.Spec PyProof.Rows

noncomputable def MtM (X : Cx) (id : String) (r : V → List V → Hp → VK → Prop) : Prop :=
  ∀ (pins : List (Addr × Obj)) (s : Shared) (σ : St) (H : Hp) (x : V) (xs : List V) (v : Value) (us : List Value) (Q : VK), Inv X pins σ H s → RelV x v → Vals xs us → r x xs H Q →
    wpAny (model X.prog X.w) X.A (call (.builtin id) (v :: us)) (EP X pins σ Q) X.xe s

theorem Vals.one : ∀ {x : V} {us : List Value}, Vals [x] us → ∃ u, us = [u] ∧ RelV x u
  | _, _, .cons r .nil => ⟨_, rfl, r⟩
theorem Vals.zero : ∀ {us : List Value}, Vals [] us → us = []
  | _, .nil => rfl
theorem Vals.dropLast {xs : List V} {us : List Value} (h : Vals xs us) : Vals xs.dropLast us.dropLast := by
  induction h with
  | nil => exact .nil
  | cons r t ih =>
    cases t with
    | nil => exact .nil
    | cons q t' => exact .cons r ih
theorem Vals.eraseIdx : ∀ {xs : List V} {us : List Value} (i : Nat), Vals xs us → Vals (xs.eraseIdx i) (us.eraseIdx i)
  | _, _, _, .nil => .nil
  | _, _, 0, .cons _ t => t
  | _, _, i + 1, .cons r t => .cons r (Vals.eraseIdx i t)
theorem Vals.reverse {xs : List V} {us : List Value} (h : Vals xs us) : Vals xs.reverse us.reverse := by
  induction h with
  | nil => exact .nil
  | cons r t ih => rw [List.reverse_cons, List.reverse_cons]; exact Vals.append ih (.cons r .nil)
theorem Vals.rep {xs : List V} {us : List Value} (h : Vals xs us) : ∀ k : Nat, Vals (List.replicate k xs).flatten (List.replicate k us).flatten
  | 0 => .nil
  | k + 1 => by
    rw [List.replicate_succ, List.replicate_succ, List.flatten_cons, List.flatten_cons]
    exact Vals.append h (Vals.rep h k)
theorem erase_last {α : Type} (l : List α) : l.eraseIdx (l.length - 1) = l.dropLast := by
  induction l with
  | nil => rfl
  | cons a r ih =>
    cases r with
    | nil => rfl
    | cons b r =>
      have e : (a :: b :: r).length - 1 = ((b :: r).length - 1) + 1 := by
        have h1 : (a :: b :: r).length = r.length + 2 := rfl
        have h2 : (b :: r).length = r.length + 1 := rfl
        omega
      rw [e, List.eraseIdx_cons_succ, ih]
      all_goals rfl
theorem foldl_rep (its : List Value) : ∀ (k : Nat) (acc : List Value),
    List.foldl (fun x1 x2 => x1 ++ x2) acc.toArray (List.replicate k its.toArray) = (acc ++ (List.replicate k its).flatten).toArray
  | 0, acc => by simp
  | k + 1, acc => by
    have e : acc.toArray ++ its.toArray = (acc ++ its).toArray := by simp
    have e2 : (acc ++ its) ++ (List.replicate k its).flatten = acc ++ (List.replicate (k + 1) its).flatten := by
      rw [List.replicate_succ, List.flatten_cons, List.append_assoc]
    rw [← e2, ← foldl_rep its k (acc ++ its), ← e, List.replicate_succ, List.foldl_cons]

section
variable {X : Cx} {pins : List (Addr × Obj)} {σ : St} {H : Hp} {s : Shared} {l b : Addr} {xs ys zs : List V}

theorem Inv.lset {its its' : List Value} {n : Nat} {f : Array Value → Array Value} {t' : Nat} (I : Inv X pins σ H s) (hH : H l = some (.lst xs))
    (e : s.heap.get? l = some { cls := .type "list", data := .seq its.toArray n }) (hf : f its.toArray = its'.toArray) (hv : Vals ys its') (hz : ys.length ≤ sizeLine) :
    Inv X pins σ (upd H l (.lst ys)) { s with heap := s.heap.update l (Obj.mapSeq f), toks := t' } := by
  have q := PySem.IsL.update e f
  rw [hf] at q
  refine I.write (x := l) (e := l) (by rw [hH]; exact trivial) (.inl rfl) (fun b' u hb hu => (Heap.get?_update_other s.heap (Obj.mapSeq f) (Ne.symm hb)).trans hu) ⟨_, q⟩ ?_
  exact ⟨hz, its', _, hv, q⟩
theorem Inv.lnew {its : List Value} {t' : Nat} (I : Inv X pins σ H s) (hv : Vals ys its) (hz : ys.length ≤ sizeLine) :
    Inv X pins σ (upd H s.heap.objs.size (.lst ys)) { s with heap := s.heap.push { cls := .type "list", data := .seq its.toArray }, toks := t' } :=
  I.laid (fun _ _ q => Heap.get?_push_of_some _ q) (Nat.le_refl _) ⟨hz, its, 0, hv, Heap.get?_push_size _ rfl⟩
theorem Inv.fresh (I : Inv X pins σ H s) : H s.heap.objs.size = none := I.hok.fresh (Nat.le_refl _)
theorem Inv.lstM (I : Inv X pins σ H s) (hH : H l = some (.lst xs)) : xs.length ≤ sizeLine ∧ ∃ (its : List Value) (n : Nat), Vals xs its ∧ xs.length = its.length ∧ s.heap.get? l = some { cls := .type "list", data := .seq its.toArray n } := by
  obtain ⟨z, its, n, r, e⟩ := I.hok l _ hH
  exact ⟨z, its, n, r, r.length, e⟩

theorem notLongL {n : Nat} (h : n ≤ sizeLine) : Builtin.List.listTooLong n = false := by
  unfold Builtin.List.listTooLong
  exact decide_eq_false (by omega)
end

section
variable {X : Cx}

noncomputable def rAppend : V → List V → Hp → VK → Prop := fun x vs H Q => ∃ l xs y, x = .ref l ∧ vs = [y] ∧ H l = some (.lst xs) ∧ xs.length < sizeLine ∧ Q .non (upd H l (.lst (xs ++ [y])))
theorem mt_append : MtM X "list.append" rAppend := by
  intro pins s σ H x vs v us Q I rx rv h
  obtain ⟨l, xs, y, rfl, rfl, hH, hz, q⟩ := h
  cases rx
  obtain ⟨u, rfl, ru⟩ := rv.one
  obtain ⟨z, its, n, r, hl, e⟩ := I.lstM hH
  refine call_meets F.slot_list_append ⟨_, e, rfl⟩ F.entry_list_append (F.args_list_append_2 _ _) (PySem.list_append l its.toArray n u (by rw [List.size_toArray]; omega)) ⟨e, ?_⟩
  refine ⟨.non, _, I.lset (its' := its ++ [u]) hH e (by simp) (r.append (.cons ru .nil)) ?_, rfl, q⟩
  rw [List.length_append, List.length_singleton]
  omega

noncomputable def rExtend : V → List V → Hp → VK → Prop := fun x vs H Q => ∃ l b xs zs, x = .ref l ∧ vs = [.ref b] ∧ H l = some (.lst xs) ∧ H b = some (.lst zs) ∧ xs.length + zs.length ≤ sizeLine ∧ Q .non (upd H l (.lst (xs ++ zs)))
theorem mt_extend : MtM X "list.extend" rExtend := by
  intro pins s σ H x vs v us Q I rx rv h
  obtain ⟨l, b, xs, zs, rfl, rfl, hH, hB, hz, q⟩ := h
  cases rx
  obtain ⟨u, rfl, ru⟩ := rv.one
  cases ru
  obtain ⟨z, its, n, r, hl, e⟩ := I.lstM hH
  obtain ⟨z2, its2, n2, r2, hl2, e2⟩ := I.lstM hB
  have hsz : its.toArray.size + its2.toArray.size ≤ sizeLine := by rw [List.size_toArray, List.size_toArray]; omega
  have hlong : ¬ (!its.toArray.isEmpty && Builtin.List.listTooLong (its.toArray.size + its2.toArray.size)) = true := by
    rw [notLongL hsz, Bool.and_false]
    exact Bool.false_ne_true
  refine call_meets F.slot_list_extend ⟨_, e, rfl⟩ F.entry_list_extend (F.args_list_extend_2 _ _)
    (AutoSeq1.list_extend_list_list_0 l its.toArray n b its2.toArray n2 hlong (by rw [List.size_toArray]; omega) (by omega)) ⟨e, e2, ?_⟩
  refine ⟨.non, _, I.lset (its' := its ++ its2) hH e (by simp) (r.append r2) ?_, rfl, q⟩
  rw [List.length_append]
  omega

noncomputable def rPop : V → List V → Hp → VK → Prop := fun x vs H Q => ∃ l xs y, x = .ref l ∧ vs = [] ∧ H l = some (.lst xs) ∧ xs[xs.length - 1]? = some y ∧ Q y (upd H l (.lst xs.dropLast))
theorem mt_pop : MtM X "list.pop" rPop := by
  intro pins s σ H x vs v us Q I rx rv h
  obtain ⟨l, xs, y, rfl, rfl, hH, hy, q⟩ := h
  cases rx
  have hus := rv.zero
  subst hus
  obtain ⟨z, its, n, r, hl, e⟩ := I.lstM hH
  obtain ⟨u, hu, ru⟩ := r.get hy
  have hy' : its.toArray[its.toArray.size - 1]? = some u := by
    show its.toArray[its.length - 1]? = some u
    rw [← Array.getElem?_toList, ← hl]
    exact hu
  refine call_meets F.slot_list_pop ⟨_, e, rfl⟩ F.entry_list_pop (F.args_list_pop_1 _) (MeetsSeq.list_pop_last l its.toArray n u hy' (by rw [List.size_toArray]; omega)) ⟨e, ?_⟩
  refine ⟨y, _, I.lset (its' := its.dropLast) hH e ?_ r.dropLast ?_, ru, q⟩
  · show its.toArray.eraseIdxIfInBounds (its.toArray.size - 1) = its.dropLast.toArray
    rw [List.size_toArray, List.eraseIdxIfInBounds_toArray, erase_last]
  · rw [List.length_dropLast]
    omega

noncomputable def rCat : R2 := fun x y H Q => ∃ l b xs zs, x = .ref l ∧ y = .ref b ∧ H l = some (.lst xs) ∧ H b = some (.lst zs) ∧ xs.length + zs.length ≤ sizeLine ∧ ∀ p, H p = none → Q (.ref p) (upd H p (.lst (xs ++ zs)))
theorem op_cat : OpR X (binaryOp .Add) rCat := by
  intro pins s σ H x y v u Q I rx ry h
  obtain ⟨l, b, xs, zs, rfl, rfl, hH, hB, hz, q⟩ := h
  cases rx
  cases ry
  obtain ⟨z, its, n, r, hl, e⟩ := I.lstM hH
  obtain ⟨z2, its2, n2, r2, hl2, e2⟩ := I.lstM hB
  refine PySem.P.add_list e e2 ?_ (by rw [List.size_toArray, List.size_toArray]; omega)
  have ea : its.toArray ++ its2.toArray = (its ++ its2).toArray := by simp
  rw [ea]
  exact ⟨.ref _, _, I.lnew (t' := s.toks) (r.append r2) (by rw [List.length_append]; omega), rfl, q _ I.fresh⟩
noncomputable def rRep : R2 := fun x y H Q => ∃ l k xs, x = .ref l ∧ y = .int k ∧ H l = some (.lst xs) ∧ -(2 ^ 63) ≤ k ∧ k < 2 ^ 63 ∧ xs.length * k.toNat ≤ sizeLine ∧
  ∀ p, H p = none → Q (.ref p) (upd H p (.lst (List.replicate k.toNat xs).flatten))
theorem len_rep {α : Type} (xs : List α) (k : Nat) : (List.replicate k xs).flatten.length = k * xs.length := by
  induction k with
  | zero => simp
  | succ k ih => rw [List.replicate_succ, List.flatten_cons, List.length_append, ih, Nat.succ_mul, Nat.add_comm]
theorem op_rep : OpR X (binaryOp .Mult) rRep := by
  intro pins s σ H x y v u Q I rx ry h
  obtain ⟨l, k, xs, rfl, rfl, hH, h1, h2, hz, q⟩ := h
  cases rx
  obtain ⟨t, rfl⟩ := ry
  obtain ⟨z, its, n, r, hl, e⟩ := I.lstM hH
  have hlen : its.toArray.size * k.toNat ≤ sizeLine := by rw [List.size_toArray, ← hl]; exact hz
  have hcap : ¬ its.toArray.size * k.toNat > (2 ^ 63 - 1) / 8 := by
    have : (sizeLine : Nat) ≤ (2 ^ 63 - 1) / 8 := by decide
    omega
  have hfit : ¬ (!Builtin.List.listFitsIndex k) = true := by
    rw [fitsIndex_both h1 h2]
    exact Bool.false_ne_true
  have hlong : ¬ Builtin.List.listTooLong (its.toArray.size * k.toNat) = true := by
    rw [notLongL hlen]
    exact Bool.false_ne_true
  have hnew : List.foldl (fun x1 x2 => x1 ++ x2) #[] (List.replicate (if its.toArray.isEmpty = true then 0 else k.toNat) its.toArray) = (List.replicate k.toNat its).flatten.toArray := by
    have f0 : ∀ m : Nat, List.foldl (fun x1 x2 => x1 ++ x2) #[] (List.replicate m its.toArray) = (List.replicate m its).flatten.toArray := fun m => by
      have := foldl_rep its m []
      rw [List.nil_append] at this
      exact this
    rw [f0]
    cases its with
    | nil => simp
    | cons a r' => rw [if_neg (by simp)]
  refine wpAny_binaryOp_repeat_ref (T := "list") (U := "int") (by decide) ⟨_, e, rfl⟩ (fun s' => typeIs_int s' k t) noFill_list_mul F.fills_int_mul F.slot_int_rmul repeat_list F.slot_int_index.lookup
    (call_meets F.slot_int_rmul (typeIs_int s k t) F.entry_int_rmul (F.args_int_rmul_2 _ _) (int___rmul___int_list k t l its.toArray n)
      ⟨e, rfl, ⟨_, e, rfl⟩, call_meets F.slot_list_mul ⟨_, e, rfl⟩ F.entry_list_mul (F.args_list_mul_2 _ _) (AutoListH.list___mul___list_int_3 l its.toArray n k t hfit hcap hlong) ⟨e, ?_⟩⟩)
  rw [hnew]
  exact ⟨.ref _, _, I.lnew (t' := s.toks) (r.rep k.toNat) (by rw [len_rep, Nat.mul_comm]; exact hz), rfl, q _ I.fresh⟩

end

section
variable {prog : Program} {w : World} {A : Around} {E : Value → Shared → Prop} {s : Shared}
end

section
variable {X : Cx}
end
end L2

namespace L2
open PySem PySem.Spec PyProof.Rows

section
variable {κ : Type} [DecidableEq κ]
noncomputable def valV (kvs : List (κ × V)) (k : κ) : Option V := (kvs.find? fun kv => decide (kv.1 = k)).map (·.2)
noncomputable def putK (kvs : List (κ × V)) (k : κ) (v : V) : List (κ × V) :=
  if (kvs.any fun kv => decide (kv.1 = k)) = true then kvs.map (fun kv => if kv.1 = k then (kv.1, v) else kv) else kvs ++ [(k, v)]
noncomputable def dropK (kvs : List (κ × V)) (k : κ) : List (κ × V) := kvs.filter fun kv => decide (kv.1 ≠ k)

theorem valV_nil {k : κ} : valV ([] : List (κ × V)) k = none := rfl
theorem valV_pos {p : κ × V} {r : List (κ × V)} {k : κ} (e : p.1 = k) : valV (p :: r) k = some p.2 := by simp [valV, List.find?_cons, e]
theorem valV_neg {p : κ × V} {r : List (κ × V)} {k : κ} (e : ¬ p.1 = k) : valV (p :: r) k = valV r k := by simp [valV, List.find?_cons, e]
theorem valV_any (k : κ) : ∀ kvs : List (κ × V), (kvs.any fun kv => decide (kv.1 = k)) = (valV kvs k).isSome
  | [] => rfl
  | p :: r => by
    rw [List.any_cons]
    by_cases e : p.1 = k
    · simp only [valV_pos e, decide_eq_true e, Bool.true_or, Option.isSome_some]
    · rw [valV_neg e, decide_eq_false e, Bool.false_or]; exact valV_any k r
theorem valV_map (k j : κ) (y : V) : ∀ kvs : List (κ × V), valV (kvs.map fun kv => if kv.1 = k then (kv.1, y) else kv) j = (valV kvs j).map fun x => if j = k then y else x
  | [] => rfl
  | p :: r => by
    have ih := valV_map k j y r
    rw [List.map_cons]
    by_cases h : p.1 = k
    · rw [if_pos h]
      by_cases e : p.1 = j
      · rw [valV_pos (p := (p.1, y)) e, valV_pos e, Option.map_some, if_pos (e.symm.trans h)]
      · rw [valV_neg (p := (p.1, y)) e, valV_neg e, ih]
    · rw [if_neg h]
      by_cases e : p.1 = j
      · rw [valV_pos (p := p) e, valV_pos e, Option.map_some, if_neg (fun z => h (e.trans z))]
      · rw [valV_neg (p := p) e, valV_neg e, ih]
theorem valV_snoc (k j : κ) (y : V) : ∀ kvs : List (κ × V), valV kvs k = none → valV (kvs ++ [(k, y)]) j = if j = k then some y else valV kvs j
  | [], _ => by
    by_cases e : k = j
    · rw [if_pos e.symm]; exact valV_pos (p := (k, y)) e
    · rw [if_neg (fun z => e z.symm)]; exact valV_neg (p := (k, y)) e
  | p :: r, hn => by
    rw [List.cons_append]
    have hk : ¬ p.1 = k := fun z => by rw [valV_pos z] at hn; cases hn
    rw [valV_neg hk] at hn
    have ih := valV_snoc k j y r hn
    by_cases e : p.1 = j
    · rw [valV_pos e, valV_pos e, if_neg (fun z => hk (e.trans z))]
    · rw [valV_neg e, valV_neg e, ih]
theorem valV_put (kvs : List (κ × V)) (k j : κ) (y : V) : valV (putK kvs k y) j = if j = k then some y else valV kvs j := by
  unfold putK
  by_cases a : (kvs.any fun kv => decide (kv.1 = k)) = true
  · rw [if_pos a, valV_map]
    rw [valV_any] at a
    by_cases e : j = k
    · obtain ⟨x, hx⟩ := Option.isSome_iff_exists.mp a
      rw [if_pos e, e, hx, Option.map_some, if_pos rfl]
    · rw [if_neg e]
      cases valV kvs j with
      | none => rfl
      | some x => rw [Option.map_some, if_neg e]
  · rw [if_neg a]
    refine valV_snoc k j y kvs ?_
    rw [valV_any] at a
    cases q : valV kvs k with
    | none => rfl
    | some x => rw [q] at a; exact (a rfl).elim
theorem length_putK (kvs : List (κ × V)) (k : κ) (v : V) : (putK kvs k v).length ≤ kvs.length + 1 := by
  unfold putK
  split
  · rw [List.length_map]; omega
  · rw [List.length_append, List.length_cons, List.length_nil]; omega
theorem putK_new {kvs : List (κ × V)} {k : κ} (v : V) (h : valV kvs k = none) : putK kvs k v = kvs ++ [(k, v)] := by
  unfold putK
  rw [valV_any, h]
  exact if_neg (by decide)

theorem RelO.isSome_eq {o : Option V} {u : Option Value} (r : RelO o u) : o.isSome = u.isSome := by
  cases o with
  | none => cases u with
    | none => rfl
    | some _ => exact (show False from r).elim
  | some _ => cases u with
    | none => exact (show False from r).elim
    | some _ => rfl
theorem RelO.getD {o : Option V} {u : Option Value} {d : V} {d' : Value} (r : RelO o u) (rd : RelV d d') : RelV (o.getD d) (u.getD d') := by
  cases o with
  | none => cases u with
    | none => exact rd
    | some _ => exact (show False from r).elim
  | some _ => cases u with
    | none => exact (show False from r).elim
    | some _ => exact r

theorem KV.val {kvs : List (κ × V)} {vs : List (κ × Value)} (r : KV kvs vs) (k : κ) : RelO (valV kvs k) (valueAt vs k) := by
  unfold KV at r
  induction r with
  | nil => exact True.intro
  | @cons p q ps qs h t ih =>
    obtain ⟨h1, h2⟩ := h
    by_cases e : p.1 = k
    · have e' : q.1 = k := h1.symm.trans e
      have b : valueAt (q :: qs) k = some q.2 := by simp [valueAt, List.find?_cons, e']
      rw [valV_pos e, b]; exact h2
    · have e' : ¬ q.1 = k := fun z => e (h1.trans z)
      have b : valueAt (q :: qs) k = valueAt qs k := by simp [valueAt, List.find?_cons, e']
      rw [valV_neg e, b]; exact ih
theorem KV.any {kvs : List (κ × V)} {vs : List (κ × Value)} (r : KV kvs vs) (k : κ) : (kvs.any fun kv => decide (kv.1 = k)) = vs.any fun kv => decide (kv.1 = k) := by
  unfold KV at r
  induction r with
  | nil => rfl
  | cons h t ih => rw [List.any_cons, List.any_cons, ih, h.1]
theorem KV.repl {kvs : List (κ × V)} {vs : List (κ × Value)} (r : KV kvs vs) (k : κ) {y : V} {u : Value} (ry : RelV y u) :
    KV (kvs.map fun kv => if kv.1 = k then (kv.1, y) else kv) (vs.map fun kv => if kv.1 = k then (kv.1, u) else kv) := by
  unfold KV at r ⊢
  induction r with
  | nil => exact .nil
  | @cons p q ps qs h t ih =>
    rw [List.map_cons, List.map_cons]
    refine .cons ?_ ih
    obtain ⟨h1, h2⟩ := h
    by_cases e : p.1 = k
    · rw [if_pos e, if_pos (h1.symm.trans e)]; exact ⟨h1, ry⟩
    · rw [if_neg e, if_neg (fun z => e (h1.trans z))]; exact ⟨h1, h2⟩
theorem KV.put {kvs : List (κ × V)} {vs : List (κ × Value)} (r : KV kvs vs) (k : κ) {y : V} {u : Value} (ry : RelV y u) : KV (putK kvs k y) (stored vs k u) := by
  unfold putK stored
  rw [r.any k]
  by_cases e : (vs.any fun kv => decide (kv.1 = k)) = true
  · rw [if_pos e, if_pos e]; exact r.repl k ry
  · rw [if_neg e, if_neg e]; exact Paired.snoc r ⟨rfl, ry⟩
theorem KV.drop {kvs : List (κ × V)} {vs : List (κ × Value)} (r : KV kvs vs) (k : κ) : KV (dropK kvs k) (without vs k) := by
  unfold KV at r ⊢
  unfold dropK without
  induction r with
  | nil => exact .nil
  | @cons p q ps qs h t ih =>
    obtain ⟨h1, h2⟩ := h
    rw [List.filter_cons, List.filter_cons]
    by_cases e : p.1 = k
    · have a : ¬ decide (p.1 ≠ k) = true := by simp [e]
      have b : ¬ decide (q.1 ≠ k) = true := by simp [h1.symm.trans e]
      rw [if_neg a, if_neg b]; exact ih
    · have e' : ¬ q.1 = k := fun z => e (h1.trans z)
      have a : decide (p.1 ≠ k) = true := by simp [e]
      have b : decide (q.1 ≠ k) = true := by simp [e']
      rw [if_pos a, if_pos b]; exact .cons ⟨h1, h2⟩ ih
theorem KV.keys {kvs : List (κ × V)} {vs : List (κ × Value)} (r : KV kvs vs) : kvs.map (·.1) = vs.map (·.1) := by
  unfold KV at r
  induction r with
  | nil => rfl
  | cons h t ih => rw [List.map_cons, List.map_cons, ih, h.1]
theorem KV.length {kvs : List (κ × V)} {vs : List (κ × Value)} (r : KV kvs vs) : kvs.length = vs.length := Paired.length r
theorem dropK_le (kvs : List (κ × V)) (k : κ) : (dropK kvs k).length ≤ kvs.length := List.length_filter_le _ _
end


theorem kV_is {P : Program} {w : World} {k : Key} {u : Value} (r : RelV (kV k) u) : (mixKind P w).is k u = true := by
  cases k with
  | inl i => obtain ⟨t, e⟩ := (show ∃ t, u = Value.int i t from r); subst e; exact mixKind_int P w i t
  | inr x => obtain ⟨t, e⟩ := (show ∃ t, u = Value.str x t from r); subst e; exact mixKind_str P w x t
theorem items_are {P : Program} {w : World} : ∀ {ks : List Key} {us : List Value}, Vals (ks.map kV) us → ItemsAre (mixKind P w) ks us
  | [], _, r => by rw [List.map_nil] at r; cases r; exact .nil
  | k :: ks, _, r => by
    rw [List.map_cons] at r
    cases r with
    | cons h t => exact .cons (kV_is h) (items_are t)

noncomputable abbrev KT (H : Hp) : List (List Key × V) → List (List Key × Addr × Value) → Prop := Paired fun p q => p.1 = q.1 ∧ H q.2.1 = some (.tup (p.1.map kV)) ∧ RelV p.2 q.2.2
theorem KT.val {H : Hp} {kvs : List (List Key × V)} {xs : List (List Key × Addr × Value)} (r : KT H kvs xs) (k : List Key) : RelO (valV kvs k) ((atKey xs k).map (·.2)) := by
  induction r with
  | nil => exact True.intro
  | @cons p q ps qs h t ih =>
    obtain ⟨h1, _, h2⟩ := h
    by_cases e : p.1 = k
    · have e' : q.1 = k := h1.symm.trans e
      have b : atKey (q :: qs) k = some q.2 := by simp [atKey, List.find?_cons, e']
      rw [valV_pos e, b]; exact h2
    · have e' : ¬ q.1 = k := fun z => e (h1.trans z)
      have b : atKey (q :: qs) k = atKey qs k := by simp [atKey, List.find?_cons, e']
      rw [valV_neg e, b]; exact ih
theorem KT.repl {H : Hp} {kvs : List (List Key × V)} {xs : List (List Key × Addr × Value)} (r : KT H kvs xs) (k : List Key) {y : V} {u : Value} (ry : RelV y u) :
    KT H (kvs.map fun kv => if kv.1 = k then (kv.1, y) else kv) (xs.map (putAt k u)) := by
  induction r with
  | nil => exact .nil
  | @cons p q ps qs h t ih =>
    rw [List.map_cons, List.map_cons]
    refine .cons ?_ ih
    obtain ⟨h1, h2, h3⟩ := h
    unfold putAt
    by_cases e : p.1 = k
    · rw [if_pos e, if_pos (h1.symm.trans e)]; exact ⟨h1, h2, ry⟩
    · rw [if_neg e, if_neg (fun z => e (h1.trans z))]; exact ⟨h1, h2, h3⟩
theorem KT.put {H : Hp} {kvs : List (List Key × V)} {xs : List (List Key × Addr × Value)} (r : KT H kvs xs) (k : List Key) {b : Addr} {y : V} {u : Value} (hb : H b = some (.tup (k.map kV))) (ry : RelV y u) :
    KT H (putK kvs k y) (storedH xs k b u) := by
  have e : (kvs.any fun kv => decide (kv.1 = k)) = (atKey xs k).isSome := by
    rw [valV_any, (r.val k).isSome_eq, Option.isSome_map]
  unfold putK storedH
  rw [e]
  by_cases q : (atKey xs k).isSome = true
  · rw [if_pos q, if_pos q]; exact r.repl k ry
  · rw [if_neg q, if_neg q]; exact Paired.snoc r ⟨rfl, hb, ry⟩
theorem KT.keeps {H H' : Hp} {kvs : List (List Key × V)} {xs : List (List Key × Addr × Value)} (r : KT H kvs xs) (ht : ∀ b ys, H b = some (.tup ys) → H' b = some (.tup ys)) : KT H' kvs xs :=
  Paired.mapP r fun _ _ z => ⟨z.1, ht _ _ z.2.1, z.2.2⟩

section
variable {P : Program} {w : World} {H : Hp} {h : Heap} {a : Addr}
theorem rd_of {u : HO} (ok : HOk P w H h) (e : Rd H a u) : ObjOk P w H h a u := e.ok ok
theorem dk_rd {kvs : List (Key × V)} (ok : HOk P w H h) (e : Rd H a (.dK kvs)) : kvs.length ≤ sizeLine ∧ (a == sysModules) = false ∧ ∃ vs, KV kvs vs ∧ h.DictOf (mixKind P w) a vs :=
  show ObjOk P w H h a (.dK kvs) from rd_of ok e
theorem dk_of {kvs : List (Key × V)} (ok : HOk P w H h) (e : H a = some (.dK kvs)) : kvs.length ≤ sizeLine ∧ (a == sysModules) = false ∧ ∃ vs, KV kvs vs ∧ h.DictOf (mixKind P w) a vs := dk_rd ok (.inl e)
theorem key_of {ks : List Key} (ok : HOk P w H h) (e : H a = some (.tup (ks.map kV))) : (tupleKind (mixKind P w)).is h ks a := by
  obtain ⟨_, its, r, o, h1, h2, n, h3⟩ := (show ObjOk P w H h a (.tup (ks.map kV)) from ok a _ e)
  exact ⟨o, its.toArray, n, h1, h2, h3, by simpa using items_are r⟩
theorem dt_rd {kvs : List (List Key × V)} (ok : HOk P w H h) (e : Rd H a (.dT kvs)) : kvs.length ≤ sizeLine ∧ (a == sysModules) = false ∧
    ∃ xs, KT H kvs xs ∧ h.DictOfH (tupleKind (mixKind P w)) a xs := by
  obtain ⟨z, y, xs, r, o, es, ep, h1, h2, h3, h4, h5⟩ := (show ObjOk P w H h a (.dT kvs) from rd_of ok e)
  refine ⟨z, y, xs, r, o, es, ep, h1, h2, h3, h4, fun x hx => ?_, h5⟩
  have all : ∀ {l : List (List Key × V)} {m : List (List Key × Addr × Value)}, KT H l m → ∀ x ∈ m, (tupleKind (mixKind P w)).is h x.1 x.2.1 := by
    intro l m q
    induction q with
    | nil => intro x hx; exact nomatch hx
    | @cons p q ps qs hq t ih =>
      intro x hx
      rcases List.mem_cons.mp hx with e | hx
      · subst e
        exact key_of ok (by rw [← hq.1]; exact hq.2.1)
      · exact ih x hx
  exact all r x hx
theorem dt_of {kvs : List (List Key × V)} (ok : HOk P w H h) (e : H a = some (.dT kvs)) : kvs.length ≤ sizeLine ∧ (a == sysModules) = false ∧
    ∃ xs, KT H kvs xs ∧ h.DictOfH (tupleKind (mixKind P w)) a xs := dt_rd ok (.inl e)
end

noncomputable def DGet (H : Hp) (a : Addr) (y : V) (r : Option V) : Prop :=
  (∃ kvs k, Rd H a (.dK kvs) ∧ y = kV k ∧ r = valV kvs k) ∨ ∃ kvs k b, Rd H a (.dT kvs) ∧ y = .ref b ∧ H b = some (.tup (k.map kV)) ∧ r = valV kvs k
noncomputable def DPut (H : Hp) (a : Addr) (y v : V) (H' : Hp) : Prop :=
  (∃ kvs k, H a = some (.dK kvs) ∧ y = kV k ∧ kvs.length < sizeLine ∧ H' = upd H a (.dK (putK kvs k v))) ∨
  ∃ kvs k b, H a = some (.dT kvs) ∧ y = .ref b ∧ H b = some (.tup (k.map kV)) ∧ kvs.length < sizeLine ∧ H' = upd H a (.dT (putK kvs k v))
theorem DGet.k {H : Hp} {a : Addr} {kvs : List (Key × V)} {k : Key} (e : H a = some (.dK kvs)) : DGet H a (kV k) (valV kvs k) := .inl ⟨kvs, k, .inl e, rfl, rfl⟩
theorem DGet.t {H : Hp} {a b : Addr} {kvs : List (List Key × V)} {k : List Key} (e : H a = some (.dT kvs)) (eb : H b = some (.tup (k.map kV))) : DGet H a (.ref b) (valV kvs k) := .inr ⟨kvs, k, b, .inl e, rfl, eb, rfl⟩
theorem DPut.k {H : Hp} {a : Addr} {kvs : List (Key × V)} {k : Key} {v : V} (e : H a = some (.dK kvs)) (hl : kvs.length < sizeLine) : DPut H a (kV k) v (upd H a (.dK (putK kvs k v))) := .inl ⟨kvs, k, e, rfl, hl, rfl⟩
theorem DPut.t {H : Hp} {a b : Addr} {kvs : List (List Key × V)} {k : List Key} {v : V} (e : H a = some (.dT kvs)) (eb : H b = some (.tup (k.map kV))) (hl : kvs.length < sizeLine) :
    DPut H a (.ref b) v (upd H a (.dT (putK kvs k v))) := .inr ⟨kvs, k, b, e, rfl, eb, hl, rfl⟩


section
variable {X : Cx} {pins : List (Addr × Obj)} {σ : St} {H : Hp} {s : Shared} {a : Addr} {y v : V} {u r : Value} {o : Option V} {A : Around} {E : Value → Shared → Prop}

theorem Inv.big (I : Inv X pins σ H s) : sysModules < s.heap.objs.size := by
  have h : mainGlobals < s.heap.objs.size := (I.mod.glob.keeps I.bk).lt
  exact Nat.lt_trans (by decide) h

theorem d_write {h' : Heap} {t' : Nat} {ob : HO} (I : Inv X pins σ H s) (mu : Mut (H a)) (hs : Heap.SameBut a s.heap h') (he : ∃ q, h'.get? a = some q) (new : ObjOk X.prog X.w (upd H a ob) h' a ob) :
    Inv X pins σ (upd H a ob) { s with heap := h', toks := t' } :=
  I.write (x := a) (e := a) mu (.inl rfl) (fun b q hb z => (hs.2 b hb).trans z) he new
theorem dk_new {P : Program} {w : World} {H' : Hp} {h' : Heap} {kvs : List (Key × V)} {vs : List (Key × Value)} (z : kvs.length ≤ sizeLine) (hd : (a == sysModules) = false) (rel : KV kvs vs) (dd : h'.DictOf (mixKind P w) a vs) :
    ObjOk P w H' h' a (.dK kvs) := ⟨z, hd, vs, rel, dd⟩
theorem d_setItem {H' : Hp} {Q : Unit → Shared → Prop} (hu : A.units + 1 < cLine) (I : Inv X pins σ H s) (g : DPut H a y v H') (ry : RelV y u) (rv : RelV v r) (h : ∀ s', Inv X pins σ H' s' → Q () s') :
    wpAny (model X.prog X.w) A (setItem (.ref a) u r) Q E s := by
  rcases g with ⟨kvs, k, e, ey, l, eH⟩ | ⟨kvs, k, b, e, ey, eb, l, eH⟩
  · subst ey eH
    obtain ⟨z, hd, vs, rel, dd⟩ := dk_of I.hok e
    have hz : vs.length ≤ sizeLine := by rw [← rel.length]; exact z
    have hl : (putK kvs k v).length ≤ sizeLine := by have := length_putK kvs k v; omega
    refine wpAny_setItem_pairs (hsz := hz) (kV_is ry) dd fun h' dd' hs => h _ ?_
    have he : ∃ q, h'.get? a = some q := let ⟨q, _, _, hq, _⟩ := dd'; ⟨q, hq⟩
    exact d_write I (by rw [e]; exact True.intro) hs he (dk_new hl hd (rel.put k rv) dd')
  · subst ey eH
    cases (show u = Value.ref b from ry)
    obtain ⟨z, hd, xs, rel, dd⟩ := dt_of I.hok e
    have hz : xs.length ≤ sizeLine := by rw [← Paired.length rel]; exact z
    have hl : (putK kvs k v).length ≤ sizeLine := by have := length_putK kvs k v; omega
    refine wpAny_setItem_heap (hsz := hz) (tupleKind_room_in1 hu) (key_of I.hok eb) dd fun h' dd' hs => h _ ?_
    obtain ⟨q, es, ep, hq, h2, h3, h4, _, h5⟩ := dd'
    refine d_write I (by rw [e]; exact True.intro) hs ⟨q, hq⟩ ⟨hl, hd, _, (rel.put k eb rv).keeps fun c ys ec => ?_, q, es, ep, hq, h2, h3, h4, h5⟩
    rw [upd_ne (ne_of ec e (fun z => nomatch z))]
    exact ec
end

section
variable {X : Cx} {pins : List (Addr × Obj)} {σ : St} {H : Hp} {s : Shared} {a : Addr} {kvs : List (Key × V)} {k : Key} {u : Value} {A : Around} {E : Value → Shared → Prop}
theorem d_delItem {Q : Unit → Shared → Prop} (I : Inv X pins σ H s) (e : H a = some (.dK kvs)) (ry : RelV (kV k) u) (l : (valV kvs k).isSome = true) (h : ∀ s', Inv X pins σ (upd H a (.dK (dropK kvs k))) s' → Q () s') :
    wpAny (model X.prog X.w) A (delItem (.ref a) u) Q E s := by
  obtain ⟨z, hd, vs, rel, dd⟩ := dk_of I.hok e
  refine wpAny_delItem_slot dd.typeIs (by decide) PySem.F.slot_dict_delitem
    (call_meetsIn PySem.F.slot_dict_delitem dd.typeIs PySem.F.entry_dict_delitem (PySem.F.args_dict_delitem_2 _ _) (meets_dict_delitem_pairs (mixKind X.prog X.w) a (kV_is ry)) ⟨vs, dd, by rw [← rel.length]; exact z, by rw [← (rel.val k).isSome_eq]; exact l, fun h' dd' hs => h _ ?_⟩)
  have he : ∃ q, h'.get? a = some q := let ⟨q, _, _, hq, _⟩ := dd'; ⟨q, hq⟩
  exact d_write I (by rw [e]; exact True.intro) hs he (dk_new (Nat.le_trans (dropK_le kvs k) z) hd (rel.drop k) dd')
theorem d_pop {v : V} {more : List Value} {Q : Value → Shared → Prop} (I : Inv X pins σ H s) (e : H a = some (.dK kvs)) (ry : RelV (kV k) u) (l : valV kvs k = some v) (hm : more = [] ∨ ∃ x, more = [x])
    (h : ∀ w' s', Inv X pins σ (upd H a (.dK (dropK kvs k))) s' → RelV v w' → Q w' s') : wpAny (model X.prog X.w) A (call (.builtin "dict.pop") (.ref a :: u :: more)) Q E s := by
  obtain ⟨z, hd, vs, rel, dd⟩ := dk_of I.hok e
  obtain ⟨w', hw, rw'⟩ := RelO.some_of (v := v) (o := valueAt vs k) (by rw [← l]; exact rel.val k)
  have hp : (keyPart u).isSome = true := by
    cases k with
    | inl i => obtain ⟨t, q⟩ := (show ∃ t, u = Value.int i t from ry); subst q; rfl
    | inr x => obtain ⟨t, q⟩ := (show ∃ t, u = Value.str x t from ry); subst q; rfl
  have ha : argsOk "dict.pop" ⟨.ref a :: u :: more, []⟩ := by
    rcases hm with q | ⟨x, q⟩
    · subst q; exact PySem.F.args_dict_pop_2 _ _
    · subst q; exact PySem.F.args_dict_pop_3 _ _ _
  refine call_meetsIn PySem.F.slot_dict_pop dd.typeIs PySem.F.entry_dict_pop ha (meets_dict_pop_there (mixKind X.prog X.w) a (kV_is ry) more hm hp)
    ⟨vs, w', dd, by rw [← rel.length]; exact z, hw, fun h' dd' hs => h w' _ ?_ rw'⟩
  have he : ∃ q, h'.get? a = some q := let ⟨q, _, _, hq, _⟩ := dd'; ⟨q, hq⟩
  exact d_write I (by rw [e]; exact True.intro) hs he (dk_new (Nat.le_trans (dropK_le kvs k) z) hd (rel.drop k) dd')
theorem d_popD {r : Value} {Q : Value → Shared → Prop} (I : Inv X pins σ H s) (e : H a = some (.dK kvs)) (ry : RelV (kV k) u) (l : valV kvs k = none) (h : ∀ s', Inv X pins σ H s' → Q r s') :
    wpAny (model X.prog X.w) A (call (.builtin "dict.pop") [.ref a, u, r]) Q E s := by
  obtain ⟨z, hd, vs, rel, dd⟩ := dk_of I.hok e
  have hn : valueAt vs k = none := RelO.none_of (by rw [← l]; exact rel.val k)
  have hp : (keyPart u).isSome = true := by
    cases k with
    | inl i => obtain ⟨t, q⟩ := (show ∃ t, u = Value.int i t from ry); subst q; rfl
    | inr x => obtain ⟨t, q⟩ := (show ∃ t, u = Value.str x t from ry); subst q; rfl
  exact call_meetsIn PySem.F.slot_dict_pop dd.typeIs PySem.F.entry_dict_pop (PySem.F.args_dict_pop_3 _ _ _) (meets_dict_pop_default (mixKind X.prog X.w) a (kV_is ry) hd hp r) ⟨vs, dd, hn, h _ (I.tok _)⟩
end


noncomputable def NoSl (i : Expr) : Prop := ∀ ov iv, subscripted i false ov iv = operate [ov, iv] (getItem ov iv)
theorem subD_of {prog : Program} {w : World} {A : Around} {E : Value → Shared → Prop} {s : Shared} {env : Env} {value slice : Expr} {pos : Pos} {T id : String} {Q : Value → Shared → Prop}
    (hl : typeLookup (.type T) "__getitem__" = pure (some (.builtin id))) (hs : NoSl slice)
    (h : wpAny (model prog w) A (eval value env) (fun o s₁ => wpAny (model prog w) A (eval slice env) (fun i s₂ => s₂.TypeIs o T ∧ wpAny (model prog w) A (getItem o i) Q E s₂) E s₁) E s) :
    wpAny (model prog w) A (eval (.Subscript value slice pos) env) Q E s := by
  refine Subscript_ (wpAny_mono h (fun o s₁ h₁ => wpAny_mono h₁ (fun i s₂ h₂ => ?_) fun _ _ x => x) fun _ _ x => x)
  obtain ⟨hT, h₂⟩ := h₂
  unfold subscriptTail
  refine wpAny_bind ?_
  rw [getitemInPython_of_ne hT.not_modules]
  refine wpAny_bind (wpAny_specialOf hT hl ?_)
  have fin : wpAny (model prog w) A (subscripted slice false o i) (fun r s₃ => wpAny (model prog w) A (letTemporaryGo value o r >>= fun _ => pure r) Q E s₃) E s₂ := by
    rw [hs o i]
    exact wpAny_operating (wpAny_mono h₂ (fun r s₃ h₃ => wpAny_bind (wpAny_letTemporaryGo (wpAny_pure h₃))) fun _ _ x => x)
  first
    | exact wpAny_pure (wpAny_bind fin)
    | exact wpAny_bind (wpAny_pure (wpAny_bind fin))
    | exact wpAny_bind fin

noncomputable def sDPut (td ty tv : TE) : TS := fun D σ H => tv σ H fun v H1 => td σ H1 fun x H2 => ty σ H2 fun y H3 => ∃ a H4, x = .ref a ∧ DPut H3 a y v H4 ∧ D.nx σ H4
section
variable {X : Cx} {o i e value : Expr} {pos pos' tpos : Pos} {td ty tv : TE}
theorem ps_dput (hu : X.A.units + 1 < cLine) (ho : PE X o td) (hi : PE X i ty) (hv : PE X value tv) (hs : swapsWith value (some (.Subscript o i pos')) pos.line X.env = pure false) :
    PS X (.Assign [.Subscript o i pos'] value pos) (sDPut td ty tv) := by
  intro pins s σ H D I h
  refine wpAny_Assign_Subscript (thn (hv pins s σ H _ I h) fun r s1 ⟨v, H1, I1, rv, q1⟩ => thn (ho pins s1 σ H1 _ I1 q1) fun u s2 ⟨x, H2, I2, rx, q2⟩ => thn (hi pins s2 σ H2 _ I2 q2) fun iv s3 ⟨y, H3, I3, ry, a, H4, ex, g, q3⟩ => ?_) hs
  subst ex
  obtain rfl : u = Value.ref a := rx
  exact d_setItem hu I3 g ry rv fun s4 I4 => ⟨σ, H4, I4, q3⟩
end


theorem dk_empty {P : Program} {w : World} {H : Hp} (h : Heap) (hb : sysModules < h.objs.size) : ObjOk P w H (h.push { cls := .type "dict", data := .dict #[] }) h.objs.size (.dK []) :=
  ⟨Nat.zero_le _, beq_eq_false_iff_ne.mpr (Ne.symm (Nat.ne_of_lt hb)), [], .nil, Heap.DictOf.new h⟩
noncomputable def tDNewK : TE := fun _ H Q => ∀ p, H p = none → Q (.ref p) (upd H p (.dK []))
section
variable {X : Cx} {pos : Pos}
theorem pe_dnewK : PE X (.Dict [] [] pos) tDNewK := fun pins s σ H Q I h =>
  wpAny_Dict_empty ⟨.ref s.heap.objs.size, _, I.laid (a := s.heap.objs.size) (o := .dK []) (t' := s.toks) (fun _ _ q => Heap.get?_push_of_some _ q) (Nat.le_refl _) (dk_empty s.heap I.big), rfl, h _ (I.hok.fresh (Nat.le_refl _))⟩
end

noncomputable abbrev VV : List (V × V) → List (Value × Value) → Prop := Paired fun p q => RelV p.1 q.1 ∧ RelV p.2 q.2
structure M1 (X : Cx) (o : Expr) (m : Str) (apos : Pos) (e : Expr) (cpos : Pos) : Prop where
  base : attributeBase o m X.env (eval o X.env) = eval o X.env
  few : ((backTo cpos (starEach [e] X.env)).all (fun x => !x.1) && (backToKw cpos (keywordEach [] X.env)).all (fun x => x.1.isSome)
    && decide (([e] : List Expr).length + ([] : List Keyword).length + (if ([] : List Keyword).isEmpty then 0 else 1) < 30)) = true
  line : (apos.endLine == cpos.line) = true
  trees : backTo cpos (starEach [e] X.env) = [(false, eval e X.env)]
structure M2 (X : Cx) (o : Expr) (m : Str) (apos : Pos) (e f : Expr) (cpos : Pos) : Prop where
  base : attributeBase o m X.env (eval o X.env) = eval o X.env
  few : ((backTo cpos (starEach [e, f] X.env)).all (fun x => !x.1) && (backToKw cpos (keywordEach [] X.env)).all (fun x => x.1.isSome)
    && decide (([e, f] : List Expr).length + ([] : List Keyword).length + (if ([] : List Keyword).isEmpty then 0 else 1) < 30)) = true
  line : (apos.endLine == cpos.line) = true
  trees : backTo cpos (starEach [e, f] X.env) = [(false, eval e X.env), (false, eval f X.env)]

noncomputable def IsD (H : Hp) (a : Addr) : Prop := (∃ kvs, Rd H a (.dK kvs)) ∨ ∃ kvs, Rd H a (.dT kvs)
theorem isD_at {X : Cx} {pins : List (Addr × Obj)} {σ : St} {H : Hp} {s : Shared} {a : Addr} (I : Inv X pins σ H s) (d : IsD H a) :
    s.TypeIs (.ref a) "dict" ∧ (∀ b, Value.ref a = .ref b → ∃ ob, s.heap.get? b = some ob ∧ ob.dict = none) ∧ (a == sysModules) = false := by
  rcases d with ⟨kvs, e⟩ | ⟨kvs, e⟩
  · obtain ⟨_, hd, vs, _, dd⟩ := dk_rd I.hok e
    refine ⟨dd.typeIs, fun b q => ?_, hd⟩
    cases q
    obtain ⟨ob, _, _, h1, h2, _⟩ := dd
    exact ⟨ob, h1, h2.2.1⟩
  · obtain ⟨_, hd, xs, _, dd⟩ := dt_rd I.hok e
    refine ⟨dd.typeIs, fun b q => ?_, hd⟩
    cases q
    obtain ⟨ob, _, _, h1, h2, _⟩ := dd
    exact ⟨ob, h1, h2.2.1⟩

section
variable {X : Cx} {pins : List (Addr × Obj)} {σ : St} {H : Hp} {s : Shared} {a : Addr} {y d : V} {u r : Value} {o : Option V} {A : Around} {E : Value → Shared → Prop}
theorem d_get2 {Q : Value → Shared → Prop} (hu : A.units + 1 < cLine) (I : Inv X pins σ H s) (g : DGet H a y o) (ry : RelV y u) (rd : RelV d r) (h : ∀ w' s', Inv X pins σ H s' → RelV (o.getD d) w' → Q w' s') :
    wpAny (model X.prog X.w) A (call (.builtin "dict.get") [.ref a, u, r]) Q E s := by
  rcases g with ⟨kvs, k, e, ey, l⟩ | ⟨kvs, k, b, e, ey, eb, l⟩
  · subst ey
    obtain ⟨z, hd, vs, rel, dd⟩ := dk_rd I.hok e
    refine call_meetsIn PySem.F.slot_dict_get dd.typeIs PySem.F.entry_dict_get (PySem.F.args_dict_get_3 _ _ _) (meets_dict_get_default (mixKind X.prog X.w) a (kV_is ry) hd r) ⟨_, dd.mapOf, h _ _ (I.tok _) ?_⟩
    rw [l]
    exact (rel.val k).getD rd
  · subst ey
    cases (show u = Value.ref b from ry)
    obtain ⟨z, hd, xs, rel, dd⟩ := dt_rd I.hok e
    refine call_meetsIn PySem.F.slot_dict_get dd.typeIs PySem.F.entry_dict_get (PySem.F.args_dict_get_3 _ _ _) (meetsH_dict_get_default (tupleKind (mixKind X.prog X.w)) a b hd r) ⟨tupleKind_room_in1 hu, k, xs, key_of I.hok eb, dd, h _ _ (I.tok _) ?_⟩
    rw [l]
    exact (rel.val k).getD rd
end

noncomputable def tDGet2 (td ty tx : TE) : TE := fun σ H Q => td σ H fun x H1 => ∃ a, x = .ref a ∧ IsD H1 a ∧ ty σ H1 fun y H2 => tx σ H2 fun z H3 => ∃ o, DGet H3 a y o ∧ Q (o.getD z) H3
noncomputable def tDPop2 (td ty tx : TE) : TE := fun σ H Q => td σ H fun x H1 => ∃ a, x = .ref a ∧ IsD H1 a ∧ ty σ H1 fun y H2 => tx σ H2 fun z H3 => ∃ kvs k, H3 a = some (.dK kvs) ∧ y = kV k ∧
  (∀ v, valV kvs k = some v → Q v (upd H3 a (.dK (dropK kvs k)))) ∧ (valV kvs k = none → Q z H3)
section
variable {X : Cx} {o e f : Expr} {apos cpos : Pos} {td ty tx : TE}
theorem pe_dget2 (hu : X.A.units + 1 < cLine) (ho : PE X o td) (he : PE X e ty) (hf : PE X f tx) (m : M2 X o "get" apos e f cpos) : PE X (.Call (.Attribute o "get" apos) [e, f] [] cpos) (tDGet2 td ty tx) := by
  intro pins s σ H Q I h
  refine wpAny_Call_method m.base m.few m.line PySem.F.plainAttrs_dict PySem.F.slot_dict_get PySem.F.type_dict_get (thn (ho pins s σ H _ I h) fun u s1 ⟨x, H1, I1, rx, a, ex, d, q1⟩ => ?_)
  subst ex
  obtain rfl : u = Value.ref a := rx
  obtain ⟨t1, t2, _⟩ := isD_at I1 d
  refine ⟨t1, t2, ?_⟩
  rw [m.trees]
  refine Calls.callWith_builtin rfl (Calls.evalArgs_plain (Calls.spliced_cons (thn (he pins s1 σ H1 _ I1 q1) fun iv s2 ⟨y, H2, I2, ry, q2⟩ =>
    Calls.spliced_cons (thn (hf pins s2 σ H2 _ I2 q2) fun fv s3 ⟨z, H3, I3, rz, ov, g, q3⟩ => Calls.spliced_nil ?_))))
  exact d_get2 hu I3 g ry rz fun w' s4 I4 rw' => ⟨_, H3, I4, rw', q3⟩
theorem pe_dpop2 (ho : PE X o td) (he : PE X e ty) (hf : PE X f tx) (m : M2 X o "pop" apos e f cpos) : PE X (.Call (.Attribute o "pop" apos) [e, f] [] cpos) (tDPop2 td ty tx) := by
  intro pins s σ H Q I h
  refine wpAny_Call_method m.base m.few m.line PySem.F.plainAttrs_dict PySem.F.slot_dict_pop PySem.F.type_dict_pop (thn (ho pins s σ H _ I h) fun u s1 ⟨x, H1, I1, rx, a, ex, d, q1⟩ => ?_)
  subst ex
  obtain rfl : u = Value.ref a := rx
  obtain ⟨t1, t2, _⟩ := isD_at I1 d
  refine ⟨t1, t2, ?_⟩
  rw [m.trees]
  refine Calls.callWith_builtin rfl (Calls.evalArgs_plain (Calls.spliced_cons (thn (he pins s1 σ H1 _ I1 q1) fun iv s2 ⟨y, H2, I2, ry, q2⟩ =>
    Calls.spliced_cons (thn (hf pins s2 σ H2 _ I2 q2) fun fv s3 ⟨z, H3, I3, rz, kvs, k, ea, ey, q3, q4⟩ => Calls.spliced_nil ?_))))
  subst ey
  cases l : valV kvs k with
  | some v => exact d_pop I3 ea ry l (.inr ⟨fv, rfl⟩) fun w' s4 I4 rw' => ⟨v, _, I4, rw', q3 v l⟩
  | none => exact d_popD I3 ea ry l fun s4 I4 => ⟨z, H3, I4, rz, q4 l⟩
end

section
variable {X : Cx} {pins : List (Addr × Obj)} {σ : St} {H : Hp} {s : Shared} {a : Addr} {kvs : List (Key × V)} {A : Around} {E : Value → Shared → Prop}
end


section
variable {X : Cx} {pins : List (Addr × Obj)} {σ : St} {H : Hp} {s : Shared} {a : Addr} {y : V} {u : Value} {A : Around} {E : Value → Shared → Prop}
end
end L2

namespace Att
open PySem PySem.W PySem.Calls PyProof.Rows

theorem ints_of_wellAll {P : Params} {h : Heap} : ∀ (ns : List Int) (vs : List Value), WellAll P h vs (ns.map WData.int) → IntsAre vs ns := by
  intro ns
  induction ns with
  | nil =>
    intro vs w
    rw [List.map_nil] at w
    cases w
    exact .nil
  | cons n ns ih =>
    intro vs w
    rw [List.map_cons] at w
    cases w with
    | cons a b =>
      cases a
      exact .cons _ _ (ih _ b)

theorem script_of {l : OpenLaw} {n : Nat} (hn : l.most = some n) {P : Params} {h : Heap} {args : List WData} {vals : List Value}
    (hpre : l.row.toRowW.claim.pre args = true) (hwl : WellAll P h vals args) :
    ∃ a vs ns, vals = [Value.ref a] ∧ args = [WData.list (ns.map WData.int)] ∧ h.get? a = some { cls := .type "list", data := .seq vs.toArray } ∧ IntsAre vs ns ∧ ns.length ≤ n := by
  have hsh : WShape.hasAll [] args [.list .int] = true := (pre_splitW hpre).1
  have hc : l.pre.holds [] { args := args } = true := (pre_splitW hpre).2
  obtain ⟨d, r, rfl, h1, h2⟩ := hasAllW_cons hsh
  obtain rfl := hasAllW_nil h2
  obtain ⟨xs, rfl, h3⟩ := hasW_list h1
  obtain ⟨ns, rfl⟩ := items_int h3
  have hlen : ns.length ≤ n := by
    unfold OpenLaw.pre at hc
    have h4 : (WTm.not (.lt (.lit (.int (n : Int))) (.len (.arg 0)))).holds [] { args := [.list (ns.map .int)] } = true := by
      have h4 := (holds_andW hc).1
      rw [hn] at h4
      exact h4
    have h5 := condW_of h4 (w_not (w_lt w_lit (w_len_list (w_arg rfl))))
    rw [List.length_map] at h5
    refine Nat.le_of_not_lt fun q => ?_
    have q' : (n : Int) < ((ns.length : Nat) : Int) := by omega
    first
      | (rw [decide_eq_true q'] at h5; exact absurd h5 (by decide))
      | (simp at h5; omega)
  cases hwl with
  | cons w1 w2 =>
    cases w2
    cases w1 with
    | list ho hall => exact ⟨_, _, ns, rfl, rfl, ho, ints_of_wellAll ns _ hall, hlen⟩

theorem post_true (l : OpenLaw) (args : List WData) : l.row.toRowW.claim.post args (.bool true) args = true :=
  postW_of (r := l.row.toRowW) (X := (true == true))
    (show WShape.has [] (.bool true) .bool = true by first | rfl | decide | simp [WShape.has, WShape.arms, WShape.armsAll])
    (show (WTm.eq .res (.lit (.bool true))).value [] { args := args, res := some (.bool true), after := args } = some (.bool (true == true)) from w_eq_bool (w_res rfl) w_lit) rfl

theorem attach {l : OpenLaw} {n : Nat} {q : Program} {loose : List Str} {XP : (Str → Option Value) → Heap → Prop} {YP : World → Heap → Prop} {d : DefRec} {x : Str}
    (hn : l.most = some n) (hdf : d.params.defaults = [])
    (hbind : ∀ pm cd doc v : Value, bindArgs (docDef d.name d.params d.body d.scope pm cd doc) ⟨[v], []⟩ = pure [(x, v)])
    (hx : d.scope.names.lookup x = some .local ∨ d.scope.names.lookup x = some .cell)
    (hk : d.scope.kind = .function) (hco : d.scope.isCoroutine = false) (hgen : d.scope.isGenerator = false)
    (body : ∀ (w : World) (s₀ s₁ s : Shared) (mg mb : Str → Option Value) (fa : Addr) (o : Obj) (pm cd doc : Value) (a : Addr) (vs : List Value) (ns : List Int),
      Ground q loose [] XP w s₀ mg mb s₁.heap → YP w s₁.heap →
      s₁.heap.get? fa = some o → o.data = .func (docDef d.name d.params d.body d.scope pm cd doc) → s₁.heap.CodeRec cd d.name → mg d.name = some (.ref fa) →
      s₁.heap.get? a = some { cls := .type "list", data := .seq vs.toArray } → IntsAre vs ns → ns.length ≤ n →
      s.gens = #[] → s.os = s₁.os →
      Fr s₁.heap s₁.heap.objs.size s.heap (bindL (envOfC d.name d.scope s₁.heap.objs.size fa cd).kindOf [(x, .ref a)] fun _ => none) →
      Cl s₁.heap.objs.size (cellsFrom (s₁.heap.objs.size + 1) d.scope.names []) s.heap (bindC (envOfC d.name d.scope s₁.heap.objs.size fa cd).kindOf [(x, .ref a)] fun _ => none) →
      wpAny (model l.prog w) (callerA.deeper (envOfC d.name d.scope s₁.heap.objs.size fa cd)) (execs d.body (envOfC d.name d.scope s₁.heap.objs.size fa cd))
        (fun f s' => f = .ret (.bool true) ∧ OldK s₁.heap s'.heap ∧ s'.os = s₁.os ∧ AllBare s'.gens) (fun _ _ => False) s) :
    WalkO q loose XP YP l.row.toRowW d [] (fun f vs => PySem.call f vs) := by
  intro w s₀ s₁ mg mb G Y fa o pm cd doc dV kV ho hd hcd hD hmg hg args vals as hpre hlay hrd hwl hlo
  obtain rfl : dV = .none := Dflts.none hD hdf
  obtain rfl : kV = .none := Dflts.noKw hD
  obtain ⟨a, vs, ns, rfl, rfl, hobj, hints, hlen⟩ := script_of hn hpre hwl
  refine enter_call ?_
  refine call_cells_ret (o := o) (by rw [depth_caller]; decide) ho (fd_plain hd) G.T.nolimit hcd (hbind pm cd doc (.ref a)) (fun y hy => ?_) (fun h₁ tk F X => ?_) hco hgen hk
  · obtain rfl : y = (x, Value.ref a) := List.mem_singleton.mp hy
    rcases hx with e | e
    · exact .inl e
    · exact .inr ⟨e, cellsFrom_some _ _ _ (.inl e)⟩
  · refine wpAny_mono (body w s₀ s₁ { s₁ with heap := h₁, toks := tk } mg mb fa o pm cd doc a vs ns G Y ho (fd_plain hd) hcd hmg hobj hints hlen hg rfl F X) (fun f s' hq => ?_) (fun _ _ hq => hq)
    obtain ⟨rfl, h2, h3, h4⟩ := hq
    exact ⟨.inl ⟨.bool true, .bool true, [], rfl, fun _ => rfl, .bool true, post_true l _, fun _ => ⟨List.Pairwise.nil, fun _ hm => (nomatch hm)⟩⟩, h2, h3, h4⟩

theorem attach_call {l : OpenLaw} {n : Nat} {q : Program} {loose : List Str} {XP : (Str → Option Value) → Heap → Prop} {YP : World → Heap → Prop} {d : DefRec}
    (hn : l.most = some n) (hdf : d.params.defaults = [])
    (call : ∀ (w : World) (s₀ s₁ : Shared) (mg mb : Str → Option Value) (fa : Addr) (o : Obj) (pm cd doc : Value) (a : Addr) (vs : List Value) (ns : List Int),
      Ground q loose [] XP w s₀ mg mb s₁.heap → YP w s₁.heap →
      s₁.heap.get? fa = some o → o.data = .func (docDef d.name d.params d.body d.scope pm cd doc) → s₁.heap.CodeRec cd d.name → mg d.name = some (.ref fa) →
      s₁.heap.get? a = some { cls := .type "list", data := .seq vs.toArray } → IntsAre vs ns → ns.length ≤ n → s₁.gens = #[] →
      codeAny (model l.prog w) callerA (.call (.ref fa) ⟨[.ref a], []⟩) (fun r s' => r = .ok (.ret (.bool true)) ∧ OldK s₁.heap s'.heap ∧ s'.os = s₁.os ∧ AllBare s'.gens) s₁) :
    WalkO q loose XP YP l.row.toRowW d [] (fun f vs => PySem.call f vs) := by
  intro w s₀ s₁ mg mb G Y fa o pm cd doc dV kV ho hd hcd hD hmg hg args vals as hpre hlay hrd hwl hlo
  obtain rfl : dV = .none := Dflts.none hD hdf
  obtain rfl : kV = .none := Dflts.noKw hD
  obtain ⟨a, vs, ns, rfl, rfl, hobj, hints, hlen⟩ := script_of hn hpre hwl
  refine enter_call (codeAny_mono (call w s₀ s₁ mg mb fa o pm cd doc a vs ns G Y ho (fd_plain hd) hcd hmg hobj hints hlen hg) fun r s' hq => ?_)
  obtain ⟨rfl, h2, h3, h4⟩ := hq
  exact ⟨.inl ⟨.bool true, .bool true, [], rfl, fun _ => rfl, .bool true, post_true l _, fun _ => ⟨List.Pairwise.nil, fun _ hm => (nomatch hm)⟩⟩, h2, h3, h4⟩

section
variable {prog : Program} {w : World} {A : Around} {E : Value → Shared → Prop} {s : Shared} {K : Frag}

end
end Att

namespace L2
open PySem PySem.Spec PyProof.Rows

theorem vals_ints : ∀ {vs : List Value} {ns : List Int}, IntsAre vs ns → Vals (ns.map V.int) vs
  | _, _, .nil => .nil
  | _, _, .cons n t h => .cons ⟨t, rfl⟩ (vals_ints h)

noncomputable def Only (H : Hp) : Prop := ∀ b, H b = none ∨ ∃ o xs, H b = some (.frz o (.lst xs))

theorem law_call {P : Program} {w : World} {K : PySem.W.Frag} {mg mb : Str → Option Value} {CX : CXT} {k : Nat} {fa a : Addr} {fd : FuncData} {x : Str} {sp : Sp} {s₁ : Shared} {vs : List Value} {ns : List Int}
    (KX : K.In s₁.heap) (hns : s₁.heap.Ns mainGlobals mg) (hb : s₁.heap.Ns builtinsNs mb) (hbb : ∀ x : Str, x ≠ "__name__" → mb x = bootBuiltins x) (hlim : s₁.heap.NoLimit) (hg : s₁.gens = #[])
    (ha : s₁.heap.get? a = some { cls := .type "list", data := .seq vs.toArray }) (hi : IntsAre vs ns) (hl : ns.length ≤ sizeLine) (hr : Room k callerA)
    (F : ∀ base : Heap, K.In base → base.Ns mainGlobals mg → FnOk P w K mg base CX k fa fd [x] sp) (hbind : ∀ (s : Shared) (u : Value), BindsTo s fd ⟨[u], []⟩ [(x, u)])
    (hsp : ∀ H : Hp, Only H → SqL K H a (ns.map V.int) → sp [.ref a] H (fun v _ => v = .bl true) fun _ _ _ => False)
    (hCX : ∀ H e s', CX [] H s₁ (fun _ _ _ => False) e s' → False) :
    codeAny (model P w) callerA (.call (.ref fa) ⟨[.ref a], []⟩) (fun r s' => r = .ok (.ret (.bool true)) ∧ OldK s₁.heap s'.heap ∧ s'.os = s₁.os ∧ AllBare s'.gens) s₁ := by
  have rv := vals_ints hi
  have lenV := hi.length
  -- from an abstract heap in which nothing but the script may be tracked
  have core : ∀ H : Hp, Only H → SqL K H a (ns.map V.int) → HOk P w H s₁.heap → (∀ b, H b ≠ none → b = a) → (H a ≠ none → K.lookup a = none) →
      codeAny (model P w) callerA (.call (.ref fa) ⟨[.ref a], []⟩) (fun r s' => r = .ok (.ret (.bool true)) ∧ OldK s₁.heap s'.heap ∧ s'.os = s₁.os ∧ AllBare s'.gens) s₁ := by
    intro H hO hS hok hA hK
    have base_of : ∀ {b : Addr} {o : Obj}, s₁.heap.get? b = some o → H b = none → (hidT s₁.heap H).get? b = some o := fun e n => hidT_get e n
    have noA : ∀ {b : Addr} {o : Obj} {es : Array DictEntry} {ep : Nat}, s₁.heap.get? b = some o → o.data = .dict es ep → H b = none := fun {b o es ep} e d => by
      cases q : H b with
      | none => rfl
      | some u =>
        have e' : b = a := hA b (by rw [q]; simp)
        subst e'
        rw [ha] at e; cases e
        have d' : Data.seq vs.toArray _ = Data.dict es ep := d
        cases d'
    have nsK : ∀ {b : Addr} {m : Str → Option Value}, s₁.heap.Ns b m → (hidT s₁.heap H).Ns b m := fun {b m} ⟨o, es, ep, e, d, r⟩ => ⟨o, es, ep, base_of e (noA e d), d, r⟩
    have hKb : K.In (hidT s₁.heap H) := fun b o e => base_of (KX b o e) (by
      cases q : H b with
      | none => rfl
      | some u =>
        have e' : b = a := hA b (by rw [q]; simp)
        subst e'
        rw [hK (by rw [q]; simp)] at e; cases e)
    have hM : Mod K mg (hidT s₁.heap H) := ⟨hKb, nsK hns, ⟨mb, nsK hb, hbb⟩, let ⟨mc, h1, h2⟩ := hlim; ⟨mc, nsK h1, h2⟩⟩
    have e0 : Env0 P w K mg (hidT s₁.heap H) callerA [] s₁ H := ⟨rfl, hM, fun b o e => of_hidT e, Nat.le_of_eq (hidT_size _ _), trivial, fun b hb => absurd (show b ∈ ([] : List Addr) from hb) (by simp), hok, .of_eq hg⟩
    refine codeAny_mono ((F _ hKb (nsK hns)).run callerA [] s₁ H ⟨[.ref a], []⟩ [.ref a] [.ref a] _ _ hr e0 (hbind s₁ (.ref a)) (.cons rfl .nil) (hsp H hO hS)) fun r s' h => ?_
    cases r with
    | error e => exact (hCX H e s' h).elim
    | ok fl =>
      cases fl with
      | next => exact False.elim h
      | brk => exact False.elim h
      | cont => exact False.elim h
      | ret u =>
        obtain ⟨v, H', os, bare, un, hok', r', q⟩ := h
        have q' : v = .bl true := q
        subst q'
        obtain rfl : u = Value.bool true := r'
        refine ⟨rfl, OldK.of_keep fun b o e => ?_, os, bare⟩
        cases q : H b with
        | none => exact un.keep b o e q (by intro z; exact absurd (show b ∈ ([] : List Addr) from z) (by simp)) (by simp)
        | some u =>
          rcases hO b with z | ⟨ob, xs, z⟩
          · rw [q] at z; cases z
          · have z2 := un.frzs b ob _ z
            obtain ⟨e1, _⟩ := hok b _ z
            obtain ⟨e2, _⟩ := hok' b _ z2
            rw [e] at e1; cases e1
            exact e2
  cases hk : K.lookup a with
  | some o =>
    -- the script is one of the module's own objects
    have e := KX a o hk
    rw [ha] at e
    cases e
    refine core (fun _ => none) (fun _ => .inl rfl) (.inr ⟨_, vs.toArray, _, hk, rfl, rfl, rfl, by rw [List.size_toArray, lenV]; exact hl, by simpa using rv⟩) (fun b u z => by have z' : (none : Option HO) = some u := z; cases z') (fun b z => absurd rfl z) fun z => absurd rfl z
  | none =>
    refine core (fun b => if b = a then some (.frz { cls := .type "list", data := .seq vs.toArray } (.lst (ns.map V.int))) else none) (fun b => ?_) (.inl (.inr ⟨{ cls := .type "list", data := .seq vs.toArray }, if_pos rfl⟩)) (fun b u z => ?_) (fun b z => ?_) fun _ => hk
    · by_cases hb : b = a
      · exact .inr ⟨_, _, if_pos hb⟩
      · exact .inl (if_neg hb)
    · by_cases hb : b = a
      · have z' := (if_pos hb).symm.trans z
        cases z'
        subst hb
        exact ⟨ha, by rw [List.length_map]; exact hl, vs, _, rv, ha⟩
      · have z' := (if_neg hb).symm.trans z
        cases z'
    · by_cases hb : b = a
      · exact hb
      · exact absurd (if_neg hb) z
end L2

namespace L2
open PySem PySem.Spec PyProof.Rows

noncomputable abbrev KOf {K : PySem.W.Frag} {h : Heap} (_ : K.In h) : PySem.W.Frag := K

theorem walk_of {l : PySem.W.OpenLaw} {n k : Nat} {q : Program} {loose : List Str} {XP : (Str → Option Value) → Heap → Prop} {YP : World → Heap → Prop} {d : DefRec} {K : Params → PySem.W.Frag} {CX : World → CXT} {sp : World → Sp} {x : Str}
    (hn : l.most = some n) (hn2 : n ≤ sizeLine) (hdf : d.params.defaults = []) (hr : Room k callerA)
    (hY : ∀ (w : World) (h : Heap), YP w h → (K w.params).In h)
    (F : ∀ (w : World) (mg : Str → Option Value) (fa : Addr) (h : Heap), (K w.params).In h → h.Ns mainGlobals mg → mg d.name = some (.ref fa) →
      ∃ fd : FuncData, (∀ (s : Shared) (u : Value), BindsTo s fd ⟨[u], []⟩ [(x, u)]) ∧
        ∀ base : Heap, (K w.params).In base → base.Ns mainGlobals mg → FnOk l.prog w (K w.params) mg base (CX w) k fa fd [x] (sp w))
    (hsp : ∀ (w : World) (H : Hp) (a : Addr) (ns : List Int), ns.length ≤ n → Only H → SqL (K w.params) H a (ns.map V.int) → sp w [.ref a] H (fun v _ => v = .bl true) fun _ _ _ => False)
    (hCX : ∀ (w : World) (H : Hp) (s : Shared) (e : Value) (s' : Shared), CX w [] H s (fun _ _ _ => False) e s' → False) :
    PySem.W.WalkO q loose XP YP l.row.toRowW d [] (fun f vs => PySem.call f vs) := by
  refine Att.attach_call hn hdf fun w s₀ s₁ mg mb fa o pm cd doc a vs ns G Y ho hd hcd hmg hobj hints hlen hg => ?_
  have KX := hY w _ Y
  obtain ⟨fd, hb, hF⟩ := F w mg fa _ KX G.T.g hmg
  exact law_call KX G.T.g G.T.b G.T.builtins G.T.nolimit hg hobj hints (Nat.le_trans hlen hn2) hr hF hb (fun H hO hS => hsp w H a ns hlen hO hS) fun H e s' => hCX w H s₁ e s'
theorem walk_ofK {l : PySem.W.OpenLaw} {n k : Nat} {q : Program} {loose : List Str} {XP : (Str → Option Value) → Heap → Prop} {YP : World → Heap → Prop} {d : DefRec} {K : Params → PySem.W.Frag} {CX : CXT} {sp : PySem.W.Frag → Sp} {x : Str}
    (hn : l.most = some n) (hn2 : n ≤ sizeLine) (hdf : d.params.defaults = []) (hr : Room k callerA)
    (hY : ∀ (w : World) (h : Heap), YP w h → (K w.params).In h)
    (F : ∀ (w : World) (mg : Str → Option Value) (fa : Addr) (h : Heap), (K w.params).In h → h.Ns mainGlobals mg → mg d.name = some (.ref fa) →
      ∃ fd : FuncData, (∀ (s : Shared) (u : Value), BindsTo s fd ⟨[u], []⟩ [(x, u)]) ∧
        ∀ base : Heap, (K w.params).In base → base.Ns mainGlobals mg → FnOk l.prog w (K w.params) mg base CX k fa fd [x] (sp (K w.params)))
    (hsp : ∀ (K : PySem.W.Frag) (H : Hp) (a : Addr) (ns : List Int), ns.length ≤ n → Only H → SqL K H a (ns.map V.int) → sp K [.ref a] H (fun v _ => v = .bl true) fun _ _ _ => False)
    (hCX : ∀ (H : Hp) (s : Shared) (e : Value) (s' : Shared), CX [] H s (fun _ _ _ => False) e s' → False) :
    PySem.W.WalkO q loose XP YP l.row.toRowW d [] (fun f vs => PySem.call f vs) :=
  walk_of (K := K) (CX := fun _ => CX) (sp := fun w => sp (K w.params)) hn hn2 hdf hr hY F (fun w H a ns h1 h2 h3 => hsp (K w.params) H a ns h1 h2 h3) fun _ H s e s' => hCX H s e s'
end L2

namespace L2
open PySem PySem.Spec PyProof.Rows

noncomputable def inClass (s : Stmt) (j : Nat) : Stmt := match s with
  | .ClassDef _ _ _ body _ _ _ _ _ _ _ => body.getD j (.Pass ⟨0, 0, 0, 0⟩)
  | _ => .Pass ⟨0, 0, 0, 0⟩
noncomputable def defArgs (s : Stmt) : Arguments := match s with
  | .FunctionDef _ a _ _ _ _ _ _ _ _ => a
  | _ => { posonlyargs := [], args := [], vararg := none, kwonlyargs := [], kw_defaults := [], kwarg := none, defaults := [] }
noncomputable def defBody (s : Stmt) : List Stmt := match s with
  | .FunctionDef _ _ b _ _ _ _ _ _ _ => b
  | _ => []
noncomputable def defScope (s : Stmt) : Scope := match s with
  | .FunctionDef _ _ _ _ _ _ sc _ _ _ => sc
  | _ => { kind := .function, names := [], isGenerator := false, isCoroutine := false }

noncomputable abbrev CX0 : CXT := fun _ _ _ _ _ _ => False
noncomputable abbrev E0 : XK := fun _ _ _ => False
theorem pass0 {X : Cx} : Passes CX0 X E0 := fun _ _ _ _ _ _ _ h => h.elim

structure Fun (K : PySem.W.Frag) (x qual : Str) (st : Stmt) (f : Addr) (fd : FuncData) : Prop where
  ex : ∃ (oc : Value) (od : Option Addr) (kV doc pm : Value) (an : Option Addr) (cdv ct : Value) (osl : Array (Option Value)),
    fd = PySem.W.fnOf x qual (defArgs st) (defBody st) (defScope st) .none kV doc pm an cdv ct ∧ K.lookup f = some ⟨oc, od, .func fd, osl⟩ ∧ PySem.W.codeIn K cdv qual = true
  kp : PySem.W.keepIn K (.ref f) = true
section
variable {P : Program} {w : World} {K : PySem.W.Frag} {mg : Str → Option Value} {base : Heap}
theorem Fun.ok {x qual : Str} {st : Stmt} {f : Addr} {fd : FuncData} {N ps : List Str} {k : Nat} {sp : Sp} (F : Fun K x qual st f fd) (S : FnScope N ps (defScope st)) (len : ∀ vs H Q E, sp vs H Q E → vs.length = ps.length)
    (hbody : ∀ (cdv : Value) (A : Around) (outer : List Env) (s : Shared) (H : Hp) (vs : List V) (Q : VK) (E : XK), Room k (A.deeper (envOfC qual (defScope st) s.heap.objs.size f cdv)) → sp vs H Q E →
      ∃ t, PSs (cxOf CX0 P w K mg base N qual (defScope st) f cdv A outer s H E).nox (defBody st) t ∧ t { nx := fun _ H' => Q .non H', rt := Q } (start N vs) H) : FnOk P w K mg base CX0 (k + 1) f fd ps sp := by
  obtain ⟨oc, od, kV, doc, pm, an, cdv, ct, osl, rfl, lk, hcd⟩ := F.ex
  refine fn_of lk hcd S len fun A outer s H vs Q E hr hsp => ?_
  obtain ⟨t, h, q⟩ := hbody cdv A outer s H vs Q E hr hsp
  exact ⟨t, h.nox, q⟩
theorem Fun.binds {x qual : Str} {st : Stmt} {f : Addr} {fd : FuncData} {ps : List Str} (F : Fun K x qual st f fd)
    (h : ∀ (kV doc pm : Value) (an : Option Addr) (cdv ct : Value) (us : List Value), us.length = ps.length → bindArgs (PySem.W.fnOf x qual (defArgs st) (defBody st) (defScope st) .none kV doc pm an cdv ct) ⟨us, []⟩ = pure (ps.zip us)) : Binds K fd ps [] := by
  obtain ⟨oc, od, kV, doc, pm, an, cdv, ct, osl, rfl, lk, hcd⟩ := F.ex
  exact .all (h kV doc pm an cdv ct)
theorem fun_mk {x qual : Str} {st : Stmt} {f : Addr} {oc : Value} {od an : Option Addr} {osl : Array (Option Value)} {kV doc pm cdv ct : Value} (l : K.lookup f = some ⟨oc, od, .func (PySem.W.fnOf x qual (defArgs st) (defBody st) (defScope st) .none kV doc pm an cdv ct), osl⟩)
    (c : PySem.W.codeIn K cdv qual = true) (k : PySem.W.keepIn K (.ref f) = true) : Fun K x qual st f (PySem.W.fnOf x qual (defArgs st) (defBody st) (defScope st) .none kV doc pm an cdv ct) := ⟨⟨oc, od, kV, doc, pm, an, cdv, ct, osl, rfl, l, c⟩, k⟩
end
theorem hu_of {A : Around} {k : Nat} (hr : Room k A) : A.units + 1 < cLine := Nat.lt_of_le_of_lt (Nat.add_le_add_left (by decide : 1 ≤ 64) _) hr.units
section
variable {X : Cx}
theorem pv (i : Nat) {x : Str} {pos : Pos} (hN : X.N[i]? = some x := by rfl) (hv : Vis X.env.scope x := by first | exact Or.inl rfl | exact Or.inr (Or.inl rfl) | exact Or.inr (Or.inr rfl)) (hd : (x == ("__debug__" : Str)) = false := by decide)
    (hcd : (x == ("__classdict__" : Str)) = false := by decide) : PE X (.Name x pos) (tVar i) := pe_var hN hv hd hcd
end

theorem iteF {A B : Prop} (h : B) : if false = true then A else B := by
  rw [if_neg Bool.false_ne_true]
  exact h
theorem iteT {A B : Prop} (h : A) : if true = true then A else B := by
  rw [if_pos rfl]
  exact h
noncomputable def Same (H H' : Hp) : Prop := ∀ b o, H b = some o → H' b = some o
theorem Same.refl (H : Hp) : Same H H := fun _ _ h => h
theorem Same.trans {H H1 H2 : Hp} (a : Same H H1) (b : Same H1 H2) : Same H H2 := fun c o h => b c o (a c o h)
theorem Same.free {H H' : Hp} (e : Same H H') {l : Addr} (h : H' l = Option.none) : H l = Option.none := by
  cases q : H l with
  | none => rfl
  | some o =>
    rw [e l o q] at h
    cases h
theorem Same.seq {K : PySem.W.Frag} {H H' : Hp} {a : Addr} {xs : List V} (e : Same H H') (h : SqL K H a xs) : SqL K H' a xs := by
  rcases h with (h | ⟨o, h⟩) | h
  · exact .inl (.inl (e _ _ h))
  · exact .inl (.inr ⟨o, e _ _ h⟩)
  · exact .inr h

section
variable {κ : Type} [DecidableEq κ]
theorem valV_not {kvs : List (κ × V)} {k : κ} (h : valV kvs k = none) : ¬ k ∈ kvs.map (·.1) := by
  intro m
  obtain ⟨p, hp, e⟩ := List.mem_map.mp m
  have q : (kvs.any fun kv => decide (kv.1 = k)) = true := List.any_eq_true.mpr ⟨p, hp, decide_eq_true e⟩
  rw [valV_any, h] at q
  exact absurd q (by simp)
theorem nd_snoc : ∀ {l : List κ} {k : κ}, l.Nodup → ¬ k ∈ l → (l ++ [k]).Nodup
  | [], k, _, _ => by simp
  | a :: r, k, h, hk => by
    obtain ⟨h1, h2⟩ := List.nodup_cons.mp h
    show (a :: (r ++ [k])).Nodup
    refine List.nodup_cons.mpr ⟨fun m => ?_, nd_snoc h2 fun m => hk (List.mem_cons.mpr (Or.inr m))⟩
    rcases List.mem_append.mp m with q | q
    · exact h1 q
    · exact hk (List.mem_cons.mpr (Or.inl (List.mem_singleton.mp q).symm))
theorem nd_putK {kvs : List (κ × V)} {k : κ} (v : V) (hn : (kvs.map (·.1)).Nodup) (h : valV kvs k = none) : ((putK kvs k v).map (·.1)).Nodup := by
  rw [putK_new v h, List.map_append]
  exact nd_snoc hn (valV_not h)
theorem dropK_pos {p : κ × V} {r : List (κ × V)} {k : κ} (e : p.1 = k) : dropK (p :: r) k = dropK r k := by
  unfold dropK
  rw [List.filter_cons, if_neg (by simp [e])]
theorem dropK_neg {p : κ × V} {r : List (κ × V)} {k : κ} (e : ¬ p.1 = k) : dropK (p :: r) k = p :: dropK r k := by
  unfold dropK
  rw [List.filter_cons, if_pos (by simp [e])]
theorem dropK_mem {kvs : List (κ × V)} {k : κ} {p : κ × V} (h : p ∈ dropK kvs k) : p ∈ kvs := (List.mem_filter.mp h).1
theorem nd_dropK : ∀ {kvs : List (κ × V)} {k : κ}, (kvs.map (·.1)).Nodup → ((dropK kvs k).map (·.1)).Nodup
  | [], _, _ => List.nodup_nil
  | p :: r, k, h => by
    have h : (p.1 :: r.map (·.1)).Nodup := h
    obtain ⟨h1, h2⟩ := List.nodup_cons.mp h
    by_cases e : p.1 = k
    · rw [dropK_pos e]
      exact nd_dropK h2
    · rw [dropK_neg e]
      show (p.1 :: (dropK r k).map (·.1)).Nodup
      refine List.nodup_cons.mpr ⟨fun m => h1 ?_, nd_dropK h2⟩
      obtain ⟨q, hq, eq⟩ := List.mem_map.mp m
      exact List.mem_map.mpr ⟨q, dropK_mem hq, eq⟩
end
end L2

namespace L2
open PySem PySem.Spec PyProof.Rows

noncomputable def hid (own : List Str) (x : Str) : Str := if own.contains x = true then "" else x
structure CompScope (sc : Scope) (N own : List Str) (scope : Scope) : Prop where
  kind : scope.kind = .function
  nocell : ∀ y ∈ scope.names, y.2 ≠ .cell
  names : ∀ y ∈ scope.names, y.2 = .local → scope.names.lookup y.1 = some .local
  free : ∀ y ∈ scope.names, y.2 = .free → sc.names.lookup y.1 = some .cell ∨ sc.names.lookup y.1 = some .free
  dis : ∀ x ∈ N, scope.names.lookup x = some .local → own.contains x = true
  no : scope.names.lookup ("" : Str) = none

noncomputable def cxComp (X : Cx) (own : List Str) (scope : Scope) (cl : List (Str × Addr)) (C : Addr) (s : Shared) (H : Hp) (ex : List Addr) : Cx :=
  { X with N := own ++ X.N.map (hid own), s₀ := s, H₀ := H, env := compEnvC scope cl C X.env, outer := X.stack, stack := X.stack, ex := ex, fn := fun _ => false, pn := [], xe := fun _ _ => False }

theorem memLookup {κ : Type} [BEq κ] [LawfulBEq κ] {β : Type} : ∀ {l : List (κ × β)} {x : κ} {v : β}, l.lookup x = some v → (x, v) ∈ l
  | [], _, _, h => by simp at h
  | (y, u) :: r, x, v, h => by
    rw [List.lookup_cons] at h
    cases e : x == y with
    | true =>
      rw [e] at h
      cases h
      rw [eq_of_beq e]
      exact List.mem_cons_self
    | false =>
      rw [e] at h
      exact List.mem_cons_of_mem _ (memLookup h)

theorem closure_of {scope : Scope} {env : Env} (h : ∀ y ∈ scope.names, y.2 = .free → ∃ c, env.cells.lookup y.1 = some c) :
    ∃ cl, closureFor scope env = pure cl ∧ (∀ x c, cl.lookup x = some c → env.cells.lookup x = some c) ∧ ∀ y ∈ scope.names, y.2 = .free → ∃ c, cl.lookup y.1 = some c := by
  have gen : ∀ (names : List (Str × NameKind)) (acc : List (Str × Addr)), (∀ y ∈ names, y.2 = .free → ∃ c, env.cells.lookup y.1 = some c) → (∀ x c, acc.lookup x = some c → env.cells.lookup x = some c) →
      ∃ cl, (forIn names acc fun (x : Str × NameKind) (r : List (Str × Addr)) => if (x.2 == NameKind.free) = true then (do let a ← cellOf env x.1; pure (ForInStep.yield ((x.1, a) :: r))) else pure (ForInStep.yield r) : Sem (List (Str × Addr))) = pure cl ∧ (∀ x c, cl.lookup x = some c → env.cells.lookup x = some c) ∧
        (∀ y ∈ names, y.2 = .free → ∃ c, cl.lookup y.1 = some c) ∧ ∀ x c, acc.lookup x = some c → ∃ c', cl.lookup x = some c' := by
    intro names
    induction names with
    | nil => intro acc _ ha; exact ⟨acc, by simp [List.forIn_nil], ha, fun y hy => by simp at hy, fun x c e => ⟨c, e⟩⟩
    | cons y r ih =>
      intro acc hn ha
      rw [List.forIn_cons]
      by_cases hf : y.2 = .free
      · obtain ⟨c, hc⟩ := hn y List.mem_cons_self hf
        have e1 : (y.2 == NameKind.free) = true := by rw [hf]; rfl
        have ce : cellOf env y.1 = pure c := by unfold cellOf; rw [hc]
        obtain ⟨cl, h1, h2, h3, h4⟩ := ih ((y.1, c) :: acc) (fun z hz => hn z (List.mem_cons_of_mem _ hz)) (fun x c' e => by
          rw [List.lookup_cons] at e
          cases q : x == y.1 with
          | true => rw [q] at e; cases e; rw [eq_of_beq q]; exact hc
          | false => rw [q] at e; exact ha x c' e)
        refine ⟨cl, ?_, h2, ?_, ?_⟩
        · rw [if_pos e1, ce]
          simpa using h1
        · intro z hz zf
          rcases List.mem_cons.mp hz with rfl | hz
          · exact h4 z.1 c (by rw [List.lookup_cons]; simp)
          · exact h3 z hz zf
        · intro x c' e
          cases q : x == y.1 with
          | true => exact h4 x c (by rw [List.lookup_cons, q])
          | false => exact h4 x c' (by rw [List.lookup_cons, q]; exact e)
      · have e1 : ¬ (y.2 == NameKind.free) = true := by intro z; exact hf (by simpa using z)
        obtain ⟨cl, h1, h2, h3, h4⟩ := ih acc (fun z hz => hn z (List.mem_cons_of_mem _ hz)) ha
        refine ⟨cl, ?_, h2, ?_, h4⟩
        · rw [if_neg e1]
          simpa using h1
        · intro z hz zf
          rcases List.mem_cons.mp hz with rfl | hz
          · exact absurd zf hf
          · exact h3 z hz zf
  obtain ⟨cl, h1, h2, h3, _⟩ := gen scope.names [] h (fun x c e => by simp at e)
  refine ⟨cl, ?_, h2, h3⟩
  unfold closureFor
  simpa using h1

theorem relabel_local {scope : Scope} {env : Env} : ∀ {names : List (Str × NameKind)} {x : Str}, (∀ y ∈ names, y.2 ≠ .cell) →
    (names.map fun (n, k) => if (k == NameKind.free && env.scope.kind == .function && env.kindOf n == some .cell) = true then (n, NameKind.cell) else (n, k)).lookup x = some .local → names.lookup x = some .local
  | [], _, _, h => by simp at h
  | (n, k) :: r, x, hc, h => by
    rw [List.map_cons, List.lookup_cons] at h
    rw [List.lookup_cons]
    by_cases q : (k == NameKind.free && env.scope.kind == .function && env.kindOf n == some .cell) = true
    · simp only [q, if_true] at h
      cases e : x == n with
      | true => rw [e] at h; cases h
      | false => rw [e] at h; exact relabel_local (scope := scope) (env := env) (fun y hy => hc y (List.mem_cons_of_mem _ hy)) h
    · simp only [q] at h
      cases e : x == n with
      | true => simpa [e] using h
      | false =>
        have h' : (r.map fun (n, k) => if (k == NameKind.free && env.scope.kind == .function && env.kindOf n == some .cell) = true then (n, NameKind.cell) else (n, k)).lookup x = some .local := by simpa [e] using h
        exact relabel_local (scope := scope) (env := env) (fun y hy => hc y (List.mem_cons_of_mem _ hy)) h'
theorem relabel_outer {scope : Scope} {env : Env} : ∀ {names : List (Str × NameKind)} {x : Str}, (∀ y ∈ names, y.2 ≠ .cell) →
    ((names.map fun (n, k) => if (k == NameKind.free && env.scope.kind == .function && env.kindOf n == some .cell) = true then (n, NameKind.cell) else (n, k)).lookup x = some .cell ∨
     (names.map fun (n, k) => if (k == NameKind.free && env.scope.kind == .function && env.kindOf n == some .cell) = true then (n, NameKind.cell) else (n, k)).lookup x = some .free) → (x, NameKind.free) ∈ names
  | [], _, _, h => by simp at h
  | (n, k) :: r, x, hc, h => by
    rw [List.map_cons, List.lookup_cons] at h
    by_cases q : (k == NameKind.free && env.scope.kind == .function && env.kindOf n == some .cell) = true
    · have kf : k = .free := by
        simp only [Bool.and_eq_true, beq_iff_eq] at q
        exact q.1.1
      simp only [q, if_true] at h
      cases e : x == n with
      | true => rw [eq_of_beq e, kf]; exact List.mem_cons_self
      | false =>
        rw [e] at h
        exact List.mem_cons_of_mem _ (relabel_outer (scope := scope) (env := env) (fun y hy => hc y (List.mem_cons_of_mem _ hy)) h)
    · simp only [q] at h
      cases e : x == n with
      | true =>
        have h' : k = .cell ∨ k = .free := by simpa [e] using h
        rcases h' with z | z
        · exact absurd z (hc (n, k) List.mem_cons_self)
        · rw [eq_of_beq e, z]; exact List.mem_cons_self
      | false =>
        have h' : ((r.map fun (n, k) => if (k == NameKind.free && env.scope.kind == .function && env.kindOf n == some .cell) = true then (n, NameKind.cell) else (n, k)).lookup x = some .cell ∨
     (r.map fun (n, k) => if (k == NameKind.free && env.scope.kind == .function && env.kindOf n == some .cell) = true then (n, NameKind.cell) else (n, k)).lookup x = some .free) := by simpa [e] using h
        exact List.mem_cons_of_mem _ (relabel_outer (scope := scope) (env := env) (fun y hy => hc y (List.mem_cons_of_mem _ hy)) h')

theorem relabel_none {env : Env} : ∀ {names : List (Str × NameKind)} {x : Str}, names.lookup x = none →
    (names.map fun (n, k) => if (k == NameKind.free && env.scope.kind == .function && env.kindOf n == some .cell) = true then (n, NameKind.cell) else (n, k)).lookup x = none
  | [], _, _ => rfl
  | (n, k) :: r, x, h => by
    rw [List.lookup_cons] at h
    rw [List.map_cons, List.lookup_cons]
    cases e : x == n with
    | true => rw [e] at h; cases h
    | false =>
      rw [e] at h
      by_cases q : (k == NameKind.free && env.scope.kind == .function && env.kindOf n == some .cell) = true
      · simp only [q, if_true, e]
        exact relabel_none h
      · simp only [q, e]
        simpa [e] using relabel_none (env := env) h
theorem Inv.block {X : Cx} {pins : List (Addr × Obj)} {σ : St} {H : Hp} {s : Shared} {own : List Str} {scope : Scope} {cl : List (Str × Addr)} {fp : List Addr} {h' : Heap}
    (I : Inv X pins σ H s) (S : CompScope X.env.scope X.N own scope)
    (c1 : ∀ x c, cl.lookup x = some c → X.env.cells.lookup x = some c) (c2 : ∀ y ∈ scope.names, y.2 = .free → ∃ c, cl.lookup y.1 = some c)
    (f : ∀ b ∈ fp, FpOk X pins H b) (fo : ∀ b ∈ fp, b < s.heap.objs.size)
    (ns : h'.Ns s.heap.objs.size (fun _ => none)) (k : ∀ b o, s.heap.get? b = some o → h'.get? b = some o) {t' : Nat} :
    Inv (cxComp X own scope cl s.heap.objs.size s H fp) [] (List.replicate own.length none ++ σ) H { s with heap := h', toks := t' } := by
  have kd : ∀ x, (compEnvC scope cl s.heap.objs.size X.env).kindOf x = some .cell ∨ (compEnvC scope cl s.heap.objs.size X.env).kindOf x = some .free → (x, NameKind.free) ∈ scope.names := fun x h => relabel_outer (scope := scope) (env := X.env) S.nocell h
  have okY : (cxComp X own scope cl s.heap.objs.size s H fp).Ok := by
    refine ⟨I.ok.mod, S.kind, I.ok.glob, I.ok.blt, Nat.le_refl _, fun x y c hx hy => I.ok.inj x y c (c1 x c hx) (c1 y c hy), fun x hx => ?_, fun x c hf => (nomatch hf), I.ok.hd, I.ok.frames, .inl rfl, fun b hb => ⟨?_, fun x c hc => ?_⟩, I.bs, Nat.le_trans I.ok.bsz I.sz, fun b o e hb => ?_, fun b hb hfs => ?_, I.stack, I.stkFree⟩
    · exact c2 (x, .free) (kd x hx) rfl
    · exact Nat.ne_of_lt (fo b hb)
    · exact (f b hb).2.2.2.2.1 x c (c1 x c hc)
    · rcases (f b hb).2.2.2.1 with z | z
      · exact I.ok.noex b o e z
      · exact absurd (Nat.lt_of_lt_of_le (Heap.lt_size e) (Nat.le_trans I.ok.bsz z)) (Nat.lt_irrefl _)
    · obtain ⟨_, f1, f2, _⟩ := f b hb
      rcases List.mem_cons.mp (I.stkSub b hfs) with z | z
      · exact f1 z
      · exact f2 z
  refine ⟨okY, rfl, I.bare, Un.kept k, ⟨_, ns, fun i x v e1 e2 e3 => ?_⟩, fun x c hc => ?_, I.hok.fresh (Nat.le_refl _), fun x c hc => I.freeC x c (c1 x c hc), fun p hp => by simp [cxComp] at hp, I.hok.kept k, ?_⟩
  · by_cases hi : i < own.length
    · have e2' : (List.replicate own.length (none : Option V) ++ σ)[i]? = some (some v) := e2
      rw [List.getElem?_append_left (by simpa using hi), List.getElem?_replicate, if_pos hi] at e2'
      cases e2'
    · have hle : own.length ≤ i := Nat.le_of_not_lt hi
      have e2' : σ[i - own.length]? = some (some v) := by
        have e2' : (List.replicate own.length (none : Option V) ++ σ)[i]? = some (some v) := e2
        rw [List.getElem?_append_right (by simpa using hle)] at e2'
        simpa using e2'
      have e1'' : (X.N.map (hid own))[i - own.length]? = some x := by
        have e1' : (own ++ X.N.map (hid own))[i]? = some x := e1
        rwa [List.getElem?_append_right hle] at e1'
      rw [List.getElem?_map] at e1''
      obtain ⟨y, e1', ey⟩ := Option.map_eq_some_iff.mp e1''
      have hy : own.contains y = false := by
        cases hc : own.contains y with
        | false => rfl
        | true =>
          unfold hid at ey
          rw [if_pos hc] at ey
          subst ey
          have e3' : (scope.names.map fun (n, k) => if (k == NameKind.free && X.env.scope.kind == .function && X.env.kindOf n == some .cell) = true then (n, NameKind.cell) else (n, k)).lookup ("" : Str) ≠ none := by
            rcases e3 with z | z | z <;> (intro q; have z' : (scope.names.map fun (n, k) => if (k == NameKind.free && X.env.scope.kind == .function && X.env.kindOf n == some .cell) = true then (n, NameKind.cell) else (n, k)).lookup ("" : Str) = _ := z; rw [q] at z'; cases z')
          exact absurd (relabel_none S.no) e3'
      have exy : y = x := by
        unfold hid at ey
        rw [if_neg (by rw [hy]; exact Bool.false_ne_true)] at ey
        exact ey
      subst exy
      have hm : y ∈ X.N := List.mem_of_getElem? e1'
      have h3 : (compEnvC scope cl s.heap.objs.size X.env).kindOf y = some .cell ∨ (compEnvC scope cl s.heap.objs.size X.env).kindOf y = some .free := by
        rcases e3 with z | z
        · have := S.dis y hm (relabel_local (scope := scope) (env := X.env) S.nocell z)
          rw [hy] at this
          cases this
        · exact z
      have hfree := kd y h3
      obtain ⟨c, hc⟩ := c2 (y, .free) hfree rfl
      have hout := S.free (y, .free) hfree rfl
      obtain ⟨m, hn, hl⟩ := I.loc
      obtain ⟨u, r, l⟩ := hl _ y v e1' e2' (hout.elim (fun z => .inr (.inl z)) (fun z => .inr (.inr z)))
      refine ⟨u, r, .inr ⟨h3, c, hc, ?_⟩⟩
      rcases l with ⟨kl, _⟩ | ⟨_, c', hc', hcell⟩
      · rcases hout with z | z
        · rw [show X.env.kindOf y = X.env.scope.names.lookup y from rfl, z] at kl; cases kl
        · rw [show X.env.kindOf y = X.env.scope.names.lookup y from rfl, z] at kl; cases kl
      · rw [c1 y c hc] at hc'
        cases hc'
        obtain ⟨o, ho, hd⟩ := hcell
        exact ⟨o, k c o ho, hd⟩
  · obtain ⟨v, o, ho, hd⟩ := I.cell x c (c1 x c hc)
    exact ⟨v, o, k c o ho, hd⟩
  · show (List.replicate own.length (none : Option V) ++ σ).length = (own ++ X.N.map (hid own)).length
    rw [List.length_append, List.length_append, List.length_replicate, List.length_map, I.len]

noncomputable def PIf (X : Cx) (ifs : List Expr) (tc : TT) : Prop :=
  ∀ (pins : List (Addr × Obj)) (s : Shared) (σ : St) (H : Hp) (Q : Bool → Hp → Prop), Inv X pins σ H s → tc σ H Q →
    wpAny (model X.prog X.w) X.A (forIn ifs true fun c r => if r = true then do let ok ← isTrue c X.env (eval c X.env); pure (ForInStep.yield ok) else pure (ForInStep.yield r)) (TP X pins σ Q) X.xe s
noncomputable def tNoIf : TT := fun _ H Q => Q true H
theorem pif_nil {X : Cx} : PIf X [] tNoIf := by
  intro pins s σ H Q I h
  rw [List.forIn_nil]
  exact wpAny_pure ⟨H, I, h⟩
noncomputable def tLoopC (k : Nat) (g : TG) (tc : TT) (te : TE) (J : It) (p : Addr) (R : Hp → Prop) (σ : St) (H : Hp) : Prop :=
  ∃ W : Nat → Nat → St → Hp → Prop, (∃ m, W 0 m (List.replicate k none ++ σ) (upd H p (.lst []))) ∧ ∀ i m σ' H', W i m σ' H' →
    (J.stop i H' ∧ R H') ∨ (J.go i H' ∧ ∃ N : St → Hp → Prop, (∀ σ2 H2, N σ2 H2 → ∃ m', m' < m ∧ W (i + 1) m' σ2 H2) ∧ ∀ x H1, J.yld i H' x H1 → g x σ' H1 fun σ2 H2 => tc σ2 H2 fun b H3 =>
      if b = true then te σ2 H3 fun v H4 => ∃ ys, H4 p = some (.lst ys) ∧ ys.length < sizeLine ∧ N σ2 (upd H4 p (.lst (ys ++ [v]))) else N σ2 H3)
noncomputable def tComp (k : Nat) (wi : TI) (g : TG) (tc : TT) (te : TE) : TE := fun σ H Q => wi σ H fun J H1 => ∀ p, H1 p = none → tLoopC k g tc te J p (fun H' => Q (.ref p) H') σ H1

theorem comp_core {X : Cx} {tg elt iter : Expr} {ifs : List Expr} {scope : Scope} {pos : Pos} {own : List Str} {wi : TI} {g : TG} {tc : TT} {te : TE} {pins : List (Addr × Obj)} {σ : St} {H : Hp} {s : Shared} {use : Option (Value → Sem Unit)} {Q : Value → Shared → Prop} {R : Addr → Hp → Prop}
    (hc : X.calm = true) (S : CompScope X.env.scope X.N own scope) (hi : PI X tg iter wi)
    (hg : ∀ cl C s₀ H₀ ex, PG (cxComp X own scope cl C s₀ H₀ ex) tg g) (ht : ∀ cl C s₀ H₀ ex, PIf (cxComp X own scope cl C s₀ H₀ ex) ifs tc) (he : ∀ cl C s₀ H₀ ex, PE (cxComp X own scope cl C s₀ H₀ ex) elt te)
    (hs : ∀ x, foldedSetIterable iter X.env x = pure x)
    (I : Inv X pins σ H s) (h : wi σ H fun J H1 => ∀ p, H1 p = none → tLoopC own.length g tc te J p (R p) σ H1)
    (fin : ∀ (p : Addr) (H' : Hp) (s' : Shared) (C : Addr) (m : Str → Option Value), Inv X pins σ H' s' → FpOk X pins H' C → s'.heap.Ns C m → R p H' → compPost (model X.prog X.w) X.A X.xe use Q (.ref p) C (.ok .next) s') :
    wpAny (model X.prog X.w) X.A (comprehension (.ListComp elt [⟨tg, iter, ifs, 0⟩] scope pos) scope X.env (firstIterPos [⟨tg, iter, ifs, 0⟩] pos) (newList []) false (eval iter X.env) use) Q X.xe s := by
  obtain ⟨cl, hcl, c1, c2⟩ := closure_of (scope := scope) (env := X.env) fun y hy hf => I.ok.has y.1 (S.free y hy hf)
  refine wpAny_comprehension_free (use := use) rfl hs hcl S.kind S.names (thn (hi pins s σ H _ I h) fun xv s1 h1 => thn h1 fun itv s2 h2 => ?_)
  obtain ⟨it, fp, tn, J, H2, e, I2, T, st2, f2, q2⟩ := h2
  subst e
  -- the list that is made
  refine wpAny_newObj_type ?_
  have hp : H2 s2.heap.objs.size = none := I2.hok.fresh (Nat.le_refl _)
  obtain ⟨W, ⟨m0, w0⟩, turn⟩ := q2 _ hp
  generalize hP : s2.heap.objs.size = P at hp W w0 turn ⊢
  have kP : ∀ b u, s2.heap.get? b = some u → (s2.heap.push { cls := .type "list", dict := none, data := .seq ([] : List Value).toArray }).get? b = some u := fun b u e => Heap.get?_push_of_some _ e
  have I3 : Inv X pins σ (upd H2 P (.lst [])) { s2 with heap := s2.heap.push { cls := .type "list", dict := none, data := .seq ([] : List Value).toArray }, toks := s2.toks } :=
    I2.laid (a := P) (o := .lst []) (t' := s2.toks) kP (by rw [hP]; exact Nat.le_refl _) ⟨Nat.zero_le _, [], 0, .nil, by rw [← hP]; exact Heap.get?_push_size _ rfl⟩
  have fP : ∀ b ∈ fp, b ≠ P := fun b hb z => by
    obtain ⟨o, ho, _⟩ := T.obj _ _ st2 b hb
    have q := Heap.lt_size ho
    rw [hP, z] at q
    exact Nat.lt_irrefl _ q
  have f3 : ∀ b ∈ fp, FpOk X pins (upd H2 P (.lst [])) b := fun b hb => ⟨by rw [upd_ne (fP b hb)]; exact (f2 b hb).1, (f2 b hb).2⟩
  have st3 : tn 0 (s2.heap.push { cls := .type "list", dict := none, data := .seq ([] : List Value).toArray }) := T.keep _ _ _ st2 fun b _ o e => kP b o e
  generalize hS3 : ({ s2 with heap := s2.heap.push { cls := .type "list", dict := none, data := .seq ([] : List Value).toArray }, toks := s2.toks } : Shared) = s3 at I3
  have st3' : tn 0 s3.heap := by rw [← hS3]; exact st3
  have fo : ∀ b ∈ fp, b < s3.heap.objs.size := fun b hb => by
    obtain ⟨o, ho, _⟩ := T.obj _ _ st3' b hb
    exact Heap.lt_size ho
  refine wpAny_newFunctionEnv S.nocell (by intro y hy; simp at hy) (fun h4 hns hsb => ?_) S.kind
  try dsimp only at hns hsb ⊢
  have k4 : ∀ b o, s3.heap.get? b = some o → h4.get? b = some o := fun b o e => hsb.extBut b o (Nat.ne_of_lt (Heap.lt_size e)) (Heap.get?_push_of_some _ e)
  have I4 := Inv.block (own := own) (h' := h4) (t' := s3.toks + ([] : List (Str × Value)).length) I3 S c1 c2 f3 fo (by simpa using hns) k4
  -- what is true of the iterator within the block
  have fpY : ∀ {H' : Hp}, (∀ b ∈ fp, H' b = none) → ∀ b ∈ fp, FpOk (cxComp X own scope cl s3.heap.objs.size s3 (upd H2 P (.lst [])) fp) [] H' b := fun hn b hb => by
    refine ⟨hn b hb, Nat.ne_of_lt (fo b hb), ?_, .inl hb, fun x c hx => (f3 b hb).2.2.2.2.1 x c (c1 x c hx), fun p hp => by simp [cxComp] at hp⟩
    intro hfs
    rcases List.mem_cons.mp (I3.stkSub b hfs) with z | z
    · exact (f3 b hb).2.1 z
    · exact (f3 b hb).2.2.1 z
  have loop : codeAny (model X.prog X.w) X.A (.compLoop (.ListComp elt [⟨tg, iter, ifs, 0⟩] scope pos) 0 (.ref it) (.ref P) (compEnvC scope cl s3.heap.objs.size X.env)) (compPost (model X.prog X.w) X.A X.xe use Q (.ref P) s3.heap.objs.size) { s3 with heap := h4, toks := s3.toks + ([] : List (Str × Value)).length } := by
    refine codeAny_loop rfl (fun n s' => ∃ i σ' H', Inv (cxComp X own scope cl s3.heap.objs.size s3 (upd H2 P (.lst [])) fp) [] σ' H' s' ∧ tn i s'.heap ∧ (∀ b ∈ fp, H' b = none) ∧ W i n σ' H') ?_ m0 ⟨0, _, _, I4, T.keep _ _ _ st3' fun b _ o e => k4 b o e, fun b hb => (f3 b hb).1, w0⟩
    rintro n s5 ⟨i, σ5, H5, I5, st5, fr5, w5⟩
    show wpAny _ _ ((compTurn (.ListComp elt [⟨tg, iter, ifs, 0⟩] scope pos) 0 (.ref it) (.ref P) (compEnvC scope cl s3.heap.objs.size X.env)).onRaise (fun x => do noteFrame x (compEnvC scope cl s3.heap.objs.size X.env); theTreesLotGoes x)) _ _ s5
    refine wpAny_noted ?_
    rw [compTurn_list]
    have nE : ∀ {α : Type} {t : Sem α} {QQ : α → Shared → Prop} {E' : Value → Shared → Prop} {ss : Shared}, wpAny (model X.prog X.w) X.A t QQ (fun _ _ => False) ss → wpAny (model X.prog X.w) X.A t QQ E' ss := fun h => wpAny_mono h (fun _ _ q => q) fun _ _ z => z.elim
    refine wpAny_bind (wpAny_standAt (wpAny_bind ?_))
    rcases turn i n σ5 H5 w5 with ⟨stop, qn⟩ | ⟨go, N, hN, step⟩
    · refine thn (T.done (cxComp X own scope cl s3.heap.objs.size s3 (upd H2 P (.lst [])) fp) rfl rfl rfl hc i [] s5 σ5 H5 _ I5 (fpY fr5) st5 stop) fun r s6 ⟨hr, I6⟩ => ?_
      subst hr
      refine wpAny_pure ?_
      have back : ∀ h', Heap.SameBut s3.heap.objs.size s6.heap h' → Inv X pins σ H5 { s6 with heap := h' } := fun h' sb => by
        have nC : ∀ b o, s3.heap.get? b = some o → b ≠ s3.heap.objs.size := fun b o e => Nat.ne_of_lt (Heap.lt_size e)
        have nH : ∀ b u, H5 b = some u → b ≠ s3.heap.objs.size := fun b u e z => by
          have : H5 s3.heap.objs.size = none := I6.free
          rw [z, this] at e; cases e
        refine I3.call' (s' := { s6 with heap := h' }) (ch := fp) I6.os ⟨fun b o e n hb hx => ?_, fun b o e n hb hx => ?_, I6.base.free, fun b o e hx => ?_, I6.base.tups, I6.base.frzs, I6.base.tbls⟩ ?_ I6.bare fun b hb => ?_
        · exact (sb.2 b (nC b o e)).trans (I6.base.keep b o e n hb hx)
        · obtain ⟨sl, z⟩ := I6.base.slot b o e n hb hx
          exact ⟨sl, (sb.2 b (nC b o e)).trans z⟩
        · obtain ⟨o', z⟩ := I6.base.there b o e hx
          exact ⟨o', (sb.2 b (nC b o e)).trans z⟩
        · intro b u e
          refine (I6.hok b u e).stay (fun c v hc q => (sb.2 c ?_).trans q) (fun _ q => q) fun _ _ q => q
          rcases hc with z | z
          · rw [z]; exact nH b u e
          · exact nH c _ z
        · obtain ⟨_, g1, g2, g3, g4, g5⟩ := f3 b hb
          exact ⟨g3, g1, g4, g5⟩
      obtain ⟨m, hn, _⟩ := I6.loc
      exact fin P H5 s6 s3.heap.objs.size m (back s6.heap (.refl ..)) (I3.fpOk (Nat.le_refl _) I6.free) hn qn
    · refine thn (T.item (cxComp X own scope cl s3.heap.objs.size s3 (upd H2 P (.lst [])) fp) rfl rfl rfl hc i [] s5 σ5 H5 _ I5 (fpY fr5) st5 go) fun r s6 ⟨u, hr, h6⟩ => ?_
      subst hr
      refine wpAny_bind (thn h6 fun _ s7 ⟨x, H7, I7, r7, y7, st7, fr7⟩ => ?_)
      have I7' := I7.pinned (fpY fr7) (T.obj _ _ st7)
      refine wpAny_bind (nE (thn (hg cl s3.heap.objs.size s3 (upd H2 P (.lst [])) fp _ s7 σ5 H7 x u _ I7' r7 (step x H7 y7)) fun _ s8 ⟨σ8, H8, I8, q8⟩ => ?_))
      have again : ∀ {s9 : Shared} {H9 : Hp}, Inv (cxComp X own scope cl s3.heap.objs.size s3 (upd H2 P (.lst [])) fp) ([] ++ pinsAt fp s7.heap) σ8 H9 s9 → N σ8 H9 → ∃ m, m < n ∧ ∃ i σ' H', Inv (cxComp X own scope cl s3.heap.objs.size s3 (upd H2 P (.lst [])) fp) [] σ' H' s9 ∧ tn i s9.heap ∧ (∀ b ∈ fp, H' b = none) ∧ W i m σ' H' := fun {s9 H9} I9 n9 => by
        obtain ⟨m', hm, w9⟩ := hN σ8 H9 n9
        refine ⟨m', hm, i + 1, σ8, H9, I9.unpinned, T.keep _ _ _ st7 fun b hb o e => (I9.pin (b, o) (List.mem_append_right _ (List.mem_append_right _ (mem_pinsAt hb e)))).1, fun b hb => ?_, w9⟩
        obtain ⟨o, e, d⟩ := T.obj _ _ st7 b hb
        exact (I9.pin (b, o) (List.mem_append_right _ (List.mem_append_right _ (mem_pinsAt hb e)))).2.1
      refine wpAny_bind (nE (thn (ht cl s3.heap.objs.size s3 (upd H2 P (.lst [])) fp _ s8 σ8 H8 _ I8 q8) fun ok s9 ⟨H9, I9, q9⟩ => ?_))
      cases ok with
      | false =>
        rw [if_neg (by decide)] at q9
        exact wpAny_pure ⟨rfl, again I9 q9⟩
      | true =>
        rw [if_pos rfl] at q9
        refine wpAny_bind (wpAny_bind (nE (thn (he cl s3.heap.objs.size s3 (upd H2 P (.lst [])) fp _ s9 σ8 H9 _ I9 q9) fun y s10 ⟨v, H10, I10, r10, ys, e10, l10, q10⟩ => ?_)))
        refine wpAny_bind (nE (thn (mt_append (X := cxComp X own scope cl s3.heap.objs.size s3 (upd H2 P (.lst [])) fp) _ s10 σ8 H10 (.ref P) [v] (.ref P) [y] (fun _ H' => N σ8 H') I10 rfl (.cons r10 .nil) ⟨P, ys, v, rfl, rfl, e10, l10, q10⟩) fun _ s11 ⟨_, H11, I11, _, q11⟩ => ?_))
        exact wpAny_pure (wpAny_pure ⟨rfl, again I11 q11⟩)
  have lself := T.self X.A 0 ({ s3 with heap := h4, toks := s3.toks + ([] : List (Str × Value)).length } : Shared) (fun it' s' => codeAny (model X.prog X.w) X.A (.compLoop (.ListComp elt [⟨tg, iter, ifs, 0⟩] scope pos) 0 it' (.ref P) (compEnvC scope cl s3.heap.objs.size X.env)) (compPost (model X.prog X.w) X.A X.xe use Q (.ref P) s3.heap.objs.size) s')
    (notedBy (model X.prog X.w) X.A (compEnvC scope cl s3.heap.objs.size X.env) fun x s' => compPost (model X.prog X.w) X.A X.xe use Q (.ref P) s3.heap.objs.size (.error x) s') (T.keep _ _ _ st3' fun b _ o e => k4 b o e) loop
  exact codeAny_compStart_list loop lself

theorem pe_comp {X : Cx} {tg elt iter : Expr} {ifs : List Expr} {scope : Scope} {pos : Pos} (own : List Str) {wi : TI} {g : TG} {tc : TT} {te : TE}
    (hc : X.calm = true) (S : CompScope X.env.scope X.N own scope) (hi : PI X tg iter wi)
    (hg : ∀ cl C s₀ H₀ ex, PG (cxComp X own scope cl C s₀ H₀ ex) tg g) (ht : ∀ cl C s₀ H₀ ex, PIf (cxComp X own scope cl C s₀ H₀ ex) ifs tc) (he : ∀ cl C s₀ H₀ ex, PE (cxComp X own scope cl C s₀ H₀ ex) elt te)
    (hs : ∀ x, foldedSetIterable iter X.env x = pure x := by intro _; rfl) :
    PE X (.ListComp elt [⟨tg, iter, ifs, 0⟩] scope pos) (tComp own.length wi g tc te) := by
  intro pins s σ H Q I h
  rw [eval_ListComp]
  refine comp_core (use := none) (R := fun p H' => Q (.ref p) H') hc S hi hg ht he hs I h fun p H' s' C m I' f hn q => ?_
  obtain ⟨f0, f1, f2, f3, f4, f5⟩ := f
  exact ⟨m, hn, fun h' sb => ⟨.ref p, H', I'.turned (t' := s'.toks) (fun b o hb e => (sb.2 b hb).trans e) f0 f1 f3 f4 f5, rfl, q⟩⟩
theorem ps_setC {X : Cx} {tg elt iter : Expr} {ifs : List Expr} {scope : Scope} {pos : Pos} (own : List Str) {wi : TI} {g : TG} {tc : TT} {te : TE} {i : Nat} {x : Str} {pos' spos : Pos}
    (hN : X.N.Nodup) (hx0 : X.N[i]? = some x) (hx : X.env.scope.names.lookup x = some .local) (hc : X.calm = true) (S : CompScope X.env.scope X.N own scope) (hi : PI X tg iter wi)
    (hg : ∀ cl C s₀ H₀ ex, PG (cxComp X own scope cl C s₀ H₀ ex) tg g) (ht : ∀ cl C s₀ H₀ ex, PIf (cxComp X own scope cl C s₀ H₀ ex) ifs tc) (he : ∀ cl C s₀ H₀ ex, PE (cxComp X own scope cl C s₀ H₀ ex) elt te)
    (hsw : swapsWith (.ListComp elt [⟨tg, iter, ifs, 0⟩] scope pos) (some (.Name x pos')) spos.line X.env = pure true := by rfl)
    (hs : ∀ x, foldedSetIterable iter X.env x = pure x := by intro _; rfl) :
    PS X (.Assign [.Name x pos'] (.ListComp elt [⟨tg, iter, ifs, 0⟩] scope pos) spos) (tAsg (tComp own.length wi g tc te) (gName i)) := by
  intro pins s σ H D I h
  rw [exec_Assign_Name_used _ _ _ _ hsw]
  refine wpAny_bind (wpAny_standAt (wpAny_bind ?_))
  show wpAny _ X.A (do let _ ← comprehension (.ListComp elt [⟨tg, iter, ifs, 0⟩] scope pos) scope X.env _ (newList []) false (eval iter X.env) (some (assign (.Name x pos') X.env))) _ _ s
  refine wpAny_bind (thn (comp_core (use := some (assign (.Name x pos') X.env)) (Q := fun _ s' => SP X pins D .next s') (R := fun p H' => D.nx (σ.set i (some (.ref p))) H') hc S hi hg ht he hs I h fun p H' s' C m I' f hn q => ?_) fun _ s' hq => wpAny_pure (wpAny_pure hq))
  obtain ⟨f0, f1, f2, f3, f4, f5⟩ := f
  show wpAny _ X.A (assign (.Name x pos') X.env (.ref p)) _ _ s'
  refine wpAny_assign_Name (store_ok2 I' hN hx0 (.inl hx) (v := .ref p) rfl (fun s2 I2 ⟨a, sb, ha⟩ => ?_) (.inr hx))
  have hCa : C ≠ a := by
    rcases ha with z | z
    · rw [z]; exact f1
    · exact fun e => f4 x a z e.symm
  exact ⟨m, hn.sameBut sb hCa, fun h' sb' => ⟨_, H', I2.turned (t' := s2.toks) (fun b o hb e => (sb'.2 b hb).trans e) f0 f1 f3 f4 f5, q⟩⟩
end L2
namespace L2
open PySem PySem.Spec PyProof.Rows

noncomputable def DefAt (K : PySem.W.Frag) (mg : Str → Option Value) (x : Str) (st : Stmt) : Prop := ∃ f fd, Fun K x x st f fd ∧ mg x = some (.ref f)
theorem defAt_mk {K : PySem.W.Frag} {h : Heap} {mg : Str → Option Value} {x : Str} {st : Stmt} {f : Addr} {oc : Value} {od an : Option Addr} {osl : Array (Option Value)} {kV doc pm cdv ct : Value} (X : K.In h) (G : h.Ns mainGlobals mg)
    (a : PySem.W.nsIn K mainGlobals x = some (some (.ref f))) (l : K.lookup f = some ⟨oc, od, .func (PySem.W.fnOf x x (defArgs st) (defBody st) (defScope st) .none kV doc pm an cdv ct), osl⟩)
    (c : PySem.W.codeIn K cdv x = true) (k : PySem.W.keepIn K (.ref f) = true) : DefAt K mg x st :=
  ⟨f, _, fun_mk l c k, PySem.W.mg_of X G a⟩
noncomputable def CalF (P : Program) (w : World) (K : PySem.W.Frag) (mg : Str → Option Value) (base : Heap) (k : Nat) (f : Addr) (sp : Sp) : Prop :=
  ∃ fd ps, FnOk P w K mg base CX0 k f fd ps sp ∧ PySem.W.keepIn K (.ref f) = true ∧ Binds K fd ps []
noncomputable def Cal (P : Program) (w : World) (K : PySem.W.Frag) (mg : Str → Option Value) (base : Heap) (k : Nat) (x : Str) (sp : Sp) : Prop :=
  ∃ f, mg x = some (.ref f) ∧ CalF P w K mg base k f sp
section
variable {P : Program} {w : World} {K : PySem.W.Frag} {mg : Str → Option Value} {base : Heap}
theorem CalF.mono {j k : Nat} {f : Addr} {sp : Sp} (c : CalF P w K mg base j f sp) (h : j ≤ k) : CalF P w K mg base k f sp :=
  let ⟨fd, ps, F, kp, b⟩ := c
  ⟨fd, ps, F.mono h, kp, b⟩
theorem Cal.mono {j k : Nat} {x : Str} {sp : Sp} (c : Cal P w K mg base j x sp) (h : j ≤ k) : Cal P w K mg base k x sp :=
  let ⟨f, m, c⟩ := c
  ⟨f, m, c.mono h⟩
theorem cal_of {x : Str} {st : Stmt} {N ps : List Str} {k : Nat} {sp : Sp} (D : DefAt K mg x st) (S : FnScope N ps (defScope st)) (len : ∀ vs H Q E, sp vs H Q E → vs.length = ps.length)
    (hb : ∀ (kV doc pm : Value) (an : Option Addr) (cdv ct : Value) (us : List Value), us.length = ps.length → bindArgs (PySem.W.fnOf x x (defArgs st) (defBody st) (defScope st) .none kV doc pm an cdv ct) ⟨us, []⟩ = pure (ps.zip us))
    (hbody : ∀ (f : Addr) (cdv : Value) (A : Around) (outer : List Env) (s : Shared) (H : Hp) (vs : List V) (Q : VK) (E : XK), Room k (A.deeper (envOfC x (defScope st) s.heap.objs.size f cdv)) → sp vs H Q E →
      ∃ t, PSs (cxOf CX0 P w K mg base N x (defScope st) f cdv A outer s H E).nox (defBody st) t ∧ t { nx := fun _ H' => Q .non H', rt := Q } (start N vs) H) : Cal P w K mg base (k + 1) x sp := by
  obtain ⟨f, fd, F, m⟩ := D
  exact ⟨f, m, fd, ps, F.ok S len (hbody f), F.kp, F.binds hb⟩
end

section
variable {X : Cx} {k : Nat} {x : Str} {sp : Sp} {p pos : Pos} {e func : Expr} {es : List Expr} {t : TA} {tf : TE}
theorem pe_cal (c : Cal X.prog X.w X.K X.mg X.base k x sp) (hr : Room k X.A) (hg : Gl X x) (ha : PA X (e :: es) t) (hdb : (x == ("__debug__" : Str)) = false := by decide)
    (he : starEach (e :: es) X.env = (false, eval e X.env) :: starEach es X.env := by rfl) (hpl : (backTo pos (starEach es X.env)).any (·.1) = false := by rfl) :
    PE X (.Call (.Name x p) (e :: es) [] pos) (tCall sp [] E0 t) := by
  obtain ⟨f, m, fd, ps, F, kp, b⟩ := c
  exact pe_call F hr hg m kp b .nil pass0 ha hdb he hpl
noncomputable def tCallV (P : Program) (w : World) (K : PySem.W.Frag) (mg : Str → Option Value) (base : Heap) (k : Nat) (tf : TE) (t : TA) : TE := fun σ H Q => tf σ H fun v H1 => ∃ f sp, v = .ref f ∧ CalF P w K mg base k f sp ∧ t σ H1 fun vs H2 => sp vs H2 Q E0
theorem pe_callV (hr : Room k X.A) (hf : PE X func tf) (ha : PA X (e :: es) t)
    (hc : eval (.Call func (e :: es) [] pos) X.env = (do callWith pos (← eval func X.env) [] (backTo pos (starEach (e :: es) X.env)) (backToKw pos (keywordEach [] X.env))) := by rfl)
    (he : starEach (e :: es) X.env = (false, eval e X.env) :: starEach es X.env := by rfl) (hpl : (backTo pos (starEach es X.env)).any (·.1) = false := by rfl) :
    PE X (.Call func (e :: es) [] pos) (tCallV X.prog X.w X.K X.mg X.base k tf t) := by
  intro pins s σ H Q I h
  refine Call_ (thn (hf pins s σ H _ I h) fun u s1 ⟨v, H1, I1, r, f, sp, ev, ⟨fd, ps, F, kp, b⟩, q⟩ => ?_) hc
  subst ev
  obtain rfl : u = Value.ref f := r
  refine PySem.W.callWith_K (h₀ := X.base) I.ok.mod.kin kp (thn (ha pos pins s1 σ H1 _ I1 q) fun us s2 ⟨vs, H2, I2, r2, q2⟩ => ⟨I2.kIn, ?_⟩) he hpl
  exact run_fn (dvs := []) (E := E0) F hr b .nil pass0 I2 r2 (by rw [List.append_nil]; exact q2)
end

noncomputable def CDivW (i j : Int) : Prop := 0 < j ∧ j < 2 ^ 200
section
variable {X : Cx}
theorem log2_small {n : Nat} (h : n < 2 ^ 200) : n.log2 < 9000 := by
  by_cases z : n = 0
  · subst z; decide
  · have := (Nat.log2_lt z).mpr h
    omega
theorem op_fdivW : OpR X (binaryOp .FloorDiv) (rI CDivW fun i j => .int (i / j)) := opI fun i j _ _ _ _ _ hc q => by
  refine floordiv_int (by have := hc.1; omega) ?_ (.inl (PyProof.noPylong_of_log2 (log2_small ?_)))
  · rw [Int.fdiv_eq_ediv_of_nonneg _ (Int.le_of_lt hc.1)]
    exact q
  · have h1 := hc.1
    have h2 := hc.2
    have e : ((j.natAbs : Nat) : Int) = j := Int.natAbs_of_nonneg (Int.le_of_lt h1)
    have : ((j.natAbs : Nat) : Int) < ((2 ^ 200 : Nat) : Int) := by rw [e]; exact h2
    exact Int.ofNat_lt.mp this
end

noncomputable def isiV : V → String → Option Bool
  | .int _, "int" => some true
  | .int _, "bool" => some false
  | .int _, "str" => some false
  | .int _, "tuple" => some false
  | .int _, "list" => some false
  | .bl _, "bool" => some true
  | .bl _, "int" => some true
  | .bl _, "str" => some false
  | .str _, "str" => some true
  | .str _, "int" => some false
  | .str _, "bool" => some false
  | .str _, "tuple" => some false
  | .str _, "list" => some false
  | _, _ => none
section
variable {X : Cx}
theorem call_isi : CallR X (.builtin "isinstance") (fun xs H Q => ∃ x T b, xs = [x, .ty T] ∧ isiV x T = some b ∧ Q (.bl b) H) := by
  intro pins s σ H xs us Q I r h
  obtain ⟨x, T, b, rfl, e, q⟩ := h
  obtain ⟨u, v, rfl, ru, rv⟩ := vals2 r
  obtain rfl : v = Value.type T := rv
  unfold isiV at e
  split at e <;> first
    | (cases e; obtain ⟨t, rfl⟩ := ru; first
        | exact IsiPair.int_int ⟨.bl true, H, I, rfl, q⟩
        | exact IsiPair.int_bool ⟨.bl false, H, I.tok _, rfl, q⟩
        | exact IsiPair.int_str ⟨.bl false, H, I.tok _, rfl, q⟩
        | exact IsiPair.int_tuple ⟨.bl false, H, I.tok _, rfl, q⟩
        | exact IsiPair.int_list ⟨.bl false, H, I.tok _, rfl, q⟩
        | exact IsiPair.str_str ⟨.bl true, H, I, rfl, q⟩
        | exact IsiPair.str_int ⟨.bl false, H, I.tok _, rfl, q⟩
        | exact IsiPair.str_bool ⟨.bl false, H, I.tok _, rfl, q⟩
        | exact IsiPair.str_tuple ⟨.bl false, H, I.tok _, rfl, q⟩
        | exact IsiPair.str_list ⟨.bl false, H, I.tok _, rfl, q⟩)
    | (cases e; cases ru; first
        | exact IsiPair.bool_bool ⟨.bl true, H, I, rfl, q⟩
        | exact IsiPair.bool_int ⟨.bl true, H, I, rfl, q⟩
        | exact IsiPair.bool_str ⟨.bl false, H, I.tok _, rfl, q⟩)
    | cases e
end

noncomputable def DictK (P : Program) (w : World) (K : PySem.W.Frag) (a : Addr) (vs : List (Key × Value)) : Prop := ∀ h : Heap, K.In h → h.DictOf (mixKind P w) a vs
theorem dictK_mk {P : Program} {w : World} {K : PySem.W.Frag} {a : Addr} {vs : List (Key × Value)} {es : Array DictEntry} {ep : Nat} (l : K.lookup a = some ⟨.type "dict", none, .dict es ep, #[]⟩)
    (hk : ∀ e ∈ es.toList, ∃ k, keyIs k e.key = true ∧ e.hash = keyH w k) (hp : Pairs (mixKind P w) es.toList vs) (nd : (vs.map (·.1)).Nodup) : DictK P w K a vs := fun h X =>
  ⟨_, es, ep, X _ _ l, ⟨rfl, rfl, rfl⟩, rfl, fun e he => hk e (Array.mem_toList_iff.mpr he), hp, nd⟩
noncomputable def tDGetK (P : Program) (w : World) (K : PySem.W.Frag) (td ty : TE) : TE := fun σ H Q => td σ H fun x H1 => ty σ H1 fun y H2 => ∃ a vs k u v, x = .ref a ∧ y = kV k ∧ DictK P w K a vs ∧ valueAt vs k = some u ∧ RelV v u ∧ Q v H2
theorem kV_isM {P : Program} {w : World} {k : Key} {u : Value} (r : RelV (kV k) u) : (mixKind P w).is k u = true := by
  cases k with
  | inl i => obtain ⟨t, rfl⟩ := r; exact keyIs_int i t
  | inr x => obtain ⟨t, rfl⟩ := r; exact keyIs_str x t
section
variable {X : Cx} {o i : Expr} {td ty : TE} {pos : Pos}
theorem pe_dgetK (ho : PE X o td) (hi : PE X i ty) (hs : NoSl i) : PE X (.Subscript o i pos) (tDGetK X.prog X.w X.K td ty) := by
  intro pins s σ H Q I h
  refine subD_of PySem.F.slot_dict_getitem.lookup hs (thn (ho pins s σ H _ I h) fun u s1 ⟨x, H1, I1, rx, q1⟩ => thn (hi pins s1 σ H1 _ I1 q1) fun iv s2 ⟨y, H2, I2, ry, a, vs, k, w', v, ex, ey, D, hv, rv, q2⟩ => ?_)
  subst ex ey
  obtain rfl : u = Value.ref a := rx
  have dd := D s2.heap I2.kIn
  exact ⟨dd.typeIs, wpAny_getItem_of (kV_isM ry) dd.mapOf hv ⟨v, H2, I2.tok _, rv, q2⟩⟩
end

section
variable {σ : St} {H : Hp} {Q : VK} {D : Ends} {i : Nat} {v : V}
theorem rd_C (q : Q v H) : tC v σ H Q := q
theorem rd_V (e : σ[i]? = some (some v)) (q : Q v H) : tVar i σ H Q := ⟨v, e, q⟩
theorem rd_op {r : R2} {ta tb : TE} (q : ta σ H fun x H1 => tb σ H1 fun y H2 => r x y H2 Q) : tOp r ta tb σ H Q := q
theorem rd_un {r : V → Hp → VK → Prop} {ta : TE} (q : ta σ H fun x H1 => r x H1 Q) : tUn r ta σ H Q := q
theorem rd_I {C : Int → Int → Prop} {g : Int → Int → V} {a b : Int} (c : C a b) (q : Q (g a b) H) : rI C g (.int a) (.int b) H Q := ⟨a, b, rfl, rfl, c, q⟩
theorem rd_I0 {g : Int → Int → V} {a b : Int} (q : Q (g a b) H) : rI0 g (.int a) (.int b) H Q := ⟨a, b, rfl, rfl, q⟩
theorem rd_U {g : Int → V} {a : Int} (q : Q (g a) H) : rU g (.int a) H Q := ⟨a, rfl, q⟩
theorem rd_eqI {a b : Int} (q : Q (.bl (decide (a = b))) H) : rEq (.int a) (.int b) H Q := by
  refine ⟨rfl, ?_⟩
  have e : decide (V.int a = V.int b) = decide (a = b) := decide_eq_decide.mpr ⟨fun h => V.int.inj h, fun h => by rw [h]⟩
  rw [e]; exact q
theorem rd_neI {a b : Int} (q : Q (.bl (!decide (a = b))) H) : rNe (.int a) (.int b) H Q := by
  refine ⟨rfl, ?_⟩
  have e : decide (V.int a = V.int b) = decide (a = b) := decide_eq_decide.mpr ⟨fun h => V.int.inj h, fun h => by rw [h]⟩
  rw [e]; exact q
theorem rd_eqS {a b : Str} (q : Q (.bl (decide (a = b))) H) : rEq (.str a) (.str b) H Q := by
  refine ⟨rfl, ?_⟩
  have e : decide (V.str a = V.str b) = decide (a = b) := decide_eq_decide.mpr ⟨fun h => V.str.inj h, fun h => by rw [h]⟩
  rw [e]; exact q
theorem rd_neS {a b : Str} (q : Q (.bl (!decide (a = b))) H) : rNe (.str a) (.str b) H Q := by
  refine ⟨rfl, ?_⟩
  have e : decide (V.str a = V.str b) = decide (a = b) := decide_eq_decide.mpr ⟨fun h => V.str.inj h, fun h => by rw [h]⟩
  rw [e]; exact q
theorem rd_seq {t u : TS} (q : t { D with nx := u D } σ H) : tSeq t u D σ H := q
theorem rd_asg {te : TE} {g : TG} (q : te σ H fun x H1 => g x σ H1 D.nx) : tAsg te g D σ H := q
theorem rd_name {R : St → Hp → Prop} (q : R (σ.set i (some v)) H) : gName i v σ H R := q
theorem rd_ret {te : TE} (q : te σ H D.rt) : tRet te D σ H := q
theorem rd_next (q : D.nx σ H) : tNext D σ H := q
theorem rd_drop {te : TE} (q : te σ H fun _ H1 => D.nx σ H1) : tDrop te D σ H := q
theorem rd_ifS {c : TT} {t u : TS} (q : c σ H fun b H1 => if b = true then t D σ H1 else u D σ H1) : tIfS c t u D σ H := q
theorem rd_if {c : TT} {ta tb : TE} (q : c σ H fun b H1 => if b = true then ta σ H1 Q else tb σ H1 Q) : tIf c ta tb σ H Q := q
theorem rd_test {te : TE} {R : Bool → Hp → Prop} (q : te σ H fun x H' => ∃ k, x = .bl k ∧ R k H') : tTest te σ H R := q
theorem rd_B {te : TE} {R : Bool → Hp → Prop} (q : te σ H fun x H' => ∃ k, x = .bl k ∧ R k H') : tB te σ H R := q
theorem rd_bl {b : Bool} {R : Bool → Prop} (q : R b) : ∃ k, V.bl b = .bl k ∧ R k := ⟨b, rfl, q⟩
theorem rd_and {t u : TT} {R : Bool → Hp → Prop} (q : t σ H fun c H1 => if c = true then u σ H1 R else R false H1) : tAnd t u σ H R := q
theorem rd_or {t u : TT} {R : Bool → Hp → Prop} (q : t σ H fun c H1 => if c = true then R true H1 else u σ H1 R) : tOr t u σ H R := q
theorem rd_not {t : TT} {R : Bool → Hp → Prop} (q : t σ H fun c H1 => R (!c) H1) : tNot t σ H R := q
theorem rd_andV {ta tb : TE} (q : ta σ H fun x H1 => ∃ c, x = .bl c ∧ if c = true then tb σ H1 Q else Q (.bl false) H1) : tAndV ta tb σ H Q := q
theorem rd_orV {ta tb : TE} (q : ta σ H fun x H1 => ∃ c, x = .bl c ∧ if c = true then Q (.bl true) H1 else tb σ H1 Q) : tOrV ta tb σ H Q := q
theorem rd_notV {ta : TE} (q : ta σ H fun x H1 => ∃ c, x = .bl c ∧ Q (.bl (!c)) H1) : tNotV ta σ H Q := q
theorem rd_cons {ta : TE} {tr : TA} {R : List V → Hp → Prop} (q : ta σ H fun x H1 => tr σ H1 fun xs H2 => R (x :: xs) H2) : tCons ta tr σ H R := q
theorem rd_nil {R : List V → Hp → Prop} (q : R [] H) : tNil σ H R := q
theorem rd_call {sp : Sp} {t : TA} (q : t σ H fun vs H1 => sp vs H1 Q E0) : tCall sp [] E0 t σ H Q := by
  unfold tCall
  have e : (fun (vs : List V) H1 => sp (vs ++ []) H1 Q E0) = fun vs H1 => sp vs H1 Q E0 := by funext vs H1; rw [List.append_nil]
  rw [e]
  exact q
theorem rd_CB {r : List V → Hp → VK → Prop} {t : TA} (q : t σ H fun vs H1 => r vs H1 Q) : tCB r t σ H Q := q
theorem rd_tup {t : TA} (q : t σ H fun xs H1 => xs.length ≤ sizeLine ∧ ∀ p, H1 p = none → Q (.ref p) (upd H1 p (.tup xs))) : tTup t σ H Q := q
theorem rd_lst {t : TA} (q : t σ H fun xs H1 => xs.length ≤ sizeLine ∧ ∀ p, H1 p = none → Q (.ref p) (upd H1 p (.lst xs))) : tLst t σ H Q := q
theorem rd_iteD {c A B : Prop} [Decidable c] (h1 : c → A) (h2 : ¬ c → B) : if decide c = true then A else B := by
  by_cases h : c
  · rw [if_pos (decide_eq_true h)]; exact h1 h
  · rw [if_neg (by rw [decide_eq_false h]; exact Bool.false_ne_true)]; exact h2 h
theorem rd_iteND {c A B : Prop} [Decidable c] (h1 : ¬ c → A) (h2 : c → B) : if (!decide c) = true then A else B := by
  by_cases h : c
  · rw [decide_eq_true h]; exact iteF (h2 h)
  · rw [decide_eq_false h]; exact iteT (h1 h)
theorem rd_fin {u : V} (e : u = v) (q : Q v H) : Q u H := by rw [e]; exact q
end

noncomputable def GlobAt (mg : Str → Option Value) (x : Str) (v : V) : Prop := ∃ u, mg x = some u ∧ RelV v u
section
variable {X : Cx} {x : Str} {v : V} {T : String} {pos : Pos}
theorem pe_glA (hg : Gl X x) (h : GlobAt X.mg x v) (hd : (x == ("__debug__" : Str)) = false := by decide) : PE X (.Name x pos) (tC v) :=
  let ⟨_, m, r⟩ := h
  pe_glob hg m r hd
theorem pe_blA (hg : Gl X x) (hm : X.mg x = none) (hv : bootBuiltins x = some (.type T)) (hn : x ≠ "__name__" := by decide) (hd : (x == ("__debug__" : Str)) = false := by decide) : PE X (.Name x pos) (tC (.ty T)) :=
  pe_bltn hg hm hv rfl hn hd
end

noncomputable def sEnt (w : World) (p : Str × Tok × Value) : DictEntry := ⟨PyData.keyHash w.params p.1, .str p.1 p.2.1, p.2.2⟩
noncomputable def entsOf (es : Array DictEntry) : List (Str × Tok × Value) := es.toList.filterMap fun e => match e.key with | .str x t => some (x, t, e.val) | _ => none
theorem pairs_ents {P : Program} {w : World} : ∀ l : List (Str × Tok × Value), Pairs (mixKind P w) (l.map (sEnt w)) (l.map fun p => ((Sum.inr p.1 : Key), p.2.2))
  | [] => .nil
  | p :: r => .cons (keyIs_str p.1 p.2.1) rfl (pairs_ents r)
theorem nodup_inr : ∀ {l : List Str}, l.Nodup → (l.map fun x => (Sum.inr x : Key)).Nodup
  | [], _ => List.nodup_nil
  | x :: r, h => by
    have h1 := List.nodup_cons.mp h
    rw [List.map_cons, List.nodup_cons]
    refine ⟨fun hm => ?_, nodup_inr h1.2⟩
    obtain ⟨y, hy, e⟩ := List.mem_map.mp hm
    cases e
    exact h1.1 hy
theorem dictK_lit {P : Program} {w : World} {K : PySem.W.Frag} {a : Addr} {es : Array DictEntry} {ep : Nat} (l : K.lookup a = some ⟨.type "dict", none, .dict es ep, #[]⟩) (he : es = ((entsOf es).map (sEnt w)).toArray)
    (nd : ((entsOf es).map (·.1)).Nodup) : DictK P w K a ((entsOf es).map fun p => ((Sum.inr p.1 : Key), p.2.2)) := by
  have e : es.toList = (entsOf es).map (sEnt w) := by rw [he]; simp [← he]
  refine dictK_mk l (fun e' he' => ?_) (by rw [e]; exact pairs_ents _) ?_
  · rw [e] at he'
    obtain ⟨p, _, rfl⟩ := List.mem_map.mp he'
    exact ⟨.inr p.1, keyIs_str p.1 p.2.1, rfl⟩
  · rw [List.map_map]
    have : ((fun x : Key × Value => x.1) ∘ fun p : Str × Tok × Value => ((Sum.inr p.1 : Key), p.2.2)) = (fun x => (Sum.inr x : Key)) ∘ (fun p : Str × Tok × Value => p.1) := rfl
    rw [this, ← List.map_map]
    exact nodup_inr nd
end L2
namespace L2
open PySem PySem.Spec PyProof.Rows

theorem Same.tup {K : PySem.W.Frag} {H H' : Hp} {a : Addr} {xs : List V} (e : Same H H') (h : SqT K H a xs) : SqT K H' a xs := by
  rcases h with (h | ⟨o, h⟩) | h
  · exact .inl (.inl (e _ _ h))
  · exact .inl (.inr ⟨o, e _ _ h⟩)
  · exact .inr h
theorem Same.new {H : Hp} {p : Addr} {o : HO} (n : H p = none) : Same H (upd H p o) := fun b u e => by rw [upd_ne (ne_of_none e n)]; exact e
theorem Same.newT {H H' : Hp} {p : Addr} {o : HO} (s : Same H H') (n : H' p = none) : Same H (upd H' p o) := s.trans (Same.new n)
theorem sqt_new {K : PySem.W.Frag} {H : Hp} {p : Addr} {xs : List V} : SqT K (upd H p (.tup xs)) p xs := .inl (.inl upd_same)
theorem sql_of {K : PySem.W.Frag} {H : Hp} {p : Addr} {xs : List V} (h : H p = some (.lst xs)) : SqL K H p xs := .inl (.inl h)
theorem sqt_of {K : PySem.W.Frag} {H : Hp} {p : Addr} {xs : List V} (h : H p = some (.tup xs)) : SqT K H p xs := .inl (.inl h)
theorem atI_nat' {α : Type} {xs : List α} {i : Nat} {j : Int} {v : α} (h : xs[i]? = some v) (e : j = (i : Int)) : atI xs j = some v := by rw [e]; exact atI_nat h
theorem cutV_take {ns : List V} {n : Nat} : cutV ns none (some (n : Int)) = ns.take n := by
  have e : HT.sIx ns.length ns.length (some (n : Int)) = min n ns.length := by
    unfold HT.sIx
    simp only []
    split <;> omega
  have e0 : HT.sIx ns.length 0 none = 0 := rfl
  unfold cutV
  rw [e, e0, List.drop_zero, Nat.sub_zero, List.take_eq_take_iff]
  omega

section
variable {σ : St} {H : Hp} {Q : VK} {K : PySem.W.Frag} {p a b : Addr} {xs ys : List V} {v : V}
theorem rd_ixL {i : Int} (h : SqL K H p xs) (e : atI xs i = some v) (q : Q v H) : rIxL K (.ref p) (.int i) H Q := ⟨p, xs, i, v, rfl, rfl, h, e, q⟩
theorem rd_ixT {i : Int} (h : SqT K H p xs) (e : atI xs i = some v) (q : Q v H) : rIxT K (.ref p) (.int i) H Q := ⟨p, xs, i, v, rfl, rfl, h, e, q⟩
theorem rd_slL {lo hi : Option Int} (h : SqL K H a xs) (q : ∀ p, H p = none → Q (.ref p) (upd H p (.lst (cutV xs lo hi)))) : rSlL K (.ref a) lo hi H Q := ⟨a, xs, rfl, h, q⟩
theorem rd_sl {r : V → Option Int → Option Int → Hp → VK → Prop} {te : TE} {tl th : TO} (q : te σ H fun x H1 => tl σ H1 fun l H2 => th σ H2 fun u H3 => r x l u H3 Q) : tSl r te tl th σ H Q := q
theorem rd_noPart {R : Option Int → Hp → Prop} (q : R none H) : tNoPart σ H R := q
theorem rd_part {R : Option Int → Hp → Prop} {t : TE} (q : t σ H fun x H1 => ∃ i, x = .int i ∧ R (some i) H1) : tPart t σ H R := q
theorem rd_ei {R : Int → Prop} {i : Int} (q : R i) : ∃ j, V.int i = .int j ∧ R j := ⟨i, rfl, q⟩
theorem rd_cat (h1 : H a = some (.lst xs)) (h2 : H b = some (.lst ys)) (hz : xs.length + ys.length ≤ sizeLine) (q : ∀ p, H p = none → Q (.ref p) (upd H p (.lst (xs ++ ys)))) : rCat (.ref a) (.ref b) H Q := ⟨a, b, xs, ys, rfl, rfl, h1, h2, hz, q⟩
end
theorem iteNT {A B : Prop} (h : B) : if (!true) = true then A else B := iteF h
theorem iteNF {A B : Prop} (h : A) : if (!false) = true then A else B := iteT h
section
variable {σ : St} {H : Hp} {Q : VK} {D : Ends}
theorem rd_comp {k : Nat} {wi : TI} {g : TG} {tc : TT} {te : TE} (q : wi σ H fun J H1 => ∀ p, H1 p = none → tLoopC k g tc te J p (fun H' => Q (.ref p) H') σ H1) : tComp k wi g tc te σ H Q := q
theorem rd_iList {K : PySem.W.Frag} {tl : TE} {R : It → Hp → Prop} (q : tl σ H fun x H1 => ∃ a, x = .ref a ∧ (∃ xs, SqL K H1 a xs) ∧ R (Itl K a) H1) : iList K tl σ H R := q
theorem rd_iRng1 {ta : TA} {R : It → Hp → Prop} (q : ta σ H fun vs H1 => ∃ j : Int, vs = [.int j] ∧ -(2 ^ 62) ≤ j ∧ j < 2 ^ 62 ∧ R (Itr 0 j.toNat) H1) : iRng1 ta σ H R := q
theorem rd_for {wi : TI} {g : TG} {tb : TS} (q : wi σ H fun J H1 => ∃ W : Nat → Nat → St → Hp → Prop, (∃ m, W 0 m σ H1) ∧ ∀ i m σ H, W i m σ H →
  (J.stop i H ∧ D.nx σ H) ∨ (J.go i H ∧ ∃ N : St → Hp → Prop, (∀ σ' H', N σ' H' → ∃ m', m' < m ∧ W (i + 1) m' σ' H') ∧ ∀ x H', J.yld i H x H' → g x σ H' fun σ2 H2 => tb { D with nx := N, ct := N, bk := D.nx } σ2 H2)) : tFor wi g tb D σ H := q
end
section
variable {CX : CXT} {P : Program} {w : World} {K : PySem.W.Frag} {mg : Str → Option Value} {base : Heap} {N : List Str} {q : Str} {sc : Scope} {f : Addr} {cd : Value} {A : Around} {outer : List Env} {s : Shared} {H : Hp} {E : XK}
theorem nox_K : (cxOf CX P w K mg base N q sc f cd A outer s H E).nox.K = K := rfl
theorem nox_P : (cxOf CX P w K mg base N q sc f cd A outer s H E).nox.prog = P := rfl
theorem nox_w : (cxOf CX P w K mg base N q sc f cd A outer s H E).nox.w = w := rfl
theorem nox_mg : (cxOf CX P w K mg base N q sc f cd A outer s H E).nox.mg = mg := rfl
theorem nox_base : (cxOf CX P w K mg base N q sc f cd A outer s H E).nox.base = base := rfl
end
theorem globAt_int {K : PySem.W.Frag} {h : Heap} {mg : Str → Option Value} {x : Str} {i : Int} {t : Tok} (X : K.In h) (G : h.Ns mainGlobals mg) (a : PySem.W.nsIn K mainGlobals x = some (some (.int i t))) : GlobAt mg x (.int i) := ⟨_, PySem.W.mg_of X G a, t, rfl⟩
theorem globAt_ref {K : PySem.W.Frag} {h : Heap} {mg : Str → Option Value} {x : Str} {i : Addr} (X : K.In h) (G : h.Ns mainGlobals mg) (a : PySem.W.nsIn K mainGlobals x = some (some (.ref i))) : GlobAt mg x (.ref i) := ⟨_, PySem.W.mg_of X G a, rfl⟩
theorem fun_binds1 {K : PySem.W.Frag} {x qual p : Str} {st : Stmt} {f : Addr} {fd : FuncData} (F : Fun K x qual st f fd)
    (hb : ∀ (kV doc pm : Value) (an : Option Addr) (cdv ct u : Value), bindArgs (PySem.W.fnOf x qual (defArgs st) (defBody st) (defScope st) .none kV doc pm an cdv ct) ⟨[u], []⟩ = pure [(p, u)] := by intros; rfl) : ∀ (s : Shared) (u : Value), BindsTo s fd ⟨[u], []⟩ [(p, u)] := by
  obtain ⟨oc, od, kV, doc, pm, an, cdv, ct, osl, rfl, lk, hcd⟩ := F.ex
  exact fun s u => .of_eq (hb kV doc pm an cdv ct u)
section
variable {σ : St} {H : Hp} {Q : VK} {D : Ends} {i : Nat} {x : V}
end
noncomputable abbrev RC := List V → Hp → VK → Prop
noncomputable def rMax2 : RC := fun xs H Q => ∃ i j, xs = [.int i, .int j] ∧ Q (.int (if j > i then j else i)) H
noncomputable def rIsi : RC := fun xs H Q => ∃ x T b, xs = [x, .ty T] ∧ isiV x T = some b ∧ Q (.bl b) H
noncomputable def rLenS (K : PySem.W.Frag) : RC := fun xs H Q => ∃ p ys, xs = [.ref p] ∧ (SqL K H p ys ∨ SqT K H p ys) ∧ Q (.int ys.length) H
section
variable {X : Cx} {H : Hp} {Q : VK} {K : PySem.W.Frag}
theorem cn_max (hc : X.calm = true) : CallR X (.builtin "max") rMax2 := call_max2 hc
theorem cn_isi : CallR X (.builtin "isinstance") rIsi := call_isi
theorem cn_len : CallR X (.builtin "len") (rLenS X.K) := call_len_seq
theorem rd_max2 {a b : Int} (q : Q (.int (if b > a then b else a)) H) : rMax2 [.int a, .int b] H Q := ⟨a, b, rfl, q⟩
theorem rd_lenL {p : Addr} {xs : List V} (h : SqL K H p xs) (q : Q (.int xs.length) H) : rLenS K [.ref p] H Q := ⟨p, xs, rfl, .inl h, q⟩
theorem rd_lenT {p : Addr} {xs : List V} (h : SqT K H p xs) (q : Q (.int xs.length) H) : rLenS K [.ref p] H Q := ⟨p, xs, rfl, .inr h, q⟩
end
end L2
namespace L2
open PySem PySem.Spec PyProof.Rows
section
variable {σ : St} {H : Hp} {Q : VK} {K : PySem.W.Frag} {p : Addr} {xs : List V} {v : V}
theorem rd_bm {T : String} {r : V → List V → Hp → VK → Prop} {to : TE} {t : TA} (q : to σ H fun x H1 => tyV K T x H1 ∧ t σ H1 fun xs H2 => r x xs H2 Q) : tBM K T r to t σ H Q := q
theorem rd_bm0 {T : String} {r : V → List V → Hp → VK → Prop} {to : TE} (q : to σ H fun x H1 => tyV K T x H1 ∧ r x [] H1 Q) : tBM0 K T r to σ H Q := q
theorem ty_list (h : SqL K H p xs) : tyV K "list" (.ref p) H := .inl ⟨rfl, _, h⟩
theorem rd_append (h : H p = some (.lst xs)) (hz : xs.length < sizeLine) (q : Q .non (upd H p (.lst (xs ++ [v])))) : rAppend (.ref p) [v] H Q := ⟨p, xs, v, rfl, rfl, h, hz, q⟩
theorem rd_pop (h : H p = some (.lst (xs ++ [v]))) (q : Q v (upd H p (.lst xs))) : rPop (.ref p) [] H Q := by
  refine ⟨p, xs ++ [v], v, rfl, rfl, h, by simp, ?_⟩
  rw [List.dropLast_concat]
  exact q
end
end L2
namespace L2
open PySem PySem.Spec PyProof.Rows
noncomputable def TupK (K : PySem.W.Frag) (a : Addr) (xs : List V) : Prop := ∃ (o : Obj) (its : Array Value) (n : Nat), K.lookup a = some o ∧ o.cls = .type "tuple" ∧ o.data = .seq its n ∧ its.size ≤ sizeLine ∧ Vals xs its.toList
theorem TupK.sqt {K : PySem.W.Frag} {a : Addr} {xs : List V} (h : TupK K a xs) (H : Hp) : SqT K H a xs := .inr h
theorem tupK_mk {K : PySem.W.Frag} {a : Addr} {xs : List V} {d : Option Addr} {its : Array Value} {n : Nat} {sl : Array (Option Value)} (l : K.lookup a = some ⟨.type "tuple", d, .seq its n, sl⟩) (v : Vals xs its.toList) (z : its.size ≤ sizeLine) : TupK K a xs := ⟨_, its, n, l, rfl, rfl, z, v⟩
noncomputable def inS (x : Str) (xs : List Str) : Bool := xs.any fun y => y == x
theorem inV_str (x : Str) (xs : List Str) : inV (.str x) (xs.map V.str) = inS x xs := by
  unfold inV inS
  rw [List.any_map]
  rfl
section
variable {σ : St} {H : Hp} {Q : VK} {K : PySem.W.Frag} {p : Addr}
theorem rd_inT {x : Str} {xs : List Str} (h : SqT K H p (xs.map V.str)) (q : Q (.bl (inS x xs)) H) : rIn K false (.str x) (.ref p) H Q := by
  refine ⟨p, _, rfl, .inr h, rfl, ?_, ?_⟩
  · rw [List.all_map]
    exact List.all_eq_true.mpr fun _ _ => rfl
  · rw [if_neg (by decide), inV_str]
    exact q
theorem comp_range {te : TE} {R : Hp → Prop} {lo : Int} {n : Nat} {ys : List V} (hp : H p = none) (hn : ys.length = n) (hz : n ≤ sizeLine)
    (he : ∀ (i : Nat) (y : V) (H' : Hp) (Q : VK), i < n → ys[i]? = some y → Same H H' → Q y H' → te (some (.int (lo + i)) :: σ) H' Q) (fin : R (upd H p (.lst ys))) :
    tLoopC 1 (gName 0) tNoIf te (Itr lo n) p R σ H := by
  refine ⟨fun i m σ' H' => m = n - i ∧ i ≤ n ∧ H' = upd H p (.lst (ys.take i)) ∧ ∃ v, σ' = v :: σ, ⟨n, by omega, Nat.zero_le _, rfl, none, rfl⟩, ?_⟩
  rintro i m σ' H' ⟨rfl, hi, rfl, v, rfl⟩
  by_cases hlt : i < n
  · refine .inr ⟨hlt, fun σ2 H2 => H2 = upd H p (.lst (ys.take (i + 1))) ∧ ∃ v, σ2 = v :: σ, fun σ2 H2 ⟨e, v', e'⟩ => ⟨n - (i + 1), by omega, rfl, hlt, e, v', e'⟩, fun x H1 ⟨e, y⟩ => ?_⟩
    subst e y
    refine rd_name ?_
    simp only [tNoIf, if_true, List.set_cons_zero]
    have hyl : i < ys.length := by omega
    refine he i ys[i] _ _ hlt (by simp [hyl]) (Same.new hp) ?_
    refine ⟨ys.take i, upd_same, ?_, ?_, some _, rfl⟩
    · rw [List.length_take]; omega
    · rw [upd_upd, List.take_succ_eq_append_getElem hyl]
  · have e : i = n := by omega
    subst e
    refine .inl ⟨Nat.le_refl _, ?_⟩
    rw [← hn, List.take_length]
    exact fin
end
noncomputable def CalD (P : Program) (w : World) (K : PySem.W.Frag) (mg : Str → Option Value) (base : Heap) (k : Nat) (x : Str) (sp : Sp) (dvs : List V) : Prop :=
  ∃ f fd ps ds, mg x = some (.ref f) ∧ FnOk P w K mg base CX0 k f fd ps sp ∧ PySem.W.keepIn K (.ref f) = true ∧ Binds K fd ps ds ∧ Vals dvs ds
theorem pe_calD {X : Cx} {k : Nat} {x : Str} {sp : Sp} {dvs : List V} {p pos : Pos} {e : Expr} {es : List Expr} {t : TA} (c : CalD X.prog X.w X.K X.mg X.base k x sp dvs) (hr : Room k X.A) (hg : Gl X x) (ha : PA X (e :: es) t) (hdb : (x == ("__debug__" : Str)) = false := by decide)
    (he : starEach (e :: es) X.env = (false, eval e X.env) :: starEach es X.env := by rfl) (hpl : (backTo pos (starEach es X.env)).any (·.1) = false := by rfl) :
    PE X (.Call (.Name x p) (e :: es) [] pos) (tCall sp dvs E0 t) := by
  obtain ⟨f, fd, ps, ds, m, F, kp, b, v⟩ := c
  exact pe_call F hr hg m kp b v pass0 ha hdb he hpl
noncomputable def isiSeq : Bool → String → Option Bool
  | true, "tuple" => some true
  | true, "list" => some false
  | true, "int" => some false
  | true, "bool" => some false
  | true, "str" => some false
  | false, "list" => some true
  | false, "tuple" => some false
  | false, "int" => some false
  | false, "bool" => some false
  | false, "str" => some false
  | _, _ => none
noncomputable def rIsiQ (K : PySem.W.Frag) : RC := fun xs H Q => ∃ a T ys b, xs = [.ref a, .ty T] ∧ ((SqT K H a ys ∧ isiSeq true T = some b) ∨ (SqL K H a ys ∧ isiSeq false T = some b)) ∧ Q (.bl b) H
theorem call_isiQ {X : Cx} : CallR X (.builtin "isinstance") (rIsiQ X.K) := by
  intro pins s σ H xs us Q I r h
  obtain ⟨a, T, ys, b, rfl, e, q⟩ := h
  obtain ⟨u, v, rfl, ru, rv⟩ := vals2 r
  obtain rfl : v = Value.type T := rv
  obtain rfl : u = Value.ref a := ru
  have kp : ∀ b o, s.heap.get? b = some o → s.heap.get? b = some o := fun _ _ z => z
  rcases e with ⟨hq, e⟩ | ⟨hq, e⟩
  · obtain ⟨its, rv, p, hz⟩ := I.tuple hq
    have p' : s.heap.IsTuple a its.toArray := p
    unfold isiSeq at e
    split at e <;> first
      | contradiction
      | (cases e; first
        | exact IsiPair.isTuple_tuple p' kp ⟨.bl true, H, I, rfl, q⟩
        | exact IsiPair.isTuple_list p' kp ⟨.bl false, H, I.tok _, rfl, q⟩
        | exact IsiPair.isTuple_int p' kp ⟨.bl false, H, I.tok _, rfl, q⟩
        | exact IsiPair.isTuple_bool p' kp ⟨.bl false, H, I.tok _, rfl, q⟩
        | exact IsiPair.isTuple_str p' kp ⟨.bl false, H, I.tok _, rfl, q⟩)
      | cases e
      | (rename_i z _; cases z)
  · obtain ⟨its, rv, p, hz⟩ := I.list hq
    have p' : s.heap.IsList a its.toArray := p.isList
    unfold isiSeq at e
    split at e <;> first
      | contradiction
      | (cases e; first
        | exact IsiPair.isList_list p' kp ⟨.bl true, H, I, rfl, q⟩
        | exact IsiPair.isList_tuple p' kp ⟨.bl false, H, I.tok _, rfl, q⟩
        | exact IsiPair.isList_int p' kp ⟨.bl false, H, I.tok _, rfl, q⟩
        | exact IsiPair.isList_bool p' kp ⟨.bl false, H, I.tok _, rfl, q⟩
        | exact IsiPair.isList_str p' kp ⟨.bl false, H, I.tok _, rfl, q⟩)
      | cases e
      | (rename_i z _; cases z)
noncomputable def rIsiA (K : PySem.W.Frag) : RC := fun xs H Q => rIsi xs H Q ∨ rIsiQ K xs H Q
theorem cn_isiA {X : Cx} : CallR X (.builtin "isinstance") (rIsiA X.K) := cn_isi.or call_isiQ
section
variable {H : Hp} {Q : VK} {K : PySem.W.Frag}
theorem rd_isiS {x : V} {T : String} {b : Bool} (e : isiV x T = some b) (q : Q (.bl b) H) : rIsiA K [x, .ty T] H Q := .inl ⟨x, T, b, rfl, e, q⟩
theorem rd_isiT {a : Addr} {T : String} {ys : List V} {b : Bool} (h : SqT K H a ys) (e : isiSeq true T = some b) (q : Q (.bl b) H) : rIsiA K [.ref a, .ty T] H Q := .inr ⟨a, T, ys, b, rfl, .inl ⟨h, e⟩, q⟩
theorem rd_isiL {a : Addr} {T : String} {ys : List V} {b : Bool} (h : SqL K H a ys) (e : isiSeq false T = some b) (q : Q (.bl b) H) : rIsiA K [.ref a, .ty T] H Q := .inr ⟨a, T, ys, b, rfl, .inr ⟨h, e⟩, q⟩
end
section
variable {σ : St} {H : Hp} {Q : VK} {P : Program} {w : World} {K : PySem.W.Frag} {td ty : TE}
end
noncomputable def rDK (P : Program) (w : World) (K : PySem.W.Frag) : R2 := fun x y H Q => ∃ a vs k u v, x = .ref a ∧ y = kV k ∧ DictK P w K a vs ∧ valueAt vs k = some u ∧ RelV v u ∧ Q v H
theorem pe_ixK {X : Cx} {o i : Expr} {td ty : TE} {pos : Pos} (ho : PE X o td) (hi : PE X i ty) (hs : NoSl i) : PE X (.Subscript o i pos) (tOp (rDK X.prog X.w X.K) td ty) := pe_dgetK ho hi hs
section
variable {H : Hp} {Q : VK} {P : Program} {w : World} {K : PySem.W.Frag}
theorem rd_DK {a : Addr} {vs : List (Key × Value)} {x : Str} {u : Value} {v : V} (dk : DictK P w K a vs) (hv : valueAt vs (.inr x) = some u) (r : RelV v u) (q : Q v H) : rDK P w K (.ref a) (.str x) H Q := ⟨a, vs, .inr x, u, v, rfl, rfl, dk, hv, r, q⟩
end
section
variable {CX : CXT} {P : Program} {w : World} {K : PySem.W.Frag} {mg : Str → Option Value} {base : Heap} {N : List Str} {q : Str} {sc : Scope} {f : Addr} {cd : Value} {A : Around} {outer : List Env} {s : Shared} {H : Hp} {E : XK}
theorem cxOf_K : (cxOf CX P w K mg base N q sc f cd A outer s H E).K = K := rfl
theorem cxOf_P : (cxOf CX P w K mg base N q sc f cd A outer s H E).prog = P := rfl
theorem cxOf_w : (cxOf CX P w K mg base N q sc f cd A outer s H E).w = w := rfl
theorem cxOf_mg : (cxOf CX P w K mg base N q sc f cd A outer s H E).mg = mg := rfl
theorem cxOf_base : (cxOf CX P w K mg base N q sc f cd A outer s H E).base = base := rfl
end
theorem vals_nil : Vals [] [] := .nil
theorem vals_int {i : Int} {t : Tok} {xs : List V} {us : List Value} (h : Vals xs us) : Vals (.int i :: xs) (.int i t :: us) := .cons ⟨t, rfl⟩ h
theorem vals_str {x : Str} {t : Tok} {xs : List V} {us : List Value} (h : Vals xs us) : Vals (.str x :: xs) (.str x t :: us) := .cons ⟨t, rfl⟩ h
theorem globTup {K : PySem.W.Frag} {h : Heap} {mg : Str → Option Value} {x : Str} {i : Addr} {xs : List V} {d : Option Addr} {its : Array Value} {n : Nat} {sl : Array (Option Value)} (X : K.In h) (G : h.Ns mainGlobals mg) (a : PySem.W.nsIn K mainGlobals x = some (some (.ref i)))
    (l : K.lookup i = some ⟨.type "tuple", d, .seq its n, sl⟩) (v : Vals xs its.toList) (z : its.size ≤ sizeLine) : ∃ a, GlobAt mg x (.ref a) ∧ TupK K a xs := ⟨i, globAt_ref X G a, tupK_mk l v z⟩
structure FunD (K : PySem.W.Frag) (x qual : Str) (st : Stmt) (items : Array Value) (f : Addr) (fd : FuncData) : Prop where
  ex : ∃ (oc : Value) (od : Option Addr) (T : Addr) (kV doc pm : Value) (an : Option Addr) (cdv ct : Value) (osl : Array (Option Value)) (o : Obj) (n : Nat),
    fd = PySem.W.fnOf x qual (defArgs st) (defBody st) (defScope st) (.ref T) kV doc pm an cdv ct ∧ K.lookup f = some ⟨oc, od, .func fd, osl⟩ ∧ PySem.W.codeIn K cdv qual = true ∧ K.lookup T = some o ∧ o.data = .seq items n
  kp : PySem.W.keepIn K (.ref f) = true
noncomputable def DefAtD (K : PySem.W.Frag) (mg : Str → Option Value) (x : Str) (st : Stmt) (items : Array Value) : Prop := ∃ f fd, FunD K x x st items f fd ∧ mg x = some (.ref f)
theorem defAtD_mk {K : PySem.W.Frag} {h : Heap} {mg : Str → Option Value} {x : Str} {st : Stmt} {f T : Addr} {oc c2 : Value} {od an d2 : Option Addr} {osl s2 : Array (Option Value)} {kV doc pm cdv ct : Value} {items : Array Value} {n : Nat} (X : K.In h) (G : h.Ns mainGlobals mg)
    (a : PySem.W.nsIn K mainGlobals x = some (some (.ref f))) (l : K.lookup f = some ⟨oc, od, .func (PySem.W.fnOf x x (defArgs st) (defBody st) (defScope st) (.ref T) kV doc pm an cdv ct), osl⟩)
    (c : PySem.W.codeIn K cdv x = true) (k : PySem.W.keepIn K (.ref f) = true) (d : K.lookup T = some ⟨c2, d2, .seq items n, s2⟩) : DefAtD K mg x st items :=
  ⟨f, _, ⟨⟨oc, od, T, kV, doc, pm, an, cdv, ct, osl, _, n, rfl, l, c, d, rfl⟩, k⟩, PySem.W.mg_of X G a⟩
section
variable {P : Program} {w : World} {K : PySem.W.Frag} {mg : Str → Option Value} {base : Heap}
theorem FunD.fn {x qual : Str} {st : Stmt} {items : Array Value} {f : Addr} {fd : FuncData} {N ps : List Str} {k : Nat} {sp : Sp} (F : FunD K x qual st items f fd) (S : FnScope N ps (defScope st)) (len : ∀ vs H Q E, sp vs H Q E → vs.length = ps.length)
    (hbody : ∀ (cdv : Value) (A : Around) (outer : List Env) (s : Shared) (H : Hp) (vs : List V) (Q : VK) (E : XK), Room k (A.deeper (envOfC qual (defScope st) s.heap.objs.size f cdv)) → sp vs H Q E →
      ∃ t, PSs (cxOf CX0 P w K mg base N qual (defScope st) f cdv A outer s H E).nox (defBody st) t ∧ t { nx := fun _ H' => Q .non H', rt := Q } (start N vs) H) : FnOk P w K mg base CX0 (k + 1) f fd ps sp := by
  obtain ⟨oc, od, T, kV, doc, pm, an, cdv, ct, osl, o, n, rfl, lk, hcd, lt, ld⟩ := F.ex
  refine fn_of lk hcd S len fun A outer s H vs Q E hr hsp => ?_
  obtain ⟨t, h, q⟩ := hbody cdv A outer s H vs Q E hr hsp
  exact ⟨t, h.nox, q⟩
theorem FunD.binds {x qual : Str} {st : Stmt} {items : Array Value} {f : Addr} {fd : FuncData} {ps : List Str} (F : FunD K x qual st items f fd) (ds : List Value)
    (h : ∀ (T : Addr) (kV doc pm : Value) (an : Option Addr) (cdv ct : Value) (us : List Value), (us ++ ds).length = ps.length → ∃ k : Option (Array Value) → Sem (List (Str × Value)), bindArgs (PySem.W.fnOf x qual (defArgs st) (defBody st) (defScope st) (.ref T) kV doc pm an cdv ct) ⟨us, []⟩ = seqItems? (.ref T) >>= k ∧ k (some items) = pure (ps.zip (us ++ ds))) : Binds K fd ps ds := by
  obtain ⟨oc, od, T, kV, doc, pm, an, cdv, ct, osl, o, n, rfl, lk, hcd, lt, ld⟩ := F.ex
  intro s us X hl
  obtain ⟨k, h1, h2⟩ := h T kV doc pm an cdv ct us hl
  exact BindsTo.of_defaults (fd := PySem.W.fnOf x qual (defArgs st) (defBody st) (defScope st) (.ref T) kV doc pm an cdv ct) rfl (X _ _ lt) ld h1 h2
end
end L2
namespace L2
open PySem PySem.Spec PyProof.Rows PySem.SeqAt
inductive Dt where
  | non
  | bl (b : Bool)
  | int (i : Int)
  | str (x : Str)
  | lst (ds : List Dt)
  | tup (ds : List Dt)
mutual
noncomputable def Dt.eq : Dt → Dt → Bool
  | .non, .non => true
  | .bl a, .bl b => a == b
  | .bl a, .int b => (if a then 1 else 0) == b
  | .int a, .bl b => a == (if b then 1 else 0)
  | .int a, .int b => a == b
  | .str a, .str b => a == b
  | .lst a, .lst b => Dt.eqs a b
  | .tup a, .tup b => Dt.eqs a b
  | _, _ => false
noncomputable def Dt.eqs : List Dt → List Dt → Bool
  | [], [] => true
  | a :: r, b :: t => Dt.eq a b && Dt.eqs r t
  | _, _ => false
end
mutual
noncomputable def Dt.dep : Dt → Nat
  | .lst ds => Dt.deps ds + 1
  | .tup ds => Dt.deps ds + 1
  | _ => 0
noncomputable def Dt.deps : List Dt → Nat
  | [] => 0
  | d :: r => max (Dt.dep d) (Dt.deps r)
end
mutual
/-- the value tells the datum -/
noncomputable def DV (K : PySem.W.Frag) (H : Hp) : Dt → V → Prop
  | .non, v => v = .non
  | .bl b, v => v = .bl b
  | .int i, v => v = .int i
  | .str x, v => v = .str x
  | .lst ds, v => ∃ a xs, v = .ref a ∧ SqL K H a xs ∧ DVs K H ds xs
  | .tup ds, v => ∃ a xs, v = .ref a ∧ SqT K H a xs ∧ DVs K H ds xs
noncomputable def DVs (K : PySem.W.Frag) (H : Hp) : List Dt → List V → Prop
  | [], xs => xs = []
  | d :: r, xs => ∃ x t, xs = x :: t ∧ DV K H d x ∧ DVs K H r t
end
theorem DVs.length {K : PySem.W.Frag} {H : Hp} : ∀ {ds : List Dt} {xs : List V}, DVs K H ds xs → ds.length = xs.length
  | [], xs, h => by unfold DVs at h; subst h; rfl
  | d :: r, xs, h => by
    unfold DVs at h
    obtain ⟨x, t, rfl, _, h⟩ := h
    rw [List.length_cons, List.length_cons, DVs.length h]
theorem DVs.get {K : PySem.W.Frag} {H : Hp} : ∀ {ds : List Dt} {xs : List V} {i : Nat} {d : Dt} {x : V}, DVs K H ds xs → ds[i]? = some d → xs[i]? = some x → DV K H d x
  | [], xs, i, d, x, h, e, _ => by simp at e
  | d0 :: r, xs, i, d, x, h, e1, e2 => by
    unfold DVs at h
    obtain ⟨x0, t, rfl, h0, h⟩ := h
    cases i with
    | zero => simp at e1 e2; subst e1 e2; exact h0
    | succ i => exact DVs.get (i := i) h (by simpa using e1) (by simpa using e2)
theorem Dt.dep_le : ∀ {ds : List Dt} {i : Nat} {d : Dt}, ds[i]? = some d → d.dep ≤ Dt.deps ds
  | [], i, d, e => by simp at e
  | d0 :: r, i, d, e => by
    unfold Dt.deps
    cases i with
    | zero => simp at e; subst e; exact Nat.le_max_left _ _
    | succ i => exact Nat.le_trans (Dt.dep_le (i := i) (by simpa using e)) (Nat.le_max_right _ _)
theorem Dt.eqs_range : ∀ (ds es : List Dt), ds.length = es.length → (List.range ds.length).all (fun j => Dt.eq (ds.getD j .non) (es.getD j .non)) = Dt.eqs ds es
  | [], [], _ => by unfold Dt.eqs; rfl
  | d :: r, e :: t, h => by
    have ih := Dt.eqs_range r t (by simpa using h)
    rw [List.length_cons, List.range_succ_eq_map, List.all_cons, List.all_map]
    unfold Dt.eqs
    rw [← ih]
    rfl
  | [], _ :: _, h => by simp at h
  | _ :: _, [], h => by simp at h
section
variable {X : Cx} {pins : List (Addr × Obj)} {σ : St} {H : Hp} {s : Shared}
theorem DV.same (I : Inv X pins σ H s) : ∀ (n : Nat) (d e : Dt) (x : V), d.dep ≤ n → DV X.K H d x → DV X.K H e x → Dt.eq d e = true := by
  intro n
  induction n with
  | zero =>
    intro d e x hn h1 h2
    cases d with
    | lst ds => unfold Dt.dep at hn; omega
    | tup ds => unfold Dt.dep at hn; omega
    | non => unfold DV at h1; subst h1; cases e <;> unfold DV at h2 <;> first | (cases h2; done) | (obtain ⟨_, _, z, _⟩ := h2; cases z; done) | (unfold Dt.eq; rfl)
    | bl b => unfold DV at h1; subst h1; cases e <;> unfold DV at h2 <;> first | (cases h2; unfold Dt.eq; simp; done) | (obtain ⟨_, _, z, _⟩ := h2; cases z; done) | (cases h2; done)
    | int b => unfold DV at h1; subst h1; cases e <;> unfold DV at h2 <;> first | (cases h2; unfold Dt.eq; simp; done) | (obtain ⟨_, _, z, _⟩ := h2; cases z; done) | (cases h2; done)
    | str b => unfold DV at h1; subst h1; cases e <;> unfold DV at h2 <;> first | (cases h2; unfold Dt.eq; simp; done) | (obtain ⟨_, _, z, _⟩ := h2; cases z; done) | (cases h2; done)
  | succ n ih =>
    intro d e x hn h1 h2
    have lists : ∀ (ds es : List Dt) (xs : List V), Dt.deps ds ≤ n → DVs X.K H ds xs → DVs X.K H es xs → Dt.eqs ds es = true := by
      intro ds es xs hd a b
      have l1 := a.length
      have l2 := b.length
      rw [← Dt.eqs_range ds es (l1.trans l2.symm), List.all_eq_true]
      intro j hj
      have hj' : j < ds.length := List.mem_range.mp hj
      have e1 : ds[j]? = some ds[j] := List.getElem?_eq_getElem hj'
      have e2 : es[j]? = some (es[j]'(by omega)) := List.getElem?_eq_getElem (by omega)
      have e3 : xs[j]? = some (xs[j]'(by omega)) := List.getElem?_eq_getElem (by omega)
      rw [List.getD_eq_getElem?_getD, List.getD_eq_getElem?_getD, e1, e2]
      exact ih _ _ _ (Nat.le_trans (Dt.dep_le e1) hd) (a.get e1 e3) (b.get e2 e3)
    cases d with
    | lst ds =>
      unfold Dt.dep at hn
      unfold DV at h1
      obtain ⟨a, xs, rfl, q1, r1⟩ := h1
      cases e with
      | lst es =>
        unfold DV at h2
        obtain ⟨b, ys, z, q2, r2⟩ := h2
        cases z
        rw [I.list_inj q2 q1] at r2
        unfold Dt.eq
        exact lists ds es xs (by omega) r1 r2
      | tup es =>
        unfold DV at h2
        obtain ⟨b, ys, z, q2, r2⟩ := h2
        cases z
        obtain ⟨i1, _, p1, _⟩ := I.list q1
        obtain ⟨i2, _, p2, _⟩ := I.tuple q2
        obtain ⟨o1, g1, c1, _⟩ := p1.isList
        have p2' : s.heap.IsTuple a i2.toArray := p2
        obtain ⟨o2, g2, c2, _⟩ := p2'
        rw [g1] at g2
        cases g2
        rw [c1] at c2
        exact absurd c2 (by decide)
      | non => unfold DV at h2; cases h2
      | bl b => unfold DV at h2; cases h2
      | int b => unfold DV at h2; cases h2
      | str b => unfold DV at h2; cases h2
    | tup ds =>
      unfold Dt.dep at hn
      unfold DV at h1
      obtain ⟨a, xs, rfl, q1, r1⟩ := h1
      cases e with
      | tup es =>
        unfold DV at h2
        obtain ⟨b, ys, z, q2, r2⟩ := h2
        cases z
        rw [I.tuple_inj q2 q1] at r2
        unfold Dt.eq
        exact lists ds es xs (by omega) r1 r2
      | lst es =>
        unfold DV at h2
        obtain ⟨b, ys, z, q2, r2⟩ := h2
        cases z
        obtain ⟨i1, _, p1, _⟩ := I.list q2
        obtain ⟨i2, _, p2, _⟩ := I.tuple q1
        obtain ⟨o1, g1, c1, _⟩ := p1.isList
        have p2' : s.heap.IsTuple a i2.toArray := p2
        obtain ⟨o2, g2, c2, _⟩ := p2'
        rw [g1] at g2
        cases g2
        rw [c1] at c2
        exact absurd c2 (by decide)
      | non => unfold DV at h2; cases h2
      | bl b => unfold DV at h2; cases h2
      | int b => unfold DV at h2; cases h2
      | str b => unfold DV at h2; cases h2
    | non => exact ih _ e x (by unfold Dt.dep; omega) h1 h2
    | bl b => exact ih _ e x (by unfold Dt.dep; omega) h1 h2
    | int b => exact ih _ e x (by unfold Dt.dep; omega) h1 h2
    | str b => exact ih _ e x (by unfold Dt.dep; omega) h1 h2
end
end L2
namespace L2
open PySem PySem.Spec PyProof.Rows PySem.SeqAt
section
variable {X : Cx} {pins : List (Addr × Obj)} {σ : St} {H : Hp} {s : Shared}
end
section
variable {X : Cx}
end
noncomputable def Dt.ints (ns : List Int) : List Dt := ns.map Dt.int
theorem dvs_ints {K : PySem.W.Frag} {H : Hp} : ∀ ns : List Int, DVs K H (Dt.ints ns) (ns.map V.int)
  | [] => by unfold Dt.ints DVs; rfl
  | n :: r => by
    show DVs K H (Dt.int n :: Dt.ints r) (V.int n :: r.map V.int)
    unfold DVs
    exact ⟨_, _, rfl, by unfold DV; rfl, dvs_ints r⟩
theorem deps_ints : ∀ ns : List Int, Dt.deps (Dt.ints ns) = 0
  | [] => by unfold Dt.ints Dt.deps; rfl
  | n :: r => by
    show Dt.deps (Dt.int n :: Dt.ints r) = 0
    unfold Dt.deps
    rw [deps_ints r]
    unfold Dt.dep
    rfl
section
variable {H : Hp} {Q : VK} {K : PySem.W.Frag} {a b : Addr}
end
mutual
theorem DV.keep {K : PySem.W.Frag} {H H' : Hp} (s : Same H H') : ∀ {d : Dt} {v : V}, DV K H d v → DV K H' d v
  | .non, v, h => by unfold DV at h ⊢; exact h
  | .bl b, v, h => by unfold DV at h ⊢; exact h
  | .int i, v, h => by unfold DV at h ⊢; exact h
  | .str x, v, h => by unfold DV at h ⊢; exact h
  | .lst ds, v, h => by
    unfold DV at h ⊢
    obtain ⟨a, xs, e, q, r⟩ := h
    exact ⟨a, xs, e, s.seq q, DVs.keep s r⟩
  | .tup ds, v, h => by
    unfold DV at h ⊢
    obtain ⟨a, xs, e, q, r⟩ := h
    exact ⟨a, xs, e, s.tup q, DVs.keep s r⟩
theorem DVs.keep {K : PySem.W.Frag} {H H' : Hp} (s : Same H H') : ∀ {ds : List Dt} {xs : List V}, DVs K H ds xs → DVs K H' ds xs
  | [], xs, h => by unfold DVs at h ⊢; exact h
  | d :: r, xs, h => by
    unfold DVs at h ⊢
    obtain ⟨x, t, e, h1, h2⟩ := h
    exact ⟨x, t, e, DV.keep s h1, DVs.keep s h2⟩
end
end L2
namespace L2
open PySem PySem.Spec PyProof.Rows Builtin Builtin.Str

end L2
namespace L2
open PySem PySem.Spec PyProof.Rows Builtin Builtin.Str

noncomputable abbrev RM := V → List V → Hp → VK → Prop
section
variable {X : Cx}
variable {o e : Expr} {es : List Expr} {to : TE} {t : TA} {apos cpos : Pos}
end
section
variable {X : Cx} {H : Hp} {Q : VK} {K : PySem.W.Frag} {z y : Str} {p : Addr} {ts : List Str}
end
end L2
namespace L2
open PySem PySem.Spec PyProof.Rows Builtin Builtin.Str

end L2
namespace L2
open PySem PySem.Spec PyProof.Rows Builtin Builtin.Str

noncomputable def rIsN : R2 := fun x y H Q => y = .non ∧ Q (.bl (decide (x = .non))) H
section
variable {X : Cx} {σ : St} {H : Hp} {Q : VK} {K : PySem.W.Frag} {z y : Str} {R : Prop}
theorem op_isNn : OpR X (compareOp .Is) rIsN := op_isN
theorem rd_isN0 (q : Q (.bl true) H) : rIsN .non .non H Q := ⟨rfl, by rw [decide_eq_true rfl]; exact q⟩
end
theorem atI_some {α : Type} {xs : List α} {i : Int} (h0 : 0 ≤ i) (h : i < xs.length) : ∃ c, atI xs i = some c ∧ xs[i.toNat]? = some c := by
  have hl : i.toNat < xs.length := by omega
  exact ⟨xs[i.toNat], atI_nat' (i := i.toNat) (by simp [hl]) (by omega), by simp [hl]⟩
section
variable {H : Hp} {Q : VK} {z y : Str} {i : Int} {lo hi : Option Int}
end
end L2
namespace L2
open PySem PySem.Spec PyProof.Rows
noncomputable def rListOf (K : PySem.W.Frag) : RC := fun xs H Q => ∃ p ys, xs = [.ref p] ∧ (SqL K H p ys ∨ SqT K H p ys) ∧ ∀ l, H l = none → Q (.ref l) (upd H l (.lst ys))
theorem ct_list {X : Cx} : CallR X (.type "list") (rListOf X.K) := call_list_of
section
variable {H : Hp} {Q : VK} {K : PySem.W.Frag} {p : Addr} {xs : List V}
theorem rd_listL (h : SqL K H p xs) (q : ∀ l, H l = none → Q (.ref l) (upd H l (.lst xs))) : rListOf K [.ref p] H Q := ⟨p, xs, rfl, .inl h, q⟩
end
end L2
namespace L2
open PySem PySem.Spec PyProof.Rows
structure ClsF (K : PySem.W.Frag) (mg : Str → Option Value) (x : Str) (C : Addr) : Prop where
  cl : Cls K C
  ms : PySem.W.makesIn K C = true
  kc : PySem.W.keepIn K (.ref C) = true
  mgC : mg x = some (.ref C)
noncomputable def MethAt (K : PySem.W.Frag) (C : Addr) (m qual : Str) (st : Stmt) : Prop := ∃ f fd, Fun K m qual st f fd ∧ PySem.W.findIn K (.ref C) m = some (some (.ref f)) ∧ PySem.W.isFn K (.ref f) = true
noncomputable def MCal (P : Program) (w : World) (K : PySem.W.Frag) (mg : Str → Option Value) (base : Heap) (k : Nat) (C : Addr) (m : Str) (sp : Sp) : Prop :=
  Cls K C ∧ ∃ f fd ps, Meth K C m f ∧ FnOk P w K mg base CX0 k f fd ps sp ∧ Binds K fd ps []
noncomputable def ICal (P : Program) (w : World) (K : PySem.W.Frag) (mg : Str → Option Value) (base : Heap) (k : Nat) (x : Str) (C : Addr) (sp : Sp) : Prop :=
  mg x = some (.ref C) ∧ ∃ f fd ps, Mk K C f ∧ FnOk P w K mg base CX0 k f fd ps sp ∧ Binds K fd ps []
section
variable {P : Program} {w : World} {K : PySem.W.Frag} {mg : Str → Option Value} {base : Heap}
theorem methAt_mk {C : Addr} {m qual : Str} {st : Stmt} {f : Addr} {oc : Value} {od an : Option Addr} {osl : Array (Option Value)} {kV doc pm cdv ct : Value}
    (a : PySem.W.findIn K (.ref C) m = some (some (.ref f))) (i : PySem.W.isFn K (.ref f) = true) (l : K.lookup f = some ⟨oc, od, .func (PySem.W.fnOf m qual (defArgs st) (defBody st) (defScope st) .none kV doc pm an cdv ct), osl⟩)
    (c : PySem.W.codeIn K cdv qual = true) (k : PySem.W.keepIn K (.ref f) = true) : MethAt K C m qual st := ⟨f, _, fun_mk l c k, a, i⟩
theorem mcal_of {C : Addr} {m qual : Str} {st : Stmt} {N ps : List Str} {k : Nat} {sp : Sp} (D : MethAt K C m qual st) (c : Cls K C) (S : FnScope N ps (defScope st)) (len : ∀ vs H Q E, sp vs H Q E → vs.length = ps.length)
    (hb : ∀ (kV doc pm : Value) (an : Option Addr) (cdv ct : Value) (us : List Value), us.length = ps.length → bindArgs (PySem.W.fnOf m qual (defArgs st) (defBody st) (defScope st) .none kV doc pm an cdv ct) ⟨us, []⟩ = pure (ps.zip us))
    (hbody : ∀ (f : Addr) (cdv : Value) (A : Around) (outer : List Env) (s : Shared) (H : Hp) (vs : List V) (Q : VK) (E : XK), Room k (A.deeper (envOfC qual (defScope st) s.heap.objs.size f cdv)) → sp vs H Q E →
      ∃ t, PSs (cxOf CX0 P w K mg base N qual (defScope st) f cdv A outer s H E).nox (defBody st) t ∧ t { nx := fun _ H' => Q .non H', rt := Q } (start N vs) H) : MCal P w K mg base (k + 1) C m sp := by
  obtain ⟨f, fd, F, a, i⟩ := D
  exact ⟨c, f, fd, ps, ⟨a, i, F.kp⟩, F.ok S len (hbody f), F.binds hb⟩
theorem ical_of {C : Addr} {x qual : Str} {st : Stmt} {N ps : List Str} {k : Nat} {sp : Sp} (D : MethAt K C "__init__" qual st) (c : ClsF K mg x C) (S : FnScope N ps (defScope st)) (len : ∀ vs H Q E, sp vs H Q E → vs.length = ps.length)
    (hb : ∀ (kV doc pm : Value) (an : Option Addr) (cdv ct : Value) (us : List Value), us.length = ps.length → bindArgs (PySem.W.fnOf "__init__" qual (defArgs st) (defBody st) (defScope st) .none kV doc pm an cdv ct) ⟨us, []⟩ = pure (ps.zip us))
    (hbody : ∀ (f : Addr) (cdv : Value) (A : Around) (outer : List Env) (s : Shared) (H : Hp) (vs : List V) (Q : VK) (E : XK), Room k (A.deeper (envOfC qual (defScope st) s.heap.objs.size f cdv)) → sp vs H Q E →
      ∃ t, PSs (cxOf CX0 P w K mg base N qual (defScope st) f cdv A outer s H E).nox (defBody st) t ∧ t { nx := fun _ H' => Q .non H', rt := Q } (start N vs) H) : ICal P w K mg base (k + 1) x C sp := by
  obtain ⟨f, fd, F, a, i⟩ := D
  exact ⟨c.mgC, f, fd, ps, ⟨c.ms, a, i, c.kc⟩, F.ok S len (hbody f), F.binds hb⟩
theorem MCal.mono {j k : Nat} {C : Addr} {m : Str} {sp : Sp} (c : MCal P w K mg base j C m sp) (h : j ≤ k) : MCal P w K mg base k C m sp :=
  let ⟨cl, f, fd, ps, M, F, b⟩ := c
  ⟨cl, f, fd, ps, M, F.mono h, b⟩
end
section
variable {X : Cx} {k : Nat} {C : Addr} {sp : Sp} {x m : Str} {p pos apos : Pos} {e o : Expr} {es : List Expr} {ta : TE} {t : TA}
theorem pe_mcal {pl : Sem Bool} (c : MCal X.prog X.w X.K X.mg X.base k C m sp) (hr : Room k X.A) (he : PE X o ta) (ha : PA X (e :: es) t)
    (hst : starEach (e :: es) X.env = (false, eval e X.env) :: starEach es X.env := by rfl) (hpl : (backTo pos (starEach es X.env)).any (·.1) = false := by rfl)
    (ht : eval (.Call (.Attribute o m apos) (e :: es) [] pos) X.env = (do
      let ov ← eval o X.env
      standAt apos.atName
      let (f, first) ← holding [ov] (getMethod ov m pl)
      callWith pos f first (backTo pos (starEach (e :: es) X.env)) (backToKw pos (keywordEach [] X.env))) := by rfl) :
    PE X (.Call (.Attribute o m apos) (e :: es) [] pos) (tMeth C m sp [] E0 ta t) := by
  obtain ⟨cl, f, fd, ps, M, F, b⟩ := c
  exact pe_meth he cl M F hr b .nil pass0 ha hst hpl ht
theorem pe_mcal0 {pl : Sem Bool} (c : MCal X.prog X.w X.K X.mg X.base k C m sp) (hr : Room k X.A) (he : PE X o ta)
    (ht : eval (.Call (.Attribute o m apos) [] [] pos) X.env = (do
      let ov ← eval o X.env
      standAt apos.atName
      let (f, first) ← holding [ov] (getMethod ov m pl)
      callWith pos f first (backTo pos (starEach [] X.env)) (backToKw pos (keywordEach [] X.env))) := by rfl) :
    PE X (.Call (.Attribute o m apos) [] [] pos) (tMeth C m sp [] E0 ta tNil) := by
  obtain ⟨cl, f, fd, ps, M, F, b⟩ := c
  exact pe_meth0 he cl M F hr b .nil pass0 ht
theorem pe_ical (c : ICal X.prog X.w X.K X.mg X.base k x C sp) (hr : Room (k + 1) X.A) (hg : Gl X x) (ha : PA X (e :: es) t) (hdb : (x == ("__debug__" : Str)) = false := by decide)
    (he : starEach (e :: es) X.env = (false, eval e X.env) :: starEach es X.env := by rfl) (hpl : (backTo pos (starEach es X.env)).any (·.1) = false := by rfl) :
    PE X (.Call (.Name x p) (e :: es) [] pos) (tMake C sp [] E0 t) := by
  obtain ⟨m, f, fd, ps, M, F, b⟩ := c
  exact pe_make M F hr hg m b .nil pass0 ha hdb he hpl
noncomputable def tMethD (T : Addr → Sp → Prop) (m : Str) (ta : TE) (t : TA) : TE := fun σ H Q => ta σ H fun x H1 => ∃ a C dx fs sp, x = .ref a ∧ H1 a = some (.ins C dx fs) ∧ fs.lookup m = none ∧ T C sp ∧ t σ H1 fun vs H2 => sp (x :: vs) H2 Q E0
theorem pe_methD {pl : Sem Bool} {T : Addr → Sp → Prop} (c : ∀ C sp, T C sp → MCal X.prog X.w X.K X.mg X.base k C m sp) (hr : Room k X.A) (he : PE X o ta) (ha : PA X (e :: es) t)
    (hst : starEach (e :: es) X.env = (false, eval e X.env) :: starEach es X.env := by rfl) (hpl : (backTo pos (starEach es X.env)).any (·.1) = false := by rfl)
    (ht : eval (.Call (.Attribute o m apos) (e :: es) [] pos) X.env = (do
      let ov ← eval o X.env
      standAt apos.atName
      let (f, first) ← holding [ov] (getMethod ov m pl)
      callWith pos f first (backTo pos (starEach (e :: es) X.env)) (backToKw pos (keywordEach [] X.env))) := by rfl) :
    PE X (.Call (.Attribute o m apos) (e :: es) [] pos) (tMethD T m ta t) := by
  intro pins s σ H Q I h
  refine PySem.W.methodCall_KW (pl := pl) (thn (he pins s σ H _ I h) fun u s1 ⟨x, H1, I1, rx, a, C, dx, fs, sp, ex, ea, l, hT, q⟩ => ?_) ht
  obtain ⟨cl, f, fd, ps, M, F, b⟩ := c C sp hT
  subst ex
  obtain rfl : u = Value.ref a := rx
  refine getmeth_ok I1 ea cl M l ?_
  refine PySem.W.callWith_K (first := [.ref a]) (h₀ := X.base) I.ok.mod.kin M.kp (thn (ha pos pins s1 σ H1 _ I1 q) fun us s2 ⟨vs, H2, I2, r, q2⟩ => ⟨I2.kIn, ?_⟩) hst hpl
  exact run_fn (us := .ref a :: us) (vs := .ref a :: vs) (dvs := []) (E := E0) F hr b .nil pass0 I2 (.cons rfl r) (by rw [List.append_nil]; exact q2)
theorem pe_methD0 {pl : Sem Bool} {T : Addr → Sp → Prop} (c : ∀ C sp, T C sp → MCal X.prog X.w X.K X.mg X.base k C m sp) (hr : Room k X.A) (he : PE X o ta)
    (ht : eval (.Call (.Attribute o m apos) [] [] pos) X.env = (do
      let ov ← eval o X.env
      standAt apos.atName
      let (f, first) ← holding [ov] (getMethod ov m pl)
      callWith pos f first (backTo pos (starEach [] X.env)) (backToKw pos (keywordEach [] X.env))) := by rfl) :
    PE X (.Call (.Attribute o m apos) [] [] pos) (tMethD T m ta tNil) := by
  intro pins s σ H Q I h
  refine PySem.W.methodCall_KW (pl := pl) (thn (he pins s σ H _ I h) fun u s1 ⟨x, H1, I1, rx, a, C, dx, fs, sp, ex, ea, l, hT, q⟩ => ?_) ht
  obtain ⟨cl, f, fd, ps, M, F, b⟩ := c C sp hT
  subst ex
  obtain rfl : u = Value.ref a := rx
  refine getmeth_ok I1 ea cl M l ?_
  exact PySem.W.callWith_K0 (first := [.ref a]) I1.kIn M.kp (run_fn (us := [.ref a]) (vs := [.ref a]) (dvs := []) (E := E0) F hr b .nil pass0 I1 (.cons rfl .nil) q)
end
section
variable {σ : St} {H : Hp} {Q : VK} {K : PySem.W.Frag} {a C dx : Addr} {fs : List (Str × V)} {f m : Str} {v : V} {D : Ends} {sp : Sp}
theorem rd_fld {ta : TE} (q : ta σ H fun x H1 => ∃ a C dx fs v, x = .ref a ∧ H1 a = some (.ins C dx fs) ∧ Cls K C ∧ NoAttr K C f ∧ fs.lookup f = some v ∧ Q v H1) : tFld K ta f σ H Q := q
theorem rd_fldA {R : V → Prop} (h : H a = some (.ins C dx fs)) (c : Cls K C) (n : NoAttr K C f) (l : fs.lookup f = some v) (q : R v) : ∃ a' C dx fs v, V.ref a = .ref a' ∧ H a' = some (.ins C dx fs) ∧ Cls K C ∧ NoAttr K C f ∧ fs.lookup f = some v ∧ R v := ⟨a, C, dx, fs, v, rfl, h, c, n, l, q⟩
theorem rd_sfld {ta tv : TE} (q : tv σ H fun y H1 => ta σ H1 fun x H2 => ∃ a C dx fs, x = .ref a ∧ H2 a = some (.ins C dx fs) ∧ Cls K C ∧ NoAttr K C f ∧ fs.length < 1000 ∧ D.nx σ (upd H2 a (.ins C dx (putF f y fs)))) : sFld K ta tv f D σ H := q
theorem rd_sfldA {R : Hp → Prop} {y : V} (h : H a = some (.ins C dx fs)) (c : Cls K C) (n : NoAttr K C f) (l : fs.length < 1000) (q : R (upd H a (.ins C dx (putF f y fs)))) : ∃ a' C dx fs, V.ref a = .ref a' ∧ H a' = some (.ins C dx fs) ∧ Cls K C ∧ NoAttr K C f ∧ fs.length < 1000 ∧ R (upd H a' (.ins C dx (putF f y fs))) := ⟨a, C, dx, fs, rfl, h, c, n, l, q⟩
theorem rd_meth {ta : TE} {t : TA} (q : ta σ H fun x H1 => ∃ a dx fs, x = .ref a ∧ H1 a = some (.ins C dx fs) ∧ fs.lookup m = none ∧ t σ H1 fun vs H2 => sp (x :: (vs ++ [])) H2 Q E0) : tMeth C m sp [] E0 ta t σ H Q := q
theorem rd_methA {R : Prop} (h : H a = some (.ins C dx fs)) (l : fs.lookup m = none) (q : R) : ∃ a' dx fs, V.ref a = .ref a' ∧ H a' = some (.ins C dx fs) ∧ fs.lookup m = none ∧ R := ⟨a, dx, fs, rfl, h, l, q⟩
theorem rd_dnewK (q : ∀ p, H p = none → Q (.ref p) (upd H p (.dK []))) : tDNewK σ H Q := q
theorem rd_dget2 {td ty tx : TE} (q : td σ H fun x H1 => ∃ a, x = .ref a ∧ IsD H1 a ∧ ty σ H1 fun y H2 => tx σ H2 fun z H3 => ∃ o, DGet H3 a y o ∧ Q (o.getD z) H3) : tDGet2 td ty tx σ H Q := q
theorem isD_k {kvs : List (Key × V)} (h : H a = some (.dK kvs)) : IsD H a := .inl ⟨kvs, .inl h⟩
end
section
variable {σ : St} {H : Hp} {Q : VK} {a : Addr} {kvs : List (Key × V)} {k : Key} {v : V} {R : Prop}
theorem rd_dput {td ty tv : TE} {D : Ends} (q : tv σ H fun v H1 => td σ H1 fun x H2 => ty σ H2 fun y H3 => ∃ a H4, x = .ref a ∧ DPut H3 a y v H4 ∧ D.nx σ H4) : sDPut td ty tv D σ H := q
theorem rd_dputA {S : Hp → Prop} {i : Int} (h : H a = some (.dK kvs)) (hl : kvs.length < sizeLine) (q : S (upd H a (.dK (putK kvs (Sum.inl i) v)))) : ∃ a' H4, V.ref a = .ref a' ∧ DPut H a' (.int i) v H4 ∧ S H4 := ⟨a, _, rfl, DPut.k (k := Sum.inl i) h hl, q⟩
end
theorem SqL.updI {K : PySem.W.Frag} {H : Hp} {a p C dx : Addr} {fs : List (Str × V)} {xs : List V} {o : HO} (h : SqL K H a xs) (n : H p = some (.ins C dx fs)) : SqL K (upd H p o) a xs := by
  rcases h with (h | ⟨ob, h⟩) | h
  · exact .inl (.inl (by rw [upd_ne (ne_of h n (by intro z; cases z))]; exact h))
  · exact .inl (.inr ⟨ob, by rw [upd_ne (ne_of h n (by intro z; cases z))]; exact h⟩)
  · exact .inr h
end L2
namespace L2
open PySem PySem.Spec PyProof.Rows
theorem Same.wr {H H' : Hp} {l : Addr} {o : HO} (s : Same H H') (n : H l = none) : Same H (upd H' l o) := fun b u e => by rw [upd_ne (ne_of_none e n)]; exact s b u e
theorem Same.fresh {H H' : Hp} {q : Addr} (s : Same H H') (hq : H' q = none) : H q = none := by
  cases e : H q with
  | none => rfl
  | some o => rw [s _ _ e] at hq; cases hq
end L2
namespace L2
open PySem PySem.Spec PyProof.Rows
section
variable {σ : St} {H : Hp} {p : Addr}
end
section
variable {σ : St} {H : Hp} {p : Addr} {xs : List V} {v : V}
theorem rd_gsub {to ti : TE} {t : TSet} {Q : St → Hp → Prop} (q : to σ H fun o H1 => ti σ H1 fun i H2 => t o i v H2 fun H3 => Q σ H3) : gSub to ti t v σ H Q := q
theorem rd_setL {Q : Hp → Prop} {k : Int} {j : Nat} (h : H p = some (.lst xs)) (hj : ixN xs.length k = some j) (q : Q (upd H p (.lst (xs.set j v)))) : rSetL (.ref p) (.int k) v H Q := ⟨p, xs, k, j, rfl, rfl, h, hj, q⟩
theorem ixN_nat {n j : Nat} {k : Int} (e : k = (j : Int)) (h : j < n) : ixN n k = some j := by
  unfold ixN
  rw [if_pos (by omega), if_pos (by omega), e, Int.toNat_natCast]
theorem ixN_neg {n j : Nat} {k : Int} (hk : k < 0) (e : k + n = (j : Int)) : ixN n k = some j := by
  unfold ixN
  rw [if_neg (by omega), if_pos (by omega), e, Int.toNat_natCast]
end
section
variable {σ : St} {H : Hp} {p a : Addr} {K : PySem.W.Frag} {xs : List V}
end
end L2
namespace L2
open PySem PySem.Spec PyProof.Rows
mutual
theorem Dt.eq_self : ∀ d : Dt, Dt.eq d d = true
  | .non => by unfold Dt.eq; rfl
  | .bl b => by unfold Dt.eq; exact beq_self_eq_true b
  | .int i => by unfold Dt.eq; exact beq_self_eq_true i
  | .str x => by unfold Dt.eq; exact beq_self_eq_true x
  | .lst ds => by unfold Dt.eq; exact Dt.eqs_self ds
  | .tup ds => by unfold Dt.eq; exact Dt.eqs_self ds
theorem Dt.eqs_self : ∀ ds : List Dt, Dt.eqs ds ds = true
  | [] => by unfold Dt.eqs; rfl
  | d :: r => by unfold Dt.eqs; rw [Dt.eq_self d, Dt.eqs_self r]; rfl
end
section
variable {K : PySem.W.Frag} {H : Hp} {Q : VK} {x y : V} {d : Dt}
theorem dv_int {i : Int} : DV K H (.int i) (.int i) := by unfold DV; rfl
theorem dv_str {i : Str} : DV K H (.str i) (.str i) := by unfold DV; rfl
theorem dvs_nil : DVs K H [] [] := by unfold DVs; rfl
theorem dvs_cons {d : Dt} {r : List Dt} {x : V} {t : List V} (h : DV K H d x) (h2 : DVs K H r t) : DVs K H (d :: r) (x :: t) := by unfold DVs; exact ⟨x, t, rfl, h, h2⟩
theorem dv_tup {a : Addr} {xs : List V} {ds : List Dt} (h : SqT K H a xs) (h2 : DVs K H ds xs) : DV K H (.tup ds) (.ref a) := by unfold DV; exact ⟨a, xs, rfl, h, h2⟩
theorem dv_lst {a : Addr} {xs : List V} {ds : List Dt} (h : SqL K H a xs) (h2 : DVs K H ds xs) : DV K H (.lst ds) (.ref a) := by unfold DV; exact ⟨a, xs, rfl, h, h2⟩
end
theorem rd_nameN {σ σ' : St} {H : Hp} {i : Nat} {v : V} {R : St → Hp → Prop} (e : σ.set i (some v) = σ') (q : R σ' H) : gName i v σ H R := by subst e; exact q
theorem rd_make {σ : St} {H : Hp} {Q : VK} {C : Addr} {sp : Sp} {t : TA} (q : t σ H fun vs H1 => ∀ x dx, H1 x = none → H1 dx = none → dx ≠ x → sp (.ref x :: (vs ++ [])) (upd (upd H1 dx (.own x)) x (.ins C dx [])) (fun v H2 => v = .non ∧ Q (.ref x) H2) E0) : tMake C sp [] E0 t σ H Q := q
theorem Same.made {H H' : Hp} {x dx C : Addr} {o : HO} (hx : H x = none) (hd : H dx = none) (k : ∀ b u, (upd (upd H dx o) x (.ins C dx [])) b = some u → b ≠ x → H' b = some u) : Same H H' := fun b u e =>
  k b u (by rw [upd_ne (ne_of_none e hx), upd_ne (ne_of_none e hd)]; exact e) (ne_of_none e hx)
end L2
namespace L2
open PySem PySem.Spec PyProof.Rows
noncomputable def Imm (u : HO) : Prop := (∃ xs, u = .tup xs) ∨ ∃ o w, u = .frz o w
noncomputable def SameI (H H' : Hp) : Prop := ∀ b u, H b = some u → Imm u → H' b = some u
theorem SameI.refl (H : Hp) : SameI H H := fun _ _ h _ => h
theorem SameI.trans {H H1 H2 : Hp} (a : SameI H H1) (b : SameI H1 H2) : SameI H H2 := fun c u h i => b c u (a c u h i) i
theorem Same.imm {H H' : Hp} (s : Same H H') : SameI H H' := fun b u h _ => s b u h
theorem SameI.upd {H : Hp} {a : Addr} {u o : HO} (h : H a = some u) (n : ¬ Imm u) : SameI H (upd H a o) := fun b v e i => by
  rw [upd_ne (ne_of e h (fun z => n (z ▸ i)))]; exact e
theorem SameI.new {H : Hp} {a : Addr} {o : HO} (h : H a = none) : SameI H (L2.upd H a o) := (Same.new h).imm
theorem SameI.tup {K : PySem.W.Frag} {H H' : Hp} {a : Addr} {xs : List V} (e : SameI H H') (h : SqT K H a xs) : SqT K H' a xs := by
  rcases h with (h | ⟨o, h⟩) | h
  · exact .inl (.inl (e _ _ h (.inl ⟨_, rfl⟩)))
  · exact .inl (.inr ⟨o, e _ _ h (.inr ⟨_, _, rfl⟩)⟩)
  · exact .inr h
theorem notImm_lst {xs : List V} : ¬ Imm (.lst xs) := by rintro (⟨_, z⟩ | ⟨_, _, z⟩) <;> cases z
theorem notImm_dK {kvs : List (Key × V)} : ¬ Imm (.dK kvs) := by rintro (⟨_, z⟩ | ⟨_, _, z⟩) <;> cases z
theorem notImm_ins {C dx : Addr} {fs : List (Str × V)} : ¬ Imm (.ins C dx fs) := by rintro (⟨_, z⟩ | ⟨_, _, z⟩) <;> cases z
noncomputable def SameND (H H' : Hp) : Prop := ∀ b u, H b = some u → (∀ kvs, u ≠ .dK kvs) → H' b = some u
theorem SameND.refl (H : Hp) : SameND H H := fun _ _ h _ => h
theorem SameND.trans {H H1 H2 : Hp} (a : SameND H H1) (b : SameND H1 H2) : SameND H H2 := fun c u h i => b c u (a c u h i) i
theorem Same.nd {H H' : Hp} (s : Same H H') : SameND H H' := fun b u h _ => s b u h
theorem SameND.imm {H H' : Hp} (s : SameND H H') : SameI H H' := fun b u h i => s b u h (by
  rintro kvs rfl
  exact notImm_dK i)
theorem SameND.seq {K : PySem.W.Frag} {H H' : Hp} {a : Addr} {xs : List V} (e : SameND H H') (h : SqL K H a xs) : SqL K H' a xs := by
  rcases h with (h | ⟨o, h⟩) | h
  · exact .inl (.inl (e _ _ h (by intro _ z; cases z)))
  · exact .inl (.inr ⟨o, e _ _ h (by intro _ z; cases z)⟩)
  · exact .inr h
noncomputable abbrev Row := Str × Option Int
noncomputable def rowVs : Row → List V
  | (w, none) => [.str w]
  | (w, some n) => [.str w, .int n]
noncomputable def rowD : Row → Dt
  | (w, none) => .tup [.str w]
  | (w, some n) => .tup [.str w, .int n]
noncomputable def RowAt (K : PySem.W.Frag) (H : Hp) (r : Row) (v : V) : Prop := ∃ t, v = .ref t ∧ SqT K H t (rowVs r)
noncomputable def RowsAt (K : PySem.W.Frag) (H : Hp) (rs : List Row) (xs : List V) : Prop := rs.length = xs.length ∧ ∀ (i : Nat) (r : Row) (x : V), rs[i]? = some r → xs[i]? = some x → RowAt K H r x
theorem RowAt.keep {K : PySem.W.Frag} {H H' : Hp} {r : Row} {v : V} (h : RowAt K H r v) (s : SameI H H') : RowAt K H' r v := let ⟨t, e, q⟩ := h; ⟨t, e, s.tup q⟩
theorem RowsAt.keep {K : PySem.W.Frag} {H H' : Hp} {rs : List Row} {xs : List V} (h : RowsAt K H rs xs) (s : SameI H H') : RowsAt K H' rs xs := ⟨h.1, fun i r x h1 h2 => (h.2 i r x h1 h2).keep s⟩
theorem RowsAt.nil {K : PySem.W.Frag} {H : Hp} : RowsAt K H [] [] := ⟨rfl, fun i r x h => by simp at h⟩
theorem RowsAt.tail {K : PySem.W.Frag} {H : Hp} {r : Row} {rs : List Row} {x : V} {xs : List V} (h : RowsAt K H (r :: rs) (x :: xs)) : RowAt K H r x ∧ RowsAt K H rs xs :=
  ⟨h.2 0 r x rfl rfl, by have := h.1; simpa using this, fun i r' x' h1 h2 => h.2 (i + 1) r' x' (by simpa using h1) (by simpa using h2)⟩
theorem RowsAt.cons {K : PySem.W.Frag} {H : Hp} {r : Row} {rs : List Row} {x : V} {xs : List V} (h1 : RowAt K H r x) (h : RowsAt K H rs xs) : RowsAt K H (r :: rs) (x :: xs) := by
  refine ⟨by simp [h.1], fun i r' x' e1 e2 => ?_⟩
  cases i with
  | zero => cases e1; cases e2; exact h1
  | succ i => exact h.2 i r' x' (by simpa using e1) (by simpa using e2)
theorem RowAt.dv {K : PySem.W.Frag} {H : Hp} {r : Row} {v : V} (h : RowAt K H r v) : DV K H (rowD r) v := by
  obtain ⟨t, rfl, q⟩ := h
  obtain ⟨w, o⟩ := r
  cases o with
  | none => exact dv_tup q (dvs_cons dv_str dvs_nil)
  | some n => exact dv_tup q (dvs_cons dv_str (dvs_cons dv_int dvs_nil))
theorem RowsAt.dvs {K : PySem.W.Frag} {H : Hp} : ∀ {rs : List Row} {xs : List V}, RowsAt K H rs xs → DVs K H (rs.map rowD) xs
  | [], [], _ => dvs_nil
  | r :: rs, x :: xs, h => dvs_cons h.tail.1.dv h.tail.2.dvs
  | [], x :: xs, h => by have := h.1; simp at this
  | r :: rs, [], h => by have := h.1; simp at this
noncomputable def putFn (f : Int → Int) (i v : Int) : Int → Int := fun j => if j = i then v else f j
noncomputable def DictF (H : Hp) (d : Addr) (f : Int → Int) (m : Nat) : Prop := ∃ kvs, H d = some (.dK kvs) ∧ kvs.length ≤ m ∧ ∀ i : Int, (valV kvs (Sum.inl i : Key)).getD (.int 0) = .int (f i)
noncomputable def StoreAt (H : Hp) (d : Addr) (f : Int → Int) (m : Nat) : Prop := ∃ kvs, H d = some (.dK kvs) ∧ kvs.length ≤ m ∧ (kvs.map (·.1)).Nodup ∧ (∀ p ∈ kvs, ∃ i n : Int, p = (Sum.inl i, .int n) ∧ n ≠ 0) ∧ ∀ i : Int, (valV kvs (Sum.inl i : Key)).getD (.int 0) = .int (f i)
theorem DictF.put {H : Hp} {d : Addr} {kvs : List (Key × V)} {f : Int → Int} {m : Nat} (hl : kvs.length ≤ m) (hf : ∀ i : Int, (valV kvs (Sum.inl i : Key)).getD (.int 0) = .int (f i)) (i v : Int) : DictF (upd H d (.dK (putK kvs (Sum.inl i) (.int v)))) d (putFn f i v) (m + 1) := by
  refine ⟨_, upd_same, Nat.le_trans (length_putK ..) (Nat.add_le_add_right hl 1), fun j => ?_⟩
  rw [valV_put]
  unfold putFn
  by_cases e : j = i
  · subst e
    rw [if_pos rfl, if_pos rfl]
    rfl
  · rw [if_neg (fun z => e (Sum.inl.inj z)), if_neg e]
    exact hf j
theorem valV_drop {κ : Type} [DecidableEq κ] (k j : κ) : ∀ kvs : List (κ × V), valV (dropK kvs k) j = if j = k then none else valV kvs j
  | [] => by
    have : dropK ([] : List (κ × V)) k = [] := rfl
    rw [this, valV_nil]
    split <;> rfl
  | p :: r => by
    have ih := valV_drop k j r
    by_cases e : p.1 = k
    · rw [dropK_pos e, ih]
      by_cases z : j = k
      · rw [if_pos z, if_pos z]
      · rw [if_neg z, if_neg z, valV_neg (fun q => z (q.symm.trans e))]
    · rw [dropK_neg e]
      by_cases q : p.1 = j
      · rw [valV_pos q, valV_pos q, if_neg (fun z => e (q.trans z))]
      · rw [valV_neg q, valV_neg q, ih]
theorem keys_putK {κ : Type} [DecidableEq κ] {kvs : List (κ × V)} {k : κ} (v : V) (hn : (kvs.map (·.1)).Nodup) : ((putK kvs k v).map (·.1)).Nodup := by
  cases e : valV kvs k with
  | none => exact nd_putK v hn e
  | some u =>
    have hk : (kvs.any fun kv => decide (kv.1 = k)) = true := by rw [valV_any, e]; rfl
    unfold putK
    rw [if_pos hk, List.map_map]
    have : ((fun x : κ × V => x.1) ∘ fun kv : κ × V => if kv.1 = k then (kv.1, v) else kv) = fun x => x.1 := by
      funext x
      show (if x.1 = k then (x.1, v) else x).1 = x.1
      split <;> rfl
    rw [this]
    exact hn
theorem mem_putK {κ : Type} [DecidableEq κ] {kvs : List (κ × V)} {k : κ} {v : V} {p : κ × V} (h : p ∈ putK kvs k v) : p = (k, v) ∨ p ∈ kvs := by
  unfold putK at h
  split at h
  · obtain ⟨q, hq, e⟩ := List.mem_map.mp h
    by_cases z : q.1 = k
    · rw [if_pos z] at e; left; rw [← e, z]
    · rw [if_neg z] at e; right; rw [← e]; exact hq
  · rcases List.mem_append.mp h with h | h
    · exact .inr h
    · exact .inl (List.mem_singleton.mp h)
theorem StoreAt.put {H : Hp} {d : Addr} {kvs : List (Key × V)} {f : Int → Int} {m : Nat} (hl : kvs.length ≤ m) (hn : (kvs.map (·.1)).Nodup) (hz : ∀ p ∈ kvs, ∃ i n : Int, p = (Sum.inl i, .int n) ∧ n ≠ 0) (hf : ∀ i : Int, (valV kvs (Sum.inl i : Key)).getD (.int 0) = .int (f i)) (i v : Int) (hv : v ≠ 0) :
    StoreAt (upd H d (.dK (putK kvs (Sum.inl i) (.int v)))) d (putFn f i v) (m + 1) := by
  obtain ⟨kvs', e1, e2, e3⟩ := DictF.put (H := H) (d := d) hl hf i v
  rw [upd_same] at e1
  cases e1
  refine ⟨_, upd_same, e2, keys_putK _ hn, fun p hp => ?_, e3⟩
  rcases mem_putK hp with rfl | hp
  · exact ⟨i, v, rfl, hv⟩
  · exact hz p hp
theorem StoreAt.drop {H : Hp} {d : Addr} {kvs : List (Key × V)} {f : Int → Int} {m : Nat} (hl : kvs.length ≤ m) (hn : (kvs.map (·.1)).Nodup) (hz : ∀ p ∈ kvs, ∃ i n : Int, p = (Sum.inl i, .int n) ∧ n ≠ 0) (hf : ∀ i : Int, (valV kvs (Sum.inl i : Key)).getD (.int 0) = .int (f i)) (i : Int) :
    StoreAt (upd H d (.dK (dropK kvs (Sum.inl i)))) d (putFn f i 0) (m + 1) := by
  refine ⟨_, upd_same, Nat.le_trans (dropK_le ..) (Nat.le_trans hl (Nat.le_succ _)), nd_dropK hn, fun p hp => hz p (dropK_mem hp), fun j => ?_⟩
  rw [valV_drop]
  unfold putFn
  by_cases e : j = i
  · subst e
    rw [if_pos rfl, if_pos rfl]
    rfl
  · rw [if_neg (fun z => e (Sum.inl.inj z)), if_neg e]
    exact hf j
theorem StoreAt.same {H H' : Hp} {d : Addr} {f : Int → Int} {m : Nat} (h : StoreAt H d f m) (e : H' d = H d) : StoreAt H' d f m := let ⟨kvs, a, b⟩ := h; ⟨kvs, e.trans a, b⟩
theorem DictF.same {H H' : Hp} {d : Addr} {f : Int → Int} {m : Nat} (h : DictF H d f m) (e : H' d = H d) : DictF H' d f m := let ⟨kvs, a, b⟩ := h; ⟨kvs, e.trans a, b⟩
theorem StoreAt.le {H : Hp} {d : Addr} {f : Int → Int} {m m' : Nat} (h : StoreAt H d f m) (e : m ≤ m') : StoreAt H d f m' := let ⟨kvs, a, b, c⟩ := h; ⟨kvs, a, Nat.le_trans b e, c⟩
theorem DictF.le {H : Hp} {d : Addr} {f : Int → Int} {m m' : Nat} (h : DictF H d f m) (e : m ≤ m') : DictF H d f m' := let ⟨kvs, a, b, c⟩ := h; ⟨kvs, a, Nat.le_trans b e, c⟩
section
variable {σ : St} {H : Hp} {Q : VK} {a : Addr} {kvs : List (Key × V)}
theorem rd_dpop2 {td ty tx : TE} (q : td σ H fun x H1 => ∃ a, x = .ref a ∧ IsD H1 a ∧ ty σ H1 fun y H2 => tx σ H2 fun z H3 => ∃ kvs k, H3 a = some (.dK kvs) ∧ y = kV k ∧ (∀ v, valV kvs k = some v → Q v (upd H3 a (.dK (dropK kvs k)))) ∧ (valV kvs k = none → Q z H3)) : tDPop2 td ty tx σ H Q := q
end
end L2
namespace L2
open PySem PySem.Spec PyProof.Rows
section
variable {σ : St} {H : Hp} {K : PySem.W.Frag} {a l : Addr} {xs : List V} {n : Nat} {t : TGs} {Q : St → Hp → Prop} {v : V} {r : List V} {g : TG} {u : TGs}
end
end L2
namespace L2
open PySem PySem.Spec PyProof.Rows
section
variable {σ : St} {H : Hp} {p a : Addr} {K : PySem.W.Frag} {xs : List V}
noncomputable def compNx (Pv : Nat → Hp → Prop) (i : Nat) (σ : St) : St → Hp → Prop := fun σ2 H2 => Pv i H2 ∧ ∃ v, σ2 = v :: σ
theorem comp_invL {tc : TT} {te : TE} {R : Hp → Prop} (Pv : Nat → Hp → Prop) (h0 : Pv 0 (upd H p (.lst []))) (hl : ∀ i H', Pv i H' → SqL K H' a xs)
    (hs : ∀ (i : Nat) (x : V) (H' : Hp), xs[i]? = some x → Pv i H' → tc (some x :: σ) H' fun b H1 => if b = true then te (some x :: σ) H1 fun y H2 => ∃ ys, H2 p = some (.lst ys) ∧ ys.length < sizeLine ∧ compNx Pv (i + 1) σ (some x :: σ) (upd H2 p (.lst (ys ++ [y]))) else compNx Pv (i + 1) σ (some x :: σ) H1)
    (fin : ∀ H', Pv xs.length H' → R H') : tLoopC 1 (gName 0) tc te (Itl K a) p R σ H := by
  refine ⟨fun i m σ' H' => m = xs.length - i ∧ i ≤ xs.length ∧ Pv i H' ∧ ∃ v, σ' = v :: σ, ⟨xs.length, by omega, Nat.zero_le _, h0, none, rfl⟩, ?_⟩
  rintro i m σ' H' ⟨rfl, hi, hp, v, rfl⟩
  have hs' := hl i H' hp
  by_cases hlt : i < xs.length
  · refine .inr ⟨⟨xs, xs[i], hs', by simp [hlt]⟩, compNx Pv (i + 1) σ, fun σ2 H2 ⟨e, v', e'⟩ => ⟨xs.length - (i + 1), by omega, rfl, hlt, e, v', e'⟩, fun x H1 ⟨e, y⟩ => ?_⟩
    subst e
    have hx := y xs hs'
    refine rd_name ?_
    simp only [List.set_cons_zero]
    exact hs i x _ hx hp
  · have e : i = xs.length := by omega
    subst e
    exact .inl ⟨⟨xs, hs', Nat.le_refl _⟩, fin H' hp⟩
theorem rd_noIf {σ : St} {H : Hp} {R : Bool → Hp → Prop} (q : R true H) : tNoIf σ H R := q
end
theorem RowsAt.snoc {K : PySem.W.Frag} {H : Hp} {rs : List Row} {xs : List V} {r : Row} {x : V} (h : RowsAt K H rs xs) (h1 : RowAt K H r x) : RowsAt K H (rs ++ [r]) (xs ++ [x]) := by
  refine ⟨by simp [h.1], fun i r' x' e1 e2 => ?_⟩
  by_cases hi : i < rs.length
  · rw [List.getElem?_append_left hi] at e1
    rw [List.getElem?_append_left (by rw [← h.1]; exact hi)] at e2
    exact h.2 i r' x' e1 e2
  · have hi2 : i = rs.length := by
      have := (List.getElem?_eq_some_iff.mp e1).1
      simp at this
      omega
    subst hi2
    rw [List.getElem?_append_right (Nat.le_refl _), Nat.sub_self] at e1
    rw [List.getElem?_append_right (by rw [h.1]; exact Nat.le_refl _), h.1, Nat.sub_self] at e2
    cases e1
    cases e2
    exact h1
theorem RowsAt.ins {K : PySem.W.Frag} {H : Hp} {rs : List Row} {xs : List V} {r : Row} {x : V} (h : RowsAt K H rs xs) (h1 : RowAt K H r x) (k : Nat) : RowsAt K H (rs.take k ++ r :: rs.drop k) (xs.take k ++ x :: xs.drop k) := by
  have ht : RowsAt K H (rs.take k) (xs.take k) := ⟨by simp [h.1], fun i r' x' e1 e2 => by
    rw [List.getElem?_take] at e1 e2
    split at e1
    · rename_i hk
      rw [if_pos hk] at e2
      exact h.2 i r' x' e1 e2
    · cases e1⟩
  have hd : RowsAt K H (r :: rs.drop k) (x :: xs.drop k) := .cons h1 ⟨by simp [h.1], fun i r' x' e1 e2 => by
    rw [List.getElem?_drop] at e1 e2
    exact h.2 _ r' x' e1 e2⟩
  refine ⟨by rw [List.length_append, List.length_append, ht.1, hd.1], fun i r' x' e1 e2 => ?_⟩
  by_cases hi : i < (rs.take k).length
  · rw [List.getElem?_append_left hi] at e1
    rw [List.getElem?_append_left (by rw [← ht.1]; exact hi)] at e2
    exact ht.2 i r' x' e1 e2
  · rw [List.getElem?_append_right (by omega)] at e1
    rw [List.getElem?_append_right (by rw [← ht.1]; omega), ← ht.1] at e2
    exact hd.2 _ r' x' e1 e2
end L2
namespace L2
open PySem PySem.Spec PyProof.Rows PySem.Calls PySem.W
section
variable {Pr : Program} {wo : World} {Ar : Around} {Ex : Value → Shared → Prop} {sh : Shared} {Ty : String} {ro di : Addr} {cnt : Nat} {Pp : Nat → Value → Prop} {Okd : Heap → Prop}
end
section
variable {K : PySem.W.Frag} {H : Hp} {Q : VK} {d : Addr} {ns : List Int}
end
section
variable {K : PySem.W.Frag} {H : Hp} {Q : VK} {t l b : Addr}
end
end L2
namespace L2
open PySem PySem.Builtin PySem.Builtin.Str PySem.StrLaws
noncomputable def Gap (w : Nat) : List Nat → Prop
  | [] => True
  | [_] => True
  | a :: b :: r => a + w ≤ b ∧ Gap w (b :: r)
theorem Gap.tail {w a : Nat} {r : List Nat} (h : Gap w (a :: r)) : Gap w r := by
  cases r with
  | nil => trivial
  | cons b r => exact h.2
theorem Gap.ge {w a : Nat} : ∀ {r : List Nat}, Gap w (a :: r) → ∀ b ∈ r, a + w ≤ b
  | [], _, b, hb => by simp at hb
  | c :: r, h, b, hb => by
    rcases List.mem_cons.mp hb with rfl | hb
    · exact h.1
    · have := Gap.ge (r := r) h.2 b hb
      have := h.1
      omega
end L2
namespace L2
open PySem PySem.Builtin PySem.Builtin.Str PySem.StrLaws
end L2
namespace L2
open PySem PySem.Spec PyProof.Rows
section
variable {X : Cx} {pins : List (Addr × Obj)} {σ : St} {H : Hp} {s : Shared} {a : Addr} {o : Obj} {kvs : List (Key × V)}
end
end L2
namespace L2
open PySem PySem.Spec PyProof.Rows
section
variable {σ : St} {H : Hp} {Q : VK} {D : Ends} {td : TE} {g : TG} {tc : TT} {te : TE} {tb : TS} {k : Nat} {a : Addr} {o : Obj} {kvs : List (Key × V)} {p : Addr}
theorem DGet.frz {k : Key} (e : H a = some (.frz o (.dK kvs))) : DGet H a (kV k) (valV kvs k) := .inl ⟨kvs, k, .inr ⟨o, e⟩, rfl, rfl⟩
end
section
variable {K : PySem.W.Frag} {σ : St} {H : Hp} {D : Ends} {a C dx : Addr} {fs : List (Str × V)} {f : Str} {i j : Int}
theorem rd_fldaug {ta tv : TE} {rd : V → V → Hp → VK → Prop} (q : ta σ H fun x H1 => ∃ a C dx fs v, x = .ref a ∧ H1 a = some (.ins C dx fs) ∧ Cls K C ∧ NoAttr K C f ∧ fs.lookup f = some v ∧ tv σ H1 fun y H2 => rd v y H2 fun z H3 => ∃ dx' fs', H3 a = some (.ins C dx' fs') ∧ fs'.length < 1000 ∧ D.nx σ (upd H3 a (.ins C dx' (putF f z fs')))) : sFldAug K ta tv rd f D σ H := q
theorem rd_fldA2 {v : V} {R : Addr → Addr → V → Prop} (h : H a = some (.ins C dx fs)) (c : Cls K C) (n : NoAttr K C f) (l : fs.lookup f = some v) (q : R a C v) : ∃ a' C dx fs v, V.ref a = .ref a' ∧ H a' = some (.ins C dx fs) ∧ Cls K C ∧ NoAttr K C f ∧ fs.lookup f = some v ∧ R a' C v := ⟨a, C, dx, fs, v, rfl, h, c, n, l, q⟩
theorem rd_rAdd {Q : VK} (q : Q (.int (i + j)) H) : rAdd (.int i) (.int j) H Q := ⟨i, j, rfl, rfl, q⟩
theorem rd_rSub {Q : VK} (q : Q (.int (i - j)) H) : rSub (.int i) (.int j) H Q := ⟨i, j, rfl, rfl, q⟩
end
end L2
namespace L2
open PySem PySem.Spec PyProof.Rows
end L2
namespace L2
open PySem PySem.Spec PyProof.Rows PySem.Calls
section
variable {H : Hp} {Q : VK} {σ : St}
end
section
variable {H : Hp} {Q : VK} {σ : St} {K : PySem.W.Frag} {p a : Addr} {xs ys : List V}
end
end L2
namespace L2
open PySem PySem.Spec PyProof.Rows PySem.Calls
theorem KV.at {kvs : List (Key × V)} {vs : List (Key × Value)} : KV kvs vs → ∀ {i : Nat} {p : Key × V}, kvs[i]? = some p → ∃ u, vs[i]? = some (p.1, u) ∧ RelV p.2 u := by
  intro h
  unfold KV at h
  induction h with
  | nil => intro i p e; simp at e
  | @cons a b as bs ab _ ih =>
    intro i p e
    cases i with
    | zero =>
      cases e
      refine ⟨b.2, ?_, ab.2⟩
      rw [ab.1]
      rfl
    | succ i => exact ih (by simpa using e)
section
variable {σ : St} {H : Hp} {Q : VK} {D : Ends} {td : TE} {g : TG} {tb : TS} {a : Addr} {o : Obj} {kvs : List (Key × V)}
end
section
variable {σ : St} {H : Hp} {Q : VK}
end
end L2
namespace L2
open PySem PySem.Spec PyProof.Rows PySem.Calls
structure Fly (base h : Heap) (e T : Addr) (cls : Value) : Prop where
  x : ∃ oe vs oT ts, h.get? e = some oe ∧ oe.cls = cls ∧ oe.data = .fields vs ∧ vs[1]? = some (.ref T) ∧ h.get? T = some oT ∧ oT.data = .fields ts ∧ ts[3]? = some .none
  nT : base.get? T = none
  ne : T ≠ e
  dn : ∀ o, h.get? e = some o → o.dict = none
structure Gone (base : Heap) (l : List Env) (e : Addr) (cls : Value) (ch : List Addr) (h h' : Heap) : Prop where
  st : base.StaysIn h'
  fr : h'.FunFrames base l
  fly : ∃ T, Fly base h' e T cls ∧ (T ∈ ch ∨ h.objs.size ≤ T)
  keep : ∀ b o, b ∉ l.filterMap (·.frame) → b ≠ e → b ∉ ch → h.get? b = some o → h'.get? b = some o
  slot : ∀ b o, b ∈ l.filterMap (·.frame) → h.get? b = some o → ∃ sl, h'.get? b = some { o with slots := sl }
section
variable {M : Model} {A : Around} {E : Value → Shared → Prop} {s : Shared} {base : Heap} {env : Env} {outer : List Env} {L e : Addr} {Q : Unit → Shared → Prop}
end
noncomputable def CXE (P : Program) (w : World) (base : Heap) : CXT := fun outer H s E e s' => ∃ (a T C : Addr) (H' : Hp), e = .ref a ∧ Fly base s'.heap a T (.ref C) ∧ base.get? a = none ∧ H' a = none ∧ H' T = none ∧ s.heap.get? a = none ∧ s.heap.get? T = none ∧
  s'.os = s.os ∧ AllBare s'.gens ∧ Un (frs outer) [] H H' s.heap s'.heap ∧ HOk P w H' s'.heap ∧ E e (some C) H'
theorem ObjOk.is {P : Program} {w : World} {H : Hp} {h : Heap} {a : Addr} {o : HO} (x : ObjOk P w H h a o) : ∃ q, h.get? a = some q := by
  cases o with
  | lst xs => obtain ⟨_, _, _, _, e⟩ := x; exact ⟨_, e⟩
  | tup xs => obtain ⟨_, _, _, p⟩ := x; obtain ⟨_, e, _⟩ := p; exact ⟨_, e⟩
  | dK kvs => obtain ⟨_, _, _, _, o, _, _, e, _⟩ := x; exact ⟨_, e⟩
  | dT kvs => obtain ⟨_, _, _, _, o, _, _, e, _⟩ := x; exact ⟨_, e⟩
  | set S n => obtain ⟨o, _, _, _, e, _⟩ := x; exact ⟨_, e⟩
  | ins C dx fs => obtain ⟨_, _, _, e, _⟩ := x; exact ⟨_, e⟩
  | own y => exact x
  | xd fs => obtain ⟨_, ⟨_, _, _, e, _⟩, _⟩ := x; exact ⟨_, e⟩
  | rng lo hi => obtain ⟨_, _, _, e⟩ := x; exact ⟨_, e⟩
  | frz ob u => exact ⟨_, x.1⟩
  | tbl ps => exact ⟨_, x⟩
  | met f y => exact ⟨_, x⟩
  | ext φ => exact x.2.1
section
variable {X : Cx} {pins : List (Addr × Obj)} {σ : St} {H' : Hp} {s' : Shared} {h' : Heap} {a : Addr} {cls : Value} {ch : List Addr}
end
end L2
namespace L2
open PySem PySem.Spec PyProof.Rows PySem.Calls
noncomputable def CalE (P : Program) (w : World) (K : PySem.W.Frag) (mg : Str → Option Value) (base : Heap) (k : Nat) (x : Str) (sp : Sp) : Prop :=
  ∃ f, mg x = some (.ref f) ∧ ∃ fd ps, FnOk P w K mg base (CXE P w base) k f fd ps sp ∧ PySem.W.keepIn K (.ref f) = true ∧ Binds K fd ps []
theorem CalE.mono {P : Program} {w : World} {K : PySem.W.Frag} {mg : Str → Option Value} {base : Heap} {j k : Nat} {x : Str} {sp : Sp} (c : CalE P w K mg base j x sp) (h : j ≤ k) : CalE P w K mg base k x sp :=
  let ⟨f, m, fd, ps, F, kp, b⟩ := c
  ⟨f, m, fd, ps, F.mono h, kp, b⟩
section
variable {X : Cx} {pins pins' : List (Addr × Obj)} {σ σ' : St} {H : Hp} {s : Shared} {E : XK}
end
section
variable {X : Cx} {pins pins' : List (Addr × Obj)} {σ : St} {H : Hp} {s s' : Shared} {E : XK} {e : Value}
end
end L2
namespace L2
open PySem PySem.Spec PyProof.Rows PySem.Calls
end L2
namespace L2
open PySem PySem.Spec PyProof.Rows PySem.Calls
theorem lri_hint_lk : typeLookup (.type "list_reverseiterator") "__length_hint__" = pure (some (.builtin "list_reverseiterator.__length_hint__")) := by
  rw [typeLookup_type, builtinLookup_eq_fast]
  kernel_rfl
theorem lri_len : typeLookup (.type "list_reverseiterator") "__len__" = pure none := by
  rw [typeLookup_type, builtinLookup_eq_fast]
  kernel_rfl
section
variable {prog : Program} {w : World} {A : Around} {E : Value → Shared → Prop} {s : Shared} {r : Addr}
theorem lri_hint {Q : Bool → Shared → Prop} (hT : s.TypeIs (.ref r) "list_reverseiterator") (h : Q false s) : wpAny (model prog w) A (Builtin.List.listLengthHint (.ref r)) Q E s := by
  unfold Builtin.List.listLengthHint
  refine wpAny_bind (wpAny_specialOf hT lri_len ?_)
  dsimp only
  refine wpAny_ite_split (fun hab => absurd hab (by decide)) (fun _ => ?_)
  refine wpAny_ite_split (fun hab => absurd hab (by decide)) (fun _ => ?_)
  refine wpAny_bind (wpAny_specialOf hT lri_hint_lk ?_)
  generalize hid : ("list_reverseiterator.__length_hint__" : String) = id0
  wp_delta
  rw [show splitId id0 = some ("list_reverseiterator", "__length_hint__") from by subst hid; decide +kernel]
  subst hid
  refine wpAny_bind (wpAny_isInstance (T := "list_reverseiterator") (b := true) hT (by rw [isSubtype_type]; kernel_rfl) ?_)
  refine wpAny_ite_split (fun hab => absurd hab (by decide)) (fun _ => ?_)
  refine wpAny_ite_split (fun _ => ?_) (fun hab => absurd (by decide +kernel) hab)
  refine wpAny_ite_split (fun hab => absurd hab (by decide)) (fun _ => ?_)
  exact wpAny_pure h
theorem call_list_rev {l : Addr} {items : Array Value} {Q : Value → Shared → Prop} (hh : A.handled = none) (hit : s.heap.IsRevIter r l ((items.size : Int) - 1)) (hl : s.heap.IsList l items) (hlr : l ≠ r) (hn : items.size ≤ sizeLine)
    (hQ : ∀ h' tk acc c, (∀ b o, b ≠ r → s.heap.get? b = some o → h'.get? b = some o) → h'.get? s.heap.objs.size = some { cls := .type "list", dict := none, data := .seq acc c, slots := #[] } →
      ItemsOf (fun i v => items[items.size - 1 - i]? = some v) acc items.size → Q (.ref s.heap.objs.size) { s with heap := h', toks := tk }) : wpAny (model prog w) A (call (.type "list") [.ref r]) Q E s := by
  refine callType_codes (Q₁ := fun obj s₁ => s₁ = { s with heap := s.heap.push { cls := .type "list", data := .seq #[] } } ∧ obj = .ref s.heap.objs.size) PySem.F.called_list (PySem.F.typeCall_list_1 _) PySem.F.entry_list_init (code_list_new _ ⟨rfl, rfl⟩) ?_
  rintro obj s₁ ⟨rfl, rfl⟩
  have hS : (s.heap.push { cls := .type "list", data := .seq #[] }).get? s.heap.objs.size = some { cls := .type "list", data := .seq #[] } := Heap.get?_push_size _ rfl
  have rlt : r < s.heap.objs.size := by obtain ⟨o, e, _⟩ := hit; exact Heap.lt_size e
  have llt : l < s.heap.objs.size := by obtain ⟨o, e, _⟩ := hl; exact Heap.lt_size e
  generalize hz : s.heap.objs.size = S at hS rlt llt hQ ⊢
  have hSr : S ≠ r := Nat.ne_of_gt rlt
  have hSl : S ≠ l := Nat.ne_of_gt llt
  refine ⟨⟨_, hS, rfl⟩, PySem.F.args_list_init_2 _ _, ?_⟩
  have up1 : ∀ b o, s.heap.get? b = some o → (s.heap.push { cls := .type "list", data := .seq #[] }).get? b = some o := fun b o e => Heap.get?_push_of_some _ e
  generalize s.heap.push { cls := .type "list", data := .seq #[] } = h1 at hS up1 ⊢
  show wpAny _ _ (Builtin.List.listItems (.ref S) >>= fun old => Builtin.List.listUpdate (.ref S) (fun _ => #[]) >>= fun _ => letGo old.toList.reverse >>= fun _ => Builtin.List.listExtendWith (.ref S) (.ref r) .none) _ _ _
  unfold Builtin.List.listItems
  refine wpAny_bind (wpAny_bind (wpAny_seqItems hS rfl (wpAny_pure ?_)))
  refine wpAny_bind (wpAny_updateSeq hS rfl ?_)
  have hS2 := Heap.get?_update_self (Obj.mapSeq (fun _ => (#[] : Array Value))) hS rfl
  have up2 : ∀ b o, b ≠ S → h1.get? b = some o → (h1.update S (Obj.mapSeq (fun _ => (#[] : Array Value)))).get? b = some o := fun b o hb e => by
    rw [Heap.get?_update_other _ _ (Ne.symm hb)]
    exact e
  generalize h1.update S (Obj.mapSeq (fun _ => (#[] : Array Value))) = h2 at hS2 up2 ⊢
  refine wpAny_bind (wpAny_letGo ?_)
  have it2 : h2.IsRevIter r l ((items.size : Int) - 1) := hit.at fun o e => up2 _ _ (Ne.symm hSr) (up1 _ _ e)
  have l2 : h2.IsList l items := hl.at fun o e => up2 _ _ (Ne.symm hSl) (up1 _ _ e)
  have ty2 : ({ s with heap := h2 } : Shared).TypeIs (.ref r) "list_reverseiterator" := Heap.IsRevIter.typeIs (s := { s with heap := h2 }) it2
  unfold Builtin.List.listExtendWith
  refine wpAny_bind (wpAny_typeOf ty2 ?_)
  have ns : Builtin.List.listSameRef (.ref S) (.ref r) = false := by simp [Builtin.List.listSameRef, hSr]
  rw [ns]
  refine wpAny_ite_split (fun hab => absurd hab (by decide)) (fun _ => ?_)
  refine wpAny_bind (wpAny_pyIter_revIter (s := { s with heap := h2 }) it2 ?_)
  refine wpAny_bind (wpAny_holding (lri_hint ty2 ?_))
  refine wpAny_ite_split (fun hab => absurd hab (by decide)) (fun _ => ?_)
  have W := fun B : Around => fun (hB : B.handled = none) => Walks.listRev (prog := prog) (w := w) (A := B) hB r l hlr items
  have e0 : (items.size : Int) - 1 - ((0 : Nat) : Int) = (items.size : Int) - 1 := by omega
  refine wpAny_pure ⟨plainId_quiet PySem.F.plain_extend_loop _, codeAny_extend_loopS (W A.in1.in1 hh).toS hn S ?_ .none items.size 0 _ #[] _ rfl (Nat.zero_le _) ⟨Nat.zero_le _, by rw [e0]; exact it2, l2⟩ hS2 (ItemsOf.nil _) fun s' acc c mv hS' ok => ?_⟩
  · simp [hSr, hSl]
  · rw [Moved.eq_with mv]
    refine ⟨rfl, hQ s'.heap s'.toks acc c (fun b o hb e => ?_) hS' ok⟩
    have hbS : b ≠ S := by rw [← hz]; exact Nat.ne_of_lt (Heap.lt_size e)
    exact mv.heap b o (by simp [hb, hbS]) (up2 b o hbS (up1 b o e))
end
noncomputable def tListRev (K : PySem.W.Frag) (ta : TA) : TE := fun σ H Q => ta σ H fun vs H1 => ∃ b xs, vs = [.ref b] ∧ SqL K H1 b xs ∧ ∀ l, H1 l = none → Q (.ref l) (upd H1 l (.lst xs.reverse))
theorem rd_listRev {K : PySem.W.Frag} {ta : TA} {σ : St} {H : Hp} {Q : VK} (q : ta σ H fun vs H1 => ∃ b xs, vs = [.ref b] ∧ SqL K H1 b xs ∧ ∀ l, H1 l = none → Q (.ref l) (upd H1 l (.lst xs.reverse))) : tListRev K ta σ H Q := q
theorem vals_of : ∀ (xs : List V) (us : List Value), xs.length = us.length → (∀ (j : Nat) (x : V) (u : Value), xs[j]? = some x → us[j]? = some u → RelV x u) → Vals xs us
  | [], [], _, _ => .nil
  | [], _ :: _, h, _ => by simp at h
  | _ :: _, [], h, _ => by simp at h
  | x :: xs, u :: us, h, g => .cons (g 0 x u rfl rfl) (vals_of xs us (by simpa using h) fun j y v h1 h2 => g (j + 1) y v (by simpa using h1) (by simpa using h2))
theorem pe_listRev {X : Cx} {a : Expr} {ta : TA} {p p2 pos pos2 : Pos} (hc : X.calm = true) (hgl : Gl X "list") (hml : X.mg "list" = none) (hgr : Gl X "reversed") (hmr : X.mg "reversed" = none) (ha : PA X [a] ta) (hs : starEach [a] X.env = [(false, eval a X.env)] := by rfl)
    (hs2 : starEach [.Call (.Name "reversed" p2) [a] [] pos2] X.env = [(false, eval (.Call (.Name "reversed" p2) [a] [] pos2) X.env)] := by rfl) : PE X (.Call (.Name "list" p) [.Call (.Name "reversed" p2) [a] [] pos2] [] pos) (tListRev X.K ta) := by
  intro pins s σ H Q I h
  refine Call_ (ld_blt I hgl hml boot_list (PyProof.Rows.callWith_type1 (PyProof.Rows.spliced_more (Call_ (ld_blt I hgr hmr boot_reversed (PyProof.Rows.callWith_type1 (thn (ha pos2 pins s σ H _ I h) fun us s1 ⟨vs, H1, I1, r1, q1⟩ => ?_) hs rfl))) hs2) hs2 rfl))
  obtain ⟨l, xs, e, hq, q⟩ := q1
  subst e
  cases r1 with
  | cons r rr =>
    cases rr
    cases r
    obtain ⟨its, rv, pl, hz⟩ := I1.list hq
    refine call_reversed_list pl.isList ?_
    have en : its.toArray.size = xs.length := by rw [List.size_toArray, rv.length]
    have st : (s1.heap.push (revObj l ((its.toArray.size : Int) - 1))).IsRevIter s1.heap.objs.size l ((its.toArray.size : Int) - 1) := ⟨_, Heap.get?_push_size _ rfl, rfl, rfl⟩
    have llt : l < s1.heap.objs.size := by obtain ⟨_, e, _⟩ := pl.isList; exact Heap.lt_size e
    refine PyProof.Rows.spliced_none ?_
    refine call_list_rev (s := { s1 with heap := s1.heap.push (revObj l ((its.toArray.size : Int) - 1)) }) (I1.ok.hd hc) st (pl.isList.at fun o e => Heap.get?_push_of_some _ e) (Nat.ne_of_lt llt) (by rw [en]; exact hz) fun h' tk acc c kp hS ok => ?_
    have ge : s1.heap.objs.size ≤ (s1.heap.push (revObj l ((its.toArray.size : Int) - 1))).objs.size := by rw [Heap.size_push]; exact Nat.le_succ _
    refine ⟨.ref _, _, I1.laid (t' := tk) (h' := h') (o := .lst xs.reverse) (fun b u e => kp b u (Nat.ne_of_lt (Heap.lt_size e)) (Heap.get?_push_of_some _ e)) ge ?_, rfl, q _ (I1.hok.fresh ge)⟩
    refine ⟨by rw [List.length_reverse]; exact hz, acc.toList, c, vals_of _ _ ?_ fun j x u h1 h2 => ?_, hS⟩
    · have k1 := ok.1
      have k2 : acc.toList.length = acc.size := Array.length_toList
      have k3 : xs.reverse.length = xs.length := List.length_reverse
      omega
    · have h3 := ok.2 j u (by rw [← Array.getElem?_toList]; exact h2)
      have hj : j < xs.length := by
        have := (List.getElem?_eq_some_iff.mp h1).1
        rwa [List.length_reverse] at this
      rw [List.getElem?_reverse hj] at h1
      rw [en] at h3
      obtain ⟨v, hv, rr⟩ := rv.get h1
      have h4 : its[xs.length - 1 - j]? = some u := by simpa using h3
      rw [hv] at h4
      cases h4
      exact rr
noncomputable abbrev Exc (x : Str) (C : Addr) (mg : Str → Option Value) (base : Heap) : Prop := OwnCls x C [.type "ValueError", .type "Exception", .type "BaseException", .type "object"] "ValueError.__new__" mg base
end L2
namespace L2
open PySem PySem.Spec PyProof.Rows
noncomputable def MethAtD (K : PySem.W.Frag) (C : Addr) (m qual : Str) (st : Stmt) (items : Array Value) : Prop := ∃ f fd, FunD K m qual st items f fd ∧ PySem.W.findIn K (.ref C) m = some (some (.ref f)) ∧ PySem.W.isFn K (.ref f) = true
noncomputable def ICalD (P : Program) (w : World) (K : PySem.W.Frag) (mg : Str → Option Value) (base : Heap) (k : Nat) (x : Str) (C : Addr) (sp : Sp) (dvs : List V) : Prop :=
  mg x = some (.ref C) ∧ ∃ f fd ps ds, Mk K C f ∧ FnOk P w K mg base CX0 k f fd ps sp ∧ Binds K fd ps ds ∧ Vals dvs ds
section
variable {P : Program} {w : World} {K : PySem.W.Frag} {mg : Str → Option Value} {base : Heap}
theorem methAtD_mk {C : Addr} {m qual : Str} {st : Stmt} {f T : Addr} {oc c2 : Value} {od an d2 : Option Addr} {osl s2 : Array (Option Value)} {kV doc pm cdv ct : Value} {items : Array Value} {n : Nat}
    (a : PySem.W.findIn K (.ref C) m = some (some (.ref f))) (i : PySem.W.isFn K (.ref f) = true) (l : K.lookup f = some ⟨oc, od, .func (PySem.W.fnOf m qual (defArgs st) (defBody st) (defScope st) (.ref T) kV doc pm an cdv ct), osl⟩)
    (c : PySem.W.codeIn K cdv qual = true) (k : PySem.W.keepIn K (.ref f) = true) (d : K.lookup T = some ⟨c2, d2, .seq items n, s2⟩) : MethAtD K C m qual st items :=
  ⟨f, _, ⟨⟨oc, od, T, kV, doc, pm, an, cdv, ct, osl, _, n, rfl, l, c, d, rfl⟩, k⟩, a, i⟩
theorem icalD_of {C : Addr} {x qual : Str} {st : Stmt} {items : Array Value} {N ps : List Str} {k : Nat} {sp : Sp} (D : MethAtD K C "__init__" qual st items) (c : ClsF K mg x C) (S : FnScope N ps (defScope st)) (len : ∀ vs H Q E, sp vs H Q E → vs.length = ps.length)
    (hbody : ∀ (f : Addr) (cdv : Value) (A : Around) (outer : List Env) (s : Shared) (H : Hp) (vs : List V) (Q : VK) (E : XK), Room k (A.deeper (envOfC qual (defScope st) s.heap.objs.size f cdv)) → sp vs H Q E →
      ∃ t, PSs (cxOf CX0 P w K mg base N qual (defScope st) f cdv A outer s H E).nox (defBody st) t ∧ t { nx := fun _ H' => Q .non H', rt := Q } (start N vs) H)
    (ds : List Value) {dvs : List V} (v : Vals dvs ds)
    (hb : ∀ (T : Addr) (kV doc pm : Value) (an : Option Addr) (cdv ct : Value) (us : List Value), (us ++ ds).length = ps.length → ∃ k : Option (Array Value) → Sem (List (Str × Value)), bindArgs (PySem.W.fnOf "__init__" qual (defArgs st) (defBody st) (defScope st) (.ref T) kV doc pm an cdv ct) ⟨us, []⟩ = seqItems? (.ref T) >>= k ∧ k (some items) = pure (ps.zip (us ++ ds))) : ICalD P w K mg base (k + 1) x C sp dvs := by
  obtain ⟨f, fd, F, a, i⟩ := D
  exact ⟨c.mgC, f, fd, ps, ds, ⟨c.ms, a, i, c.kc⟩, F.fn S len (hbody f), F.binds ds hb, v⟩
end
section
variable {X : Cx} {k : Nat} {C : Addr} {sp : Sp} {x : Str} {p pos : Pos} {e : Expr} {es : List Expr} {t : TA} {dvs : List V}
theorem pe_icalD (c : ICalD X.prog X.w X.K X.mg X.base k x C sp dvs) (hr : Room (k + 1) X.A) (hg : Gl X x) (ha : PA X (e :: es) t) (hdb : (x == ("__debug__" : Str)) = false := by decide)
    (he : starEach (e :: es) X.env = (false, eval e X.env) :: starEach es X.env := by rfl) (hpl : (backTo pos (starEach es X.env)).any (·.1) = false := by rfl) :
    PE X (.Call (.Name x p) (e :: es) [] pos) (tMake C sp dvs E0 t) := by
  obtain ⟨m, f, fd, ps, ds, M, F, b, v⟩ := c
  exact pe_make M F hr hg m b v pass0 ha hdb he hpl
end
theorem rd_makeD {σ : St} {H : Hp} {Q : VK} {C : Addr} {sp : Sp} {t : TA} {dvs : List V} (q : t σ H fun vs H1 => ∀ x dx, H1 x = none → H1 dx = none → dx ≠ x → sp (.ref x :: (vs ++ dvs)) (upd (upd H1 dx (.own x)) x (.ins C dx [])) (fun v H2 => v = .non ∧ Q (.ref x) H2) E0) : tMake C sp dvs E0 t σ H Q := q
noncomputable def KeptX (X : Addr → Prop) (H H' : Hp) : Prop := ∀ b o, H b = some o → ¬ X b → H' b = some o
section
variable {X Y : Addr → Prop} {H H1 H2 : Hp}
theorem KeptX.refl : KeptX X H H := fun _ _ e _ => e
theorem KeptX.trans (a : KeptX X H H1) (b : KeptX X H1 H2) : KeptX X H H2 := fun c o e n => b c o (a c o e n) n
theorem KeptX.mono (a : KeptX X H H1) (h : ∀ b, X b → Y b) : KeptX Y H H1 := fun c o e n => a c o e fun z => n (h c z)
theorem Same.keptX (s : Same H H1) : KeptX X H H1 := fun c o e _ => s c o e
theorem KeptX.upd {b : Addr} {o : HO} (h : X b) : KeptX X H (L2.upd H b o) := fun c u e n => by
  have hc : c ≠ b := fun z => by rw [z] at n; exact n h
  rw [upd_ne hc]; exact e
theorem KeptX.new {b : Addr} {o : HO} (h : H b = none) : KeptX X H (L2.upd H b o) := (Same.new h).keptX
theorem KeptX.imm (a : KeptX X H H1) (h : ∀ b o, X b → H b = some o → ¬ Imm o) : SameI H H1 := fun b u e i => a b u e fun z => h b u z e i
end
end L2
local macro_rules | `(tactic| walk_at "settle") => `(tactic| first
  | (simp only [L2.start, List.map_cons, List.map_nil, List.length_cons, List.length_nil, List.replicate, List.cons_append, List.nil_append, List.append_nil, List.set_cons_zero, List.set_cons_succ, Nat.reduceAdd, Nat.reduceSub]; done)
  | (simp only [L2.start, List.map_cons, List.map_nil, List.length_cons, List.length_nil, List.replicate, List.cons_append, List.nil_append, List.append_nil, List.set_cons_zero, List.set_cons_succ, Nat.reduceAdd, Nat.reduceSub]; rfl)
  | rfl
  | fail)
local macro_rules | `(tactic| walk_at "side") => `(tactic| first
  | exact ⟨by decide, by decide⟩
  | exact ⟨by decide, by decide, by decide⟩
  | (show (0:Int) < _; first | decide | omega)
  | (show (0:Int) ≤ _; first | decide | omega)
  | (show (0:Int) < _ ∧ _ < _; refine ⟨by omega, by omega⟩)
  | (show (_ ∧ _) ∨ _; refine .inl ⟨by omega, by omega⟩)
  | (show _ ∨ (_ ∧ _); refine .inr ⟨by omega, by omega⟩)
  | fail)
local macro_rules | `(tactic| walk_at "rd") => `(tactic| first
  | with_reducible refine L2.rd_seq ?_
  | with_reducible refine L2.rd_asg ?_
  | ((with_reducible refine' L2.rd_nameN ?e ?_); (case e => walk_at "settle"))
  | with_reducible refine L2.rd_C ?_
  | ((with_reducible refine' L2.rd_V ?e ?_); (case e => rfl))
  | with_reducible refine L2.rd_op ?_
  | with_reducible refine L2.rd_I0 ?_
  | ((with_reducible refine' L2.rd_I ?c ?_); (case c => walk_at "side"))
  | with_reducible refine L2.rd_eqI ?_
  | with_reducible refine L2.rd_eqS ?_
  | with_reducible refine L2.rd_neI ?_
  | with_reducible refine L2.rd_neS ?_
  | with_reducible refine L2.rd_eqB ?_
  | with_reducible refine L2.rd_neB ?_
  | with_reducible refine L2.rd_test ?_
  | with_reducible refine L2.rd_B ?_
  | with_reducible refine L2.rd_bl ?_
  | with_reducible refine L2.rd_ifS ?_
  | with_reducible refine L2.rd_if ?_
  | with_reducible refine L2.rd_iteD (fun _ => ?_) (fun _ => ?_)
  | with_reducible refine L2.rd_iteND (fun _ => ?_) (fun _ => ?_)
  | with_reducible refine L2.rd_iteNND (fun _ => ?_) (fun _ => ?_)
  | with_reducible refine L2.iteT ?_
  | with_reducible refine L2.iteF ?_
  | with_reducible refine L2.iteNT ?_
  | with_reducible refine L2.iteNF ?_
  | with_reducible refine L2.rd_ret ?_
  | with_reducible refine L2.rd_next ?_
  | with_reducible refine L2.rd_drop ?_
  | with_reducible refine L2.rd_and ?_
  | with_reducible refine L2.rd_or ?_
  | with_reducible refine L2.rd_not ?_
  | with_reducible refine L2.rd_andV ?_
  | with_reducible refine L2.rd_orV ?_
  | with_reducible refine L2.rd_notV ?_
  | with_reducible refine L2.rd_cons ?_
  | with_reducible refine L2.rd_nil ?_
  | with_reducible refine L2.rd_vals ?_
  | with_reducible refine L2.rd_call ?_
  | with_reducible refine L2.rd_CB ?_
  | with_reducible refine L2.rd_chain ?_
  | with_reducible refine L2.rd_un ?_
  | with_reducible refine L2.rd_U ?_
  | with_reducible refine L2.rd_tup ?_
  | with_reducible refine L2.rd_lst ?_
  | fail)
local macro_rules | `(tactic| walk_at "sql") => `(tactic| first
  | assumption
  | exact L2.sql_new
  | exact L2.sqt_new
  | exact L2.sql_of (by assumption)
  | exact L2.sqt_of (by assumption)
  | exact L2.TupK.sqt (by assumption) _
  | (refine L2.SqL.updN ?_ (by assumption); walk_at "sql")
  | (refine L2.SqT.updN ?_ (by assumption); walk_at "sql")
  | fail)
local macro_rules | `(tactic| walk_at "hp") => `(tactic| first
  | assumption
  | exact L2.upd_same
  | exact Eq.trans (L2.upd_ne (L2.ne_of_none L2.upd_same (by assumption))) L2.upd_same
  | fail)
local macro_rules | `(tactic| walk_at "rdl") => `(tactic| first
  | walk_at "rd"
  | ((with_reducible refine' L2.rd_ixL ?h ?e ?_); (case h => walk_at "sql"); (case e => rfl))
  | ((with_reducible refine' L2.rd_ixT ?h ?e ?_); (case h => walk_at "sql"); (case e => rfl))
  | with_reducible refine L2.rd_sl ?_
  | with_reducible refine L2.rd_noPart ?_
  | with_reducible refine L2.rd_part ?_
  | with_reducible refine L2.rd_ei ?_
  | ((with_reducible refine' L2.rd_slL ?h ?_); (case h => walk_at "sql"))
  | fail)
local macro_rules | `(tactic| walk_at "rda") => `(tactic| first
  | walk_at "rdl"
  | ((with_reducible refine' L2.rd_aug ?e ?_); (case e => rfl))
  | with_reducible refine L2.rd_ipI ?_
  | with_reducible refine L2.rd_max2 ?_
  | with_reducible refine L2.rd_min2 ?_
  | with_reducible refine L2.rd_abs ?_
  | ((with_reducible refine' L2.rd_isi ?e ?_); (case e => rfl))
  | ((with_reducible refine' L2.rd_isiS ?e ?_); (case e => rfl))
  | ((with_reducible refine' L2.rd_isiT ?h ?e ?_); (case h => walk_at "sql"); (case e => rfl))
  | ((with_reducible refine' L2.rd_isiL ?h ?e ?_); (case h => walk_at "sql"); (case e => rfl))
  | ((with_reducible refine' L2.rd_lenL ?h ?_); (case h => walk_at "sql"))
  | ((with_reducible refine' L2.rd_lenT ?h ?_); (case h => walk_at "sql"))
  | fail)
local macro_rules | `(tactic| walk_at "sz") => `(tactic| first
  | assumption
  | exact Nat.le_trans (by assumption) (by decide)
  | decide
  | fail)
local macro_rules | `(tactic| walk_at "rdt") => `(tactic| first
  | walk_at "rda"
  | with_reducible refine L2.rd_bm ?_
  | with_reducible refine L2.rd_bm0 ?_
  | with_reducible refine L2.rd_tyS ?_
  | with_reducible refine L2.rd_find ?_
  | with_reducible refine L2.rd_inS ?_
  | with_reducible refine L2.rd_notInS ?_
  | with_reducible refine L2.rd_sb ?_
  | with_reducible refine L2.rd_ord ?_
  | with_reducible refine L2.rd_isN0 ?_
  | with_reducible refine L2.rd_isNi ?_
  | with_reducible refine L2.rd_isNr ?_
  | with_reducible refine L2.rd_notN0 ?_
  | with_reducible refine L2.rd_notNi ?_
  | with_reducible refine L2.rd_notNr ?_
  | ((with_reducible refine' L2.rd_lenZ ?h ?_); (case h => walk_at "sz"))
  | ((with_reducible refine' L2.rd_slS ?h ?_); (case h => walk_at "sz"))
  | fail)
local macro_rules | `(tactic| walk_at "rdq") => `(tactic| first
  | ((with_reducible refine L2.rd_iteD (fun _ => ?_) (fun _ => ?_)) <;> (try (exfalso; omega)))
  | ((with_reducible refine L2.rd_iteND (fun _ => ?_) (fun _ => ?_)) <;> (try (exfalso; omega)))
  | ((with_reducible refine L2.rd_iteNND (fun _ => ?_) (fun _ => ?_)) <;> (try (exfalso; omega)))
  | walk_at "rdt"
  | fail)
local macro_rules | `(tactic| walk_at "rdj") => `(tactic| first
  | ((with_reducible refine' L2.rd_addJ ?h (fun _ _ => ?_)); (case h => omega))
  | ((with_reducible refine' L2.rd_slJ ?h (fun _ _ => ?_)); (case h => omega))
  | walk_at "rdq"
  | fail)
local macro_rules | `(tactic| walk_at "rdm") => `(tactic| first
  | walk_at "rdt"
  | ((with_reducible refine' L2.rd_listL ?h (fun _ _ => ?_)); (case h => walk_at "sql"))
  | ((with_reducible refine' L2.rd_listT ?h (fun _ _ => ?_)); (case h => walk_at "sql"))
  | with_reducible refine L2.rd_gsub ?_
  | fail)
local macro_rules | `(tactic| walk_at "rdk") => `(tactic| first
  | walk_at "rdm"
  | with_reducible refine L2.rd_fld ?_
  | with_reducible refine L2.rd_sfld ?_
  | with_reducible refine L2.rd_fldaug ?_
  | with_reducible refine L2.rd_rAdd ?_
  | with_reducible refine L2.rd_rSub ?_
  | with_reducible refine L2.rd_meth ?_
  | with_reducible refine L2.rd_make ?_
  | ((with_reducible refine' L2.rd_sum ?h ?_); (case h => walk_at "sql"))
  | with_reducible refine L2.rd_dget2 ?_
  | with_reducible refine L2.rd_dnewK (fun _ _ => ?_)
  | with_reducible refine L2.rd_din ?_
  | with_reducible refine L2.rd_dnotin ?_
  | with_reducible refine L2.rd_dget ?_
  | with_reducible refine L2.rd_dput ?_
  | with_reducible refine L2.rd_dpop1 ?_
  | with_reducible refine L2.rd_dpop2 ?_
  | with_reducible refine L2.rd_gcons ?_
  | with_reducible refine L2.rd_gnil ?_
  | ((with_reducible refine' L2.rd_gtup ?h ?e ?_); (case h => walk_at "sql"); (case e => rfl))
  | fail)
local macro_rules | `(tactic| walk_at "rdz") => `(tactic| first
  | ((with_reducible refine L2.rd_iteD (fun _ => ?_) (fun _ => ?_)) <;> (try (exfalso; omega)))
  | ((with_reducible refine L2.rd_iteND (fun _ => ?_) (fun _ => ?_)) <;> (try (exfalso; omega)))
  | ((with_reducible refine L2.rd_iteNND (fun _ => ?_) (fun _ => ?_)) <;> (try (exfalso; omega)))
  | walk_at "rdk"
  | fail)
local macro_rules | `(tactic| walk_at "rdx") => `(tactic| first
  | with_reducible refine L2.rd_iteD (fun h => absurd h (by decide)) (fun _ => ?_)
  | with_reducible refine L2.rd_iteD (fun _ => ?_) (fun h => absurd (by decide) h)
  | with_reducible refine L2.rd_iteND (fun h => absurd (by decide) h) (fun _ => ?_)
  | with_reducible refine L2.rd_iteND (fun _ => ?_) (fun h => absurd h (by decide))
  | walk_at "rdk"
  | fail)
namespace My
open PySem L2
noncomputable def top (i : Nat) : Stmt := PySem.Challenge.pw_meterhouse_k32_jumps.main.body.getD i (.Pass ⟨0, 0, 0, 0⟩)
noncomputable abbrev s__wall : Stmt := top 0
noncomputable abbrev s_reach : Stmt := top 5
noncomputable abbrev s_takes : Stmt := top 6
noncomputable abbrev s_leaves : Stmt := top 7
noncomputable abbrev s_price : Stmt := top 8
noncomputable abbrev s_account_at : Stmt := top 11
noncomputable abbrev s_shift_coin : Stmt := top 13
noncomputable abbrev s_added : Stmt := top 23
noncomputable abbrev s_lessened : Stmt := top 24
noncomputable abbrev s_multiplied : Stmt := top 25
noncomputable abbrev s_contained : Stmt := top 26
noncomputable abbrev s_left_over : Stmt := top 27
noncomputable abbrev s_is_below : Stmt := top 28
noncomputable abbrev s_is_same : Stmt := top 29
noncomputable abbrev s_in_both : Stmt := top 30
noncomputable abbrev s_in_either : Stmt := top 31
noncomputable abbrev s_in_just_one : Stmt := top 32
noncomputable abbrev s_doubled : Stmt := top 33
noncomputable abbrev s_halved : Stmt := top 34
noncomputable abbrev s_reckon : Stmt := top 36
noncomputable abbrev s_write_step : Stmt := top 38
noncomputable abbrev s_push_row : Stmt := top 39
noncomputable abbrev s_drop_row : Stmt := top 40
noncomputable abbrev s_copy_row : Stmt := top 41
noncomputable abbrev s_swap_row : Stmt := top 42
noncomputable abbrev s_reckon_row : Stmt := top 43
noncomputable abbrev s_jump_row : Stmt := top 44
noncomputable abbrev s_jumpif_row : Stmt := top 45
noncomputable abbrev s_load_row : Stmt := top 46
noncomputable abbrev s_save_row : Stmt := top 47
noncomputable abbrev s_me_row : Stmt := top 48
noncomputable abbrev s_from_row : Stmt := top 49
noncomputable abbrev s_sent_row : Stmt := top 50
noncomputable abbrev s_word_row : Stmt := top 51
noncomputable abbrev s_coin_row : Stmt := top 52
noncomputable abbrev s_note_row : Stmt := top 53
noncomputable abbrev s_give_row : Stmt := top 54
noncomputable abbrev s_fail_row : Stmt := top 55
noncomputable abbrev s_do_row : Stmt := top 57
noncomputable abbrev s_brings_coin : Stmt := top 61
noncomputable abbrev s_fills_place : Stmt := top 62
noncomputable abbrev s_row_price : Stmt := top 63
noncomputable abbrev s_is_barred : Stmt := top 64
noncomputable abbrev s_end_ahead_of : Stmt := top 65
noncomputable abbrev s_other_call : Stmt := top 66
noncomputable abbrev s_end_ahead_of_call : Stmt := top 67
noncomputable abbrev s_call_row : Stmt := top 68
noncomputable abbrev s_go_row : Stmt := top 69
noncomputable abbrev s_go_on : Stmt := top 70
noncomputable abbrev s_go : Stmt := top 71
noncomputable abbrev s_enter : Stmt := top 72
noncomputable abbrev s_Lcell_at : Stmt := top 76
noncomputable abbrev s_Lalike : Stmt := top 77
noncomputable abbrev s_Lprogram : Stmt := top 78
noncomputable abbrev s_Lgone : Stmt := top 79
noncomputable abbrev s_law : Stmt := top 80
noncomputable abbrev s_Account___init__ : Stmt := inClass (top 10) 0
noncomputable abbrev s_Account_loaded : Stmt := inClass (top 10) 1
noncomputable abbrev s_Account_keep : Stmt := inClass (top 10) 2
noncomputable abbrev s_Account_plain : Stmt := inClass (top 10) 3
noncomputable abbrev s_Deed_do : Stmt := inClass (top 14) 0
noncomputable abbrev s_Deed_undo : Stmt := inClass (top 14) 1
noncomputable abbrev s_Deed_told : Stmt := inClass (top 14) 2
noncomputable abbrev s_Deed_worth : Stmt := inClass (top 14) 3
noncomputable abbrev s_Deed_touched : Stmt := inClass (top 14) 4
noncomputable abbrev s_Save___init__ : Stmt := inClass (top 15) 0
noncomputable abbrev s_Save_do : Stmt := inClass (top 15) 1
noncomputable abbrev s_Save_undo : Stmt := inClass (top 15) 2
noncomputable abbrev s_Save_told : Stmt := inClass (top 15) 3
noncomputable abbrev s_Save_worth : Stmt := inClass (top 15) 4
noncomputable abbrev s_Save_touched : Stmt := inClass (top 15) 5
noncomputable abbrev s_Move___init__ : Stmt := inClass (top 16) 0
noncomputable abbrev s_Move_do : Stmt := inClass (top 16) 1
noncomputable abbrev s_Move_undo : Stmt := inClass (top 16) 2
noncomputable abbrev s_Move_told : Stmt := inClass (top 16) 3
noncomputable abbrev s_Move_touched : Stmt := inClass (top 16) 4
noncomputable abbrev s_Note___init__ : Stmt := inClass (top 17) 0
noncomputable abbrev s_Note_told : Stmt := inClass (top 17) 1
noncomputable abbrev s_Frame___init__ : Stmt := inClass (top 20) 0
noncomputable abbrev s_Frame_left : Stmt := inClass (top 20) 1
noncomputable abbrev s_Frame_short_for : Stmt := inClass (top 20) 2
noncomputable abbrev s_Frame_full_behind : Stmt := inClass (top 20) 3
noncomputable abbrev s_Frame_taken : Stmt := inClass (top 20) 4
noncomputable abbrev s_Frame_lay : Stmt := inClass (top 20) 5
noncomputable abbrev s_Frame_finish : Stmt := inClass (top 20) 6
noncomputable abbrev s_Frame_tree : Stmt := inClass (top 20) 7
noncomputable abbrev s_Journal___init__ : Stmt := inClass (top 74) 0
noncomputable abbrev s_Journal_write : Stmt := inClass (top 74) 1
noncomputable abbrev s_Journal_mark : Stmt := inClass (top 74) 2
noncomputable abbrev s_Journal_back : Stmt := inClass (top 74) 3
noncomputable abbrev s_Journal_told : Stmt := inClass (top 74) 4
noncomputable abbrev s_Journal_worth : Stmt := inClass (top 74) 5
noncomputable abbrev s_Journal_touched : Stmt := inClass (top 74) 6
noncomputable abbrev s_Note_do : Stmt := inClass (top 14) 0
noncomputable abbrev s_Note_undo : Stmt := inClass (top 14) 1
structure T_Account (K : PySem.W.Frag) (mg : Str → Option Value) (C : Addr) : Prop where
  k : ClsF K mg "Account" C
  n_coin : NoAttr K C "coin"
  n_purse : NoAttr K C "purse"
  n_count : NoAttr K C "count"
  n_program : NoAttr K C "program"
  n_store : NoAttr K C "store"
structure T_Deed (K : PySem.W.Frag) (mg : Str → Option Value) (C : Addr) : Prop where
  k : ClsF K mg "Deed" C
structure T_Save (K : PySem.W.Frag) (mg : Str → Option Value) (C : Addr) : Prop where
  k : ClsF K mg "Save" C
  n_slot : NoAttr K C "slot"
  n_place : NoAttr K C "place"
  n_old : NoAttr K C "old"
  n_new : NoAttr K C "new"
structure T_Move (K : PySem.W.Frag) (mg : Str → Option Value) (C : Addr) : Prop where
  k : ClsF K mg "Move" C
  n_slot : NoAttr K C "slot"
  n_taker : NoAttr K C "taker"
  n_many : NoAttr K C "many"
structure T_Note (K : PySem.W.Frag) (mg : Str → Option Value) (C : Addr) : Prop where
  k : ClsF K mg "Note" C
  n_slot : NoAttr K C "slot"
  n_number : NoAttr K C "number"
structure T_Frame (K : PySem.W.Frag) (mg : Str → Option Value) (C : Addr) : Prop where
  k : ClsF K mg "Frame" C
  n_kind : NoAttr K C "kind"
  n_who : NoAttr K C "who"
  n_whose : NoAttr K C "whose"
  n_caller : NoAttr K C "caller"
  n_coin : NoAttr K C "coin"
  n_word : NoAttr K C "word"
  n_given : NoAttr K C "given"
  n_depth : NoAttr K C "depth"
  n_looking : NoAttr K C "looking"
  n_used : NoAttr K C "used"
  n_stack : NoAttr K C "stack"
  n_row : NoAttr K C "row"
  n_steps : NoAttr K C "steps"
  n_end : NoAttr K C "end"
  n_answer : NoAttr K C "answer"
structure T_Journal (K : PySem.W.Frag) (mg : Str → Option Value) (C : Addr) : Prop where
  k : ClsF K mg "Journal" C
  n_rooms : NoAttr K C "rooms"
  n_deeds : NoAttr K C "deeds"
theorem bd1 {R : List Value → Prop} (h : ∀ a, R [a]) (us : List Value) (hl : us.length = 1) : R us := by
  cases us with
  | nil => cases hl
  | cons a r =>
    cases r with
    | nil => exact h a
    | cons b r => cases hl
theorem bdS {R : List Value → Prop} {n : Nat} (h : ∀ a (r : List Value), r.length = n → R (a :: r)) (us : List Value) (hl : us.length = n + 1) : R us := by
  cases us with
  | nil => cases hl
  | cons a r => exact h a r (Nat.succ.inj hl)
theorem bd2 {R : List Value → Prop} (h : ∀ a b, R [a, b]) (us : List Value) (hl : us.length = 2) : R us := bdS (n := 1) (fun a r hr => bd1 (R := fun r => R (a :: r)) (h a) r hr) us hl
theorem bd3 {R : List Value → Prop} (h : ∀ a b c, R [a, b, c]) (us : List Value) (hl : us.length = 3) : R us := bdS (n := 2) (fun a r hr => bd2 (R := fun r => R (a :: r)) (h a) r hr) us hl
theorem bd4 {R : List Value → Prop} (h : ∀ a b c d, R [a, b, c, d]) (us : List Value) (hl : us.length = 4) : R us := bdS (n := 3) (fun a r hr => bd3 (R := fun r => R (a :: r)) (h a) r hr) us hl
theorem bd5 {R : List Value → Prop} (h : ∀ a b c d e, R [a, b, c, d, e]) (us : List Value) (hl : us.length = 5) : R us := bdS (n := 4) (fun a r hr => bd4 (R := fun r => R (a :: r)) (h a) r hr) us hl
theorem bd6 {R : List Value → Prop} (h : ∀ a0 a1 a2 a3 a4 a5, R [a0, a1, a2, a3, a4, a5]) (us : List Value) (hl : us.length = 6) : R us := bdS (n := 5) (fun a r hr => bd5 (R := fun r => R (a :: r)) (h a) r hr) us hl
theorem bd7 {R : List Value → Prop} (h : ∀ a0 a1 a2 a3 a4 a5 a6, R [a0, a1, a2, a3, a4, a5, a6]) (us : List Value) (hl : us.length = 7) : R us := bdS (n := 6) (fun a r hr => bd6 (R := fun r => R (a :: r)) (h a) r hr) us hl
theorem bd8 {R : List Value → Prop} (h : ∀ a0 a1 a2 a3 a4 a5 a6 a7, R [a0, a1, a2, a3, a4, a5, a6, a7]) (us : List Value) (hl : us.length = 8) : R us := bdS (n := 7) (fun a r hr => bd7 (R := fun r => R (a :: r)) (h a) r hr) us hl
noncomputable def sCut (t : TS) : TS := fun D σ H => ∃ P : St → Hp → Prop, t { D with nx := P } σ H ∧ ∀ σ' H', P σ' H' → D.nx σ' H'
theorem rd_cut {t : TS} {D : Ends} {σ : St} {H : Hp} (P : St → Hp → Prop) (q : t { D with nx := P } σ H) (m : ∀ σ' H', P σ' H' → D.nx σ' H') : sCut t D σ H := ⟨P, q, m⟩
theorem ps_cut {X : Cx} {st : Stmt} {t : TS} (h : PS X st t) : PS X st (sCut t) := by
  intro pins s σ H D I q
  obtain ⟨P, q, m⟩ := q
  refine wpAny_mono (h pins s σ H { D with nx := P } I q) (fun f s' z => ?_) fun _ _ z => z
  cases f with
  | next => obtain ⟨σ', H', I', q'⟩ := z; exact ⟨σ', H', I', m _ _ q'⟩
  | brk => exact z
  | cont => exact z
  | ret u => exact z

theorem sp_gen {sp : Sp} {vs : List V} {H : Hp} {Q : VK} {E : XK} (h : ∀ Q0 : VK, (∀ v H', Q v H' → Q0 v H') → sp vs H Q0 E) : sp vs H Q E := h Q fun _ _ z => z

theorem keepIt {p : Prop} (h : p) : p := h

noncomputable abbrev W64 : Int := 18446744073709551616
noncomputable def sp2 (f : Int → Int → Int) (C : Int → Int → Prop) : Sp := fun vs H Q _ => ∃ a b, vs = [.int a, .int b] ∧ C a b ∧ Q (.int (f a b)) H
noncomputable def In64 (a : Int) : Prop := 0 ≤ a ∧ a < 18446744073709551616
noncomputable def rkAdd (a b : Int) : Int := (a + b) % 18446744073709551616
noncomputable def rkSub (a b : Int) : Int := (a - b) % 18446744073709551616
noncomputable def rkMul (a b : Int) : Int := a * b % 18446744073709551616
noncomputable def rkDiv (a b : Int) : Int := if b = 0 then 0 else a / b
noncomputable def rkMod (a b : Int) : Int := if b = 0 then 0 else a % b
noncomputable def rkLt (a b : Int) : Int := if a < b then 1 else 0
noncomputable def rkEq (a b : Int) : Int := if a = b then 1 else 0
noncomputable def rkAnd (a b : Int) : Int := Builtin.bitAnd a b
noncomputable def rkOr (a b : Int) : Int := Builtin.bitOr a b
noncomputable def rkXor (a b : Int) : Int := Builtin.bitXor a b
noncomputable def rkUp (a b : Int) : Int := if 64 ≤ b then 0 else a * 2 ^ b.toNat % 18446744073709551616
noncomputable def rkDown (a b : Int) : Int := if 64 ≤ b then 0 else a / 2 ^ b.toNat
noncomputable def InBoth (a b : Int) : Prop := In64 a ∧ In64 b

noncomputable def RK : List (Str × (Int → Int → Int)) := [("add", rkAdd), ("minus", rkSub), ("times", rkMul), ("over", rkDiv), ("rest", rkMod), ("below", rkLt), ("same", rkEq), ("both", rkAnd), ("either", rkOr), ("unlike", rkXor), ("up", rkUp), ("down", rkDown)]
noncomputable def spReckon : Sp := fun vs H Q _ => ∃ x a b f, vs = [.str x, .int a, .int b] ∧ RK.lookup x = some f ∧ InBoth a b ∧ Q (.int (f a b)) H
noncomputable def SumsOk (P : Program) (w : World) (K : PySem.W.Frag) (mg : Str → Option Value) (base : Heap) (aS : Addr) : Prop :=
  ∃ vs, DictK P w K aS vs ∧ ∀ x f, RK.lookup x = some f → ∃ fa, valueAt vs (.inr x) = some (.ref fa) ∧ CalF P w K mg base 1 fa (sp2 f InBoth)

section
variable {P : Program} {w : World} {K : PySem.W.Frag} {mg : Str → Option Value} {base : Heap}
theorem sc_added : FnScope ["one", "other"] ["one", "other"] (defScope s_added) := ⟨rfl, rfl, rfl, by decide +kernel, rfl, by decide +kernel, by decide +kernel⟩
theorem ok_added    (D : DefAt K mg "added" s_added) (g_WIDE : GlobAt mg "WIDE" (.int 18446744073709551616)) : Cal P w K mg base 1 "added" (sp2 rkAdd InBoth) := by
  refine cal_of (N := ["one", "other"]) (ps := ["one", "other"]) D sc_added (fun vs H Q E h => ?_) (fun _ _ _ _ _ _ us hl => bd2 (R := fun us => bindArgs _ ⟨us, []⟩ = pure (List.zip _ us)) (fun _ _ => rfl) us hl) (fun f cdv A outer s H vs Q E hr h => ?_)
  · obtain ⟨a, b, rfl, _⟩ := h; rfl
  · obtain ⟨a, b, rfl, ⟨⟨ha0, ha1⟩, hb0, hb1⟩, k⟩ := h
    first | refine sp_gen fun zQ zq => ⟨_, (pss_one (ps_ret (pe_op op_mod (pe_op op_add (pv 0) (pv 1)) (pe_glA rfl g_WIDE)))), zq _ _ ?_⟩ | refine ⟨_, (pss_one (ps_ret (pe_op op_mod (pe_op op_add (pv 0) (pv 1)) (pe_glA rfl g_WIDE)))), ?_⟩
    try simp only [nox_K, nox_P, nox_w, nox_mg, nox_base, cxOf_K, cxOf_P, cxOf_w, cxOf_mg, cxOf_base]
    repeat' walk_at "rd"
    exact k
theorem sc_lessened : FnScope ["one", "other"] ["one", "other"] (defScope s_lessened) := ⟨rfl, rfl, rfl, by decide +kernel, rfl, by decide +kernel, by decide +kernel⟩
theorem ok_lessened    (D : DefAt K mg "lessened" s_lessened) (g_WIDE : GlobAt mg "WIDE" (.int 18446744073709551616)) : Cal P w K mg base 1 "lessened" (sp2 rkSub InBoth) := by
  refine cal_of (N := ["one", "other"]) (ps := ["one", "other"]) D sc_lessened (fun vs H Q E h => ?_) (fun _ _ _ _ _ _ us hl => bd2 (R := fun us => bindArgs _ ⟨us, []⟩ = pure (List.zip _ us)) (fun _ _ => rfl) us hl) (fun f cdv A outer s H vs Q E hr h => ?_)
  · obtain ⟨a, b, rfl, _⟩ := h; rfl
  · obtain ⟨a, b, rfl, ⟨⟨ha0, ha1⟩, hb0, hb1⟩, k⟩ := h
    first | refine sp_gen fun zQ zq => ⟨_, (pss_one (ps_ret (pe_op op_mod (pe_op op_sub (pv 0) (pv 1)) (pe_glA rfl g_WIDE)))), zq _ _ ?_⟩ | refine ⟨_, (pss_one (ps_ret (pe_op op_mod (pe_op op_sub (pv 0) (pv 1)) (pe_glA rfl g_WIDE)))), ?_⟩
    try simp only [nox_K, nox_P, nox_w, nox_mg, nox_base, cxOf_K, cxOf_P, cxOf_w, cxOf_mg, cxOf_base]
    repeat' walk_at "rd"
    exact k
theorem sc_multiplied : FnScope ["one", "other"] ["one", "other"] (defScope s_multiplied) := ⟨rfl, rfl, rfl, by decide +kernel, rfl, by decide +kernel, by decide +kernel⟩
theorem ok_multiplied    (D : DefAt K mg "multiplied" s_multiplied) (g_WIDE : GlobAt mg "WIDE" (.int 18446744073709551616)) : Cal P w K mg base 1 "multiplied" (sp2 rkMul InBoth) := by
  refine cal_of (N := ["one", "other"]) (ps := ["one", "other"]) D sc_multiplied (fun vs H Q E h => ?_) (fun _ _ _ _ _ _ us hl => bd2 (R := fun us => bindArgs _ ⟨us, []⟩ = pure (List.zip _ us)) (fun _ _ => rfl) us hl) (fun f cdv A outer s H vs Q E hr h => ?_)
  · obtain ⟨a, b, rfl, _⟩ := h; rfl
  · obtain ⟨a, b, rfl, ⟨⟨ha0, ha1⟩, hb0, hb1⟩, k⟩ := h
    first | refine sp_gen fun zQ zq => ⟨_, (pss_one (ps_ret (pe_op op_mod (pe_op op_mul (pv 0) (pv 1)) (pe_glA rfl g_WIDE)))), zq _ _ ?_⟩ | refine ⟨_, (pss_one (ps_ret (pe_op op_mod (pe_op op_mul (pv 0) (pv 1)) (pe_glA rfl g_WIDE)))), ?_⟩
    try simp only [nox_K, nox_P, nox_w, nox_mg, nox_base, cxOf_K, cxOf_P, cxOf_w, cxOf_mg, cxOf_base]
    repeat' walk_at "rd"
    exact k
theorem sc_contained : FnScope ["one", "other"] ["one", "other"] (defScope s_contained) := ⟨rfl, rfl, rfl, by decide +kernel, rfl, by decide +kernel, by decide +kernel⟩
theorem ok_contained    (D : DefAt K mg "contained" s_contained) : Cal P w K mg base 1 "contained" (sp2 rkDiv InBoth) := by
  refine cal_of (N := ["one", "other"]) (ps := ["one", "other"]) D sc_contained (fun vs H Q E h => ?_) (fun _ _ _ _ _ _ us hl => bd2 (R := fun us => bindArgs _ ⟨us, []⟩ = pure (List.zip _ us)) (fun _ _ => rfl) us hl) (fun f cdv A outer s H vs Q E hr h => ?_)
  · obtain ⟨a, b, rfl, _⟩ := h; rfl
  · obtain ⟨a, b, rfl, ⟨⟨ha0, ha1⟩, hb0, hb1⟩, k⟩ := h
    refine ⟨_, (pss_cons (ps_if (pt_cmpR op_eq (pv 1) pe_int (nomark _)) (pss_one (ps_ret pe_int)) pss_nil)
      (pss_one (ps_ret (pe_op op_fdivW (pv 0) (pv 1))))), ?_⟩
    try simp only [nox_K, nox_P, nox_w, nox_mg, nox_base, cxOf_K, cxOf_P, cxOf_w, cxOf_mg, cxOf_base]
    repeat' walk_at "rd"
    · rename_i e; exact rd_fin (by unfold rkDiv; rw [if_pos e]) k
    · rename_i e; exact rd_fin (by unfold rkDiv; rw [if_neg e]) k
theorem sc_left_over : FnScope ["one", "other"] ["one", "other"] (defScope s_left_over) := ⟨rfl, rfl, rfl, by decide +kernel, rfl, by decide +kernel, by decide +kernel⟩
theorem ok_left_over    (D : DefAt K mg "left_over" s_left_over) : Cal P w K mg base 1 "left_over" (sp2 rkMod InBoth) := by
  refine cal_of (N := ["one", "other"]) (ps := ["one", "other"]) D sc_left_over (fun vs H Q E h => ?_) (fun _ _ _ _ _ _ us hl => bd2 (R := fun us => bindArgs _ ⟨us, []⟩ = pure (List.zip _ us)) (fun _ _ => rfl) us hl) (fun f cdv A outer s H vs Q E hr h => ?_)
  · obtain ⟨a, b, rfl, _⟩ := h; rfl
  · obtain ⟨a, b, rfl, ⟨⟨ha0, ha1⟩, hb0, hb1⟩, k⟩ := h
    refine ⟨_, (pss_cons (ps_if (pt_cmpR op_eq (pv 1) pe_int (nomark _)) (pss_one (ps_ret pe_int)) pss_nil)
      (pss_one (ps_ret (pe_op op_mod (pv 0) (pv 1))))), ?_⟩
    try simp only [nox_K, nox_P, nox_w, nox_mg, nox_base, cxOf_K, cxOf_P, cxOf_w, cxOf_mg, cxOf_base]
    repeat' walk_at "rd"
    · rename_i e; exact rd_fin (by unfold rkMod; rw [if_pos e]) k
    · rename_i e; exact rd_fin (by unfold rkMod; rw [if_neg e]) k
theorem sc_is_below : FnScope ["one", "other"] ["one", "other"] (defScope s_is_below) := ⟨rfl, rfl, rfl, by decide +kernel, rfl, by decide +kernel, by decide +kernel⟩
theorem ok_is_below    (D : DefAt K mg "is_below" s_is_below) : Cal P w K mg base 1 "is_below" (sp2 rkLt InBoth) := by
  refine cal_of (N := ["one", "other"]) (ps := ["one", "other"]) D sc_is_below (fun vs H Q E h => ?_) (fun _ _ _ _ _ _ us hl => bd2 (R := fun us => bindArgs _ ⟨us, []⟩ = pure (List.zip _ us)) (fun _ _ => rfl) us hl) (fun f cdv A outer s H vs Q E hr h => ?_)
  · obtain ⟨a, b, rfl, _⟩ := h; rfl
  · obtain ⟨a, b, rfl, ⟨⟨ha0, ha1⟩, hb0, hb1⟩, k⟩ := h
    refine ⟨_, (pss_one (ps_ret (pe_ifExp (pt_cmpR op_lt (pv 0) (pv 1) (nomark _)) pe_int pe_int))), ?_⟩
    try simp only [nox_K, nox_P, nox_w, nox_mg, nox_base, cxOf_K, cxOf_P, cxOf_w, cxOf_mg, cxOf_base]
    repeat' walk_at "rd"
    · rename_i e; exact rd_fin (by unfold rkLt; rw [if_pos e]) k
    · rename_i e; exact rd_fin (by unfold rkLt; rw [if_neg e]) k
theorem sc_is_same : FnScope ["one", "other"] ["one", "other"] (defScope s_is_same) := ⟨rfl, rfl, rfl, by decide +kernel, rfl, by decide +kernel, by decide +kernel⟩
theorem ok_is_same    (D : DefAt K mg "is_same" s_is_same) : Cal P w K mg base 1 "is_same" (sp2 rkEq InBoth) := by
  refine cal_of (N := ["one", "other"]) (ps := ["one", "other"]) D sc_is_same (fun vs H Q E h => ?_) (fun _ _ _ _ _ _ us hl => bd2 (R := fun us => bindArgs _ ⟨us, []⟩ = pure (List.zip _ us)) (fun _ _ => rfl) us hl) (fun f cdv A outer s H vs Q E hr h => ?_)
  · obtain ⟨a, b, rfl, _⟩ := h; rfl
  · obtain ⟨a, b, rfl, ⟨⟨ha0, ha1⟩, hb0, hb1⟩, k⟩ := h
    refine ⟨_, (pss_one (ps_ret (pe_ifExp (pt_cmpR op_eq (pv 0) (pv 1) (nomark _)) pe_int pe_int))), ?_⟩
    try simp only [nox_K, nox_P, nox_w, nox_mg, nox_base, cxOf_K, cxOf_P, cxOf_w, cxOf_mg, cxOf_base]
    repeat' walk_at "rd"
    · rename_i e; exact rd_fin (by unfold rkEq; rw [if_pos e]) k
    · rename_i e; exact rd_fin (by unfold rkEq; rw [if_neg e]) k
theorem sc_in_both : FnScope ["one", "other"] ["one", "other"] (defScope s_in_both) := ⟨rfl, rfl, rfl, by decide +kernel, rfl, by decide +kernel, by decide +kernel⟩
theorem ok_in_both    (D : DefAt K mg "in_both" s_in_both) : Cal P w K mg base 1 "in_both" (sp2 rkAnd InBoth) := by
  refine cal_of (N := ["one", "other"]) (ps := ["one", "other"]) D sc_in_both (fun vs H Q E h => ?_) (fun _ _ _ _ _ _ us hl => bd2 (R := fun us => bindArgs _ ⟨us, []⟩ = pure (List.zip _ us)) (fun _ _ => rfl) us hl) (fun f cdv A outer s H vs Q E hr h => ?_)
  · obtain ⟨a, b, rfl, _⟩ := h; rfl
  · obtain ⟨a, b, rfl, ⟨⟨ha0, ha1⟩, hb0, hb1⟩, k⟩ := h
    refine ⟨_, (pss_one (ps_ret (pe_op op_and (pv 0) (pv 1)))), ?_⟩
    try simp only [nox_K, nox_P, nox_w, nox_mg, nox_base, cxOf_K, cxOf_P, cxOf_w, cxOf_mg, cxOf_base]
    repeat' walk_at "rd"
    exact k
theorem sc_in_either : FnScope ["one", "other"] ["one", "other"] (defScope s_in_either) := ⟨rfl, rfl, rfl, by decide +kernel, rfl, by decide +kernel, by decide +kernel⟩
theorem ok_in_either    (D : DefAt K mg "in_either" s_in_either) : Cal P w K mg base 1 "in_either" (sp2 rkOr InBoth) := by
  refine cal_of (N := ["one", "other"]) (ps := ["one", "other"]) D sc_in_either (fun vs H Q E h => ?_) (fun _ _ _ _ _ _ us hl => bd2 (R := fun us => bindArgs _ ⟨us, []⟩ = pure (List.zip _ us)) (fun _ _ => rfl) us hl) (fun f cdv A outer s H vs Q E hr h => ?_)
  · obtain ⟨a, b, rfl, _⟩ := h; rfl
  · obtain ⟨a, b, rfl, ⟨⟨ha0, ha1⟩, hb0, hb1⟩, k⟩ := h
    refine ⟨_, (pss_one (ps_ret (pe_op op_or (pv 0) (pv 1)))), ?_⟩
    try simp only [nox_K, nox_P, nox_w, nox_mg, nox_base, cxOf_K, cxOf_P, cxOf_w, cxOf_mg, cxOf_base]
    repeat' walk_at "rd"
    exact k
theorem sc_in_just_one : FnScope ["one", "other"] ["one", "other"] (defScope s_in_just_one) := ⟨rfl, rfl, rfl, by decide +kernel, rfl, by decide +kernel, by decide +kernel⟩
theorem ok_in_just_one    (D : DefAt K mg "in_just_one" s_in_just_one) : Cal P w K mg base 1 "in_just_one" (sp2 rkXor InBoth) := by
  refine cal_of (N := ["one", "other"]) (ps := ["one", "other"]) D sc_in_just_one (fun vs H Q E h => ?_) (fun _ _ _ _ _ _ us hl => bd2 (R := fun us => bindArgs _ ⟨us, []⟩ = pure (List.zip _ us)) (fun _ _ => rfl) us hl) (fun f cdv A outer s H vs Q E hr h => ?_)
  · obtain ⟨a, b, rfl, _⟩ := h; rfl
  · obtain ⟨a, b, rfl, ⟨⟨ha0, ha1⟩, hb0, hb1⟩, k⟩ := h
    refine ⟨_, (pss_one (ps_ret (pe_op op_xor (pv 0) (pv 1)))), ?_⟩
    try simp only [nox_K, nox_P, nox_w, nox_mg, nox_base, cxOf_K, cxOf_P, cxOf_w, cxOf_mg, cxOf_base]
    repeat' walk_at "rd"
    exact k
theorem sc_doubled : FnScope ["one", "other"] ["one", "other"] (defScope s_doubled) := ⟨rfl, rfl, rfl, by decide +kernel, rfl, by decide +kernel, by decide +kernel⟩
theorem ok_doubled    (D : DefAt K mg "doubled" s_doubled) (n_max : mg "max" = none) (g_FIGURES : GlobAt mg "FIGURES" (.int 64)) (g_WIDE : GlobAt mg "WIDE" (.int 18446744073709551616)) : Cal P w K mg base 1 "doubled" (sp2 rkUp InBoth) := by
  refine cal_of (N := ["one", "other"]) (ps := ["one", "other"]) D sc_doubled (fun vs H Q E h => ?_) (fun _ _ _ _ _ _ us hl => bd2 (R := fun us => bindArgs _ ⟨us, []⟩ = pure (List.zip _ us)) (fun _ _ => rfl) us hl) (fun f cdv A outer s H vs Q E hr h => ?_)
  · obtain ⟨a, b, rfl, _⟩ := h; rfl
  · obtain ⟨a, b, rfl, ⟨⟨ha0, ha1⟩, hb0, hb1⟩, k⟩ := h
    refine ⟨_, (pss_cons (ps_if (pt_cmpR op_ge (pv 1) (pe_glA rfl g_FIGURES) (nomark _)) (pss_one (ps_ret pe_int)) pss_nil)
      (pss_one (ps_ret (pe_op op_mod (pe_op op_shl (pv 0) (pe_callB (cn_max rfl) rfl n_max PyProof.Rows.boot_max (pa_cons (pv 1) (pa_cons pe_int pa_nil)))) (pe_glA rfl g_WIDE))))), ?_⟩
    try simp only [nox_K, nox_P, nox_w, nox_mg, nox_base, cxOf_K, cxOf_P, cxOf_w, cxOf_mg, cxOf_base]
    repeat' walk_at "rd"
    · rename_i e; exact rd_fin (by unfold rkUp; rw [if_pos e]) k
    · rename_i e
      refine rd_max2 ?_
      have m0 : (if (0 : Int) > b then (0 : Int) else b) = b := if_neg (by omega)
      rw [m0]
      refine rd_I ⟨hb0, by omega, by omega⟩ ?_
      repeat walk_at "rd"
      exact rd_fin (by unfold rkUp; rw [if_neg e]) k
theorem sc_halved : FnScope ["one", "other"] ["one", "other"] (defScope s_halved) := ⟨rfl, rfl, rfl, by decide +kernel, rfl, by decide +kernel, by decide +kernel⟩
theorem ok_halved    (D : DefAt K mg "halved" s_halved) (n_max : mg "max" = none) (g_FIGURES : GlobAt mg "FIGURES" (.int 64)) : Cal P w K mg base 1 "halved" (sp2 rkDown InBoth) := by
  refine cal_of (N := ["one", "other"]) (ps := ["one", "other"]) D sc_halved (fun vs H Q E h => ?_) (fun _ _ _ _ _ _ us hl => bd2 (R := fun us => bindArgs _ ⟨us, []⟩ = pure (List.zip _ us)) (fun _ _ => rfl) us hl) (fun f cdv A outer s H vs Q E hr h => ?_)
  · obtain ⟨a, b, rfl, _⟩ := h; rfl
  · obtain ⟨a, b, rfl, ⟨⟨ha0, ha1⟩, hb0, hb1⟩, k⟩ := h
    refine ⟨_, (pss_cons (ps_if (pt_cmpR op_ge (pv 1) (pe_glA rfl g_FIGURES) (nomark _)) (pss_one (ps_ret pe_int)) pss_nil)
      (pss_one (ps_ret (pe_op op_shr (pv 0) (pe_callB (cn_max rfl) rfl n_max PyProof.Rows.boot_max (pa_cons (pv 1) (pa_cons pe_int pa_nil))))))), ?_⟩
    try simp only [nox_K, nox_P, nox_w, nox_mg, nox_base, cxOf_K, cxOf_P, cxOf_w, cxOf_mg, cxOf_base]
    repeat' walk_at "rd"
    · rename_i e; exact rd_fin (by unfold rkDown; rw [if_pos e]) k
    · rename_i e
      refine rd_max2 ?_
      have m0 : (if (0 : Int) > b then (0 : Int) else b) = b := if_neg (by omega)
      rw [m0]
      refine rd_I hb0 ?_
      repeat walk_at "rd"
      exact rd_fin (by unfold rkDown; rw [if_neg e]) k
theorem sums_ok {aS : Addr} {u1 u2 u3 u4 u5 u6 u7 u8 u9 u10 u11 u12 : Value} (dk : DictK P w K aS [(Sum.inr "add", u1), (Sum.inr "minus", u2), (Sum.inr "times", u3), (Sum.inr "over", u4), (Sum.inr "rest", u5), (Sum.inr "below", u6), (Sum.inr "same", u7), (Sum.inr "both", u8), (Sum.inr "either", u9), (Sum.inr "unlike", u10), (Sum.inr "up", u11), (Sum.inr "down", u12)])
    (m1 : mg "added" = some u1) (m2 : mg "lessened" = some u2) (m3 : mg "multiplied" = some u3) (m4 : mg "contained" = some u4) (m5 : mg "left_over" = some u5) (m6 : mg "is_below" = some u6) (m7 : mg "is_same" = some u7) (m8 : mg "in_both" = some u8) (m9 : mg "in_either" = some u9) (m10 : mg "in_just_one" = some u10) (m11 : mg "doubled" = some u11) (m12 : mg "halved" = some u12)
    (c1 : Cal P w K mg base 1 "added" (sp2 rkAdd InBoth)) (c2 : Cal P w K mg base 1 "lessened" (sp2 rkSub InBoth)) (c3 : Cal P w K mg base 1 "multiplied" (sp2 rkMul InBoth)) (c4 : Cal P w K mg base 1 "contained" (sp2 rkDiv InBoth)) (c5 : Cal P w K mg base 1 "left_over" (sp2 rkMod InBoth)) (c6 : Cal P w K mg base 1 "is_below" (sp2 rkLt InBoth)) (c7 : Cal P w K mg base 1 "is_same" (sp2 rkEq InBoth)) (c8 : Cal P w K mg base 1 "in_both" (sp2 rkAnd InBoth)) (c9 : Cal P w K mg base 1 "in_either" (sp2 rkOr InBoth)) (c10 : Cal P w K mg base 1 "in_just_one" (sp2 rkXor InBoth)) (c11 : Cal P w K mg base 1 "doubled" (sp2 rkUp InBoth)) (c12 : Cal P w K mg base 1 "halved" (sp2 rkDown InBoth)) : SumsOk P w K mg base aS := by
  refine ⟨_, dk, fun x f h => ?_⟩
  have hm := memLookup h
  simp only [RK, List.mem_cons, Prod.mk.injEq, List.not_mem_nil, or_false] at hm
  rcases hm with ⟨rfl, rfl⟩ | ⟨rfl, rfl⟩ | ⟨rfl, rfl⟩ | ⟨rfl, rfl⟩ | ⟨rfl, rfl⟩ | ⟨rfl, rfl⟩ | ⟨rfl, rfl⟩ | ⟨rfl, rfl⟩ | ⟨rfl, rfl⟩ | ⟨rfl, rfl⟩ | ⟨rfl, rfl⟩ | ⟨rfl, rfl⟩
  · obtain ⟨fa, m, c⟩ := c1
    rw [m1] at m
    cases m
    exact ⟨fa, rfl, c⟩
  · obtain ⟨fa, m, c⟩ := c2
    rw [m2] at m
    cases m
    exact ⟨fa, rfl, c⟩
  · obtain ⟨fa, m, c⟩ := c3
    rw [m3] at m
    cases m
    exact ⟨fa, rfl, c⟩
  · obtain ⟨fa, m, c⟩ := c4
    rw [m4] at m
    cases m
    exact ⟨fa, rfl, c⟩
  · obtain ⟨fa, m, c⟩ := c5
    rw [m5] at m
    cases m
    exact ⟨fa, rfl, c⟩
  · obtain ⟨fa, m, c⟩ := c6
    rw [m6] at m
    cases m
    exact ⟨fa, rfl, c⟩
  · obtain ⟨fa, m, c⟩ := c7
    rw [m7] at m
    cases m
    exact ⟨fa, rfl, c⟩
  · obtain ⟨fa, m, c⟩ := c8
    rw [m8] at m
    cases m
    exact ⟨fa, rfl, c⟩
  · obtain ⟨fa, m, c⟩ := c9
    rw [m9] at m
    cases m
    exact ⟨fa, rfl, c⟩
  · obtain ⟨fa, m, c⟩ := c10
    rw [m10] at m
    cases m
    exact ⟨fa, rfl, c⟩
  · obtain ⟨fa, m, c⟩ := c11
    rw [m11] at m
    cases m
    exact ⟨fa, rfl, c⟩
  · obtain ⟨fa, m, c⟩ := c12
    rw [m12] at m
    cases m
    exact ⟨fa, rfl, c⟩
theorem sc_reckon : FnScope ["word", "one", "other"] ["word", "one", "other"] (defScope s_reckon) := ⟨rfl, rfl, rfl, by decide +kernel, rfl, by decide +kernel, by decide +kernel⟩
theorem ok_reckon  {aS : Addr} (S : SumsOk P w K mg base aS)  (D : DefAt K mg "reckon" s_reckon) (g_SUMS : GlobAt mg "SUMS" (.ref aS)) : Cal P w K mg base 2 "reckon" spReckon := by
  refine cal_of (N := ["word", "one", "other"]) (ps := ["word", "one", "other"]) D sc_reckon (fun vs H Q E h => ?_) (fun _ _ _ _ _ _ us hl => bd3 (R := fun us => bindArgs _ ⟨us, []⟩ = pure (List.zip _ us)) (fun _ _ _ => rfl) us hl) (fun f cdv A outer s H vs Q E hr h => ?_)
  · obtain ⟨x, a, b, f, rfl, _⟩ := h; rfl
  · obtain ⟨x, a, b, fn, rfl, hx, hc, k⟩ := h
    first | refine sp_gen fun zQ zq => ⟨_, (pss_one (ps_ret (pe_callV (k := 1) (hr.mono (by decide)) (pe_ixK (pe_glA rfl g_SUMS) (pv 0) (fun _ _ => rfl)) (pa_cons (pv 1) (pa_cons (pv 2) pa_nil))))), zq _ _ ?_⟩ | refine ⟨_, (pss_one (ps_ret (pe_callV (k := 1) (hr.mono (by decide)) (pe_ixK (pe_glA rfl g_SUMS) (pv 0) (fun _ _ => rfl)) (pa_cons (pv 1) (pa_cons (pv 2) pa_nil))))), ?_⟩
    try simp only [nox_K, nox_P, nox_w, nox_mg, nox_base, cxOf_K, cxOf_P, cxOf_w, cxOf_mg, cxOf_base]
    obtain ⟨ws, dk, al⟩ := S
    obtain ⟨fa, hv, cf⟩ := al x fn hx
    refine rd_ret ?_
    show tCallV _ _ _ _ _ _ _ _ _ _ _
    first | refine sp_gen fun zQ zq => ⟨_, rfl, aS, ws, .inr x, .ref fa, .ref fa, rfl, rfl, dk, hv, rfl, fa, _, rfl, cf, zq _ _ ?_⟩ | refine ⟨_, rfl, aS, ws, .inr x, .ref fa, .ref fa, rfl, rfl, dk, hv, rfl, fa, _, rfl, cf, ?_⟩
    repeat walk_at "rd"
    exact ⟨a, b, rfl, hc, k⟩

end
end My

namespace My
open PySem L2

noncomputable def RT : List (Str × Int × Int × Int × Int) := [("push", 0, 1, 1, 1), ("drop", 1, 0, 1, 1), ("copy", 1, 2, 1, 1), ("swap", 1, 1, 1, 1), ("add", 2, 1, 1, 1), ("minus", 2, 1, 1, 1), ("times", 2, 1, 2, 2), ("over", 2, 1, 2, 2), ("rest", 2, 1, 2, 2), ("below", 2, 1, 1, 1), ("same", 2, 1, 1, 1), ("both", 2, 1, 1, 1), ("either", 2, 1, 1, 1), ("unlike", 2, 1, 1, 1), ("up", 2, 1, 1, 1), ("down", 2, 1, 1, 1), ("jump", 0, 0, 1, 1), ("jumpif", 1, 0, 1, 1), ("load", 1, 1, 3, 3), ("save", 2, 0, 5, 12), ("me", 0, 1, 1, 1), ("from", 0, 1, 1, 1), ("sent", 0, 1, 1, 1), ("word", 0, 1, 1, 1), ("coin", 1, 1, 3, 3), ("note", 1, 0, 4, 4), ("call", 4, 2, 8, 12), ("borrow", 3, 2, 6, 6), ("look", 3, 2, 6, 6), ("give", 1, 0, 1, 1), ("fail", 1, 0, 1, 1)]
noncomputable def rowV (x : Str) (n : Option Int) : List V := rowVs (x, n)

noncomputable def reachOf (x : Str) (n : Option Int) : Option Int := if inS x ["copy", "swap"] = true then n else some 0
noncomputable def RowsOk (P : Program) (w : World) (K : PySem.W.Frag) (aT : Addr) : Prop :=
  ∃ vs, DictK P w K aT vs ∧ ∀ x t l p d, RT.lookup x = some (t, l, p, d) → ∃ ta, valueAt vs (.inr x) = some (.ref ta) ∧ TupK K ta [.int t, .int l, .int p, .int d]
noncomputable def IsRow (K : PySem.W.Frag) (H : Hp) (p : Addr) (x : Str) (n : Option Int) : Prop := SqT K H p (rowV x n)
theorem row_at0 {x : Str} {n : Option Int} : atI (rowV x n) 0 = some (.str x) := by cases n <;> rfl
noncomputable def spReach (K : PySem.W.Frag) : Sp := fun vs H Q _ => ∃ p x n r, vs = [.ref p] ∧ IsRow K H p x n ∧ reachOf x n = some r ∧ Q (.int r) H
noncomputable def spTakes (K : PySem.W.Frag) : Sp := fun vs H Q _ => ∃ p x n r t l pr d, vs = [.ref p] ∧ IsRow K H p x n ∧ reachOf x n = some r ∧ RT.lookup x = some (t, l, pr, d) ∧ Q (.int (t + r)) H
noncomputable def spLeaves (K : PySem.W.Frag) : Sp := fun vs H Q _ => ∃ p x n r t l pr d, vs = [.ref p] ∧ IsRow K H p x n ∧ reachOf x n = some r ∧ RT.lookup x = some (t, l, pr, d) ∧ Q (.int (l + r)) H

noncomputable def spPrice (K : PySem.W.Frag) : Sp := fun vs H Q _ => ∃ p x n t l pr d b, vs = [.ref p, .bl b] ∧ IsRow K H p x n ∧ RT.lookup x = some (t, l, pr, d) ∧ Q (.int (if b = true then d else pr)) H
local macro_rules | `(tactic| walk_at "rw") => `(tactic| first
  | walk_at "rdk"
  | ((with_reducible refine' L2.rd_ixT ?h ?e ?_); (case h => assumption); (case e => exact My.row_at0))
  | fail)
local macro_rules | `(tactic| walk_at "rz") => `(tactic| first
  | ((with_reducible refine L2.rd_iteD (fun _ => ?_) (fun _ => ?_)) <;> (try (exfalso; omega)))
  | ((with_reducible refine L2.rd_iteND (fun _ => ?_) (fun _ => ?_)) <;> (try (exfalso; omega)))
  | ((with_reducible refine L2.rd_iteNND (fun _ => ?_) (fun _ => ?_)) <;> (try (exfalso; omega)))
  | walk_at "rw"
  | fail)

section
variable {P : Program} {w : World} {K : PySem.W.Frag} {mg : Str → Option Value} {base : Heap}
theorem sc_reach : FnScope ["row"] ["row"] (defScope s_reach) := ⟨rfl, rfl, rfl, by decide +kernel, rfl, by decide +kernel, by decide +kernel⟩
theorem ok_reach  {aR : Addr} (tR : TupK K aR ((["copy", "swap"] : List Str).map V.str))  (D : DefAt K mg "reach" s_reach) (g_REACHING : GlobAt mg "REACHING" (.ref aR)) : Cal P w K mg base 1 "reach" (spReach K) := by
  refine cal_of (N := ["row"]) (ps := ["row"]) D sc_reach (fun vs H Q E h => ?_) (fun _ _ _ _ _ _ us hl => bd1 (R := fun us => bindArgs _ ⟨us, []⟩ = pure (List.zip _ us)) (fun _ => rfl) us hl) (fun f cdv A outer s H vs Q E hr h => ?_)
  · obtain ⟨p, x, n, r, rfl, _⟩ := h; rfl
  · obtain ⟨p, x, n, r, rfl, hp, hr', k⟩ := h
    refine ⟨_, (pss_cons (ps_if (pt_cmpR op_in_seq (pe_ix ix_tup (pv 0) pe_int (fun _ _ => rfl)) (pe_glA rfl g_REACHING) rfl) (pss_one (ps_ret (pe_ix ix_tup (pv 0) pe_int (fun _ _ => rfl)))) pss_nil)
      (pss_one (ps_ret pe_int))), ?_⟩
    try simp only [nox_K, nox_P, nox_w, nox_mg, nox_base, cxOf_K, cxOf_P, cxOf_w, cxOf_mg, cxOf_base]
    repeat walk_at "rd"
    refine rd_ixT hp row_at0 ?_
    repeat walk_at "rd"
    refine rd_inT (tR.sqt H) ?_
    repeat walk_at "rd"
    unfold reachOf at hr'
    cases e : inS x ["copy", "swap"] with
    | true =>
      rw [e, if_pos rfl] at hr'
      subst hr'
      repeat walk_at "rd"
      refine rd_ixT hp rfl ?_
      exact k
    | false =>
      rw [e, if_neg (by decide)] at hr'
      cases hr'
      repeat walk_at "rd"
      exact k
theorem sc_takes : FnScope ["row"] ["row"] (defScope s_takes) := ⟨rfl, rfl, rfl, by decide +kernel, rfl, by decide +kernel, by decide +kernel⟩
theorem ok_takes  {aT : Addr} (R : RowsOk P w K aT)  (D : DefAt K mg "takes" s_takes) (c_reach : Cal P w K mg base 1 "reach" (spReach K)) (g_ROWS : GlobAt mg "ROWS" (.ref aT)) : Cal P w K mg base 2 "takes" (spTakes K) := by
  refine cal_of (N := ["row"]) (ps := ["row"]) D sc_takes (fun vs H Q E h => ?_) (fun _ _ _ _ _ _ us hl => bd1 (R := fun us => bindArgs _ ⟨us, []⟩ = pure (List.zip _ us)) (fun _ => rfl) us hl) (fun f cdv A outer s H vs Q E hr h => ?_)
  · obtain ⟨p, x, n, r, t, l, pr, d, rfl, _⟩ := h; rfl
  · obtain ⟨p, x, n, r, t, l, pr, d, rfl, hp, hr', ht, k⟩ := h
    first | refine sp_gen fun zQ zq => ⟨_, (pss_one (ps_ret (pe_op op_add (pe_ix ix_tup (pe_ixK (pe_glA rfl g_ROWS) (pe_ix ix_tup (pv 0) pe_int (fun _ _ => rfl)) (fun _ _ => rfl)) pe_int (fun _ _ => rfl)) (pe_cal c_reach (hr.mono (by decide)) rfl (pa_cons (pv 0) pa_nil))))), zq _ _ ?_⟩ | refine ⟨_, (pss_one (ps_ret (pe_op op_add (pe_ix ix_tup (pe_ixK (pe_glA rfl g_ROWS) (pe_ix ix_tup (pv 0) pe_int (fun _ _ => rfl)) (fun _ _ => rfl)) pe_int (fun _ _ => rfl)) (pe_cal c_reach (hr.mono (by decide)) rfl (pa_cons (pv 0) pa_nil))))), ?_⟩
    try simp only [nox_K, nox_P, nox_w, nox_mg, nox_base, cxOf_K, cxOf_P, cxOf_w, cxOf_mg, cxOf_base]
    obtain ⟨ws, dk, al⟩ := R
    obtain ⟨ta, hv, tk⟩ := al x t l pr d ht
    have tk' := tk.sqt H
    repeat walk_at "rw"
    refine rd_DK (v := .ref ta) dk hv rfl ?_
    repeat walk_at "rw"
    first | refine sp_gen fun zQ zq => ⟨p, x, n, r, rfl, hp, hr', zq _ _ ?_⟩ | refine ⟨p, x, n, r, rfl, hp, hr', ?_⟩
    repeat walk_at "rw"
    exact k
theorem sc_leaves : FnScope ["row"] ["row"] (defScope s_leaves) := ⟨rfl, rfl, rfl, by decide +kernel, rfl, by decide +kernel, by decide +kernel⟩
theorem ok_leaves  {aT : Addr} (R : RowsOk P w K aT)  (D : DefAt K mg "leaves" s_leaves) (c_reach : Cal P w K mg base 1 "reach" (spReach K)) (g_ROWS : GlobAt mg "ROWS" (.ref aT)) : Cal P w K mg base 2 "leaves" (spLeaves K) := by
  refine cal_of (N := ["row"]) (ps := ["row"]) D sc_leaves (fun vs H Q E h => ?_) (fun _ _ _ _ _ _ us hl => bd1 (R := fun us => bindArgs _ ⟨us, []⟩ = pure (List.zip _ us)) (fun _ => rfl) us hl) (fun f cdv A outer s H vs Q E hr h => ?_)
  · obtain ⟨p, x, n, r, t, l, pr, d, rfl, _⟩ := h; rfl
  · obtain ⟨p, x, n, r, t, l, pr, d, rfl, hp, hr', ht, k⟩ := h
    first | refine sp_gen fun zQ zq => ⟨_, (pss_one (ps_ret (pe_op op_add (pe_ix ix_tup (pe_ixK (pe_glA rfl g_ROWS) (pe_ix ix_tup (pv 0) pe_int (fun _ _ => rfl)) (fun _ _ => rfl)) pe_int (fun _ _ => rfl)) (pe_cal c_reach (hr.mono (by decide)) rfl (pa_cons (pv 0) pa_nil))))), zq _ _ ?_⟩ | refine ⟨_, (pss_one (ps_ret (pe_op op_add (pe_ix ix_tup (pe_ixK (pe_glA rfl g_ROWS) (pe_ix ix_tup (pv 0) pe_int (fun _ _ => rfl)) (fun _ _ => rfl)) pe_int (fun _ _ => rfl)) (pe_cal c_reach (hr.mono (by decide)) rfl (pa_cons (pv 0) pa_nil))))), ?_⟩
    try simp only [nox_K, nox_P, nox_w, nox_mg, nox_base, cxOf_K, cxOf_P, cxOf_w, cxOf_mg, cxOf_base]
    obtain ⟨ws, dk, al⟩ := R
    obtain ⟨ta, hv, tk⟩ := al x t l pr d ht
    have tk' := tk.sqt H
    repeat walk_at "rw"
    refine rd_DK (v := .ref ta) dk hv rfl ?_
    repeat walk_at "rw"
    first | refine sp_gen fun zQ zq => ⟨p, x, n, r, rfl, hp, hr', zq _ _ ?_⟩ | refine ⟨p, x, n, r, rfl, hp, hr', ?_⟩
    repeat walk_at "rw"
    exact k
theorem sc_price : FnScope ["row", "dear"] ["row", "dear"] (defScope s_price) := ⟨rfl, rfl, rfl, by decide +kernel, rfl, by decide +kernel, by decide +kernel⟩
theorem ok_price {aT : Addr} (R : RowsOk P w K aT) (D : DefAtD K mg "price" s_price #[.bool false]) (g_ROWS : GlobAt mg "ROWS" (.ref aT)) : CalD P w K mg base 1 "price" (spPrice K) [] := by
  obtain ⟨f, fd, F, m⟩ := D
  refine ⟨f, fd, _, [], m, F.fn (N := ["row", "dear"]) (ps := ["row", "dear"]) sc_price (fun vs H Q E h => ?_) (fun cdv A outer s H vs Q E hr h => ?_), F.kp, F.binds (ps := ["row", "dear"]) [] (fun T kV doc pm an cdv ct us hl => bd2 (R := fun us => ∃ k : Option (Array Value) → Sem (List (Str × Value)), bindArgs _ ⟨us, []⟩ = seqItems? (.ref T) >>= k ∧ k (some _) = pure (List.zip _ (us ++ []))) (fun _ _ => ⟨_, rfl, rfl⟩) us (by simpa using hl)), .nil⟩
  · obtain ⟨p, x, n, t, l, pr, d, b, rfl, _⟩ := h; rfl
  · obtain ⟨p, x, n, t, l, pr, d, b, rfl, hp, ht, k⟩ := h
    refine ⟨_, (pss_cons (ps_if (pt_val (pv 1)) (pss_one (ps_ret (pe_ix ix_tup (pe_ixK (pe_glA rfl g_ROWS) (pe_ix ix_tup (pv 0) pe_int (fun _ _ => rfl)) (fun _ _ => rfl)) pe_int (fun _ _ => rfl)))) pss_nil)
      (pss_one (ps_ret (pe_ix ix_tup (pe_ixK (pe_glA rfl g_ROWS) (pe_ix ix_tup (pv 0) pe_int (fun _ _ => rfl)) (fun _ _ => rfl)) pe_int (fun _ _ => rfl))))), ?_⟩
    try simp only [nox_K, nox_P, nox_w, nox_mg, nox_base, cxOf_K, cxOf_P, cxOf_w, cxOf_mg, cxOf_base]
    obtain ⟨ws, dk, al⟩ := R
    obtain ⟨ta, hv, tk⟩ := al x t l pr d ht
    have tk' := tk.sqt H
    repeat walk_at "rw"
    cases b with
    | true =>
      repeat walk_at "rw"
      refine rd_DK (v := .ref ta) dk hv rfl ?_
      repeat walk_at "rw"
      exact k
    | false =>
      repeat walk_at "rw"
      refine rd_DK (v := .ref ta) dk hv rfl ?_
      repeat walk_at "rw"
      exact k

end
end My

namespace My
open PySem L2

noncomputable def accF (c p n : Int) (pr st : Addr) : List (Str × V) := [("coin", .int c), ("purse", .int p), ("count", .int n), ("program", .ref pr), ("store", .ref st)]
structure AcAt (K : PySem.W.Frag) (C : Addr) (H : Hp) (a dx pr st : Addr) (c p n : Int) (rs : List Row) (f : Int → Int) (m : Nat) : Prop where
  ob : H a = some (.ins C dx (accF c p n pr st))
  pg : ∃ xs, H pr = some (.lst xs) ∧ RowsAt K H rs xs
  sto : StoreAt H st f m
noncomputable def spInit (K : PySem.W.Frag) (C : Addr) : Sp := fun vs H Q _ => ∃ (a dx pr0 : Addr) (c p : Int) (xs : List V) (rs : List Row), vs = [.ref a, .int c, .int p, .ref pr0] ∧ H a = some (.ins C dx []) ∧ SqL K H pr0 xs ∧ RowsAt K H rs xs ∧
  ∀ (pr st : Addr) (H' : Hp), H pr = none → H st = none → pr ≠ st → AcAt K C H' a dx pr st c p 0 rs (fun _ => 0) 0 → (∀ b o, H b = some o → b ≠ a → H' b = some o) → Q .non H'
noncomputable def spLoaded (K : PySem.W.Frag) (C : Addr) : Sp := fun vs H Q _ => ∃ (a dx pr st : Addr) (c p n : Int) (rs : List Row) (f : Int → Int) (m : Nat) (i : Int), vs = [.ref a, .int i] ∧ AcAt K C H a dx pr st c p n rs f m ∧ Q (.int (f i)) H
noncomputable def spKeep (K : PySem.W.Frag) (C : Addr) : Sp := fun vs H Q _ => ∃ (a dx pr st : Addr) (c p n : Int) (rs : List Row) (f : Int → Int) (m : Nat) (i v : Int), vs = [.ref a, .int i, .int v] ∧ AcAt K C H a dx pr st c p n rs f m ∧ m ≤ 1000000 ∧
  ∀ H', (∀ b, b ≠ st → H' b = H b) → StoreAt H' st (putFn f i v) (m + 1) → Q .non H'
theorem AcAt.nd {K : PySem.W.Frag} {C : Addr} {H H' : Hp} {a dx pr st : Addr} {c p n : Int} {rs : List Row} {f g : Int → Int} {m m' : Nat} (h : AcAt K C H a dx pr st c p n rs f m) (s : SameND H H') (e : StoreAt H' st g m') : AcAt K C H' a dx pr st c p n rs g m' :=
  ⟨s _ _ h.ob (by intro _ z; cases z), let ⟨xs, e1, e2⟩ := h.pg; ⟨xs, s _ _ e1 (by intro _ z; cases z), e2.keep s.imm⟩, e⟩
theorem SameND.but {H H' : Hp} {st : Addr} {kvs : List (Key × V)} (h : H st = some (.dK kvs)) (k : ∀ b, b ≠ st → H' b = H b) : SameND H H' := fun b u e n => by
  rw [k b (fun z => by rw [z, h] at e; exact n kvs (Option.some.inj e).symm)]; exact e

structure AcI where
  a : Addr
  dx : Addr
  pr : Addr
  st : Addr
structure AcS where
  coin : Int
  purse : Int
  count : Int
  rows : List Row
  store : Int → Int
noncomputable def roomV : Option AcI → V
  | none => .non
  | some x => .ref x.a
noncomputable def Acc (K : PySem.W.Frag) (C : Addr) (H : Hp) (x : AcI) (S : AcS) (m : Nat) : Prop := AcAt K C H x.a x.dx x.pr x.st S.coin S.purse S.count S.rows S.store m
structure Rooms (K : PySem.W.Frag) (C : Addr) (H : Hp) (R : Addr) (A : Nat → Option AcI) (S : Nat → AcS) (m : Nat) : Prop where
  ob : H R = some (.lst ((List.range 16).map fun i => roomV (A i)))
  ac : ∀ i x, i < 16 → A i = some x → Acc K C H x (S i) m
  da : ∀ i j x y, i < 16 → j < 16 → A i = some x → A j = some y → x.a = y.a → i = j
  ds : ∀ i j x y, i < 16 → j < 16 → A i = some x → A j = some y → x.st = y.st → i = j
noncomputable def setS (S : Nat → AcS) (i : Nat) (v : AcS) : Nat → AcS := fun j => if j = i then v else S j
theorem Rooms.at {K : PySem.W.Frag} {C : Addr} {H : Hp} {R : Addr} {A : Nat → Option AcI} {S : Nat → AcS} {m : Nat} (r : Rooms K C H R A S m) {i : Nat} (hi : i < 16) {x : AcI} (hx : A i = some x) : atI ((List.range 16).map fun i => roomV (A i)) (i : Int) = some (.ref x.a) :=
  atI_nat' (i := i) (by rw [List.getElem?_map, List.getElem?_range hi]; show some (roomV (A i)) = _; rw [hx]; rfl) rfl
theorem Acc.le {K : PySem.W.Frag} {C : Addr} {H : Hp} {x : AcI} {S : AcS} {m m' : Nat} (h : Acc K C H x S m) (e : m ≤ m') : Acc K C H x S m' := ⟨h.ob, h.pg, h.sto.le e⟩
theorem Rooms.keep {K : PySem.W.Frag} {C : Addr} {H H' : Hp} {R : Addr} {A : Nat → Option AcI} {S : Nat → AcS} {m : Nat} (r : Rooms K C H R A S m) {i : Nat} (hi : i < 16) {x : AcI} (hx : A i = some x) (k : ∀ b, b ≠ x.st → H' b = H b) {p v : Int} (e : StoreAt H' x.st (putFn (S i).store p v) (m + 1)) :
    Rooms K C H' R A (setS S i { S i with store := putFn (S i).store p v }) (m + 1) := by
  have ai := r.ac i x hi hx
  obtain ⟨kvs, hs, _⟩ := ai.sto
  have nd := SameND.but hs k
  refine ⟨by rw [k R (ne_of r.ob hs (by intro z; cases z))]; exact r.ob, fun j y hj hy => ?_, r.da, r.ds⟩
  unfold setS
  by_cases z : j = i
  · subst z
    rw [hx] at hy
    cases hy
    rw [if_pos rfl]
    exact AcAt.nd ai nd e
  · rw [if_neg z]
    have aj := (r.ac j y hj hy).le (Nat.le_succ m)
    have hne : y.st ≠ x.st := fun q => z (r.ds j i y x hj hi hy hx q)
    exact AcAt.nd aj nd (aj.sto.same (k _ hne))
theorem Rooms.coin {K : PySem.W.Frag} {C : Addr} {H : Hp} {R : Addr} {A : Nat → Option AcI} {S : Nat → AcS} {m : Nat} (r : Rooms K C H R A S m) {i : Nat} (hi : i < 16) {x : AcI} (hx : A i = some x) (c : Int) :
    Rooms K C (upd H x.a (.ins C x.dx (accF c (S i).purse (S i).count x.pr x.st))) R A (setS S i { S i with coin := c }) m := by
  have ai := r.ac i x hi hx
  have im : SameI H (upd H x.a (.ins C x.dx (accF c (S i).purse (S i).count x.pr x.st))) := SameI.upd ai.ob notImm_ins
  refine ⟨by rw [upd_ne (ne_of r.ob ai.ob (by intro z; cases z))]; exact r.ob, fun j y hj hy => ?_, r.da, r.ds⟩
  have aj := r.ac j y hj hy
  obtain ⟨xs, e1, e2⟩ := aj.pg
  obtain ⟨kvs, e3, e4⟩ := aj.sto
  have f1 : (upd H x.a (.ins C x.dx (accF c (S i).purse (S i).count x.pr x.st))) y.pr = some (.lst xs) := by rw [upd_ne (ne_of e1 ai.ob (by intro z; cases z))]; exact e1
  have f2 : (upd H x.a (.ins C x.dx (accF c (S i).purse (S i).count x.pr x.st))) y.st = some (.dK kvs) := by rw [upd_ne (ne_of e3 ai.ob (by intro z; cases z))]; exact e3
  unfold setS
  by_cases z : j = i
  · subst z
    rw [hx] at hy
    cases hy
    rw [if_pos rfl]
    exact ⟨upd_same, ⟨xs, f1, e2.keep im⟩, kvs, f2, e4⟩
  · rw [if_neg z]
    have hne : y.a ≠ x.a := fun q => z (r.da j i y x hj hi hy hx q)
    exact ⟨by rw [upd_ne hne]; exact aj.ob, ⟨xs, f1, e2.keep im⟩, kvs, f2, e4⟩
noncomputable def moved (S : Nat → AcS) (i j : Nat) (k : Int) : Nat → AcS := let S1 := setS S i { S i with coin := (S i).coin - k }; setS S1 j { S1 j with coin := (S1 j).coin + k }
noncomputable def spShift (K : PySem.W.Frag) (C : Addr) : Sp := fun vs H Q _ => ∃ (R : Addr) (A : Nat → Option AcI) (S : Nat → AcS) (m i j : Nat) (x y : AcI) (k : Int), vs = [.ref x.a, .ref y.a, .int k] ∧ Rooms K C H R A S m ∧ i < 16 ∧ j < 16 ∧ A i = some x ∧ A j = some y ∧
  ∀ H', (∀ b, b ≠ x.a → b ≠ y.a → H' b = H b) → Rooms K C H' R A (moved S i j k) m → Q .non H'

section
variable {P : Program} {w : World} {K : PySem.W.Frag} {mg : Str → Option Value} {base : Heap}
theorem sc_Account___init__ : FnScope ["self", "coin", "purse", "program"] ["self", "coin", "purse", "program"] (defScope s_Account___init__) := ⟨rfl, rfl, rfl, by decide +kernel, rfl, by decide +kernel, by decide +kernel⟩
theorem ok_Account___init__   {cAccount : Addr} (D : MethAt K cAccount "__init__" "Account.__init__" s_Account___init__) (tAccount : T_Account K mg cAccount) (n_list : mg "list" = none) : ICal P w K mg base 1 "Account" cAccount (spInit K cAccount) := by
  refine ical_of (N := ["self", "coin", "purse", "program"]) (ps := ["self", "coin", "purse", "program"]) D tAccount.k sc_Account___init__ (fun vs H Q E h => ?_) (fun _ _ _ _ _ _ us hl => bd4 (R := fun us => bindArgs _ ⟨us, []⟩ = pure (List.zip _ us)) (fun _ _ _ _ => rfl) us hl) (fun f cdv A outer s H vs Q E hr h => ?_)
  · obtain ⟨a, dx, pr0, c, p, xs, rs, rfl, _⟩ := h; rfl
  · obtain ⟨a, dx, pr0, c, p, xs, rs, rfl, ha, hl, hR, k⟩ := h
    refine ⟨_, (pss_cons (ps_fld (pv 0) (pv 1) rfl)
      (pss_cons (ps_fld (pv 0) (pv 2) rfl)
      (pss_cons (ps_fld (pv 0) pe_int rfl)
      (pss_cons (ps_fld (pv 0) (pe_callTy ct_list rfl n_list PyProof.Rows.boot_list (pa_cons (pv 3) pa_nil)) rfl)
      (pss_one (ps_fld (pv 0) pe_dnewK rfl)))))), ?_⟩
    try simp only [nox_K, nox_P, nox_w, nox_mg, nox_base, cxOf_K, cxOf_P, cxOf_w, cxOf_mg, cxOf_base]
    repeat walk_at "rdk"
    refine rd_sfldA ha tAccount.k.cl tAccount.n_coin (by decide) ?_
    repeat walk_at "rdk"
    refine rd_sfldA upd_same tAccount.k.cl tAccount.n_purse (by show 1 < 1000; decide) ?_
    rw [upd_upd]
    repeat walk_at "rdk"
    refine rd_sfldA upd_same tAccount.k.cl tAccount.n_count (by show 2 < 1000; decide) ?_
    rw [upd_upd]
    repeat walk_at "rdk"
    refine rd_listL (hl.updI ha) fun pr hpr => ?_
    have hn : H pr = none := by
      by_cases e : pr = a
      · subst e; rw [upd_same] at hpr; cases hpr
      · rw [upd_ne e] at hpr; exact hpr
    have na : a ≠ pr := ne_of_none ha hn
    repeat walk_at "rdk"
    refine rd_sfldA (by rw [upd_ne na, upd_same]) tAccount.k.cl tAccount.n_program (by show 3 < 1000; decide) ?_
    repeat walk_at "rdk"
    rename_i st hst
    have ns : st ≠ a := fun e => by subst e; rw [upd_same] at hst; cases hst
    have np : st ≠ pr := fun e => by subst e; rw [upd_ne ns, upd_same] at hst; cases hst
    have hn2 : H st = none := by rw [upd_ne ns, upd_ne np, upd_ne ns] at hst; exact hst
    refine rd_sfldA (by rw [upd_ne ns.symm, upd_same]) tAccount.k.cl tAccount.n_store (by show 4 < 1000; decide) ?_
    have kp : ∀ b o, H b = some o → b ≠ a → (upd (upd (upd (upd (upd H a (.ins cAccount dx [("coin", .int c), ("purse", .int p), ("count", .int 0)])) pr (.lst xs)) a (.ins cAccount dx [("coin", .int c), ("purse", .int p), ("count", .int 0), ("program", .ref pr)])) st (.dK [])) a (.ins cAccount dx (accF c p 0 pr st))) b = some o := by
      intro b o e hb
      have h1 : b ≠ pr := ne_of_none e hn
      have h2 : b ≠ st := ne_of_none e hn2
      rw [upd_ne hb, upd_ne h2, upd_ne hb, upd_ne h1, upd_ne hb]
      exact e
    refine k pr st _ hn hn2 np.symm ⟨?_, ⟨xs, ?_, ?_⟩, ⟨[], ?_, by decide, by simp, by simp, fun i => rfl⟩⟩ ?_
    · rw [upd_same]; rfl
    · rw [upd_ne na.symm, upd_ne np.symm, upd_ne na.symm, upd_same]
    · refine hR.keep fun b u e i => ?_
      have hb : b ≠ a := fun z => by rw [z, ha] at e; cases e; exact notImm_ins i
      exact kp b u e hb
    · rw [upd_ne ns, upd_same]
    · exact kp
theorem sc_Account_loaded : FnScope ["self", "place"] ["self", "place"] (defScope s_Account_loaded) := ⟨rfl, rfl, rfl, by decide +kernel, rfl, by decide +kernel, by decide +kernel⟩
theorem ok_Account_loaded   {cAccount : Addr} (D : MethAt K cAccount "loaded" "Account.loaded" s_Account_loaded) (tAccount : T_Account K mg cAccount) : MCal P w K mg base 1 cAccount "loaded" (spLoaded K cAccount) := by
  refine mcal_of (N := ["self", "place"]) (ps := ["self", "place"]) D tAccount.k.cl sc_Account_loaded (fun vs H Q E h => ?_) (fun _ _ _ _ _ _ us hl => bd2 (R := fun us => bindArgs _ ⟨us, []⟩ = pure (List.zip _ us)) (fun _ _ => rfl) us hl) (fun f cdv A outer s H vs Q E hr h => ?_)
  · obtain ⟨a, dx, pr, st, c, p, n, rs, f, m, i, rfl, _⟩ := h; rfl
  · obtain ⟨a, dx, pr, st, c, p, n, rs, fn, m, i, rfl, A, k⟩ := h
    first | refine sp_gen fun zQ zq => ⟨_, (pss_one (ps_ret (pe_dget2 (hu_of hr) (pe_fld (pv 0) rfl) (pv 1) pe_int ⟨rfl, rfl, rfl, rfl⟩))), zq _ _ ?_⟩ | refine ⟨_, (pss_one (ps_ret (pe_dget2 (hu_of hr) (pe_fld (pv 0) rfl) (pv 1) pe_int ⟨rfl, rfl, rfl, rfl⟩))), ?_⟩
    try simp only [nox_K, nox_P, nox_w, nox_mg, nox_base, cxOf_K, cxOf_P, cxOf_w, cxOf_mg, cxOf_base]
    obtain ⟨kvs, hs, _, _, _, hf⟩ := A.sto
    repeat walk_at "rdk"
    refine rd_fldA A.ob tAccount.k.cl tAccount.n_store rfl ?_
    first | refine sp_gen fun zQ zq => ⟨st, rfl, isD_k hs, zq _ _ ?_⟩ | refine ⟨st, rfl, isD_k hs, ?_⟩
    repeat walk_at "rdk"
    exact ⟨_, DGet.k (k := Sum.inl i) hs, by rw [hf i]; exact k⟩
theorem sc_Account_keep : FnScope ["self", "place", "number"] ["self", "place", "number"] (defScope s_Account_keep) := ⟨rfl, rfl, rfl, by decide +kernel, rfl, by decide +kernel, by decide +kernel⟩
theorem ok_Account_keep   {cAccount : Addr} (D : MethAt K cAccount "keep" "Account.keep" s_Account_keep) (tAccount : T_Account K mg cAccount) : MCal P w K mg base 1 cAccount "keep" (spKeep K cAccount) := by
  refine mcal_of (N := ["self", "place", "number"]) (ps := ["self", "place", "number"]) D tAccount.k.cl sc_Account_keep (fun vs H Q E h => ?_) (fun _ _ _ _ _ _ us hl => bd3 (R := fun us => bindArgs _ ⟨us, []⟩ = pure (List.zip _ us)) (fun _ _ _ => rfl) us hl) (fun f cdv A outer s H vs Q E hr h => ?_)
  · obtain ⟨a, dx, pr, st, c, p, n, rs, f, m, i, v, rfl, _⟩ := h; rfl
  · obtain ⟨a, dx, pr, st, c, p, n, rs, fn, m, i, v, rfl, A, hm, k⟩ := h
    first | refine sp_gen fun zQ zq => ⟨_, (pss_one (ps_if (pt_cmpR op_eq (pv 2) pe_int (nomark _)) (pss_one (ps_expr (pe_dpop2 (pe_fld (pv 0) rfl) (pv 1) pe_non ⟨rfl, rfl, rfl, rfl⟩))) (pss_one (ps_dput (hu_of hr) (pe_fld (pv 0) rfl) (pv 1) (pv 2) rfl)))), zq _ _ ?_⟩ | refine ⟨_, (pss_one (ps_if (pt_cmpR op_eq (pv 2) pe_int (nomark _)) (pss_one (ps_expr (pe_dpop2 (pe_fld (pv 0) rfl) (pv 1) pe_non ⟨rfl, rfl, rfl, rfl⟩))) (pss_one (ps_dput (hu_of hr) (pe_fld (pv 0) rfl) (pv 1) (pv 2) rfl)))), ?_⟩
    try simp only [nox_K, nox_P, nox_w, nox_mg, nox_base, cxOf_K, cxOf_P, cxOf_w, cxOf_mg, cxOf_base]
    obtain ⟨kvs, hs, hl, hn, hz, hf⟩ := A.sto
    repeat' walk_at "rdk"
    · rename_i hv
      subst hv
      refine rd_fldA A.ob tAccount.k.cl tAccount.n_store rfl ⟨st, rfl, isD_k hs, ?_⟩
      repeat walk_at "rdk"
      refine ⟨kvs, Sum.inl i, hs, rfl, fun v hv => ?_, fun hv => ?_⟩
      · dsimp only
        repeat walk_at "rdk"
        exact k _ (fun b hb => upd_ne hb) (StoreAt.drop hl hn hz hf i)
      · dsimp only
        repeat walk_at "rdk"
        refine k _ (fun b hb => rfl) ⟨kvs, hs, Nat.le_trans hl (Nat.le_succ _), hn, hz, fun j => ?_⟩
        unfold putFn
        by_cases e : j = i
        · subst e
          rw [if_pos rfl, hv]
          rfl
        · rw [if_neg e]
          exact hf j
    · rename_i hv
      refine rd_fldA A.ob tAccount.k.cl tAccount.n_store rfl ?_
      repeat walk_at "rdk"
      exact rd_dputA hs (Nat.lt_of_le_of_lt (Nat.le_trans hl hm) (by decide)) (k _ (fun b hb => upd_ne hb) (StoreAt.put hl hn hz hf i v hv))
theorem sc_shift_coin : FnScope ["giver", "taker", "many"] ["giver", "taker", "many"] (defScope s_shift_coin) := ⟨rfl, rfl, rfl, by decide +kernel, rfl, by decide +kernel, by decide +kernel⟩
theorem ok_shift_coin   {cAccount : Addr} (D : DefAt K mg "shift_coin" s_shift_coin) (tAccount : T_Account K mg cAccount) : Cal P w K mg base 1 "shift_coin" (spShift K cAccount) := by
  refine cal_of (N := ["giver", "taker", "many"]) (ps := ["giver", "taker", "many"]) D sc_shift_coin (fun vs H Q E h => ?_) (fun _ _ _ _ _ _ us hl => bd3 (R := fun us => bindArgs _ ⟨us, []⟩ = pure (List.zip _ us)) (fun _ _ _ => rfl) us hl) (fun f cdv A outer s H vs Q E hr h => ?_)
  · obtain ⟨R, A, S, m, i, j, x, y, k, rfl, _⟩ := h; rfl
  · obtain ⟨R, Ar, S, m, i, j, x, y, kk, rfl, r, hi, hj, hx, hy, k⟩ := h
    refine ⟨_, (pss_cons (ps_fldaug (pv 0) (pv 2) in_sub)
      (pss_one (ps_fldaug (pv 1) (pv 2) in_add))), ?_⟩
    try simp only [nox_K, nox_P, nox_w, nox_mg, nox_base, cxOf_K, cxOf_P, cxOf_w, cxOf_mg, cxOf_base]
    have ax := r.ac i x hi hx
    repeat walk_at "rdk"
    refine rd_fldA2 ax.ob tAccount.k.cl tAccount.n_coin rfl ?_
    repeat walk_at "rdk"
    refine ⟨x.dx, _, ax.ob, by show 5 < 1000; decide, ?_⟩
    have r1 := r.coin hi hx ((S i).coin - kk)
    have fr1 : ∀ b, b ≠ x.a → (upd H x.a (.ins cAccount x.dx (accF ((S i).coin - kk) (S i).purse (S i).count x.pr x.st))) b = H b := fun b hb => upd_ne hb
    have ep : ∀ (c c' p n : Int) (pr st : Addr), putF "coin" (.int c') (accF c p n pr st) = accF c' p n pr st := fun _ _ _ _ _ _ => rfl
    rw [ep]
    generalize upd H x.a _ = H1 at r1 fr1
    (revert H1 r1 fr1; refine keepIt ?_; intro H1 r1 fr1)
    generalize hS1 : setS S i { S i with coin := (S i).coin - kk } = S1 at r1
    (revert S1 hS1 r1; refine keepIt ?_; intro S1 hS1 r1)
    have ay := r1.ac j y hj hy
    dsimp only
    repeat walk_at "rdk"
    refine rd_fldA2 ay.ob tAccount.k.cl tAccount.n_coin rfl ?_
    repeat walk_at "rdk"
    refine ⟨y.dx, _, ay.ob, by show 5 < 1000; decide, ?_⟩
    rw [ep]
    have r2 := r1.coin hj hy ((S1 j).coin + kk)
    refine k _ (fun b h1 h2 => by rw [upd_ne h2]; exact fr1 b h1) ?_
    unfold moved
    rw [hS1]
    exact r2

end
end My

namespace My
open PySem L2

inductive Dd where
  | save (s p o n : Int)
  | move (s t k : Int)
  | note (s n : Int)
noncomputable def saveF (s p o n : Int) : List (Str × V) := [("slot", .int s), ("place", .int p), ("old", .int o), ("new", .int n)]
noncomputable def moveF (s t k : Int) : List (Str × V) := [("slot", .int s), ("taker", .int t), ("many", .int k)]
noncomputable def noteF (s n : Int) : List (Str × V) := [("slot", .int s), ("number", .int n)]
noncomputable def doneS (S : Nat → AcS) : Dd → Nat → AcS
  | .save s p _ n => setS S s.toNat { S s.toNat with store := putFn (S s.toNat).store p n }
  | .move s t k => moved S s.toNat t.toNat k
  | .note _ _ => S
noncomputable def fitsD (A : Nat → Option AcI) : Dd → Prop
  | .save s _ _ _ => ∃ i x, s = ((i : Nat) : Int) ∧ i < 16 ∧ A i = some x
  | .move s t _ => (∃ i x, s = ((i : Nat) : Int) ∧ i < 16 ∧ A i = some x) ∧ ∃ i x, t = ((i : Nat) : Int) ∧ i < 16 ∧ A i = some x
  | .note _ _ => True
noncomputable def Out (A : Nat → Option AcI) (b : Addr) : Prop := ∀ i x, i < 16 → A i = some x → b ≠ x.a ∧ b ≠ x.st
theorem Rooms.le {K : PySem.W.Frag} {C : Addr} {H : Hp} {R : Addr} {A : Nat → Option AcI} {S : Nat → AcS} {m m' : Nat} (r : Rooms K C H R A S m) (e : m ≤ m') : Rooms K C H R A S m' := ⟨r.ob, fun i x hi hx => (r.ac i x hi hx).le e, r.da, r.ds⟩
noncomputable def spInitSv (C : Addr) : Sp := fun vs H Q _ => ∃ (a dx : Addr) (s p o n : Int), vs = [.ref a, .int s, .int p, .int o, .int n] ∧ H a = some (.ins C dx []) ∧ Q .non (upd H a (.ins C dx (saveF s p o n)))
noncomputable def spInitMv (C : Addr) : Sp := fun vs H Q _ => ∃ (a dx : Addr) (s t k : Int), vs = [.ref a, .int s, .int t, .int k] ∧ H a = some (.ins C dx []) ∧ Q .non (upd H a (.ins C dx (moveF s t k)))
noncomputable def spInitNt (C : Addr) : Sp := fun vs H Q _ => ∃ (a dx : Addr) (s n : Int), vs = [.ref a, .int s, .int n] ∧ H a = some (.ins C dx []) ∧ Q .non (upd H a (.ins C dx (noteF s n)))
noncomputable def fldD : Dd → List (Str × V)
  | .save s p o n => saveF s p o n
  | .move s t k => moveF s t k
  | .note s n => noteF s n
noncomputable def spDo (K : PySem.W.Frag) (C CD : Addr) (ok : Dd → Prop) : Sp := fun vs H Q _ => ∃ (a dx R : Addr) (d : Dd) (A : Nat → Option AcI) (S : Nat → AcS) (m : Nat), vs = [.ref a, .ref R] ∧ ok d ∧ H a = some (.ins CD dx (fldD d)) ∧ Rooms K C H R A S m ∧ fitsD A d ∧ m ≤ 1000000 ∧
  ∀ H', (∀ b, Out A b → H' b = H b) → Rooms K C H' R A (doneS S d) (m + 1) → Q .non H'
noncomputable def isSave (d : Dd) : Prop := ∃ s p o n, d = .save s p o n
noncomputable def isMove (d : Dd) : Prop := ∃ s t k, d = .move s t k
noncomputable def isNote (d : Dd) : Prop := ∃ s n, d = .note s n

noncomputable def undoneS (S : Nat → AcS) : Dd → Nat → AcS
  | .save s p o _ => setS S s.toNat { S s.toNat with store := putFn (S s.toNat).store p o }
  | .move s t k => moved S t.toNat s.toNat k
  | .note _ _ => S
noncomputable def spUndo (K : PySem.W.Frag) (C CD : Addr) (ok : Dd → Prop) : Sp := fun vs H Q _ => ∃ (a dx R : Addr) (d : Dd) (A : Nat → Option AcI) (S : Nat → AcS) (m : Nat), vs = [.ref a, .ref R] ∧ ok d ∧ H a = some (.ins CD dx (fldD d)) ∧ Rooms K C H R A S m ∧ fitsD A d ∧ m ≤ 1000000 ∧
  ∀ H', (∀ b, Out A b → H' b = H b) → Rooms K C H' R A (undoneS S d) (m + 1) → Q .non H'
noncomputable def rightD (S : Nat → AcS) : Dd → Prop
  | .save s p o _ => (S s.toNat).store p = o
  | .move _ _ _ => True
  | .note _ _ => True
theorem setS_same (S : Nat → AcS) (i : Nat) (v : AcS) : setS S i v i = v := by unfold setS; rw [if_pos rfl]
theorem setS_setS (S : Nat → AcS) (i : Nat) (v w : AcS) : setS (setS S i v) i w = setS S i w := by
  funext j
  unfold setS
  by_cases h : j = i
  · rw [if_pos h, if_pos h]
  · rw [if_neg h, if_neg h, if_neg h]
theorem setS_id (S : Nat → AcS) (i : Nat) : setS S i (S i) = S := by
  funext j
  unfold setS
  by_cases h : j = i
  · rw [if_pos h, h]
  · rw [if_neg h]
theorem putFn_back {f : Int → Int} {p o n : Int} (h : f p = o) : putFn (putFn f p n) p o = f := by
  funext j
  unfold putFn
  by_cases e : j = p
  · rw [if_pos e, e, h]
  · rw [if_neg e, if_neg e]
theorem moved_coin (S : Nat → AcS) (i j : Nat) (k : Int) (n : Nat) : moved S i j k n = { S n with coin := (S n).coin - (if n = i then k else 0) + (if n = j then k else 0) } := by
  unfold moved setS
  dsimp only
  by_cases h1 : n = j
  · subst h1
    by_cases h2 : n = i
    · subst h2; simp
    · simp [h2]
  · by_cases h2 : n = i
    · subst h2; simp [h1]
    · simp [h1, h2]
theorem undone_done {S : Nat → AcS} {d : Dd} (h : rightD S d) : undoneS (doneS S d) d = S := by
  cases d with
  | save s p o n =>
    have e : doneS S (.save s p o n) s.toNat = { S s.toNat with store := putFn (S s.toNat).store p n } := setS_same ..
    show setS (setS S s.toNat _) s.toNat { doneS S (.save s p o n) s.toNat with store := putFn (doneS S (.save s p o n) s.toNat).store p o } = S
    rw [setS_setS, e]
    dsimp only
    rw [putFn_back h]
    exact setS_id S _
  | move s t k =>
    show moved (moved S _ _ k) _ _ k = S
    funext n
    rw [moved_coin, moved_coin]
    dsimp only
    have : (S n).coin - (if n = s.toNat then k else 0) + (if n = t.toNat then k else 0) - (if n = t.toNat then k else 0) + (if n = s.toNat then k else 0) = (S n).coin := by omega
    rw [this]
  | note s n => rfl

section
variable {P : Program} {w : World} {K : PySem.W.Frag} {mg : Str → Option Value} {base : Heap}
theorem sc_Save___init__ : FnScope ["self", "slot", "place", "old", "new"] ["self", "slot", "place", "old", "new"] (defScope s_Save___init__) := ⟨rfl, rfl, rfl, by decide +kernel, rfl, by decide +kernel, by decide +kernel⟩
theorem ok_Save___init__   {cSave : Addr} (D : MethAt K cSave "__init__" "Save.__init__" s_Save___init__) (tSave : T_Save K mg cSave) : ICal P w K mg base 1 "Save" cSave (spInitSv cSave) := by
  refine ical_of (N := ["self", "slot", "place", "old", "new"]) (ps := ["self", "slot", "place", "old", "new"]) D tSave.k sc_Save___init__ (fun vs H Q E h => ?_) (fun _ _ _ _ _ _ us hl => bd5 (R := fun us => bindArgs _ ⟨us, []⟩ = pure (List.zip _ us)) (fun _ _ _ _ _ => rfl) us hl) (fun f cdv A outer s H vs Q E hr h => ?_)
  · obtain ⟨a, dx, s0, p, o, n, rfl, _⟩ := h; rfl
  · obtain ⟨a, dx, s0, p, o, n, rfl, ha, k⟩ := h
    refine ⟨_, (pss_cons (ps_fld (pv 0) (pv 1) rfl)
      (pss_cons (ps_fld (pv 0) (pv 2) rfl)
      (pss_cons (ps_fld (pv 0) (pv 3) rfl)
      (pss_one (ps_fld (pv 0) (pv 4) rfl))))), ?_⟩
    try simp only [nox_K, nox_P, nox_w, nox_mg, nox_base, cxOf_K, cxOf_P, cxOf_w, cxOf_mg, cxOf_base]
    repeat walk_at "rdk"
    refine rd_sfldA ha tSave.k.cl tSave.n_slot (by decide) ?_
    repeat walk_at "rdk"
    refine rd_sfldA upd_same tSave.k.cl tSave.n_place (by show 1 < 1000; decide) ?_
    rw [upd_upd]
    repeat walk_at "rdk"
    refine rd_sfldA upd_same tSave.k.cl tSave.n_old (by show 2 < 1000; decide) ?_
    rw [upd_upd]
    repeat walk_at "rdk"
    refine rd_sfldA upd_same tSave.k.cl tSave.n_new (by show 3 < 1000; decide) ?_
    rw [upd_upd]
    exact k
theorem sc_Move___init__ : FnScope ["self", "slot", "taker", "many"] ["self", "slot", "taker", "many"] (defScope s_Move___init__) := ⟨rfl, rfl, rfl, by decide +kernel, rfl, by decide +kernel, by decide +kernel⟩
theorem ok_Move___init__   {cMove : Addr} (D : MethAt K cMove "__init__" "Move.__init__" s_Move___init__) (tMove : T_Move K mg cMove) : ICal P w K mg base 1 "Move" cMove (spInitMv cMove) := by
  refine ical_of (N := ["self", "slot", "taker", "many"]) (ps := ["self", "slot", "taker", "many"]) D tMove.k sc_Move___init__ (fun vs H Q E h => ?_) (fun _ _ _ _ _ _ us hl => bd4 (R := fun us => bindArgs _ ⟨us, []⟩ = pure (List.zip _ us)) (fun _ _ _ _ => rfl) us hl) (fun f cdv A outer s H vs Q E hr h => ?_)
  · obtain ⟨a, dx, s0, t0, kk, rfl, _⟩ := h; rfl
  · obtain ⟨a, dx, s0, t0, kk, rfl, ha, k⟩ := h
    refine ⟨_, (pss_cons (ps_fld (pv 0) (pv 1) rfl)
      (pss_cons (ps_fld (pv 0) (pv 2) rfl)
      (pss_one (ps_fld (pv 0) (pv 3) rfl)))), ?_⟩
    try simp only [nox_K, nox_P, nox_w, nox_mg, nox_base, cxOf_K, cxOf_P, cxOf_w, cxOf_mg, cxOf_base]
    repeat walk_at "rdk"
    refine rd_sfldA ha tMove.k.cl tMove.n_slot (by decide) ?_
    repeat walk_at "rdk"
    refine rd_sfldA upd_same tMove.k.cl tMove.n_taker (by show 1 < 1000; decide) ?_
    rw [upd_upd]
    repeat walk_at "rdk"
    refine rd_sfldA upd_same tMove.k.cl tMove.n_many (by show 2 < 1000; decide) ?_
    rw [upd_upd]
    exact k
theorem sc_Note___init__ : FnScope ["self", "slot", "number"] ["self", "slot", "number"] (defScope s_Note___init__) := ⟨rfl, rfl, rfl, by decide +kernel, rfl, by decide +kernel, by decide +kernel⟩
theorem ok_Note___init__   {cNote : Addr} (D : MethAt K cNote "__init__" "Note.__init__" s_Note___init__) (tNote : T_Note K mg cNote) : ICal P w K mg base 1 "Note" cNote (spInitNt cNote) := by
  refine ical_of (N := ["self", "slot", "number"]) (ps := ["self", "slot", "number"]) D tNote.k sc_Note___init__ (fun vs H Q E h => ?_) (fun _ _ _ _ _ _ us hl => bd3 (R := fun us => bindArgs _ ⟨us, []⟩ = pure (List.zip _ us)) (fun _ _ _ => rfl) us hl) (fun f cdv A outer s H vs Q E hr h => ?_)
  · obtain ⟨a, dx, s0, n, rfl, _⟩ := h; rfl
  · obtain ⟨a, dx, s0, n, rfl, ha, k⟩ := h
    refine ⟨_, (pss_cons (ps_fld (pv 0) (pv 1) rfl)
      (pss_one (ps_fld (pv 0) (pv 2) rfl))), ?_⟩
    try simp only [nox_K, nox_P, nox_w, nox_mg, nox_base, cxOf_K, cxOf_P, cxOf_w, cxOf_mg, cxOf_base]
    repeat walk_at "rdk"
    refine rd_sfldA ha tNote.k.cl tNote.n_slot (by decide) ?_
    repeat walk_at "rdk"
    refine rd_sfldA upd_same tNote.k.cl tNote.n_number (by show 1 < 1000; decide) ?_
    rw [upd_upd]
    exact k
theorem sc_Save_do : FnScope ["self", "rooms"] ["self", "rooms"] (defScope s_Save_do) := ⟨rfl, rfl, rfl, by decide +kernel, rfl, by decide +kernel, by decide +kernel⟩
theorem ok_Save_do   {cSave : Addr} {cAccount : Addr} (D : MethAt K cSave "do" "Save.do" s_Save_do) (tSave : T_Save K mg cSave) (tAccount : T_Account K mg cAccount) (m_Account_keep : MCal P w K mg base 1 cAccount "keep" (spKeep K cAccount)) : MCal P w K mg base 2 cSave "do" (spDo K cAccount cSave isSave) := by
  refine mcal_of (N := ["self", "rooms"]) (ps := ["self", "rooms"]) D tSave.k.cl sc_Save_do (fun vs H Q E h => ?_) (fun _ _ _ _ _ _ us hl => bd2 (R := fun us => bindArgs _ ⟨us, []⟩ = pure (List.zip _ us)) (fun _ _ => rfl) us hl) (fun f cdv A outer s H vs Q E hr h => ?_)
  · obtain ⟨a, dx, R, d, A, S, m, rfl, _⟩ := h; rfl
  · obtain ⟨a, dx, R, d, Ar, S, m, rfl, ⟨s0, p, o, n, rfl⟩, ha, r, ⟨i, x, rfl, hi, hx⟩, hm, k⟩ := h
    first | refine sp_gen fun zQ zq => ⟨_, (pss_one (ps_expr (pe_mcal m_Account_keep (hr.mono (by decide)) (pe_ix ix_list (pv 1) (pe_fld (pv 0) rfl) (fun _ _ => rfl)) (pa_cons (pe_fld (pv 0) rfl) (pa_cons (pe_fld (pv 0) rfl) pa_nil))))), zq _ _ ?_⟩ | refine ⟨_, (pss_one (ps_expr (pe_mcal m_Account_keep (hr.mono (by decide)) (pe_ix ix_list (pv 1) (pe_fld (pv 0) rfl) (fun _ _ => rfl)) (pa_cons (pe_fld (pv 0) rfl) (pa_cons (pe_fld (pv 0) rfl) pa_nil))))), ?_⟩
    try simp only [nox_K, nox_P, nox_w, nox_mg, nox_base, cxOf_K, cxOf_P, cxOf_w, cxOf_mg, cxOf_base]
    have ax := r.ac i x hi hx
    repeat walk_at "rdk"
    refine rd_fldA ha tSave.k.cl tSave.n_slot rfl ?_
    refine rd_ixL (sql_of r.ob) (r.at hi hx) ?_
    refine rd_methA ax.ob rfl ?_
    repeat walk_at "rdk"
    refine rd_fldA ha tSave.k.cl tSave.n_place rfl ?_
    repeat walk_at "rdk"
    refine rd_fldA ha tSave.k.cl tSave.n_new rfl ?_
    repeat walk_at "rdk"
    first | refine sp_gen fun zQ zq => ⟨x.a, x.dx, x.pr, x.st, _, _, _, _, _, m, p, n, rfl, ax, hm, fun H' k1 e1 => zq _ _ ?_⟩ | refine ⟨x.a, x.dx, x.pr, x.st, _, _, _, _, _, m, p, n, rfl, ax, hm, fun H' k1 e1 => ?_⟩
    repeat walk_at "rdk"
    refine k H' (fun b hb => k1 b (hb i x hi hx).2) ?_
    have := r.keep hi hx k1 e1
    exact this
theorem sc_Move_do : FnScope ["self", "rooms"] ["self", "rooms"] (defScope s_Move_do) := ⟨rfl, rfl, rfl, by decide +kernel, rfl, by decide +kernel, by decide +kernel⟩
theorem ok_Move_do   {cMove : Addr} (D : MethAt K cMove "do" "Move.do" s_Move_do) (tMove : T_Move K mg cMove) (c_shift_coin : Cal P w K mg base 1 "shift_coin" (spShift K cAccount)) : MCal P w K mg base 2 cMove "do" (spDo K cAccount cMove isMove) := by
  refine mcal_of (N := ["self", "rooms"]) (ps := ["self", "rooms"]) D tMove.k.cl sc_Move_do (fun vs H Q E h => ?_) (fun _ _ _ _ _ _ us hl => bd2 (R := fun us => bindArgs _ ⟨us, []⟩ = pure (List.zip _ us)) (fun _ _ => rfl) us hl) (fun f cdv A outer s H vs Q E hr h => ?_)
  · obtain ⟨a, dx, R, d, A, S, m, rfl, _⟩ := h; rfl
  · obtain ⟨a, dx, R, d, Ar, S, m, rfl, ⟨s0, t0, kk, rfl⟩, ha, r, ⟨⟨i, x, rfl, hi, hx⟩, j, y, rfl, hj, hy⟩, hm, k⟩ := h
    first | refine sp_gen fun zQ zq => ⟨_, (pss_one (ps_expr (pe_cal c_shift_coin (hr.mono (by decide)) rfl (pa_cons (pe_ix ix_list (pv 1) (pe_fld (pv 0) rfl) (fun _ _ => rfl)) (pa_cons (pe_ix ix_list (pv 1) (pe_fld (pv 0) rfl) (fun _ _ => rfl)) (pa_cons (pe_fld (pv 0) rfl) pa_nil)))))), zq _ _ ?_⟩ | refine ⟨_, (pss_one (ps_expr (pe_cal c_shift_coin (hr.mono (by decide)) rfl (pa_cons (pe_ix ix_list (pv 1) (pe_fld (pv 0) rfl) (fun _ _ => rfl)) (pa_cons (pe_ix ix_list (pv 1) (pe_fld (pv 0) rfl) (fun _ _ => rfl)) (pa_cons (pe_fld (pv 0) rfl) pa_nil)))))), ?_⟩
    try simp only [nox_K, nox_P, nox_w, nox_mg, nox_base, cxOf_K, cxOf_P, cxOf_w, cxOf_mg, cxOf_base]
    repeat walk_at "rdk"
    refine rd_fldA ha tMove.k.cl tMove.n_slot rfl ?_
    refine rd_ixL (sql_of r.ob) (r.at hi hx) ?_
    repeat walk_at "rdk"
    refine rd_fldA ha tMove.k.cl tMove.n_taker rfl ?_
    refine rd_ixL (sql_of r.ob) (r.at hj hy) ?_
    repeat walk_at "rdk"
    refine rd_fldA ha tMove.k.cl tMove.n_many rfl ?_
    repeat walk_at "rdk"
    first | refine sp_gen fun zQ zq => ⟨R, Ar, S, m, i, j, x, y, kk, rfl, r, hi, hj, hx, hy, fun H' k1 r1 => zq _ _ ?_⟩ | refine ⟨R, Ar, S, m, i, j, x, y, kk, rfl, r, hi, hj, hx, hy, fun H' k1 r1 => ?_⟩
    repeat walk_at "rdk"
    refine k H' (fun b hb => k1 b (hb i x hi hx).1 (hb j y hj hy).1) ?_
    exact r1.le (Nat.le_succ m)
theorem sc_Note_do : FnScope ["self", "rooms"] ["self", "rooms"] (defScope s_Note_do) := ⟨rfl, rfl, rfl, by decide +kernel, rfl, by decide +kernel, by decide +kernel⟩
theorem ok_Note_do   {cNote : Addr} (D : MethAt K cNote "do" "Deed.do" s_Note_do) (tNote : T_Note K mg cNote) : MCal P w K mg base 2 cNote "do" (spDo K cAccount cNote isNote) := by
  refine mcal_of (N := ["self", "rooms"]) (ps := ["self", "rooms"]) D tNote.k.cl sc_Note_do (fun vs H Q E h => ?_) (fun _ _ _ _ _ _ us hl => bd2 (R := fun us => bindArgs _ ⟨us, []⟩ = pure (List.zip _ us)) (fun _ _ => rfl) us hl) (fun f cdv A outer s H vs Q E hr h => ?_)
  · obtain ⟨a, dx, R, d, A, S, m, rfl, _⟩ := h; rfl
  · obtain ⟨a, dx, R, d, Ar, S, m, rfl, ⟨s0, n, rfl⟩, ha, r, _, hm, k⟩ := h
    refine ⟨_, (pss_one ps_pass), ?_⟩
    try simp only [nox_K, nox_P, nox_w, nox_mg, nox_base, cxOf_K, cxOf_P, cxOf_w, cxOf_mg, cxOf_base]
    exact k H (fun b _ => rfl) (r.le (Nat.le_succ m))
theorem sc_Save_undo : FnScope ["self", "rooms"] ["self", "rooms"] (defScope s_Save_undo) := ⟨rfl, rfl, rfl, by decide +kernel, rfl, by decide +kernel, by decide +kernel⟩
theorem ok_Save_undo   {cSave : Addr} {cAccount : Addr} (D : MethAt K cSave "undo" "Save.undo" s_Save_undo) (tSave : T_Save K mg cSave) (tAccount : T_Account K mg cAccount) (m_Account_keep : MCal P w K mg base 1 cAccount "keep" (spKeep K cAccount)) : MCal P w K mg base 2 cSave "undo" (spUndo K cAccount cSave isSave) := by
  refine mcal_of (N := ["self", "rooms"]) (ps := ["self", "rooms"]) D tSave.k.cl sc_Save_undo (fun vs H Q E h => ?_) (fun _ _ _ _ _ _ us hl => bd2 (R := fun us => bindArgs _ ⟨us, []⟩ = pure (List.zip _ us)) (fun _ _ => rfl) us hl) (fun f cdv A outer s H vs Q E hr h => ?_)
  · obtain ⟨a, dx, R, d, A, S, m, rfl, _⟩ := h; rfl
  · obtain ⟨a, dx, R, d, Ar, S, m, rfl, ⟨s0, p, o, n, rfl⟩, ha, r, ⟨i, x, rfl, hi, hx⟩, hm, k⟩ := h
    first | refine sp_gen fun zQ zq => ⟨_, (pss_one (ps_expr (pe_mcal m_Account_keep (hr.mono (by decide)) (pe_ix ix_list (pv 1) (pe_fld (pv 0) rfl) (fun _ _ => rfl)) (pa_cons (pe_fld (pv 0) rfl) (pa_cons (pe_fld (pv 0) rfl) pa_nil))))), zq _ _ ?_⟩ | refine ⟨_, (pss_one (ps_expr (pe_mcal m_Account_keep (hr.mono (by decide)) (pe_ix ix_list (pv 1) (pe_fld (pv 0) rfl) (fun _ _ => rfl)) (pa_cons (pe_fld (pv 0) rfl) (pa_cons (pe_fld (pv 0) rfl) pa_nil))))), ?_⟩
    try simp only [nox_K, nox_P, nox_w, nox_mg, nox_base, cxOf_K, cxOf_P, cxOf_w, cxOf_mg, cxOf_base]
    have ax := r.ac i x hi hx
    repeat walk_at "rdk"
    refine rd_fldA ha tSave.k.cl tSave.n_slot rfl ?_
    refine rd_ixL (sql_of r.ob) (r.at hi hx) ?_
    refine rd_methA ax.ob rfl ?_
    repeat walk_at "rdk"
    refine rd_fldA ha tSave.k.cl tSave.n_place rfl ?_
    repeat walk_at "rdk"
    refine rd_fldA ha tSave.k.cl tSave.n_old rfl ?_
    repeat walk_at "rdk"
    first | refine sp_gen fun zQ zq => ⟨x.a, x.dx, x.pr, x.st, _, _, _, _, _, m, p, o, rfl, ax, hm, fun H' k1 e1 => zq _ _ ?_⟩ | refine ⟨x.a, x.dx, x.pr, x.st, _, _, _, _, _, m, p, o, rfl, ax, hm, fun H' k1 e1 => ?_⟩
    repeat walk_at "rdk"
    refine k H' (fun b hb => k1 b (hb i x hi hx).2) ?_
    have := r.keep hi hx k1 e1
    exact this
theorem sc_Move_undo : FnScope ["self", "rooms"] ["self", "rooms"] (defScope s_Move_undo) := ⟨rfl, rfl, rfl, by decide +kernel, rfl, by decide +kernel, by decide +kernel⟩
theorem ok_Move_undo   {cMove : Addr} (D : MethAt K cMove "undo" "Move.undo" s_Move_undo) (tMove : T_Move K mg cMove) (c_shift_coin : Cal P w K mg base 1 "shift_coin" (spShift K cAccount)) : MCal P w K mg base 2 cMove "undo" (spUndo K cAccount cMove isMove) := by
  refine mcal_of (N := ["self", "rooms"]) (ps := ["self", "rooms"]) D tMove.k.cl sc_Move_undo (fun vs H Q E h => ?_) (fun _ _ _ _ _ _ us hl => bd2 (R := fun us => bindArgs _ ⟨us, []⟩ = pure (List.zip _ us)) (fun _ _ => rfl) us hl) (fun f cdv A outer s H vs Q E hr h => ?_)
  · obtain ⟨a, dx, R, d, A, S, m, rfl, _⟩ := h; rfl
  · obtain ⟨a, dx, R, d, Ar, S, m, rfl, ⟨s0, t0, kk, rfl⟩, ha, r, ⟨⟨i, x, rfl, hi, hx⟩, j, y, rfl, hj, hy⟩, hm, k⟩ := h
    first | refine sp_gen fun zQ zq => ⟨_, (pss_one (ps_expr (pe_cal c_shift_coin (hr.mono (by decide)) rfl (pa_cons (pe_ix ix_list (pv 1) (pe_fld (pv 0) rfl) (fun _ _ => rfl)) (pa_cons (pe_ix ix_list (pv 1) (pe_fld (pv 0) rfl) (fun _ _ => rfl)) (pa_cons (pe_fld (pv 0) rfl) pa_nil)))))), zq _ _ ?_⟩ | refine ⟨_, (pss_one (ps_expr (pe_cal c_shift_coin (hr.mono (by decide)) rfl (pa_cons (pe_ix ix_list (pv 1) (pe_fld (pv 0) rfl) (fun _ _ => rfl)) (pa_cons (pe_ix ix_list (pv 1) (pe_fld (pv 0) rfl) (fun _ _ => rfl)) (pa_cons (pe_fld (pv 0) rfl) pa_nil)))))), ?_⟩
    try simp only [nox_K, nox_P, nox_w, nox_mg, nox_base, cxOf_K, cxOf_P, cxOf_w, cxOf_mg, cxOf_base]
    repeat walk_at "rdk"
    refine rd_fldA ha tMove.k.cl tMove.n_taker rfl ?_
    refine rd_ixL (sql_of r.ob) (r.at hj hy) ?_
    repeat walk_at "rdk"
    refine rd_fldA ha tMove.k.cl tMove.n_slot rfl ?_
    refine rd_ixL (sql_of r.ob) (r.at hi hx) ?_
    repeat walk_at "rdk"
    refine rd_fldA ha tMove.k.cl tMove.n_many rfl ?_
    repeat walk_at "rdk"
    first | refine sp_gen fun zQ zq => ⟨R, Ar, S, m, j, i, y, x, kk, rfl, r, hj, hi, hy, hx, fun H' k1 r1 => zq _ _ ?_⟩ | refine ⟨R, Ar, S, m, j, i, y, x, kk, rfl, r, hj, hi, hy, hx, fun H' k1 r1 => ?_⟩
    repeat walk_at "rdk"
    refine k H' (fun b hb => k1 b (hb j y hj hy).1 (hb i x hi hx).1) ?_
    exact r1.le (Nat.le_succ m)
theorem sc_Note_undo : FnScope ["self", "rooms"] ["self", "rooms"] (defScope s_Note_undo) := ⟨rfl, rfl, rfl, by decide +kernel, rfl, by decide +kernel, by decide +kernel⟩
theorem ok_Note_undo   {cNote : Addr} (D : MethAt K cNote "undo" "Deed.undo" s_Note_undo) (tNote : T_Note K mg cNote) : MCal P w K mg base 2 cNote "undo" (spUndo K cAccount cNote isNote) := by
  refine mcal_of (N := ["self", "rooms"]) (ps := ["self", "rooms"]) D tNote.k.cl sc_Note_undo (fun vs H Q E h => ?_) (fun _ _ _ _ _ _ us hl => bd2 (R := fun us => bindArgs _ ⟨us, []⟩ = pure (List.zip _ us)) (fun _ _ => rfl) us hl) (fun f cdv A outer s H vs Q E hr h => ?_)
  · obtain ⟨a, dx, R, d, A, S, m, rfl, _⟩ := h; rfl
  · obtain ⟨a, dx, R, d, Ar, S, m, rfl, ⟨s0, n, rfl⟩, ha, r, _, hm, k⟩ := h
    refine ⟨_, (pss_one ps_pass), ?_⟩
    try simp only [nox_K, nox_P, nox_w, nox_mg, nox_base, cxOf_K, cxOf_P, cxOf_w, cxOf_mg, cxOf_base]
    exact k H (fun b _ => rfl) (r.le (Nat.le_succ m))

end
end My

namespace My
open PySem L2

noncomputable def clsD (cS cM cN : Addr) : Dd → Addr
  | .save .. => cS
  | .move .. => cM
  | .note .. => cN
noncomputable def T3 (a b c : Addr) (s1 s2 s3 : Sp) (C : Addr) (sp : Sp) : Prop := (C = a ∧ sp = s1) ∨ (C = b ∧ sp = s2) ∨ (C = c ∧ sp = s3)
theorem t3_ok {P : Program} {w : World} {K : PySem.W.Frag} {mg : Str → Option Value} {base : Heap} {n : Nat} {m : Str} {a b c : Addr} {s1 s2 s3 : Sp} (m1 : MCal P w K mg base n a m s1) (m2 : MCal P w K mg base n b m s2) (m3 : MCal P w K mg base n c m s3) (C : Addr) (sp : Sp) (h : T3 a b c s1 s2 s3 C sp) : MCal P w K mg base n C m sp := by
  rcases h with ⟨rfl, rfl⟩ | ⟨rfl, rfl⟩ | ⟨rfl, rfl⟩
  · exact m1
  · exact m2
  · exact m3
theorem rd_methD {T : Addr → Sp → Prop} {m : Str} {ta : TE} {t : TA} {σ : St} {H : Hp} {Q : VK} (q : ta σ H fun x H1 => ∃ a C dx fs sp, x = .ref a ∧ H1 a = some (.ins C dx fs) ∧ fs.lookup m = none ∧ T C sp ∧ t σ H1 fun vs H2 => sp (x :: vs) H2 Q E0) : tMethD T m ta t σ H Q := q
noncomputable def TDo (K : PySem.W.Frag) (cA cS cM cN : Addr) : Addr → Sp → Prop := T3 cS cM cN (spDo K cA cS isSave) (spDo K cA cM isMove) (spDo K cA cN isNote)
noncomputable def TUn (K : PySem.W.Frag) (cA cS cM cN : Addr) : Addr → Sp → Prop := T3 cS cM cN (spUndo K cA cS isSave) (spUndo K cA cM isMove) (spUndo K cA cN isNote)
noncomputable def okOf : Dd → Dd → Prop
  | .save .. => isSave
  | .move .. => isMove
  | .note .. => isNote
theorem okOf_self (d : Dd) : okOf d d := by
  cases d with
  | save => exact ⟨_, _, _, _, rfl⟩
  | move => exact ⟨_, _, _, rfl⟩
  | note => exact ⟨_, _, rfl⟩
theorem tdo_of (K : PySem.W.Frag) (cA cS cM cN : Addr) (d : Dd) : TDo K cA cS cM cN (clsD cS cM cN d) (spDo K cA (clsD cS cM cN d) (okOf d)) := by
  cases d with
  | save => exact .inl ⟨rfl, rfl⟩
  | move => exact .inr (.inl ⟨rfl, rfl⟩)
  | note => exact .inr (.inr ⟨rfl, rfl⟩)
theorem tun_of (K : PySem.W.Frag) (cA cS cM cN : Addr) (d : Dd) : TUn K cA cS cM cN (clsD cS cM cN d) (spUndo K cA (clsD cS cM cN d) (okOf d)) := by
  cases d with
  | save => exact .inl ⟨rfl, rfl⟩
  | move => exact .inr (.inl ⟨rfl, rfl⟩)
  | note => exact .inr (.inr ⟨rfl, rfl⟩)
theorem fld_do (d : Dd) : (fldD d).lookup (Str.ofString "do") = none := by cases d <;> rfl
theorem fld_undo (d : Dd) : (fldD d).lookup (Str.ofString "undo") = none := by cases d <;> rfl

noncomputable def runS (S : Nat → AcS) (ds : List Dd) : Nat → AcS := ds.foldl doneS S
theorem runS_snoc (S : Nat → AcS) (ds : List Dd) (d : Dd) : runS S (ds ++ [d]) = doneS (runS S ds) d := by unfold runS; rw [List.foldl_append]; rfl
noncomputable def rightAll : (Nat → AcS) → List Dd → Prop
  | _, [] => True
  | S, d :: ds => rightD S d ∧ rightAll (doneS S d) ds
theorem rightAll_snoc : ∀ (S : Nat → AcS) (ds : List Dd) (d : Dd), rightAll S (ds ++ [d]) ↔ rightAll S ds ∧ rightD (runS S ds) d
  | S, [], d => by simp [rightAll, runS]
  | S, e :: ds, d => by
    show rightD S e ∧ rightAll (doneS S e) (ds ++ [d]) ↔ (rightD S e ∧ rightAll (doneS S e) ds) ∧ rightD (runS S (e :: ds)) d
    rw [rightAll_snoc (doneS S e) ds d, and_assoc]
    rfl
structure DI where
  o : Addr
  dx : Addr
  d : Dd
noncomputable def jF (R L : Addr) : List (Str × V) := [("rooms", .ref R), ("deeds", .ref L)]
structure Jr (cJ cS cM cN : Addr) (H : Hp) (j dx R L : Addr) (A : Nat → Option AcI) (es : List DI) : Prop where
  ob : H j = some (.ins cJ dx (jF R L))
  li : H L = some (.lst (es.map fun e => V.ref e.o))
  de : ∀ e ∈ es, H e.o = some (.ins (clsD cS cM cN e.d) e.dx (fldD e.d)) ∧ fitsD A e.d
  nR : L ≠ R
  np : ∀ i x, i < 16 → A i = some x → L ≠ x.pr
theorem ins_ne {H : Hp} {a b C C' dx dx' : Addr} {fs gs : List (Str × V)} (h : H a = some (.ins C dx fs)) (h' : H b = some (.ins C' dx' gs)) (n : fs.length ≠ gs.length) : a ≠ b := fun z => by
  rw [z, h'] at h
  cases h
  exact n rfl
theorem fldD_len (d : Dd) : (fldD d).length < 5 := by
  cases d with
  | save => show 4 < 5; decide
  | move => show 3 < 5; decide
  | note => show 2 < 5; decide
section
variable {K : PySem.W.Frag} {C cJ cS cM cN : Addr} {H H' : Hp} {j dx R L : Addr} {A : Nat → Option AcI} {S : Nat → AcS} {m : Nat} {es : List DI}
theorem Rooms.same {K : PySem.W.Frag} {C : Addr} {H H' : Hp} {R : Addr} {A : Nat → Option AcI} {S : Nat → AcS} {m : Nat} (r : Rooms K C H R A S m) (s : Same H H') : Rooms K C H' R A S m :=
  ⟨s _ _ r.ob, fun i x hi hx => let h := r.ac i x hi hx; ⟨s _ _ h.ob, let ⟨xs, e1, e2⟩ := h.pg; ⟨xs, s _ _ e1, e2.keep s.imm⟩, let ⟨k, a, b⟩ := h.sto; ⟨k, s _ _ a, b⟩⟩, r.da, r.ds⟩
theorem Rooms.outI (r : Rooms K C H R A S m) {a C' dx' : Addr} {fs : List (Str × V)} (h : H a = some (.ins C' dx' fs)) (n : fs.length < 5) : Out A a := fun i x hi hx =>
  ⟨ins_ne h (r.ac i x hi hx).ob (by show fs.length ≠ 5; omega), let ⟨_, g, _⟩ := (r.ac i x hi hx).sto; ne_of h g (by intro z; cases z)⟩
theorem Rooms.outL (r : Rooms K C H R A S m) {a : Addr} {xs : List V} (h : H a = some (.lst xs)) : Out A a := fun i x hi hx =>
  ⟨ne_of h (r.ac i x hi hx).ob (by intro z; cases z), let ⟨_, g, _⟩ := (r.ac i x hi hx).sto; ne_of h g (by intro z; cases z)⟩
theorem Jr.same (J : Jr cJ cS cM cN H j dx R L A es) (s : Same H H') : Jr cJ cS cM cN H' j dx R L A es := ⟨s _ _ J.ob, s _ _ J.li, fun e he => ⟨s _ _ (J.de e he).1, (J.de e he).2⟩, J.nR, J.np⟩
theorem Jr.out (J : Jr cJ cS cM cN H j dx R L A es) (r : Rooms K C H R A S m) (k : ∀ b, Out A b → H' b = H b) : Jr cJ cS cM cN H' j dx R L A es :=
  ⟨by rw [k _ (r.outI J.ob (by show 2 < 5; decide))]; exact J.ob, by rw [k _ (r.outL J.li)]; exact J.li, fun e he => ⟨by rw [k _ (r.outI (J.de e he).1 (fldD_len _))]; exact (J.de e he).1, (J.de e he).2⟩, J.nR, J.np⟩
theorem Rooms.lst (r : Rooms K C H R A S m) {L : Addr} {xs ys : List V} (hL : H L = some (.lst xs)) (nR : L ≠ R) (np : ∀ i x, i < 16 → A i = some x → L ≠ x.pr) : Rooms K C (upd H L (.lst ys)) R A S m := by
  have im : SameI H (upd H L (.lst ys)) := SameI.upd hL notImm_lst
  refine ⟨by rw [upd_ne (Ne.symm nR)]; exact r.ob, fun i x hi hx => ?_, r.da, r.ds⟩
  have h := r.ac i x hi hx
  obtain ⟨zs, e1, e2⟩ := h.pg
  obtain ⟨kvs, e3, e4⟩ := h.sto
  exact ⟨by rw [upd_ne (ne_of h.ob hL (by intro z; cases z))]; exact h.ob, ⟨zs, by rw [upd_ne (Ne.symm (np i x hi hx))]; exact e1, e2.keep im⟩, kvs, by rw [upd_ne (ne_of e3 hL (by intro z; cases z))]; exact e3, e4⟩
theorem Jr.push (J : Jr cJ cS cM cN H j dx R L A es) {e : DI} (he : H e.o = some (.ins (clsD cS cM cN e.d) e.dx (fldD e.d))) (hf : fitsD A e.d) : Jr cJ cS cM cN (upd H L (.lst ((es.map fun e => V.ref e.o) ++ [.ref e.o]))) j dx R L A (es ++ [e]) := by
  refine ⟨by rw [upd_ne (ne_of J.ob J.li (by intro z; cases z))]; exact J.ob, by rw [upd_same, List.map_append]; rfl, fun u hu => ?_, J.nR, J.np⟩
  rcases List.mem_append.mp hu with hu | hu
  · have h := J.de u hu
    exact ⟨by rw [upd_ne (ne_of h.1 J.li (by intro z; cases z))]; exact h.1, h.2⟩
  · rw [List.mem_singleton] at hu
    subst hu
    exact ⟨by rw [upd_ne (ne_of he J.li (by intro z; cases z))]; exact he, hf⟩
theorem Jr.pop {e : DI} (J : Jr cJ cS cM cN H j dx R L A (es ++ [e])) : Jr cJ cS cM cN (upd H L (.lst (es.map fun e => V.ref e.o))) j dx R L A es :=
  ⟨by rw [upd_ne (ne_of J.ob J.li (by intro z; cases z))]; exact J.ob, upd_same, fun u hu => let h := J.de u (List.mem_append.mpr (.inl hu)); ⟨by rw [upd_ne (ne_of h.1 J.li (by intro z; cases z))]; exact h.1, h.2⟩, J.nR, J.np⟩
end
theorem jb2 {m n : Nat} (h : m < n) : n = (n - 1) + 1 := by omega
theorem jb3 {m e p : Nat} (h : m + e ≤ 1000000) : m + (e - p) ≤ 1000000 := by omega
theorem jb5 {m e p : Nat} (h : p < e) : m + (e - (p + 1)) + 1 = m + (e - p) := by omega
noncomputable def spJInit (cJ : Addr) : Sp := fun vs H Q _ => ∃ (j dx R : Addr), vs = [.ref j, .ref R] ∧ H j = some (.ins cJ dx []) ∧ ∀ L, H L = none → Q .non (upd (upd H L (.lst [])) j (.ins cJ dx (jF R L)))
noncomputable def spMark (cJ : Addr) : Sp := fun vs H Q _ => ∃ (j dx R L : Addr) (xs : List V), vs = [.ref j] ∧ H j = some (.ins cJ dx (jF R L)) ∧ H L = some (.lst xs) ∧ Q (.int (xs.length : Nat)) H
noncomputable def spWrite (K : PySem.W.Frag) (C cJ cS cM cN : Addr) : Sp := fun vs H Q _ => ∃ (j dx R L : Addr) (A : Nat → Option AcI) (S : Nat → AcS) (m : Nat) (es : List DI) (e : DI), vs = [.ref j, .ref e.o] ∧ Jr cJ cS cM cN H j dx R L A es ∧ Rooms K C H R A S m ∧ H e.o = some (.ins (clsD cS cM cN e.d) e.dx (fldD e.d)) ∧ fitsD A e.d ∧ m ≤ 1000000 ∧ es.length < 1000000 ∧
  ∀ H', (∀ b, Out A b → b ≠ L → H' b = H b) → Rooms K C H' R A (doneS S e.d) (m + 1) → Jr cJ cS cM cN H' j dx R L A (es ++ [e]) → Q .non H'
noncomputable def spBack (K : PySem.W.Frag) (C cJ cS cM cN : Addr) : Sp := fun vs H Q _ => ∃ (j dx R L : Addr) (A : Nat → Option AcI) (S0 : Nat → AcS) (m : Nat) (es : List DI) (mk : Int), vs = [.ref j, .int mk] ∧ Jr cJ cS cM cN H j dx R L A es ∧ Rooms K C H R A (runS S0 (es.map (·.d))) m ∧ rightAll S0 (es.map (·.d)) ∧ m + es.length ≤ 1000000 ∧
  ∀ H', (∀ b, Out A b → b ≠ L → H' b = H b) → Rooms K C H' R A (runS S0 ((es.take mk.toNat).map (·.d))) (m + es.length) → rightAll S0 ((es.take mk.toNat).map (·.d)) → Jr cJ cS cM cN H' j dx R L A (es.take mk.toNat) → Q .non H'

section
variable {P : Program} {w : World} {K : PySem.W.Frag} {mg : Str → Option Value} {base : Heap}
theorem sc_Journal___init__ : FnScope ["self", "rooms"] ["self", "rooms"] (defScope s_Journal___init__) := ⟨rfl, rfl, rfl, by decide +kernel, rfl, by decide +kernel, by decide +kernel⟩
theorem ok_Journal___init__   {cJournal : Addr} (D : MethAt K cJournal "__init__" "Journal.__init__" s_Journal___init__) (tJournal : T_Journal K mg cJournal) : ICal P w K mg base 1 "Journal" cJournal (spJInit cJournal) := by
  refine ical_of (N := ["self", "rooms"]) (ps := ["self", "rooms"]) D tJournal.k sc_Journal___init__ (fun vs H Q E h => ?_) (fun _ _ _ _ _ _ us hl => bd2 (R := fun us => bindArgs _ ⟨us, []⟩ = pure (List.zip _ us)) (fun _ _ => rfl) us hl) (fun f cdv A outer s H vs Q E hr h => ?_)
  · obtain ⟨j, dx, R, rfl, _⟩ := h; rfl
  · obtain ⟨j, dx, R, rfl, ha, k⟩ := h
    refine ⟨_, (pss_cons (ps_fld (pv 0) (pv 1) rfl)
      (pss_one (ps_fld (pv 0) (pe_lst pa_nil) rfl))), ?_⟩
    try simp only [nox_K, nox_P, nox_w, nox_mg, nox_base, cxOf_K, cxOf_P, cxOf_w, cxOf_mg, cxOf_base]
    repeat walk_at "rdk"
    refine rd_sfldA ha tJournal.k.cl tJournal.n_rooms (by decide) ?_
    repeat walk_at "rdk"
    refine ⟨by decide, fun l hl => ?_⟩
    have nl : l ≠ j := fun z => by rw [z, upd_same] at hl; cases hl
    have hlH : H l = none := by rw [upd_ne nl] at hl; exact hl
    repeat walk_at "rdk"
    refine rd_sfldA (by rw [upd_ne (Ne.symm nl)]; exact upd_same) tJournal.k.cl tJournal.n_deeds (by show 1 < 1000; decide) ?_
    have e : upd (upd (upd H j (.ins cJournal dx (putF "rooms" (.ref R) []))) l (.lst [])) j (.ins cJournal dx (putF "deeds" (.ref l) (putF "rooms" (.ref R) []))) = upd (upd H l (.lst [])) j (.ins cJournal dx (jF R l)) := by
      funext b
      unfold upd
      by_cases z : b = j
      · rw [if_pos z, if_pos z]; rfl
      · rw [if_neg z, if_neg z, if_neg z]
    rw [e]
    exact k l hlH
theorem sc_Journal_mark : FnScope ["self"] ["self"] (defScope s_Journal_mark) := ⟨rfl, rfl, rfl, by decide +kernel, rfl, by decide +kernel, by decide +kernel⟩
theorem ok_Journal_mark   {cJournal : Addr} (D : MethAt K cJournal "mark" "Journal.mark" s_Journal_mark) (tJournal : T_Journal K mg cJournal) (n_len : mg "len" = none) : MCal P w K mg base 1 cJournal "mark" (spMark cJournal) := by
  refine mcal_of (N := ["self"]) (ps := ["self"]) D tJournal.k.cl sc_Journal_mark (fun vs H Q E h => ?_) (fun _ _ _ _ _ _ us hl => bd1 (R := fun us => bindArgs _ ⟨us, []⟩ = pure (List.zip _ us)) (fun _ => rfl) us hl) (fun f cdv A outer s H vs Q E hr h => ?_)
  · obtain ⟨j, dx, R, L, xs, rfl, _⟩ := h; rfl
  · obtain ⟨j, dx, R, L, xs, rfl, ha, hl, k⟩ := h
    first | refine sp_gen fun zQ zq => ⟨_, (pss_one (ps_ret (pe_callB cn_len rfl n_len PySem.boot_len (pa_cons (pe_fld (pv 0) rfl) pa_nil)))), zq _ _ ?_⟩ | refine ⟨_, (pss_one (ps_ret (pe_callB cn_len rfl n_len PySem.boot_len (pa_cons (pe_fld (pv 0) rfl) pa_nil)))), ?_⟩
    try simp only [nox_K, nox_P, nox_w, nox_mg, nox_base, cxOf_K, cxOf_P, cxOf_w, cxOf_mg, cxOf_base]
    repeat walk_at "rdk"
    refine rd_fldA ha tJournal.k.cl tJournal.n_deeds rfl ?_
    repeat walk_at "rdk"
    exact k
theorem sc_Journal_write : FnScope ["self", "deed"] ["self", "deed"] (defScope s_Journal_write) := ⟨rfl, rfl, rfl, by decide +kernel, rfl, by decide +kernel, by decide +kernel⟩
theorem ok_Journal_write   {cJournal : Addr} {cSave : Addr} {cMove : Addr} {cNote : Addr} {cAccount : Addr} (D : MethAt K cJournal "write" "Journal.write" s_Journal_write) (tJournal : T_Journal K mg cJournal) (tSave : T_Save K mg cSave) (tMove : T_Move K mg cMove) (tNote : T_Note K mg cNote) (tAccount : T_Account K mg cAccount) (m_Save_do : MCal P w K mg base 2 cSave "do" (spDo K cAccount cSave isSave)) (m_Move_do : MCal P w K mg base 2 cMove "do" (spDo K cAccount cMove isMove)) (m_Note_do : MCal P w K mg base 2 cNote "do" (spDo K cAccount cNote isNote)) : MCal P w K mg base 3 cJournal "write" (spWrite K cAccount cJournal cSave cMove cNote) := by
  refine mcal_of (N := ["self", "deed"]) (ps := ["self", "deed"]) D tJournal.k.cl sc_Journal_write (fun vs H Q E h => ?_) (fun _ _ _ _ _ _ us hl => bd2 (R := fun us => bindArgs _ ⟨us, []⟩ = pure (List.zip _ us)) (fun _ _ => rfl) us hl) (fun f cdv A outer s H vs Q E hr h => ?_)
  · obtain ⟨j, dx, R, L, A, S, m, es, e, rfl, _⟩ := h; rfl
  · obtain ⟨j, dx, R, L, Ar, S, m, es, e, rfl, J, r, he, fit, hm, hel, k⟩ := h
    refine ⟨_, (pss_cons (ps_expr (pe_methD (T := TDo K cAccount cSave cMove cNote) (t3_ok m_Save_do m_Move_do m_Note_do) (hr.mono (by decide)) (pv 1) (pa_cons (pe_fld (pv 0) rfl) pa_nil)))
      (pss_one (ps_expr (pe_bm PySem.F.plainAttrs_list PySem.F.slot_list_append PySem.F.type_list_append mt_append (pe_fld (pv 0) rfl) (pa_cons (pv 1) pa_nil))))), ?_⟩
    try simp only [nox_K, nox_P, nox_w, nox_mg, nox_base, cxOf_K, cxOf_P, cxOf_w, cxOf_mg, cxOf_base]
    repeat walk_at "rdk"
    refine rd_methD ?_
    repeat walk_at "rdk"
    first | refine sp_gen fun zQ zq => ⟨e.o, clsD cSave cMove cNote e.d, e.dx, fldD e.d, _, rfl, he, fld_do e.d, tdo_of K cAccount cSave cMove cNote e.d, zq _ _ ?_⟩ | refine ⟨e.o, clsD cSave cMove cNote e.d, e.dx, fldD e.d, _, rfl, he, fld_do e.d, tdo_of K cAccount cSave cMove cNote e.d, ?_⟩
    repeat walk_at "rdk"
    refine rd_fldA J.ob tJournal.k.cl tJournal.n_rooms rfl ?_
    repeat walk_at "rdk"
    first | refine sp_gen fun zQ zq => ⟨e.o, e.dx, R, e.d, Ar, S, m, rfl, okOf_self e.d, he, r, fit, hm, fun H1 k1 r1 => zq _ _ ?_⟩ | refine ⟨e.o, e.dx, R, e.d, Ar, S, m, rfl, okOf_self e.d, he, r, fit, hm, fun H1 k1 r1 => ?_⟩
    have J1 := J.out r k1
    have he1 : H1 e.o = some (.ins (clsD cSave cMove cNote e.d) e.dx (fldD e.d)) := by rw [k1 _ (r.outI he (fldD_len _))]; exact he
    repeat walk_at "rdk"
    refine rd_fldA J1.ob tJournal.k.cl tJournal.n_deeds rfl ?_
    refine ⟨ty_list (sql_of J1.li), ?_⟩
    repeat walk_at "rdk"
    refine rd_append J1.li (by rw [List.length_map]; exact Nat.lt_of_lt_of_le hel (by decide)) ?_
    repeat walk_at "rdk"
    exact k _ (fun b h1 h2 => by rw [upd_ne h2]; exact k1 b h1) (r1.lst J1.li J1.nR J1.np) (J1.push he1 fit)
theorem sc_Journal_back : FnScope ["self", "mark", "deed"] ["self", "mark"] (defScope s_Journal_back) := ⟨rfl, rfl, rfl, by decide +kernel, rfl, by decide +kernel, by decide +kernel⟩
theorem ok_Journal_back   {cJournal : Addr} {cSave : Addr} {cMove : Addr} {cNote : Addr} {cAccount : Addr} (D : MethAt K cJournal "back" "Journal.back" s_Journal_back) (tJournal : T_Journal K mg cJournal) (tSave : T_Save K mg cSave) (tMove : T_Move K mg cMove) (tNote : T_Note K mg cNote) (tAccount : T_Account K mg cAccount) (m_Save_undo : MCal P w K mg base 2 cSave "undo" (spUndo K cAccount cSave isSave)) (m_Move_undo : MCal P w K mg base 2 cMove "undo" (spUndo K cAccount cMove isMove)) (m_Note_undo : MCal P w K mg base 2 cNote "undo" (spUndo K cAccount cNote isNote)) (n_len : mg "len" = none) (n_max : mg "max" = none) : MCal P w K mg base 3 cJournal "back" (spBack K cAccount cJournal cSave cMove cNote) := by
  refine mcal_of (N := ["self", "mark", "deed"]) (ps := ["self", "mark"]) D tJournal.k.cl sc_Journal_back (fun vs H Q E h => ?_) (fun _ _ _ _ _ _ us hl => bd2 (R := fun us => bindArgs _ ⟨us, []⟩ = pure (List.zip _ us)) (fun _ _ => rfl) us hl) (fun f cdv A outer s H vs Q E hr h => ?_)
  · obtain ⟨j, dx, R, L, A, S0, m, es, mk, rfl, _⟩ := h; rfl
  · obtain ⟨j, dx, R, L, Ar, S0, m, es, mk, rfl, J, r, ri, hm, k⟩ := h
    refine ⟨_, (pss_one (ps_while PassesOwn.never (pt_cmpR op_gt (pe_callB cn_len rfl n_len PySem.boot_len (pa_cons (pe_fld (pv 0) rfl) pa_nil)) (pe_callB (cn_max rfl) rfl n_max PyProof.Rows.boot_max (pa_cons (pv 1) (pa_cons pe_int pa_nil))) (nomark _))
      (pss_cons (ps_set (i := 2) sc_Journal_back.nd rfl (by first | exact Or.inl rfl | exact Or.inr rfl) (pe_bm0 PySem.F.plainAttrs_list PySem.F.slot_list_pop PySem.F.type_list_pop mt_pop (pe_fld (pv 0) rfl)))
      (pss_one (ps_expr (pe_methD (T := TUn K cAccount cSave cMove cNote) (t3_ok m_Save_undo m_Move_undo m_Note_undo) (hr.mono (by decide)) (pv 2) (pa_cons (pe_fld (pv 0) rfl) pa_nil))))))), ?_⟩
    try simp only [nox_K, nox_P, nox_w, nox_mg, nox_base, cxOf_K, cxOf_P, cxOf_w, cxOf_mg, cxOf_base]
    first | refine sp_gen fun zQ zq => ⟨fun n σ' H' => ∃ q v, n = q ∧ min mk.toNat es.length ≤ q ∧ q ≤ es.length ∧ (∀ b, Out Ar b → b ≠ L → H' b = H b) ∧ Rooms K cAccount H' R Ar (runS S0 ((es.take q).map (·.d))) (m + (es.length - q)) ∧ rightAll S0 ((es.take q).map (·.d)) ∧ Jr cJournal cSave cMove cNote H' j dx R L Ar (es.take q) ∧ σ' = [some (.ref j), some (.int mk), v], ⟨es.length, es.length, none, rfl, Nat.min_le_right _ _, Nat.le_refl _, fun _ _ _ => rfl, by rw [List.take_length, Nat.sub_self]; exact r, by rw [List.take_length]; exact ri, by rw [List.take_length]; exact J, rfl⟩, zq _ _ ?_⟩ | refine ⟨fun n σ' H' => ∃ q v, n = q ∧ min mk.toNat es.length ≤ q ∧ q ≤ es.length ∧ (∀ b, Out Ar b → b ≠ L → H' b = H b) ∧ Rooms K cAccount H' R Ar (runS S0 ((es.take q).map (·.d))) (m + (es.length - q)) ∧ rightAll S0 ((es.take q).map (·.d)) ∧ Jr cJournal cSave cMove cNote H' j dx R L Ar (es.take q) ∧ σ' = [some (.ref j), some (.int mk), v], ⟨es.length, es.length, none, rfl, Nat.min_le_right _ _, Nat.le_refl _, fun _ _ _ => rfl, by rw [List.take_length, Nat.sub_self]; exact r, by rw [List.take_length]; exact ri, by rw [List.take_length]; exact J, rfl⟩, ?_⟩
    rintro n σ' H' ⟨q, v, rfl, hq0, hq1, fr, r', ri', J', rfl⟩
    have hL := J'.li
    repeat walk_at "rdk"
    refine rd_fldA J'.ob tJournal.k.cl tJournal.n_deeds rfl ?_
    repeat walk_at "rdk"
    · rename_i hgt
      rw [List.length_map, List.length_take, Nat.min_eq_left hq1] at hgt
      have hgt2 : mk.toNat < n := by split at hgt <;> omega
      obtain ⟨p, rfl⟩ : ∃ p, n = p + 1 := ⟨n - 1, jb2 hgt2⟩
      have hp : p < es.length := hq1
      have htk : es.take (p + 1) = es.take p ++ [es[p]] := List.take_succ_eq_append_getElem hp
      refine ⟨fun σ' H' => ∃ m', m' < p + 1 ∧ _, fun _ _ h => h, ?_⟩
      rw [htk] at J' ri' r' hL
      rw [List.map_append] at ri' r'
      obtain ⟨de, fit⟩ := J'.de es[p] (List.mem_append.mpr (.inr (List.mem_singleton.mpr rfl)))
      generalize es[p] = e at *
      have J2 := J'.pop
      have r2 := r'.lst (ys := (es.take p).map fun e => V.ref e.o) hL J'.nR J'.np
      rw [List.map_append] at hL
      repeat walk_at "rdk"
      refine rd_fldA J'.ob tJournal.k.cl tJournal.n_deeds rfl ?_
      refine ⟨ty_list (sql_of hL), ?_⟩
      refine rd_pop hL ?_
      have fr2 : ∀ b, Out Ar b → b ≠ L → (upd H' L (.lst ((es.take p).map fun e => V.ref e.o))) b = H b := fun b h1 h2 => by rw [upd_ne h2]; exact fr b h1 h2
      have de2 : (upd H' L (.lst ((es.take p).map fun e => V.ref e.o))) e.o = some (.ins (clsD cSave cMove cNote e.d) e.dx (fldD e.d)) := by rw [upd_ne (ne_of de hL (by intro z; cases z))]; exact de
      generalize upd H' L _ = H2 at J2 r2 fr2 de2
      (revert H2 J2 r2 fr2 de2; refine keepIt ?_; intro H2 J2 r2 fr2 de2)
      repeat walk_at "rdk"
      refine rd_methD ?_
      repeat walk_at "rdk"
      first | refine sp_gen fun zQ zq => ⟨e.o, clsD cSave cMove cNote e.d, e.dx, fldD e.d, _, rfl, de2, fld_undo e.d, tun_of K cAccount cSave cMove cNote e.d, zq _ _ ?_⟩ | refine ⟨e.o, clsD cSave cMove cNote e.d, e.dx, fldD e.d, _, rfl, de2, fld_undo e.d, tun_of K cAccount cSave cMove cNote e.d, ?_⟩
      repeat walk_at "rdk"
      refine rd_fldA J2.ob tJournal.k.cl tJournal.n_rooms rfl ?_
      repeat walk_at "rdk"
      first | refine sp_gen fun zQ zq => ⟨e.o, e.dx, R, e.d, Ar, _, _, rfl, okOf_self e.d, de2, r2, fit, jb3 hm, fun H3 k3 r3 => zq _ _ ?_⟩ | refine ⟨e.o, e.dx, R, e.d, Ar, _, _, rfl, okOf_self e.d, de2, r2, fit, jb3 hm, fun H3 k3 r3 => ?_⟩
      have J3 := J2.out r2 k3
      obtain ⟨ri2, rd2⟩ := (rightAll_snoc _ _ _).mp ri'
      have e1 : undoneS (runS S0 ((es.take p).map (·.d) ++ [e].map (·.d))) e.d = runS S0 ((es.take p).map (·.d)) := by
        show undoneS (runS S0 ((es.take p).map (·.d) ++ [e.d])) e.d = _
        rw [runS_snoc]
        exact undone_done rd2
      rw [e1] at r3
      repeat walk_at "rdk"
      refine ⟨p, Nat.lt_succ_self p, p, _, rfl, Nat.le_trans (Nat.min_le_left ..) (Nat.le_of_lt_succ hgt2), Nat.le_of_lt hp, fun b h1 h2 => by rw [k3 b h1]; exact fr2 b h1 h2, ?_, ri2, J3, rfl⟩
      have em : m + (es.length - (p + 1)) + 1 = m + (es.length - p) := jb5 hp
      rw [em] at r3
      exact r3
    · rename_i hgt
      rw [List.length_map, List.length_take, Nat.min_eq_left hq1] at hgt
      have hgt2 : n ≤ mk.toNat := by split at hgt <;> omega
      have et : es.take n = es.take mk.toNat := by
        by_cases z : mk.toNat ≤ es.length
        · rw [show n = mk.toNat by omega]
        · rw [List.take_of_length_le (by omega), List.take_of_length_le (by omega)]
      rw [et] at r' ri' J'
      exact k H' fr (r'.le (by omega)) ri' J'

end
end My

namespace My
open PySem L2

noncomputable def tellV : Dd → List V
  | .save s p o n => [.str "save", .int s, .int p, .int o, .int n]
  | .move s t k => [.str "move", .int s, .int t, .int k]
  | .note s n => [.str "note", .int s, .int n]

noncomputable def tellDs : Dd → List Dt
  | .save s p o n => [.str "save", .int s, .int p, .int o, .int n]
  | .move s t k => [.str "move", .int s, .int t, .int k]
  | .note s n => [.str "note", .int s, .int n]
noncomputable def tellD (d : Dd) : Dt := .tup (tellDs d)
theorem tell_dvs {K : PySem.W.Frag} {H : Hp} (d : Dd) : DVs K H (tellDs d) (tellV d) := by
  cases d with
  | save => exact dvs_cons dv_str (dvs_cons dv_int (dvs_cons dv_int (dvs_cons dv_int (dvs_cons dv_int dvs_nil))))
  | move => exact dvs_cons dv_str (dvs_cons dv_int (dvs_cons dv_int (dvs_cons dv_int dvs_nil)))
  | note => exact dvs_cons dv_str (dvs_cons dv_int (dvs_cons dv_int dvs_nil))
theorem dvs_of {K : PySem.W.Frag} {H : Hp} : ∀ (ds : List Dt) (xs : List V), ds.length = xs.length → (∀ (i : Nat) (d : Dt) (x : V), ds[i]? = some d → xs[i]? = some x → DV K H d x) → DVs K H ds xs
  | [], [], _, _ => dvs_nil
  | d :: ds, x :: xs, hl, h => dvs_cons (h 0 d x rfl rfl) (dvs_of ds xs (by simpa using hl) fun i d' x' h1 h2 => h (i + 1) d' x' (by simpa using h1) (by simpa using h2))
  | [], x :: xs, hl, _ => by simp at hl
  | d :: ds, [], hl, _ => by simp at hl
theorem dvs_at {K : PySem.W.Frag} {H : Hp} : ∀ {ds : List Dt} {xs : List V}, DVs K H ds xs → ds.length = xs.length ∧ ∀ (i : Nat) (d : Dt) (x : V), ds[i]? = some d → xs[i]? = some x → DV K H d x
  | [], xs, h => by
    unfold DVs at h
    subst h
    exact ⟨rfl, fun i d x h => by simp at h⟩
  | d :: ds, xs, h => by
    unfold DVs at h
    obtain ⟨x, t, rfl, h1, h2⟩ := h
    obtain ⟨a, b⟩ := dvs_at h2
    refine ⟨by simp [a], fun i d' x' e1 e2 => ?_⟩
    cases i with
    | zero => cases e1; cases e2; exact h1
    | succ i => exact b i d' x' (by simpa using e1) (by simpa using e2)
theorem DVs.take {K : PySem.W.Frag} {H : Hp} {ds : List Dt} {xs : List V} (h : DVs K H ds xs) (n : Nat) : DVs K H (ds.take n) (xs.take n) := by
  obtain ⟨a, b⟩ := dvs_at h
  refine dvs_of _ _ (by rw [List.length_take, List.length_take, a]) fun i d x h1 h2 => ?_
  rw [List.getElem?_take] at h1 h2
  split at h1
  · rename_i hi
    rw [if_pos hi] at h2
    exact b i d x h1 h2
  · cases h1
theorem DVs.snoc {K : PySem.W.Frag} {H : Hp} {ds : List Dt} {xs : List V} {d : Dt} {x : V} (h : DVs K H ds xs) (h1 : DV K H d x) : DVs K H (ds ++ [d]) (xs ++ [x]) := by
  obtain ⟨a, b⟩ := dvs_at h
  refine dvs_of _ _ (by rw [List.length_append, List.length_append, a]; rfl) fun i d' x' e1 e2 => ?_
  by_cases hi : i < ds.length
  · rw [List.getElem?_append_left hi] at e1
    rw [List.getElem?_append_left (by rw [← a]; exact hi)] at e2
    exact b i d' x' e1 e2
  · rw [List.getElem?_append_right (by omega)] at e1
    rw [List.getElem?_append_right (by omega), ← a] at e2
    generalize i - ds.length = n at e1 e2
    (revert n e1 e2; refine keepIt ?_; intro n e1 e2)
    cases n with
    | zero => cases e1; cases e2; exact h1
    | succ n => simp at e1
noncomputable def TupsAt (H : Hp) (ds : List Dd) (ts : List Addr) : Prop := ds.length = ts.length ∧ ∀ (n : Nat) (d : Dd) (t : Addr), ds[n]? = some d → ts[n]? = some t → H t = some (.tup (tellV d))
theorem TupsAt.nil {H : Hp} : TupsAt H [] [] := ⟨rfl, fun n d t h => by simp at h⟩
theorem TupsAt.mono {H H' : Hp} {ds : List Dd} {ts : List Addr} (h : TupsAt H ds ts) (k : ∀ b xs, H b = some (.tup xs) → H' b = some (.tup xs)) : TupsAt H' ds ts := ⟨h.1, fun n d t h1 h2 => k _ _ (h.2 n d t h1 h2)⟩
theorem TupsAt.snoc {H : Hp} {ds : List Dd} {ts : List Addr} {d : Dd} {t : Addr} (h : TupsAt H ds ts) (h1 : H t = some (.tup (tellV d))) : TupsAt H (ds ++ [d]) (ts ++ [t]) := by
  first | refine sp_gen fun zQ zq => ⟨by rw [List.length_append, List.length_append, h.1]; rfl, fun n d' t' e1 e2 => zq _ _ ?_⟩ | refine ⟨by rw [List.length_append, List.length_append, h.1]; rfl, fun n d' t' e1 e2 => ?_⟩
  by_cases hi : n < ds.length
  · rw [List.getElem?_append_left hi] at e1
    rw [List.getElem?_append_left (by rw [← h.1]; exact hi)] at e2
    exact h.2 n d' t' e1 e2
  · rw [List.getElem?_append_right (by omega)] at e1
    rw [List.getElem?_append_right (by have := h.1; omega), ← h.1] at e2
    generalize n - ds.length = n at e1 e2
    (revert n e1 e2; refine keepIt ?_; intro n e1 e2)
    cases n with
    | zero => cases e1; cases e2; exact h1
    | succ n => simp at e1
theorem TupsAt.take {H : Hp} {ds : List Dd} {ts : List Addr} (h : TupsAt H ds ts) (n : Nat) : TupsAt H (ds.take n) (ts.take n) := by
  refine ⟨by rw [List.length_take, List.length_take, h.1], fun i d t e1 e2 => ?_⟩
  rw [List.getElem?_take] at e1 e2
  split at e1
  · rename_i hi
    rw [if_pos hi] at e2
    exact h.2 i d t e1 e2
  · cases e1
theorem TupsAt.dv {K : PySem.W.Frag} {H : Hp} {ds : List Dd} {ts : List Addr} {q : Addr} (h : TupsAt H ds ts) (hq : H q = some (.lst (ts.map V.ref))) : DV K H (.lst (ds.map tellD)) (.ref q) := by
  refine dv_lst (sql_of hq) (dvs_of _ _ (by rw [List.length_map, List.length_map, h.1]) fun i d x e1 e2 => ?_)
  rw [List.getElem?_map] at e1 e2
  obtain ⟨d', h1, rfl⟩ := Option.map_eq_some_iff.mp e1
  obtain ⟨t, h2, rfl⟩ := Option.map_eq_some_iff.mp e2
  exact dv_tup (sqt_of (h.2 i d' t h1 h2)) (tell_dvs d')
noncomputable def spTold (CD : Addr) (ok : Dd → Prop) : Sp := fun vs H Q _ => ∃ (a dx : Addr) (d : Dd), vs = [.ref a] ∧ ok d ∧ H a = some (.ins CD dx (fldD d)) ∧ ∀ t, H t = none → Q (.ref t) (upd H t (.tup (tellV d)))
noncomputable def TTo (cS cM cN : Addr) : Addr → Sp → Prop := T3 cS cM cN (spTold cS isSave) (spTold cM isMove) (spTold cN isNote)
theorem tto_of (cS cM cN : Addr) (d : Dd) : TTo cS cM cN (clsD cS cM cN d) (spTold (clsD cS cM cN d) (okOf d)) := by
  cases d with
  | save => exact .inl ⟨rfl, rfl⟩
  | move => exact .inr (.inl ⟨rfl, rfl⟩)
  | note => exact .inr (.inr ⟨rfl, rfl⟩)
theorem fld_told (d : Dd) : (fldD d).lookup (Str.ofString "told") = none := by cases d <;> rfl
noncomputable def spJTold (cJ cS cM cN : Addr) : Sp := fun vs H Q _ => ∃ (j dx R L : Addr) (A : Nat → Option AcI) (es : List DI), vs = [.ref j] ∧ Jr cJ cS cM cN H j dx R L A es ∧ es.length ≤ 1000 ∧
  ∀ q ts H', Same H H' → H q = none → H' q = some (.lst (ts.map V.ref)) → TupsAt H' (es.map (·.d)) ts → Q (.ref q) H'

section
variable {P : Program} {w : World} {K : PySem.W.Frag} {mg : Str → Option Value} {base : Heap}
theorem sc_Save_told : FnScope ["self"] ["self"] (defScope s_Save_told) := ⟨rfl, rfl, rfl, by decide +kernel, rfl, by decide +kernel, by decide +kernel⟩
theorem ok_Save_told   {cSave : Addr} (D : MethAt K cSave "told" "Save.told" s_Save_told) (tSave : T_Save K mg cSave) : MCal P w K mg base 1 cSave "told" (spTold cSave isSave) := by
  refine mcal_of (N := ["self"]) (ps := ["self"]) D tSave.k.cl sc_Save_told (fun vs H Q E h => ?_) (fun _ _ _ _ _ _ us hl => bd1 (R := fun us => bindArgs _ ⟨us, []⟩ = pure (List.zip _ us)) (fun _ => rfl) us hl) (fun f cdv A outer s H vs Q E hr h => ?_)
  · obtain ⟨a, dx, d, rfl, _⟩ := h; rfl
  · obtain ⟨a, dx, d, rfl, ⟨s0, p, o, n, rfl⟩, ha, k⟩ := h
    first | refine sp_gen fun zQ zq => ⟨_, (pss_one (ps_ret (pe_tup (pa_cons pe_str (pa_cons (pe_fld (pv 0) rfl) (pa_cons (pe_fld (pv 0) rfl) (pa_cons (pe_fld (pv 0) rfl) (pa_cons (pe_fld (pv 0) rfl) pa_nil)))))))), zq _ _ ?_⟩ | refine ⟨_, (pss_one (ps_ret (pe_tup (pa_cons pe_str (pa_cons (pe_fld (pv 0) rfl) (pa_cons (pe_fld (pv 0) rfl) (pa_cons (pe_fld (pv 0) rfl) (pa_cons (pe_fld (pv 0) rfl) pa_nil)))))))), ?_⟩
    try simp only [nox_K, nox_P, nox_w, nox_mg, nox_base, cxOf_K, cxOf_P, cxOf_w, cxOf_mg, cxOf_base]
    repeat walk_at "rdk"
    refine rd_fldA ha tSave.k.cl tSave.n_slot rfl ?_
    repeat walk_at "rdk"
    refine rd_fldA ha tSave.k.cl tSave.n_place rfl ?_
    repeat walk_at "rdk"
    refine rd_fldA ha tSave.k.cl tSave.n_old rfl ?_
    repeat walk_at "rdk"
    refine rd_fldA ha tSave.k.cl tSave.n_new rfl ?_
    repeat walk_at "rdk"
    refine ⟨show 5 ≤ sizeLine by decide, fun t ht => ?_⟩
    exact k t ht
theorem sc_Move_told : FnScope ["self"] ["self"] (defScope s_Move_told) := ⟨rfl, rfl, rfl, by decide +kernel, rfl, by decide +kernel, by decide +kernel⟩
theorem ok_Move_told   {cMove : Addr} (D : MethAt K cMove "told" "Move.told" s_Move_told) (tMove : T_Move K mg cMove) : MCal P w K mg base 1 cMove "told" (spTold cMove isMove) := by
  refine mcal_of (N := ["self"]) (ps := ["self"]) D tMove.k.cl sc_Move_told (fun vs H Q E h => ?_) (fun _ _ _ _ _ _ us hl => bd1 (R := fun us => bindArgs _ ⟨us, []⟩ = pure (List.zip _ us)) (fun _ => rfl) us hl) (fun f cdv A outer s H vs Q E hr h => ?_)
  · obtain ⟨a, dx, d, rfl, _⟩ := h; rfl
  · obtain ⟨a, dx, d, rfl, ⟨s0, t0, kk, rfl⟩, ha, k⟩ := h
    first | refine sp_gen fun zQ zq => ⟨_, (pss_one (ps_ret (pe_tup (pa_cons pe_str (pa_cons (pe_fld (pv 0) rfl) (pa_cons (pe_fld (pv 0) rfl) (pa_cons (pe_fld (pv 0) rfl) pa_nil))))))), zq _ _ ?_⟩ | refine ⟨_, (pss_one (ps_ret (pe_tup (pa_cons pe_str (pa_cons (pe_fld (pv 0) rfl) (pa_cons (pe_fld (pv 0) rfl) (pa_cons (pe_fld (pv 0) rfl) pa_nil))))))), ?_⟩
    try simp only [nox_K, nox_P, nox_w, nox_mg, nox_base, cxOf_K, cxOf_P, cxOf_w, cxOf_mg, cxOf_base]
    repeat walk_at "rdk"
    refine rd_fldA ha tMove.k.cl tMove.n_slot rfl ?_
    repeat walk_at "rdk"
    refine rd_fldA ha tMove.k.cl tMove.n_taker rfl ?_
    repeat walk_at "rdk"
    refine rd_fldA ha tMove.k.cl tMove.n_many rfl ?_
    repeat walk_at "rdk"
    refine ⟨show 4 ≤ sizeLine by decide, fun t ht => ?_⟩
    exact k t ht
theorem sc_Note_told : FnScope ["self"] ["self"] (defScope s_Note_told) := ⟨rfl, rfl, rfl, by decide +kernel, rfl, by decide +kernel, by decide +kernel⟩
theorem ok_Note_told   {cNote : Addr} (D : MethAt K cNote "told" "Note.told" s_Note_told) (tNote : T_Note K mg cNote) : MCal P w K mg base 1 cNote "told" (spTold cNote isNote) := by
  refine mcal_of (N := ["self"]) (ps := ["self"]) D tNote.k.cl sc_Note_told (fun vs H Q E h => ?_) (fun _ _ _ _ _ _ us hl => bd1 (R := fun us => bindArgs _ ⟨us, []⟩ = pure (List.zip _ us)) (fun _ => rfl) us hl) (fun f cdv A outer s H vs Q E hr h => ?_)
  · obtain ⟨a, dx, d, rfl, _⟩ := h; rfl
  · obtain ⟨a, dx, d, rfl, ⟨s0, n, rfl⟩, ha, k⟩ := h
    first | refine sp_gen fun zQ zq => ⟨_, (pss_one (ps_ret (pe_tup (pa_cons pe_str (pa_cons (pe_fld (pv 0) rfl) (pa_cons (pe_fld (pv 0) rfl) pa_nil)))))), zq _ _ ?_⟩ | refine ⟨_, (pss_one (ps_ret (pe_tup (pa_cons pe_str (pa_cons (pe_fld (pv 0) rfl) (pa_cons (pe_fld (pv 0) rfl) pa_nil)))))), ?_⟩
    try simp only [nox_K, nox_P, nox_w, nox_mg, nox_base, cxOf_K, cxOf_P, cxOf_w, cxOf_mg, cxOf_base]
    repeat walk_at "rdk"
    refine rd_fldA ha tNote.k.cl tNote.n_slot rfl ?_
    repeat walk_at "rdk"
    refine rd_fldA ha tNote.k.cl tNote.n_number rfl ?_
    repeat walk_at "rdk"
    refine ⟨show 3 ≤ sizeLine by decide, fun t ht => ?_⟩
    exact k t ht
theorem sc_Journal_told : FnScope ["self"] ["self"] (defScope s_Journal_told) := ⟨rfl, rfl, rfl, by decide +kernel, rfl, by decide +kernel, by decide +kernel⟩
theorem ok_Journal_told   {cJournal : Addr} {cSave : Addr} {cMove : Addr} {cNote : Addr} (D : MethAt K cJournal "told" "Journal.told" s_Journal_told) (tJournal : T_Journal K mg cJournal) (tSave : T_Save K mg cSave) (tMove : T_Move K mg cMove) (tNote : T_Note K mg cNote) (m_Save_told : MCal P w K mg base 1 cSave "told" (spTold cSave isSave)) (m_Move_told : MCal P w K mg base 1 cMove "told" (spTold cMove isMove)) (m_Note_told : MCal P w K mg base 1 cNote "told" (spTold cNote isNote)) : MCal P w K mg base 2 cJournal "told" (spJTold cJournal cSave cMove cNote) := by
  refine mcal_of (N := ["self"]) (ps := ["self"]) D tJournal.k.cl sc_Journal_told (fun vs H Q E h => ?_) (fun _ _ _ _ _ _ us hl => bd1 (R := fun us => bindArgs _ ⟨us, []⟩ = pure (List.zip _ us)) (fun _ => rfl) us hl) (fun f cdv A outer s H vs Q E hr h => ?_)
  · obtain ⟨j, dx, R, L, A, es, rfl, _⟩ := h; rfl
  · obtain ⟨j, dx, R, L, Ar, es, rfl, J, hel, k⟩ := h
    first | refine sp_gen fun zQ zq => ⟨_, (pss_one (ps_ret (pe_comp ["deed"] rfl (show CompScope (defScope s_Journal_told) ["self"] ["deed"] _ from ⟨rfl, by decide +kernel, by decide +kernel, by decide +kernel, by decide +kernel, by decide +kernel⟩) (pi_list (pe_fld (pv 0) rfl)) (fun _ _ _ _ _ => (pg_name (i := 0) (show (["deed", "self"] : List Str).Nodup by decide +kernel) rfl (Or.inl rfl) (.inr rfl))) (fun _ _ _ _ _ => pif_nil) (fun _ _ _ _ _ => (pe_methD0 (T := TTo cSave cMove cNote) (t3_ok m_Save_told m_Move_told m_Note_told) (hr.mono (by decide)) (pv 0)))))), zq _ _ ?_⟩ | refine ⟨_, (pss_one (ps_ret (pe_comp ["deed"] rfl (show CompScope (defScope s_Journal_told) ["self"] ["deed"] _ from ⟨rfl, by decide +kernel, by decide +kernel, by decide +kernel, by decide +kernel, by decide +kernel⟩) (pi_list (pe_fld (pv 0) rfl)) (fun _ _ _ _ _ => (pg_name (i := 0) (show (["deed", "self"] : List Str).Nodup by decide +kernel) rfl (Or.inl rfl) (.inr rfl))) (fun _ _ _ _ _ => pif_nil) (fun _ _ _ _ _ => (pe_methD0 (T := TTo cSave cMove cNote) (t3_ok m_Save_told m_Move_told m_Note_told) (hr.mono (by decide)) (pv 0)))))), ?_⟩
    try simp only [nox_K, nox_P, nox_w, nox_mg, nox_base, cxOf_K, cxOf_P, cxOf_w, cxOf_mg, cxOf_base]
    have big : (1001 : Nat) ≤ sizeLine := by decide
    repeat walk_at "rdk"
    refine rd_comp (rd_iList ?_)
    repeat walk_at "rdk"
    refine rd_fldA J.ob tJournal.k.cl tJournal.n_deeds rfl ?_
    first | refine sp_gen fun zQ zq => ⟨L, rfl, ⟨_, sql_of J.li⟩, fun q hq => zq _ _ ?_⟩ | refine ⟨L, rfl, ⟨_, sql_of J.li⟩, fun q hq => ?_⟩
    refine comp_invL (fun i H' => Same H H' ∧ ∃ ts, H' q = some (.lst (ts.map V.ref)) ∧ TupsAt H' ((es.take i).map (·.d)) ts) ⟨Same.new hq, [], upd_same, TupsAt.nil⟩ (fun i H' ⟨s, _⟩ => sql_of (s _ _ J.li)) ?_ ?_
    · rintro i x H' hx ⟨s1, ts, hts, T⟩
      rw [List.getElem?_map] at hx
      obtain ⟨e, he, rfl⟩ := Option.map_eq_some_iff.mp hx
      obtain ⟨hi, ei⟩ := List.getElem?_eq_some_iff.mp he
      have de := s1 _ _ (J.de e (List.mem_of_getElem? he)).1
      refine rd_noIf ?_
      refine iteT ?_
      refine rd_methD ?_
      repeat walk_at "rdk"
      first | refine sp_gen fun zQ zq => ⟨e.o, clsD cSave cMove cNote e.d, e.dx, fldD e.d, _, rfl, de, fld_told e.d, tto_of cSave cMove cNote e.d, zq _ _ ?_⟩ | refine ⟨e.o, clsD cSave cMove cNote e.d, e.dx, fldD e.d, _, rfl, de, fld_told e.d, tto_of cSave cMove cNote e.d, ?_⟩
      repeat walk_at "rdk"
      first | refine sp_gen fun zQ zq => ⟨e.o, e.dx, e.d, rfl, okOf_self e.d, de, fun t ht => zq _ _ ?_⟩ | refine ⟨e.o, e.dx, e.d, rfl, okOf_self e.d, de, fun t ht => ?_⟩
      have hl : ts.length ≤ 1000 := by
        rw [← T.1, List.length_map, List.length_take]
        omega
      have hq2 := (Same.new ht (o := .tup (tellV e.d))) _ _ hts
      refine ⟨_, hq2, by rw [List.length_map]; omega, ⟨(s1.newT ht).wr hq, ts ++ [t], by rw [upd_same, List.map_append]; rfl, ?_⟩, _, rfl⟩
      have im : ∀ b xs, H' b = some (.tup xs) → (upd (upd H' t (.tup (tellV e.d))) q (.lst (ts.map V.ref ++ [.ref t]))) b = some (.tup xs) := fun b xs h => by
        rw [upd_ne (ne_of h hts (by intro z; cases z))]
        exact (Same.new ht) _ _ h
      have ht2 : (upd (upd H' t (.tup (tellV e.d))) q (.lst (ts.map V.ref ++ [.ref t]))) t = some (.tup (tellV e.d)) := by
        rw [upd_ne (fun z => by rw [z] at ht; rw [ht] at hts; cases hts)]; exact upd_same
      rw [List.take_succ_eq_append_getElem hi, ei, List.map_append]
      exact (T.mono im).snoc ht2
    · rintro H' ⟨s1, ts, hts, T⟩
      rw [List.length_map, List.take_length] at T
      repeat walk_at "rdk"
      exact k q ts H' s1 hq hts T

end
end My

namespace My
open PySem L2

structure FrS where
  kind : Str
  who : Int
  whose : Int
  caller : Int
  coin : Int
  word : Int
  given : Int
  depth : Int
  looking : Bool
  used : Int
  stack : List Int
  row : Int
  fin : Option Str
  answer : Int
structure FrI where
  a : Addr
  dx : Addr
  ST : Addr
  SS : Addr
noncomputable def endV : Option Str → V
  | none => .non
  | some s => .str s
noncomputable def fldF (f : FrI) (x : FrS) : List (Str × V) := [("kind", .str x.kind), ("who", .int x.who), ("whose", .int x.whose), ("caller", .int x.caller), ("coin", .int x.coin), ("word", .int x.word), ("given", .int x.given), ("depth", .int x.depth), ("looking", .bl x.looking), ("used", .int x.used), ("stack", .ref f.ST), ("row", .int x.row), ("steps", .ref f.SS), ("end", endV x.fin), ("answer", .int x.answer)]
structure FrAt (cF : Addr) (H : Hp) (f : FrI) (x : FrS) (vs : List V) : Prop where
  ob : H f.a = some (.ins cF f.dx (fldF f x))
  st : H f.ST = some (.lst (x.stack.map V.int))
  ss : H f.SS = some (.lst vs)
  ne : f.ST ≠ f.SS
section
variable {cF : Addr} {H H' : Hp} {f : FrI} {x : FrS} {vs : List V}
theorem FrAt.aST (F : FrAt cF H f x vs) : f.a ≠ f.ST := ne_of F.ob F.st (by intro z; cases z)
theorem FrAt.aSS (F : FrAt cF H f x vs) : f.a ≠ f.SS := ne_of F.ob F.ss (by intro z; cases z)
theorem FrAt.setST (F : FrAt cF H f x vs) (s : List Int) : FrAt cF (upd H f.ST (.lst (s.map V.int))) f { x with stack := s } vs :=
  ⟨by rw [upd_ne F.aST]; exact F.ob, upd_same, by rw [upd_ne (Ne.symm F.ne)]; exact F.ss, F.ne⟩
theorem FrAt.setSS (F : FrAt cF H f x vs) (ws : List V) : FrAt cF (upd H f.SS (.lst ws)) f x ws :=
  ⟨by rw [upd_ne F.aSS]; exact F.ob, by rw [upd_ne F.ne]; exact F.st, upd_same, F.ne⟩
theorem FrAt.setF (F : FrAt cF H f x vs) (y : FrS) (e : y.stack = x.stack) : FrAt cF (upd H f.a (.ins cF f.dx (fldF f y))) f y vs :=
  ⟨upd_same, by rw [upd_ne (Ne.symm F.aST), e]; exact F.st, by rw [upd_ne (Ne.symm F.aSS)]; exact F.ss, F.ne⟩
theorem FrAt.kept {X : Addr → Prop} (F : FrAt cF H f x vs) (k : KeptX X H H') (h1 : ¬ X f.a) (h2 : ¬ X f.ST) (h3 : ¬ X f.SS) : FrAt cF H' f x vs :=
  ⟨k _ _ F.ob h1, k _ _ F.st h2, k _ _ F.ss h3, F.ne⟩
theorem FrAt.same (F : FrAt cF H f x vs) (s : Same H H') : FrAt cF H' f x vs := ⟨s _ _ F.ob, s _ _ F.st, s _ _ F.ss, F.ne⟩
theorem FrAt.put (F : FrAt cF H f x vs) {s : List Int} (k : KeptX (· = f.ST) H H') (e : H' f.ST = some (.lst (s.map V.int))) : FrAt cF H' f { x with stack := s } vs :=
  ⟨k _ _ F.ob F.aST, e, k _ _ F.ss (Ne.symm F.ne), F.ne⟩
end
noncomputable def frame0 (kind : Str) (who whose caller coin word given depth : Int) (looking : Bool) : FrS := ⟨kind, who, whose, caller, coin, word, given, depth, looking, 0, [], 0, none, 0⟩
noncomputable def spFInit (cF : Addr) : Sp := fun vs H Q _ => ∃ (a dx : Addr) (kind : Str) (who whose caller coin word given depth : Int) (looking : Bool), vs = [.ref a, .str kind, .int who, .int whose, .int caller, .int coin, .int word, .int given, .int depth, .bl looking] ∧ H a = some (.ins cF dx []) ∧
  ∀ ST SS H', H ST = none → H SS = none → FrAt cF H' ⟨a, dx, ST, SS⟩ (frame0 kind who whose caller coin word given depth looking) [] → KeptX (· = a) H H' → Q .non H'
noncomputable def spLeft (cF : Addr) : Sp := fun vs H Q _ => ∃ (f : FrI) (x : FrS) (ws : List V), vs = [.ref f.a] ∧ FrAt cF H f x ws ∧ Q (.int (x.given - x.used)) H
noncomputable def spShort (K : PySem.W.Frag) (cF : Addr) : Sp := fun vs H Q _ => ∃ (f : FrI) (x : FrS) (ws : List V) (p : Addr) (w : Str) (n : Option Int) (r t l pr d : Int), vs = [.ref f.a, .ref p] ∧ FrAt cF H f x ws ∧ IsRow K H p w n ∧ reachOf w n = some r ∧ RT.lookup w = some (t, l, pr, d) ∧ Q (.bl (decide ((x.stack.length : Int) < t + r))) H
noncomputable def spFull (K : PySem.W.Frag) (cF : Addr) : Sp := fun vs H Q _ => ∃ (f : FrI) (x : FrS) (ws : List V) (p : Addr) (w : Str) (n : Option Int) (r t l pr d : Int), vs = [.ref f.a, .ref p] ∧ FrAt cF H f x ws ∧ IsRow K H p w n ∧ reachOf w n = some r ∧ RT.lookup w = some (t, l, pr, d) ∧ Q (.bl (decide (24 < (x.stack.length : Int) - (t + r) + (l + r)))) H
noncomputable def spTaken (cF : Addr) : Sp := fun vs H Q _ => ∃ (f : FrI) (x : FrS) (ws : List V) (s t : List Int), vs = [.ref f.a, .int (t.length : Nat)] ∧ FrAt cF H f x ws ∧ x.stack = s ++ t ∧ t.length ≤ 1000 ∧
  ∀ p H', H p = none → KeptX (· = f.ST) H H' → FrAt cF H' f { x with stack := s } ws → H' p = some (.lst (t.map V.int)) → Q (.ref p) H'
noncomputable def spLay (cF : Addr) : Sp := fun vs H Q _ => ∃ (f : FrI) (x : FrS) (ws : List V) (k : Int), vs = [.ref f.a, .int k] ∧ FrAt cF H f x ws ∧ x.stack.length ≤ 1000 ∧ ∀ H', KeptX (· = f.ST) H H' → FrAt cF H' f { x with stack := x.stack ++ [k] } ws → Q .non H'
noncomputable def spFinish (cF : Addr) : Sp := fun vs H Q _ => ∃ (f : FrI) (x : FrS) (ws : List V) (e : Str) (k : Int), vs = [.ref f.a, .str e, .int k] ∧ FrAt cF H f x ws ∧ ∀ H', KeptX (· = f.a) H H' → FrAt cF H' f { x with fin := some e, answer := k } ws → Q .non H'
noncomputable def treeV (x : FrS) (L : Addr) : List V := [.str x.kind, .int x.who, .int x.whose, .int x.caller, .int x.coin, .int x.word, .int x.given, endV x.fin, .int x.answer, .int x.used, .ref L]
noncomputable def spTree (cF : Addr) : Sp := fun vs H Q _ => ∃ (f : FrI) (x : FrS) (ws : List V), vs = [.ref f.a] ∧ FrAt cF H f x ws ∧ ∀ p L H', Same H H' → H p = none → H L = none → H' L = some (.lst ws) → H' p = some (.tup (treeV x L)) → Q (.ref p) H'

section
variable {P : Program} {w : World} {K : PySem.W.Frag} {mg : Str → Option Value} {base : Heap}
theorem sc_Frame_left : FnScope ["self"] ["self"] (defScope s_Frame_left) := ⟨rfl, rfl, rfl, by decide +kernel, rfl, by decide +kernel, by decide +kernel⟩
theorem ok_Frame_left   {cFrame : Addr} (D : MethAt K cFrame "left" "Frame.left" s_Frame_left) (tFrame : T_Frame K mg cFrame) : MCal P w K mg base 1 cFrame "left" (spLeft cFrame) := by
  refine mcal_of (N := ["self"]) (ps := ["self"]) D tFrame.k.cl sc_Frame_left (fun vs H Q E h => ?_) (fun _ _ _ _ _ _ us hl => bd1 (R := fun us => bindArgs _ ⟨us, []⟩ = pure (List.zip _ us)) (fun _ => rfl) us hl) (fun f cdv A outer s H vs Q E hr h => ?_)
  · obtain ⟨f, x, ws, rfl, _⟩ := h; rfl
  · obtain ⟨fr, x, ws, rfl, F, k⟩ := h
    first | refine sp_gen fun zQ zq => ⟨_, (pss_one (ps_ret (pe_op op_sub (pe_fld (pv 0) rfl) (pe_fld (pv 0) rfl)))), zq _ _ ?_⟩ | refine ⟨_, (pss_one (ps_ret (pe_op op_sub (pe_fld (pv 0) rfl) (pe_fld (pv 0) rfl)))), ?_⟩
    try simp only [nox_K, nox_P, nox_w, nox_mg, nox_base, cxOf_K, cxOf_P, cxOf_w, cxOf_mg, cxOf_base]
    repeat walk_at "rdk"
    refine rd_fldA F.ob tFrame.k.cl tFrame.n_given rfl ?_
    repeat walk_at "rdk"
    refine rd_fldA F.ob tFrame.k.cl tFrame.n_used rfl ?_
    repeat walk_at "rdk"
    exact k
theorem sc_Frame_short_for : FnScope ["self", "row"] ["self", "row"] (defScope s_Frame_short_for) := ⟨rfl, rfl, rfl, by decide +kernel, rfl, by decide +kernel, by decide +kernel⟩
theorem ok_Frame_short_for   {cFrame : Addr} (D : MethAt K cFrame "short_for" "Frame.short_for" s_Frame_short_for) (tFrame : T_Frame K mg cFrame) (c_takes : Cal P w K mg base 2 "takes" (spTakes K)) (n_len : mg "len" = none) : MCal P w K mg base 3 cFrame "short_for" (spShort K cFrame) := by
  refine mcal_of (N := ["self", "row"]) (ps := ["self", "row"]) D tFrame.k.cl sc_Frame_short_for (fun vs H Q E h => ?_) (fun _ _ _ _ _ _ us hl => bd2 (R := fun us => bindArgs _ ⟨us, []⟩ = pure (List.zip _ us)) (fun _ _ => rfl) us hl) (fun f cdv A outer s H vs Q E hr h => ?_)
  · obtain ⟨f, x, ws, p, w, n, r, t, l, pr, d, rfl, _⟩ := h; rfl
  · obtain ⟨fr, x, ws, p, wd, n, r, t, l, pr, d, rfl, F, hp, e1, e2, k⟩ := h
    first | refine sp_gen fun zQ zq => ⟨_, (pss_one (ps_ret (pe_cmpR op_lt (pe_callB cn_len rfl n_len PySem.boot_len (pa_cons (pe_fld (pv 0) rfl) pa_nil)) (pe_cal c_takes (hr.mono (by decide)) rfl (pa_cons (pv 1) pa_nil)) (nomark _)))), zq _ _ ?_⟩ | refine ⟨_, (pss_one (ps_ret (pe_cmpR op_lt (pe_callB cn_len rfl n_len PySem.boot_len (pa_cons (pe_fld (pv 0) rfl) pa_nil)) (pe_cal c_takes (hr.mono (by decide)) rfl (pa_cons (pv 1) pa_nil)) (nomark _)))), ?_⟩
    try simp only [nox_K, nox_P, nox_w, nox_mg, nox_base, cxOf_K, cxOf_P, cxOf_w, cxOf_mg, cxOf_base]
    have hST := F.st
    repeat walk_at "rdk"
    refine rd_fldA F.ob tFrame.k.cl tFrame.n_stack rfl ?_
    repeat walk_at "rdk"
    first | refine sp_gen fun zQ zq => ⟨p, wd, n, r, t, l, pr, d, rfl, hp, e1, e2, zq _ _ ?_⟩ | refine ⟨p, wd, n, r, t, l, pr, d, rfl, hp, e1, e2, ?_⟩
    repeat walk_at "rdk"
    rw [List.length_map]
    exact k
theorem sc_Frame_full_behind : FnScope ["self", "row"] ["self", "row"] (defScope s_Frame_full_behind) := ⟨rfl, rfl, rfl, by decide +kernel, rfl, by decide +kernel, by decide +kernel⟩
theorem ok_Frame_full_behind   {cFrame : Addr} (D : MethAt K cFrame "full_behind" "Frame.full_behind" s_Frame_full_behind) (tFrame : T_Frame K mg cFrame) (c_leaves : Cal P w K mg base 2 "leaves" (spLeaves K)) (c_takes : Cal P w K mg base 2 "takes" (spTakes K)) (n_len : mg "len" = none) (g_MOST_ON_STACK : GlobAt mg "MOST_ON_STACK" (.int 24)) : MCal P w K mg base 3 cFrame "full_behind" (spFull K cFrame) := by
  refine mcal_of (N := ["self", "row"]) (ps := ["self", "row"]) D tFrame.k.cl sc_Frame_full_behind (fun vs H Q E h => ?_) (fun _ _ _ _ _ _ us hl => bd2 (R := fun us => bindArgs _ ⟨us, []⟩ = pure (List.zip _ us)) (fun _ _ => rfl) us hl) (fun f cdv A outer s H vs Q E hr h => ?_)
  · obtain ⟨f, x, ws, p, w, n, r, t, l, pr, d, rfl, _⟩ := h; rfl
  · obtain ⟨fr, x, ws, p, wd, n, r, t, l, pr, d, rfl, F, hp, e1, e2, k⟩ := h
    first | refine sp_gen fun zQ zq => ⟨_, (pss_one (ps_ret (pe_cmpR op_gt (pe_op op_add (pe_op op_sub (pe_callB cn_len rfl n_len PySem.boot_len (pa_cons (pe_fld (pv 0) rfl) pa_nil)) (pe_cal c_takes (hr.mono (by decide)) rfl (pa_cons (pv 1) pa_nil))) (pe_cal c_leaves (hr.mono (by decide)) rfl (pa_cons (pv 1) pa_nil))) (pe_glA rfl g_MOST_ON_STACK) (nomark _)))), zq _ _ ?_⟩ | refine ⟨_, (pss_one (ps_ret (pe_cmpR op_gt (pe_op op_add (pe_op op_sub (pe_callB cn_len rfl n_len PySem.boot_len (pa_cons (pe_fld (pv 0) rfl) pa_nil)) (pe_cal c_takes (hr.mono (by decide)) rfl (pa_cons (pv 1) pa_nil))) (pe_cal c_leaves (hr.mono (by decide)) rfl (pa_cons (pv 1) pa_nil))) (pe_glA rfl g_MOST_ON_STACK) (nomark _)))), ?_⟩
    try simp only [nox_K, nox_P, nox_w, nox_mg, nox_base, cxOf_K, cxOf_P, cxOf_w, cxOf_mg, cxOf_base]
    have hST := F.st
    repeat walk_at "rdk"
    refine rd_fldA F.ob tFrame.k.cl tFrame.n_stack rfl ?_
    repeat walk_at "rdk"
    first | refine sp_gen fun zQ zq => ⟨p, wd, n, r, t, l, pr, d, rfl, hp, e1, e2, zq _ _ ?_⟩ | refine ⟨p, wd, n, r, t, l, pr, d, rfl, hp, e1, e2, ?_⟩
    repeat walk_at "rdk"
    first | refine sp_gen fun zQ zq => ⟨p, wd, n, r, t, l, pr, d, rfl, hp, e1, e2, zq _ _ ?_⟩ | refine ⟨p, wd, n, r, t, l, pr, d, rfl, hp, e1, e2, ?_⟩
    repeat walk_at "rdk"
    rw [List.length_map]
    exact k
theorem sc_Frame_taken : FnScope ["self", "many", "numbers", "turn"] ["self", "many"] (defScope s_Frame_taken) := ⟨rfl, rfl, rfl, by decide +kernel, rfl, by decide +kernel, by decide +kernel⟩
theorem ok_Frame_taken   {cFrame : Addr} (D : MethAt K cFrame "taken" "Frame.taken" s_Frame_taken) (tFrame : T_Frame K mg cFrame) (n_range : mg "range" = none) (n_list : mg "list" = none) (n_reversed : mg "reversed" = none) : MCal P w K mg base 1 cFrame "taken" (spTaken cFrame) := by
  refine mcal_of (N := ["self", "many", "numbers", "turn"]) (ps := ["self", "many"]) D tFrame.k.cl sc_Frame_taken (fun vs H Q E h => ?_) (fun _ _ _ _ _ _ us hl => bd2 (R := fun us => bindArgs _ ⟨us, []⟩ = pure (List.zip _ us)) (fun _ _ => rfl) us hl) (fun f cdv A outer s H vs Q E hr h => ?_)
  · obtain ⟨f, x, ws, s, t, rfl, _⟩ := h; rfl
  · obtain ⟨fr, x, ws, s1, t, rfl, F, hx, ht, k⟩ := h
    refine ⟨_, (pss_cons (ps_set (i := 2) sc_Frame_taken.nd rfl (by first | exact Or.inl rfl | exact Or.inr rfl) (pe_lst pa_nil))
      (pss_cons (ps_for PassesOwn.never rfl (pi_range1 rfl n_range (pa_cons (pv 1) pa_nil)) (pg_name (i := 3) sc_Frame_taken.nd rfl (by first | exact Or.inl rfl | exact Or.inr rfl))
      (pss_one (ps_expr (pe_bm PySem.F.plainAttrs_list PySem.F.slot_list_append PySem.F.type_list_append mt_append (pv 2) (pa_cons (pe_bm0 PySem.F.plainAttrs_list PySem.F.slot_list_pop PySem.F.type_list_pop mt_pop (pe_fld (pv 0) rfl)) pa_nil)))))
      (pss_one (ps_ret (pe_listRev rfl rfl n_list rfl n_reversed (pa_cons (pv 2) pa_nil)))))), ?_⟩
    try simp only [nox_K, nox_P, nox_w, nox_mg, nox_base, cxOf_K, cxOf_P, cxOf_w, cxOf_mg, cxOf_base]
    repeat walk_at "rdk"
    refine ⟨by decide, fun nl hnl => ?_⟩
    repeat walk_at "rdk"
    refine rd_for (rd_iRng1 ?_)
    repeat walk_at "rdk"
    first | refine sp_gen fun zQ zq => ⟨_, rfl, by omega, by omega, zq _ _ ?_⟩ | refine ⟨_, rfl, by omega, by omega, ?_⟩
    rw [Int.toNat_natCast]
    refine for_range (fun i σ' H' => KeptX (· = fr.ST) H H' ∧ H' nl = some (.lst (((t.drop (t.length - i)).reverse).map V.int)) ∧ H' fr.ST = some (.lst ((s1 ++ t.take (t.length - i)).map V.int)) ∧ ∃ v, σ' = [some (.ref fr.a), some (.int (t.length : Nat)), some (.ref nl), v]) ⟨KeptX.new hnl, ?_, ?_, _, rfl⟩ ?_ ?_
    · rw [Nat.sub_zero, List.drop_length]; exact upd_same
    · rw [Nat.sub_zero, List.take_length, upd_ne (ne_of_none F.st hnl), ← hx]; exact F.st
    · rintro i σ' H' hi ⟨k1, h1, h2, v, rfl⟩
      obtain ⟨j, hj⟩ : ∃ j, t.length - i = j + 1 := ⟨t.length - i - 1, by omega⟩
      have hjl : j < t.length := by omega
      have e1 : t.take (t.length - i) = t.take j ++ [t[j]] := by rw [hj]; exact List.take_succ_eq_append_getElem hjl
      have e2 : t.drop j = t[j] :: t.drop (t.length - i) := by rw [hj]; exact List.drop_eq_getElem_cons hjl
      have e3 : t.length - (i + 1) = j := by omega
      rw [e3, e2]
      rw [e1, ← List.append_assoc, List.map_append] at h2
      have hob : H' fr.a = some (.ins cFrame fr.dx (fldF fr x)) := k1 _ _ F.ob F.aST
      generalize t[j] = z at *
      have nln : nl ≠ fr.ST := Ne.symm (ne_of_none F.st hnl)
      repeat walk_at "rdk"
      refine ⟨ty_list (sql_of h1), ?_⟩
      repeat walk_at "rdk"
      refine rd_fldA hob tFrame.k.cl tFrame.n_stack rfl ?_
      refine ⟨ty_list (sql_of h2), ?_⟩
      refine rd_pop h2 ?_
      repeat walk_at "rdk"
      refine rd_append (xs := ((t.drop (t.length - i)).reverse).map V.int) (by rw [upd_ne nln]; exact h1) (by rw [List.length_map, List.length_reverse, List.length_drop]; exact Nat.lt_of_le_of_lt (show _ ≤ 1000 by omega) (by decide)) ?_
      repeat walk_at "rdk"
      refine ⟨fun b o e n => by rw [upd_ne (ne_of_none e hnl), upd_ne n]; exact k1 b o e n, ?_, ?_, _, rfl⟩
      · rw [upd_same, List.reverse_cons, List.map_append]; rfl
      · rw [upd_ne (Ne.symm nln), upd_same]
    · rintro σ' H' ⟨k1, h1, h2, v, rfl⟩
      rw [Nat.sub_self, List.drop_zero] at h1
      rw [Nat.sub_self, List.take_zero, List.append_nil] at h2
      have F1 := F.put k1 h2
      repeat walk_at "rdk"
      refine rd_listRev ?_
      repeat walk_at "rdk"
      first | refine sp_gen fun zQ zq => ⟨nl, _, rfl, sql_of h1, fun l hl => zq _ _ ?_⟩ | refine ⟨nl, _, rfl, sql_of h1, fun l hl => ?_⟩
      rw [← List.map_reverse, List.reverse_reverse]
      have hlH : H l = none := by
        cases e : H l with
        | none => rfl
        | some o =>
          by_cases q : l = fr.ST
          · rw [q, h2] at hl; cases hl
          · rw [k1 l o e q] at hl; cases hl
      exact k l _ hlH (k1.trans (KeptX.new hl)) (F1.same (Same.new hl)) upd_same
theorem sc_Frame_lay : FnScope ["self", "number"] ["self", "number"] (defScope s_Frame_lay) := ⟨rfl, rfl, rfl, by decide +kernel, rfl, by decide +kernel, by decide +kernel⟩
theorem ok_Frame_lay   {cFrame : Addr} (D : MethAt K cFrame "lay" "Frame.lay" s_Frame_lay) (tFrame : T_Frame K mg cFrame) : MCal P w K mg base 1 cFrame "lay" (spLay cFrame) := by
  refine mcal_of (N := ["self", "number"]) (ps := ["self", "number"]) D tFrame.k.cl sc_Frame_lay (fun vs H Q E h => ?_) (fun _ _ _ _ _ _ us hl => bd2 (R := fun us => bindArgs _ ⟨us, []⟩ = pure (List.zip _ us)) (fun _ _ => rfl) us hl) (fun f cdv A outer s H vs Q E hr h => ?_)
  · obtain ⟨f, x, ws, k, rfl, _⟩ := h; rfl
  · obtain ⟨fr, x, ws, n, rfl, F, hl, k⟩ := h
    first | refine sp_gen fun zQ zq => ⟨_, (pss_one (ps_expr (pe_bm PySem.F.plainAttrs_list PySem.F.slot_list_append PySem.F.type_list_append mt_append (pe_fld (pv 0) rfl) (pa_cons (pv 1) pa_nil)))), zq _ _ ?_⟩ | refine ⟨_, (pss_one (ps_expr (pe_bm PySem.F.plainAttrs_list PySem.F.slot_list_append PySem.F.type_list_append mt_append (pe_fld (pv 0) rfl) (pa_cons (pv 1) pa_nil)))), ?_⟩
    try simp only [nox_K, nox_P, nox_w, nox_mg, nox_base, cxOf_K, cxOf_P, cxOf_w, cxOf_mg, cxOf_base]
    repeat walk_at "rdk"
    refine rd_fldA F.ob tFrame.k.cl tFrame.n_stack rfl ?_
    refine ⟨ty_list (sql_of F.st), ?_⟩
    repeat walk_at "rdk"
    refine rd_append F.st (by rw [List.length_map]; exact Nat.lt_of_le_of_lt hl (by decide)) ?_
    repeat walk_at "rdk"
    have := F.setST (x.stack ++ [n])
    rw [List.map_append] at this
    exact k _ (KeptX.upd rfl) this
theorem sc_Frame_finish : FnScope ["self", "end", "answer"] ["self", "end", "answer"] (defScope s_Frame_finish) := ⟨rfl, rfl, rfl, by decide +kernel, rfl, by decide +kernel, by decide +kernel⟩
theorem ok_Frame_finish   {cFrame : Addr} (D : MethAt K cFrame "finish" "Frame.finish" s_Frame_finish) (tFrame : T_Frame K mg cFrame) : MCal P w K mg base 1 cFrame "finish" (spFinish cFrame) := by
  refine mcal_of (N := ["self", "end", "answer"]) (ps := ["self", "end", "answer"]) D tFrame.k.cl sc_Frame_finish (fun vs H Q E h => ?_) (fun _ _ _ _ _ _ us hl => bd3 (R := fun us => bindArgs _ ⟨us, []⟩ = pure (List.zip _ us)) (fun _ _ _ => rfl) us hl) (fun f cdv A outer s H vs Q E hr h => ?_)
  · obtain ⟨f, x, ws, e, k, rfl, _⟩ := h; rfl
  · obtain ⟨fr, x, ws, e, n, rfl, F, k⟩ := h
    refine ⟨_, (pss_cons (ps_fld (pv 0) (pv 1) rfl)
      (pss_one (ps_fld (pv 0) (pv 2) rfl))), ?_⟩
    try simp only [nox_K, nox_P, nox_w, nox_mg, nox_base, cxOf_K, cxOf_P, cxOf_w, cxOf_mg, cxOf_base]
    repeat walk_at "rdk"
    refine rd_sfldA F.ob tFrame.k.cl tFrame.n_end (by show 15 < 1000; decide) ?_
    repeat walk_at "rdk"
    refine rd_sfldA upd_same tFrame.k.cl tFrame.n_answer (by show 15 < 1000; decide) ?_
    rw [upd_upd]
    exact k _ (KeptX.upd rfl) (F.setF { x with fin := some e, answer := n } rfl)
theorem sc_Frame_tree : FnScope ["self"] ["self"] (defScope s_Frame_tree) := ⟨rfl, rfl, rfl, by decide +kernel, rfl, by decide +kernel, by decide +kernel⟩
theorem ok_Frame_tree   {cFrame : Addr} (D : MethAt K cFrame "tree" "Frame.tree" s_Frame_tree) (tFrame : T_Frame K mg cFrame) (n_list : mg "list" = none) : MCal P w K mg base 1 cFrame "tree" (spTree cFrame) := by
  refine mcal_of (N := ["self"]) (ps := ["self"]) D tFrame.k.cl sc_Frame_tree (fun vs H Q E h => ?_) (fun _ _ _ _ _ _ us hl => bd1 (R := fun us => bindArgs _ ⟨us, []⟩ = pure (List.zip _ us)) (fun _ => rfl) us hl) (fun f cdv A outer s H vs Q E hr h => ?_)
  · obtain ⟨f, x, ws, rfl, _⟩ := h; rfl
  · obtain ⟨fr, x, ws, rfl, F, k⟩ := h
    first | refine sp_gen fun zQ zq => ⟨_, (pss_one (ps_ret (pe_tup (pa_cons (pe_fld (pv 0) rfl) (pa_cons (pe_fld (pv 0) rfl) (pa_cons (pe_fld (pv 0) rfl) (pa_cons (pe_fld (pv 0) rfl) (pa_cons (pe_fld (pv 0) rfl) (pa_cons (pe_fld (pv 0) rfl) (pa_cons (pe_fld (pv 0) rfl) (pa_cons (pe_fld (pv 0) rfl) (pa_cons (pe_fld (pv 0) rfl) (pa_cons (pe_fld (pv 0) rfl) (pa_cons (pe_callTy ct_list rfl n_list PyProof.Rows.boot_list (pa_cons (pe_fld (pv 0) rfl) pa_nil)) pa_nil)))))))))))))), zq _ _ ?_⟩ | refine ⟨_, (pss_one (ps_ret (pe_tup (pa_cons (pe_fld (pv 0) rfl) (pa_cons (pe_fld (pv 0) rfl) (pa_cons (pe_fld (pv 0) rfl) (pa_cons (pe_fld (pv 0) rfl) (pa_cons (pe_fld (pv 0) rfl) (pa_cons (pe_fld (pv 0) rfl) (pa_cons (pe_fld (pv 0) rfl) (pa_cons (pe_fld (pv 0) rfl) (pa_cons (pe_fld (pv 0) rfl) (pa_cons (pe_fld (pv 0) rfl) (pa_cons (pe_callTy ct_list rfl n_list PyProof.Rows.boot_list (pa_cons (pe_fld (pv 0) rfl) pa_nil)) pa_nil)))))))))))))), ?_⟩
    try simp only [nox_K, nox_P, nox_w, nox_mg, nox_base, cxOf_K, cxOf_P, cxOf_w, cxOf_mg, cxOf_base]
    repeat walk_at "rdk"
    refine rd_fldA F.ob tFrame.k.cl tFrame.n_kind rfl ?_
    repeat walk_at "rdk"
    refine rd_fldA F.ob tFrame.k.cl tFrame.n_who rfl ?_
    repeat walk_at "rdk"
    refine rd_fldA F.ob tFrame.k.cl tFrame.n_whose rfl ?_
    repeat walk_at "rdk"
    refine rd_fldA F.ob tFrame.k.cl tFrame.n_caller rfl ?_
    repeat walk_at "rdk"
    refine rd_fldA F.ob tFrame.k.cl tFrame.n_coin rfl ?_
    repeat walk_at "rdk"
    refine rd_fldA F.ob tFrame.k.cl tFrame.n_word rfl ?_
    repeat walk_at "rdk"
    refine rd_fldA F.ob tFrame.k.cl tFrame.n_given rfl ?_
    repeat walk_at "rdk"
    refine rd_fldA F.ob tFrame.k.cl tFrame.n_end rfl ?_
    repeat walk_at "rdk"
    refine rd_fldA F.ob tFrame.k.cl tFrame.n_answer rfl ?_
    repeat walk_at "rdk"
    refine rd_fldA F.ob tFrame.k.cl tFrame.n_used rfl ?_
    repeat walk_at "rdk"
    refine rd_fldA F.ob tFrame.k.cl tFrame.n_steps rfl ?_
    repeat walk_at "rd"
    refine rd_listL (sql_of F.ss) fun L hL => ?_
    repeat walk_at "rdk"
    refine ⟨by show 11 ≤ sizeLine; decide, fun p hp => ?_⟩
    have s1 : Same H (upd H L (.lst ws)) := Same.new hL
    exact k p L _ (s1.newT hp) (s1.fresh hp) hL (by rw [upd_ne (ne_of_none upd_same hp), upd_same]) upd_same

end
end My

namespace My
open PySem L2
local macro_rules | `(tactic| walk_at "rw") => `(tactic| first
  | walk_at "rdk"
  | ((with_reducible refine' L2.rd_ixT ?h ?e ?_); (case h => assumption); (case e => exact My.row_at0))
  | fail)
local macro_rules | `(tactic| walk_at "rz") => `(tactic| first
  | ((with_reducible refine L2.rd_iteD (fun _ => ?_) (fun _ => ?_)) <;> (try (exfalso; omega)))
  | ((with_reducible refine L2.rd_iteND (fun _ => ?_) (fun _ => ?_)) <;> (try (exfalso; omega)))
  | ((with_reducible refine L2.rd_iteNND (fun _ => ?_) (fun _ => ?_)) <;> (try (exfalso; omega)))
  | walk_at "rw"
  | fail)

noncomputable abbrev RD := FrS → Str → Option Int → FrS → Prop
noncomputable def rPush : RD := fun x _ n x' => ∃ k, n = some k ∧ x' = { x with stack := x.stack ++ [k] }
noncomputable def rDrop : RD := fun x _ _ x' => ∃ s k, x.stack = s ++ [k] ∧ x' = { x with stack := s }
noncomputable def rCopy : RD := fun x _ n x' => ∃ (k : Nat) (v : Int), n = some (k : Int) ∧ k < x.stack.length ∧ x.stack[x.stack.length - 1 - k]? = some v ∧ x' = { x with stack := x.stack ++ [v] }
noncomputable def rSwap : RD := fun x _ n x' => ∃ (s m : List Int) (a b : Int), n = some ((m.length + 1 : Nat) : Int) ∧ x.stack = s ++ a :: (m ++ [b]) ∧ x' = { x with stack := s ++ b :: (m ++ [a]) }
noncomputable def rReck : RD := fun x w _ x' => ∃ (f : Int → Int → Int) (s : List Int) (a b : Int), RK.lookup w = some f ∧ x.stack = s ++ [a, b] ∧ InBoth a b ∧ x' = { x with stack := s ++ [f a b] }
noncomputable def rMe : RD := fun x _ _ x' => x' = { x with stack := x.stack ++ [x.who] }
noncomputable def rFrom : RD := fun x _ _ x' => x' = { x with stack := x.stack ++ [x.caller] }
noncomputable def rSent : RD := fun x _ _ x' => x' = { x with stack := x.stack ++ [x.coin] }
noncomputable def rWord : RD := fun x _ _ x' => x' = { x with stack := x.stack ++ [x.word] }
noncomputable def rJump : RD := fun x _ n x' => ∃ k, n = some k ∧ x' = { x with row := k }
noncomputable def rJumpif : RD := fun x _ n x' => ∃ (k : Int) (s : List Int) (t : Int), n = some k ∧ x.stack = s ++ [t] ∧ x' = { x with stack := s, row := if t = 0 then x.row else k }
noncomputable def rGive : RD := fun x _ _ x' => ∃ (s : List Int) (t : Int), x.stack = s ++ [t] ∧ x' = { x with stack := s, fin := some ("well" : Str), answer := t }
noncomputable def rFail : RD := fun x _ _ x' => ∃ (s : List Int) (t : Int), x.stack = s ++ [t] ∧ x' = { x with stack := s, fin := some ("fail" : Str), answer := t }
noncomputable def inF (f : FrI) (b : Addr) : Prop := b = f.a ∨ b = f.ST
noncomputable def spD (K : PySem.W.Frag) (cF : Addr) (R : RD) : Sp := fun vs H Q _ => ∃ (vR vJ : V) (f : FrI) (x x' : FrS) (ws : List V) (p : Addr) (w : Str) (n : Option Int), vs = [vR, vJ, .ref f.a, .ref p] ∧ FrAt cF H f x ws ∧ IsRow K H p w n ∧ R x w n x' ∧ x.stack.length ≤ 900 ∧
  ∀ H', KeptX (inF f) H H' → FrAt cF H' f x' ws → Q .non H'
theorem k_st {f : FrI} {H H' : Hp} (k : KeptX (· = f.ST) H H') : KeptX (inF f) H H' := k.mono fun _ h => .inr h
theorem k_a {f : FrI} {H H' : Hp} (k : KeptX (· = f.a) H H') : KeptX (inF f) H H' := k.mono fun _ h => .inl h
theorem row_kept {K : PySem.W.Frag} {f : FrI} {cF : Addr} {H H' : Hp} {x : FrS} {ws : List V} {p : Addr} {w : Str} {n : Option Int} (h : IsRow K H p w n) (F : FrAt cF H f x ws) (k : KeptX (inF f) H H') : IsRow K H' p w n := by
  unfold IsRow at h ⊢
  refine SameI.tup (k.imm fun b o z e i => ?_) h
  rcases z with rfl | rfl
  · rw [F.ob] at e; cases e; exact notImm_ins i
  · rw [F.st] at e; cases e; exact notImm_lst i
theorem sw1 (s m : List Int) (a b c : Int) : (List.map V.int (s ++ a :: (m ++ [b]))).set s.length (.int c) = List.map V.int (s ++ c :: (m ++ [b])) := by
  rw [List.map_append, List.set_append_right _ _ (by rw [List.length_map]; exact Nat.le_refl _), List.length_map, Nat.sub_self, List.map_append]; rfl
theorem sw2 (s m : List Int) (a b c : Int) : (List.map V.int (s ++ a :: (m ++ [b]))).set (s.length + 1 + m.length) (.int c) = List.map V.int (s ++ a :: (m ++ [c])) := by
  rw [List.map_append, List.set_append_right _ _ (by rw [List.length_map]; omega), List.length_map, List.map_append, List.map_cons, List.map_cons]
  rw [show s.length + 1 + m.length - s.length = m.length + 1 by omega, List.set_cons_succ, List.map_append, List.set_append_right _ _ (by rw [List.length_map]; omega), List.length_map, Nat.sub_self, List.map_append]; rfl
theorem atI_neg {xs : List Int} {k : Nat} {v : Int} (hk : k < xs.length) (e : xs[xs.length - 1 - k]? = some v) : atI (xs.map V.int) (-1 - (k : Int)) = some (.int v) := by
  unfold atI
  rw [List.length_map, ixN_neg (j := xs.length - 1 - k) (by omega) (by omega)]
  show (xs.map V.int)[xs.length - 1 - k]? = _
  rw [List.getElem?_map, e]; rfl

section
variable {P : Program} {w : World} {K : PySem.W.Frag} {mg : Str → Option Value} {base : Heap}
theorem sc_push_row : FnScope ["rooms", "journal", "frame", "row"] ["rooms", "journal", "frame", "row"] (defScope s_push_row) := ⟨rfl, rfl, rfl, by decide +kernel, rfl, by decide +kernel, by decide +kernel⟩
theorem ok_push_row   {cFrame : Addr} (D : DefAt K mg "push_row" s_push_row) (tFrame : T_Frame K mg cFrame) (m_Frame_lay : MCal P w K mg base 1 cFrame "lay" (spLay cFrame)) : Cal P w K mg base 2 "push_row" (spD K cFrame rPush) := by
  refine cal_of (N := ["rooms", "journal", "frame", "row"]) (ps := ["rooms", "journal", "frame", "row"]) D sc_push_row (fun vs H Q E h => ?_) (fun _ _ _ _ _ _ us hl => bd4 (R := fun us => bindArgs _ ⟨us, []⟩ = pure (List.zip _ us)) (fun _ _ _ _ => rfl) us hl) (fun f cdv A outer s H vs Q E hr h => ?_)
  · obtain ⟨vR, vJ, f, x, x', ws, p, w, n, rfl, _⟩ := h; rfl
  · obtain ⟨vR, vJ, fr, x, x', ws, p, wd, n, rfl, F, hp, hR, hl, k⟩ := h
    obtain ⟨n0, rfl, rfl⟩ := hR
    first | refine sp_gen fun zQ zq => ⟨_, (pss_one (ps_expr (pe_mcal m_Frame_lay (hr.mono (by decide)) (pv 2) (pa_cons (pe_ix ix_tup (pv 3) pe_int (fun _ _ => rfl)) pa_nil)))), zq _ _ ?_⟩ | refine ⟨_, (pss_one (ps_expr (pe_mcal m_Frame_lay (hr.mono (by decide)) (pv 2) (pa_cons (pe_ix ix_tup (pv 3) pe_int (fun _ _ => rfl)) pa_nil)))), ?_⟩
    try simp only [nox_K, nox_P, nox_w, nox_mg, nox_base, cxOf_K, cxOf_P, cxOf_w, cxOf_mg, cxOf_base]
    have hp' : SqT K H p [.str wd, .int n0] := hp
    repeat walk_at "rdk"
    refine rd_methA F.ob rfl ?_
    repeat walk_at "rdk"
    first | refine sp_gen fun zQ zq => ⟨fr, _, ws, _, rfl, F, by show _ ≤ 1000; omega, fun H1 k1 F1 => zq _ _ ?_⟩ | refine ⟨fr, _, ws, _, rfl, F, by show _ ≤ 1000; omega, fun H1 k1 F1 => ?_⟩
    repeat walk_at "rdk"
    exact k _ (k_st k1) F1
theorem sc_drop_row : FnScope ["rooms", "journal", "frame", "row"] ["rooms", "journal", "frame", "row"] (defScope s_drop_row) := ⟨rfl, rfl, rfl, by decide +kernel, rfl, by decide +kernel, by decide +kernel⟩
theorem ok_drop_row   {cFrame : Addr} (D : DefAt K mg "drop_row" s_drop_row) (tFrame : T_Frame K mg cFrame) (m_Frame_taken : MCal P w K mg base 1 cFrame "taken" (spTaken cFrame)) : Cal P w K mg base 2 "drop_row" (spD K cFrame rDrop) := by
  refine cal_of (N := ["rooms", "journal", "frame", "row"]) (ps := ["rooms", "journal", "frame", "row"]) D sc_drop_row (fun vs H Q E h => ?_) (fun _ _ _ _ _ _ us hl => bd4 (R := fun us => bindArgs _ ⟨us, []⟩ = pure (List.zip _ us)) (fun _ _ _ _ => rfl) us hl) (fun f cdv A outer s H vs Q E hr h => ?_)
  · obtain ⟨vR, vJ, f, x, x', ws, p, w, n, rfl, _⟩ := h; rfl
  · obtain ⟨vR, vJ, fr, x, x', ws, p, wd, n, rfl, F, hp, hR, hl, k⟩ := h
    obtain ⟨s0, n0, e0, rfl⟩ := hR
    refine ⟨_, (pss_one (ps_expr (pe_mcal m_Frame_taken (hr.mono (by decide)) (pv 2) (pa_cons pe_int pa_nil)))), ?_⟩
    try simp only [nox_K, nox_P, nox_w, nox_mg, nox_base, cxOf_K, cxOf_P, cxOf_w, cxOf_mg, cxOf_base]
    repeat walk_at "rdk"
    refine rd_methA F.ob rfl ?_
    repeat walk_at "rdk"
    first | refine sp_gen fun zQ zq => ⟨fr, x, ws, s0, [n0], rfl, F, e0, by show 1 ≤ 1000; decide, fun q H1 _ k1 F1 _ => zq _ _ ?_⟩ | refine ⟨fr, x, ws, s0, [n0], rfl, F, e0, by show 1 ≤ 1000; decide, fun q H1 _ k1 F1 _ => ?_⟩
    repeat walk_at "rdk"
    exact k _ (k_st k1) F1
theorem sc_copy_row : FnScope ["rooms", "journal", "frame", "row"] ["rooms", "journal", "frame", "row"] (defScope s_copy_row) := ⟨rfl, rfl, rfl, by decide +kernel, rfl, by decide +kernel, by decide +kernel⟩
theorem ok_copy_row   {cFrame : Addr} (D : DefAt K mg "copy_row" s_copy_row) (tFrame : T_Frame K mg cFrame) (m_Frame_lay : MCal P w K mg base 1 cFrame "lay" (spLay cFrame)) : Cal P w K mg base 2 "copy_row" (spD K cFrame rCopy) := by
  refine cal_of (N := ["rooms", "journal", "frame", "row"]) (ps := ["rooms", "journal", "frame", "row"]) D sc_copy_row (fun vs H Q E h => ?_) (fun _ _ _ _ _ _ us hl => bd4 (R := fun us => bindArgs _ ⟨us, []⟩ = pure (List.zip _ us)) (fun _ _ _ _ => rfl) us hl) (fun f cdv A outer s H vs Q E hr h => ?_)
  · obtain ⟨vR, vJ, f, x, x', ws, p, w, n, rfl, _⟩ := h; rfl
  · obtain ⟨vR, vJ, fr, x, x', ws, p, wd, n, rfl, F, hp, hR, hl, k⟩ := h
    obtain ⟨n0, v0, rfl, hk, e0, rfl⟩ := hR
    first | refine sp_gen fun zQ zq => ⟨_, (pss_one (ps_expr (pe_mcal m_Frame_lay (hr.mono (by decide)) (pv 2) (pa_cons (pe_ix ix_list (pe_fld (pv 2) rfl) (pe_op op_sub (pe_un un_neg pe_int) (pe_ix ix_tup (pv 3) pe_int (fun _ _ => rfl))) (fun _ _ => rfl)) pa_nil)))), zq _ _ ?_⟩ | refine ⟨_, (pss_one (ps_expr (pe_mcal m_Frame_lay (hr.mono (by decide)) (pv 2) (pa_cons (pe_ix ix_list (pe_fld (pv 2) rfl) (pe_op op_sub (pe_un un_neg pe_int) (pe_ix ix_tup (pv 3) pe_int (fun _ _ => rfl))) (fun _ _ => rfl)) pa_nil)))), ?_⟩
    try simp only [nox_K, nox_P, nox_w, nox_mg, nox_base, cxOf_K, cxOf_P, cxOf_w, cxOf_mg, cxOf_base]
    have hp' : SqT K H p [.str wd, .int n0] := hp
    repeat walk_at "rdk"
    refine rd_methA F.ob rfl ?_
    repeat walk_at "rdk"
    refine rd_fldA F.ob tFrame.k.cl tFrame.n_stack rfl ?_
    repeat walk_at "rdk"
    refine rd_ixL (sql_of F.st) (atI_neg hk e0) ?_
    repeat walk_at "rdk"
    first | refine sp_gen fun zQ zq => ⟨fr, _, ws, _, rfl, F, by show _ ≤ 1000; omega, fun H1 k1 F1 => zq _ _ ?_⟩ | refine ⟨fr, _, ws, _, rfl, F, by show _ ≤ 1000; omega, fun H1 k1 F1 => ?_⟩
    repeat walk_at "rdk"
    exact k _ (k_st k1) F1
theorem sc_swap_row : FnScope ["rooms", "journal", "frame", "row", "stack", "under", "deeper"] ["rooms", "journal", "frame", "row"] (defScope s_swap_row) := ⟨rfl, rfl, rfl, by decide +kernel, rfl, by decide +kernel, by decide +kernel⟩
theorem ok_swap_row   {cFrame : Addr} (D : DefAt K mg "swap_row" s_swap_row) (tFrame : T_Frame K mg cFrame) (n_len : mg "len" = none) : Cal P w K mg base 1 "swap_row" (spD K cFrame rSwap) := by
  refine cal_of (N := ["rooms", "journal", "frame", "row", "stack", "under", "deeper"]) (ps := ["rooms", "journal", "frame", "row"]) D sc_swap_row (fun vs H Q E h => ?_) (fun _ _ _ _ _ _ us hl => bd4 (R := fun us => bindArgs _ ⟨us, []⟩ = pure (List.zip _ us)) (fun _ _ _ _ => rfl) us hl) (fun f cdv A outer s H vs Q E hr h => ?_)
  · obtain ⟨vR, vJ, f, x, x', ws, p, w, n, rfl, _⟩ := h; rfl
  · obtain ⟨vR, vJ, fr, x, x', ws, p, wd, n, rfl, F, hp, hR, hl, k⟩ := h
    obtain ⟨s0, m0, a0, b0, rfl, e0, rfl⟩ := hR
    refine ⟨_, (pss_cons (ps_set (i := 4) sc_swap_row.nd rfl (by first | exact Or.inl rfl | exact Or.inr rfl) (pe_fld (pv 2) rfl))
      (pss_cons (ps_set (i := 5) sc_swap_row.nd rfl (by first | exact Or.inl rfl | exact Or.inr rfl) (pe_op op_sub (pe_op op_sub (pe_callB cn_len rfl n_len PySem.boot_len (pa_cons (pv 4) pa_nil)) pe_int) (pe_ix ix_tup (pv 3) pe_int (fun _ _ => rfl))))
      (pss_cons (ps_set (i := 6) sc_swap_row.nd rfl (by first | exact Or.inl rfl | exact Or.inr rfl) (pe_ix ix_list (pv 4) (pv 5) (fun _ _ => rfl)))
      (pss_cons (ps_asg (pe_ix ix_list (pv 4) (pe_un un_neg pe_int) (fun _ _ => rfl)) (pg_sub (pv 4) (pv 5) set_list))
      (pss_one (ps_asg (pv 6) (pg_sub (pv 4) (pe_un un_neg pe_int) set_list))))))), ?_⟩
    try simp only [nox_K, nox_P, nox_w, nox_mg, nox_base, cxOf_K, cxOf_P, cxOf_w, cxOf_mg, cxOf_base]
    have hp' : SqT K H p [.str wd, .int ((m0.length + 1 : Nat) : Int)] := hp
    have hST := F.st
    rw [e0] at hST
    repeat walk_at "rdk"
    refine rd_fldA F.ob tFrame.k.cl tFrame.n_stack rfl ?_
    repeat walk_at "rdk"
    have eu : ((List.map V.int (s0 ++ a0 :: (m0 ++ [b0]))).length : Int) - 1 - ((m0.length + 1 : Nat) : Int) = (s0.length : Int) := by
      simp only [List.length_map, List.length_append, List.length_cons, List.length_nil]; omega
    have em : List.map V.int (s0 ++ a0 :: (m0 ++ [b0])) = List.map V.int (s0 ++ a0 :: m0) ++ [V.int b0] := by simp
    rw [eu]
    refine rd_ixL (v := .int a0) (sql_of hST) (atI_nat (j := s0.length) (by rw [List.getElem?_map, List.getElem?_append_right (Nat.le_refl _), Nat.sub_self]; rfl)) ?_
    repeat walk_at "rdk"
    refine rd_ixL (v := .int b0) (sql_of hST) (by rw [em]; exact atI_last _ _) ?_
    repeat walk_at "rdk"
    refine rd_setL hST (ixN_nat rfl (by simp only [List.length_map, List.length_append, List.length_cons, List.length_nil]; omega)) ?_
    rw [sw1]
    repeat walk_at "rdk"
    refine rd_setL upd_same (ixN_neg (j := s0.length + 1 + m0.length) (by decide) (by simp only [List.length_map, List.length_append, List.length_cons, List.length_nil]; omega)) ?_
    rw [sw2, upd_upd]
    exact k _ (k_st (KeptX.upd rfl)) (F.setST _)
theorem sc_reckon_row : FnScope ["rooms", "journal", "frame", "row", "taken"] ["rooms", "journal", "frame", "row"] (defScope s_reckon_row) := ⟨rfl, rfl, rfl, by decide +kernel, rfl, by decide +kernel, by decide +kernel⟩
theorem ok_reckon_row   {cFrame : Addr} (D : DefAt K mg "reckon_row" s_reckon_row) (tFrame : T_Frame K mg cFrame) (m_Frame_taken : MCal P w K mg base 1 cFrame "taken" (spTaken cFrame)) (m_Frame_lay : MCal P w K mg base 1 cFrame "lay" (spLay cFrame)) (c_reckon : Cal P w K mg base 2 "reckon" spReckon) : Cal P w K mg base 3 "reckon_row" (spD K cFrame rReck) := by
  refine cal_of (N := ["rooms", "journal", "frame", "row", "taken"]) (ps := ["rooms", "journal", "frame", "row"]) D sc_reckon_row (fun vs H Q E h => ?_) (fun _ _ _ _ _ _ us hl => bd4 (R := fun us => bindArgs _ ⟨us, []⟩ = pure (List.zip _ us)) (fun _ _ _ _ => rfl) us hl) (fun f cdv A outer s H vs Q E hr h => ?_)
  · obtain ⟨vR, vJ, f, x, x', ws, p, w, n, rfl, _⟩ := h; rfl
  · obtain ⟨vR, vJ, fr, x, x', ws, p, wd, n, rfl, F, hp, hR, hl, k⟩ := h
    obtain ⟨f0, s0, a0, b0, hf, e0, hi, rfl⟩ := hR
    refine ⟨_, (pss_cons (ps_set (i := 4) sc_reckon_row.nd rfl (by first | exact Or.inl rfl | exact Or.inr rfl) (pe_mcal m_Frame_taken (hr.mono (by decide)) (pv 2) (pa_cons pe_int pa_nil)))
      (pss_one (ps_expr (pe_mcal m_Frame_lay (hr.mono (by decide)) (pv 2) (pa_cons (pe_cal c_reckon (hr.mono (by decide)) rfl (pa_cons (pe_ix ix_tup (pv 3) pe_int (fun _ _ => rfl)) (pa_cons (pe_ix ix_list (pv 4) pe_int (fun _ _ => rfl)) (pa_cons (pe_ix ix_list (pv 4) pe_int (fun _ _ => rfl)) pa_nil)))) pa_nil))))), ?_⟩
    try simp only [nox_K, nox_P, nox_w, nox_mg, nox_base, cxOf_K, cxOf_P, cxOf_w, cxOf_mg, cxOf_base]
    repeat walk_at "rdk"
    refine rd_methA F.ob rfl ?_
    repeat walk_at "rdk"
    first | refine sp_gen fun zQ zq => ⟨fr, x, ws, s0, [a0, b0], rfl, F, e0, by show 2 ≤ 1000; decide, fun q H1 _ k1 F1 e1 => zq _ _ ?_⟩ | refine ⟨fr, x, ws, s0, [a0, b0], rfl, F, e0, by show 2 ≤ 1000; decide, fun q H1 _ k1 F1 e1 => ?_⟩
    have hp1 := row_kept hp F (k_st k1)
    have e1' : H1 q = some (.lst [.int a0, .int b0]) := e1
    repeat walk_at "rdk"
    refine rd_methA F1.ob rfl ?_
    repeat walk_at "rw"
    first | refine sp_gen fun zQ zq => ⟨wd, a0, b0, f0, rfl, hf, hi, zq _ _ ?_⟩ | refine ⟨wd, a0, b0, f0, rfl, hf, hi, ?_⟩
    repeat walk_at "rdk"
    have hl1 : s0.length ≤ 900 := by rw [e0, List.length_append] at hl; omega
    first | refine sp_gen fun zQ zq => ⟨fr, _, ws, _, rfl, F1, Nat.le_trans hl1 (by decide), fun H2 k2 F2 => zq _ _ ?_⟩ | refine ⟨fr, _, ws, _, rfl, F1, Nat.le_trans hl1 (by decide), fun H2 k2 F2 => ?_⟩
    repeat walk_at "rdk"
    exact k _ (k_st (k1.trans k2)) F2
theorem sc_jump_row : FnScope ["rooms", "journal", "frame", "row"] ["rooms", "journal", "frame", "row"] (defScope s_jump_row) := ⟨rfl, rfl, rfl, by decide +kernel, rfl, by decide +kernel, by decide +kernel⟩
theorem ok_jump_row   {cFrame : Addr} (D : DefAt K mg "jump_row" s_jump_row) (tFrame : T_Frame K mg cFrame) : Cal P w K mg base 1 "jump_row" (spD K cFrame rJump) := by
  refine cal_of (N := ["rooms", "journal", "frame", "row"]) (ps := ["rooms", "journal", "frame", "row"]) D sc_jump_row (fun vs H Q E h => ?_) (fun _ _ _ _ _ _ us hl => bd4 (R := fun us => bindArgs _ ⟨us, []⟩ = pure (List.zip _ us)) (fun _ _ _ _ => rfl) us hl) (fun f cdv A outer s H vs Q E hr h => ?_)
  · obtain ⟨vR, vJ, f, x, x', ws, p, w, n, rfl, _⟩ := h; rfl
  · obtain ⟨vR, vJ, fr, x, x', ws, p, wd, n, rfl, F, hp, hR, hl, k⟩ := h
    obtain ⟨n0, rfl, rfl⟩ := hR
    first | refine sp_gen fun zQ zq => ⟨_, (pss_one (ps_fld (pv 2) (pe_ix ix_tup (pv 3) pe_int (fun _ _ => rfl)) rfl)), zq _ _ ?_⟩ | refine ⟨_, (pss_one (ps_fld (pv 2) (pe_ix ix_tup (pv 3) pe_int (fun _ _ => rfl)) rfl)), ?_⟩
    try simp only [nox_K, nox_P, nox_w, nox_mg, nox_base, cxOf_K, cxOf_P, cxOf_w, cxOf_mg, cxOf_base]
    have hp' : SqT K H p [.str wd, .int n0] := hp
    repeat walk_at "rdk"
    refine rd_sfldA F.ob tFrame.k.cl tFrame.n_row (by show 15 < 1000; decide) ?_
    exact k _ (k_a (KeptX.upd rfl)) (F.setF { x with row := n0 } rfl)
theorem sc_jumpif_row : FnScope ["rooms", "journal", "frame", "row", "taken"] ["rooms", "journal", "frame", "row"] (defScope s_jumpif_row) := ⟨rfl, rfl, rfl, by decide +kernel, rfl, by decide +kernel, by decide +kernel⟩
theorem ok_jumpif_row   {cFrame : Addr} (D : DefAt K mg "jumpif_row" s_jumpif_row) (tFrame : T_Frame K mg cFrame) (m_Frame_taken : MCal P w K mg base 1 cFrame "taken" (spTaken cFrame)) : Cal P w K mg base 2 "jumpif_row" (spD K cFrame rJumpif) := by
  refine cal_of (N := ["rooms", "journal", "frame", "row", "taken"]) (ps := ["rooms", "journal", "frame", "row"]) D sc_jumpif_row (fun vs H Q E h => ?_) (fun _ _ _ _ _ _ us hl => bd4 (R := fun us => bindArgs _ ⟨us, []⟩ = pure (List.zip _ us)) (fun _ _ _ _ => rfl) us hl) (fun f cdv A outer s H vs Q E hr h => ?_)
  · obtain ⟨vR, vJ, f, x, x', ws, p, w, n, rfl, _⟩ := h; rfl
  · obtain ⟨vR, vJ, fr, x, x', ws, p, wd, n, rfl, F, hp, hR, hl, k⟩ := h
    obtain ⟨n0, s0, t0, rfl, e0, rfl⟩ := hR
    refine ⟨_, (pss_cons (ps_set (i := 4) sc_jumpif_row.nd rfl (by first | exact Or.inl rfl | exact Or.inr rfl) (pe_mcal m_Frame_taken (hr.mono (by decide)) (pv 2) (pa_cons pe_int pa_nil)))
      (pss_one (ps_if (pt_cmpR op_ne (pe_ix ix_list (pv 4) pe_int (fun _ _ => rfl)) pe_int (nomark _)) (pss_one (ps_fld (pv 2) (pe_ix ix_tup (pv 3) pe_int (fun _ _ => rfl)) rfl)) pss_nil))), ?_⟩
    try simp only [nox_K, nox_P, nox_w, nox_mg, nox_base, cxOf_K, cxOf_P, cxOf_w, cxOf_mg, cxOf_base]
    repeat walk_at "rdk"
    refine rd_methA F.ob rfl ?_
    repeat walk_at "rdk"
    first | refine sp_gen fun zQ zq => ⟨fr, x, ws, s0, [t0], rfl, F, e0, by show 1 ≤ 1000; decide, fun q H1 _ k1 F1 e1 => zq _ _ ?_⟩ | refine ⟨fr, x, ws, s0, [t0], rfl, F, e0, by show 1 ≤ 1000; decide, fun q H1 _ k1 F1 e1 => ?_⟩
    have hp1 : SqT K H1 p [.str wd, .int n0] := row_kept hp F (k_st k1)
    have e1' : H1 q = some (.lst [.int t0]) := e1
    repeat walk_at "rdk"
    · rename_i ht
      refine rd_sfldA F1.ob tFrame.k.cl tFrame.n_row (by show 15 < 1000; decide) ?_
      have := F1.setF { x with stack := s0, row := n0 } rfl
      rw [if_neg ht] at k
      exact k _ ((k_st k1).trans (k_a (KeptX.upd rfl))) this
    · rename_i ht
      rw [if_pos ht] at k
      exact k _ (k_st k1) F1
theorem sc_me_row : FnScope ["rooms", "journal", "frame", "row"] ["rooms", "journal", "frame", "row"] (defScope s_me_row) := ⟨rfl, rfl, rfl, by decide +kernel, rfl, by decide +kernel, by decide +kernel⟩
theorem ok_me_row   {cFrame : Addr} (D : DefAt K mg "me_row" s_me_row) (tFrame : T_Frame K mg cFrame) (m_Frame_lay : MCal P w K mg base 1 cFrame "lay" (spLay cFrame)) : Cal P w K mg base 2 "me_row" (spD K cFrame rMe) := by
  refine cal_of (N := ["rooms", "journal", "frame", "row"]) (ps := ["rooms", "journal", "frame", "row"]) D sc_me_row (fun vs H Q E h => ?_) (fun _ _ _ _ _ _ us hl => bd4 (R := fun us => bindArgs _ ⟨us, []⟩ = pure (List.zip _ us)) (fun _ _ _ _ => rfl) us hl) (fun f cdv A outer s H vs Q E hr h => ?_)
  · obtain ⟨vR, vJ, f, x, x', ws, p, w, n, rfl, _⟩ := h; rfl
  · obtain ⟨vR, vJ, fr, x, x', ws, p, wd, n, rfl, F, hp, hR, hl, k⟩ := h
    obtain rfl := hR
    first | refine sp_gen fun zQ zq => ⟨_, (pss_one (ps_expr (pe_mcal m_Frame_lay (hr.mono (by decide)) (pv 2) (pa_cons (pe_fld (pv 2) rfl) pa_nil)))), zq _ _ ?_⟩ | refine ⟨_, (pss_one (ps_expr (pe_mcal m_Frame_lay (hr.mono (by decide)) (pv 2) (pa_cons (pe_fld (pv 2) rfl) pa_nil)))), ?_⟩
    try simp only [nox_K, nox_P, nox_w, nox_mg, nox_base, cxOf_K, cxOf_P, cxOf_w, cxOf_mg, cxOf_base]
    repeat walk_at "rdk"
    refine rd_methA F.ob rfl ?_
    repeat walk_at "rdk"
    refine rd_fldA F.ob tFrame.k.cl tFrame.n_who rfl ?_
    repeat walk_at "rdk"
    first | refine sp_gen fun zQ zq => ⟨fr, _, ws, _, rfl, F, by show _ ≤ 1000; omega, fun H1 k1 F1 => zq _ _ ?_⟩ | refine ⟨fr, _, ws, _, rfl, F, by show _ ≤ 1000; omega, fun H1 k1 F1 => ?_⟩
    repeat walk_at "rdk"
    exact k _ (k_st k1) F1
theorem sc_from_row : FnScope ["rooms", "journal", "frame", "row"] ["rooms", "journal", "frame", "row"] (defScope s_from_row) := ⟨rfl, rfl, rfl, by decide +kernel, rfl, by decide +kernel, by decide +kernel⟩
theorem ok_from_row   {cFrame : Addr} (D : DefAt K mg "from_row" s_from_row) (tFrame : T_Frame K mg cFrame) (m_Frame_lay : MCal P w K mg base 1 cFrame "lay" (spLay cFrame)) : Cal P w K mg base 2 "from_row" (spD K cFrame rFrom) := by
  refine cal_of (N := ["rooms", "journal", "frame", "row"]) (ps := ["rooms", "journal", "frame", "row"]) D sc_from_row (fun vs H Q E h => ?_) (fun _ _ _ _ _ _ us hl => bd4 (R := fun us => bindArgs _ ⟨us, []⟩ = pure (List.zip _ us)) (fun _ _ _ _ => rfl) us hl) (fun f cdv A outer s H vs Q E hr h => ?_)
  · obtain ⟨vR, vJ, f, x, x', ws, p, w, n, rfl, _⟩ := h; rfl
  · obtain ⟨vR, vJ, fr, x, x', ws, p, wd, n, rfl, F, hp, hR, hl, k⟩ := h
    obtain rfl := hR
    first | refine sp_gen fun zQ zq => ⟨_, (pss_one (ps_expr (pe_mcal m_Frame_lay (hr.mono (by decide)) (pv 2) (pa_cons (pe_fld (pv 2) rfl) pa_nil)))), zq _ _ ?_⟩ | refine ⟨_, (pss_one (ps_expr (pe_mcal m_Frame_lay (hr.mono (by decide)) (pv 2) (pa_cons (pe_fld (pv 2) rfl) pa_nil)))), ?_⟩
    try simp only [nox_K, nox_P, nox_w, nox_mg, nox_base, cxOf_K, cxOf_P, cxOf_w, cxOf_mg, cxOf_base]
    repeat walk_at "rdk"
    refine rd_methA F.ob rfl ?_
    repeat walk_at "rdk"
    refine rd_fldA F.ob tFrame.k.cl tFrame.n_caller rfl ?_
    repeat walk_at "rdk"
    first | refine sp_gen fun zQ zq => ⟨fr, _, ws, _, rfl, F, by show _ ≤ 1000; omega, fun H1 k1 F1 => zq _ _ ?_⟩ | refine ⟨fr, _, ws, _, rfl, F, by show _ ≤ 1000; omega, fun H1 k1 F1 => ?_⟩
    repeat walk_at "rdk"
    exact k _ (k_st k1) F1
theorem sc_sent_row : FnScope ["rooms", "journal", "frame", "row"] ["rooms", "journal", "frame", "row"] (defScope s_sent_row) := ⟨rfl, rfl, rfl, by decide +kernel, rfl, by decide +kernel, by decide +kernel⟩
theorem ok_sent_row   {cFrame : Addr} (D : DefAt K mg "sent_row" s_sent_row) (tFrame : T_Frame K mg cFrame) (m_Frame_lay : MCal P w K mg base 1 cFrame "lay" (spLay cFrame)) : Cal P w K mg base 2 "sent_row" (spD K cFrame rSent) := by
  refine cal_of (N := ["rooms", "journal", "frame", "row"]) (ps := ["rooms", "journal", "frame", "row"]) D sc_sent_row (fun vs H Q E h => ?_) (fun _ _ _ _ _ _ us hl => bd4 (R := fun us => bindArgs _ ⟨us, []⟩ = pure (List.zip _ us)) (fun _ _ _ _ => rfl) us hl) (fun f cdv A outer s H vs Q E hr h => ?_)
  · obtain ⟨vR, vJ, f, x, x', ws, p, w, n, rfl, _⟩ := h; rfl
  · obtain ⟨vR, vJ, fr, x, x', ws, p, wd, n, rfl, F, hp, hR, hl, k⟩ := h
    obtain rfl := hR
    first | refine sp_gen fun zQ zq => ⟨_, (pss_one (ps_expr (pe_mcal m_Frame_lay (hr.mono (by decide)) (pv 2) (pa_cons (pe_fld (pv 2) rfl) pa_nil)))), zq _ _ ?_⟩ | refine ⟨_, (pss_one (ps_expr (pe_mcal m_Frame_lay (hr.mono (by decide)) (pv 2) (pa_cons (pe_fld (pv 2) rfl) pa_nil)))), ?_⟩
    try simp only [nox_K, nox_P, nox_w, nox_mg, nox_base, cxOf_K, cxOf_P, cxOf_w, cxOf_mg, cxOf_base]
    repeat walk_at "rdk"
    refine rd_methA F.ob rfl ?_
    repeat walk_at "rdk"
    refine rd_fldA F.ob tFrame.k.cl tFrame.n_coin rfl ?_
    repeat walk_at "rdk"
    first | refine sp_gen fun zQ zq => ⟨fr, _, ws, _, rfl, F, by show _ ≤ 1000; omega, fun H1 k1 F1 => zq _ _ ?_⟩ | refine ⟨fr, _, ws, _, rfl, F, by show _ ≤ 1000; omega, fun H1 k1 F1 => ?_⟩
    repeat walk_at "rdk"
    exact k _ (k_st k1) F1
theorem sc_word_row : FnScope ["rooms", "journal", "frame", "row"] ["rooms", "journal", "frame", "row"] (defScope s_word_row) := ⟨rfl, rfl, rfl, by decide +kernel, rfl, by decide +kernel, by decide +kernel⟩
theorem ok_word_row   {cFrame : Addr} (D : DefAt K mg "word_row" s_word_row) (tFrame : T_Frame K mg cFrame) (m_Frame_lay : MCal P w K mg base 1 cFrame "lay" (spLay cFrame)) : Cal P w K mg base 2 "word_row" (spD K cFrame rWord) := by
  refine cal_of (N := ["rooms", "journal", "frame", "row"]) (ps := ["rooms", "journal", "frame", "row"]) D sc_word_row (fun vs H Q E h => ?_) (fun _ _ _ _ _ _ us hl => bd4 (R := fun us => bindArgs _ ⟨us, []⟩ = pure (List.zip _ us)) (fun _ _ _ _ => rfl) us hl) (fun f cdv A outer s H vs Q E hr h => ?_)
  · obtain ⟨vR, vJ, f, x, x', ws, p, w, n, rfl, _⟩ := h; rfl
  · obtain ⟨vR, vJ, fr, x, x', ws, p, wd, n, rfl, F, hp, hR, hl, k⟩ := h
    obtain rfl := hR
    first | refine sp_gen fun zQ zq => ⟨_, (pss_one (ps_expr (pe_mcal m_Frame_lay (hr.mono (by decide)) (pv 2) (pa_cons (pe_fld (pv 2) rfl) pa_nil)))), zq _ _ ?_⟩ | refine ⟨_, (pss_one (ps_expr (pe_mcal m_Frame_lay (hr.mono (by decide)) (pv 2) (pa_cons (pe_fld (pv 2) rfl) pa_nil)))), ?_⟩
    try simp only [nox_K, nox_P, nox_w, nox_mg, nox_base, cxOf_K, cxOf_P, cxOf_w, cxOf_mg, cxOf_base]
    repeat walk_at "rdk"
    refine rd_methA F.ob rfl ?_
    repeat walk_at "rdk"
    refine rd_fldA F.ob tFrame.k.cl tFrame.n_word rfl ?_
    repeat walk_at "rdk"
    first | refine sp_gen fun zQ zq => ⟨fr, _, ws, _, rfl, F, by show _ ≤ 1000; omega, fun H1 k1 F1 => zq _ _ ?_⟩ | refine ⟨fr, _, ws, _, rfl, F, by show _ ≤ 1000; omega, fun H1 k1 F1 => ?_⟩
    repeat walk_at "rdk"
    exact k _ (k_st k1) F1
theorem sc_give_row : FnScope ["rooms", "journal", "frame", "row", "taken"] ["rooms", "journal", "frame", "row"] (defScope s_give_row) := ⟨rfl, rfl, rfl, by decide +kernel, rfl, by decide +kernel, by decide +kernel⟩
theorem ok_give_row   {cFrame : Addr} (D : DefAt K mg "give_row" s_give_row) (tFrame : T_Frame K mg cFrame) (m_Frame_taken : MCal P w K mg base 1 cFrame "taken" (spTaken cFrame)) (m_Frame_finish : MCal P w K mg base 1 cFrame "finish" (spFinish cFrame)) : Cal P w K mg base 2 "give_row" (spD K cFrame rGive) := by
  refine cal_of (N := ["rooms", "journal", "frame", "row", "taken"]) (ps := ["rooms", "journal", "frame", "row"]) D sc_give_row (fun vs H Q E h => ?_) (fun _ _ _ _ _ _ us hl => bd4 (R := fun us => bindArgs _ ⟨us, []⟩ = pure (List.zip _ us)) (fun _ _ _ _ => rfl) us hl) (fun f cdv A outer s H vs Q E hr h => ?_)
  · obtain ⟨vR, vJ, f, x, x', ws, p, w, n, rfl, _⟩ := h; rfl
  · obtain ⟨vR, vJ, fr, x, x', ws, p, wd, n, rfl, F, hp, hR, hl, k⟩ := h
    obtain ⟨s0, t0, e0, rfl⟩ := hR
    refine ⟨_, (pss_cons (ps_set (i := 4) sc_give_row.nd rfl (by first | exact Or.inl rfl | exact Or.inr rfl) (pe_mcal m_Frame_taken (hr.mono (by decide)) (pv 2) (pa_cons pe_int pa_nil)))
      (pss_one (ps_expr (pe_mcal m_Frame_finish (hr.mono (by decide)) (pv 2) (pa_cons pe_str (pa_cons (pe_ix ix_list (pv 4) pe_int (fun _ _ => rfl)) pa_nil)))))), ?_⟩
    try simp only [nox_K, nox_P, nox_w, nox_mg, nox_base, cxOf_K, cxOf_P, cxOf_w, cxOf_mg, cxOf_base]
    repeat walk_at "rdk"
    refine rd_methA F.ob rfl ?_
    repeat walk_at "rdk"
    first | refine sp_gen fun zQ zq => ⟨fr, x, ws, s0, [t0], rfl, F, e0, by show 1 ≤ 1000; decide, fun q H1 _ k1 F1 e1 => zq _ _ ?_⟩ | refine ⟨fr, x, ws, s0, [t0], rfl, F, e0, by show 1 ≤ 1000; decide, fun q H1 _ k1 F1 e1 => ?_⟩
    have e1' : H1 q = some (.lst [.int t0]) := e1
    repeat walk_at "rdk"
    refine rd_methA F1.ob rfl ?_
    repeat walk_at "rdk"
    first | refine sp_gen fun zQ zq => ⟨fr, _, ws, "well", t0, rfl, F1, fun H2 k2 F2 => zq _ _ ?_⟩ | refine ⟨fr, _, ws, "well", t0, rfl, F1, fun H2 k2 F2 => ?_⟩
    repeat walk_at "rdk"
    exact k _ ((k_st k1).trans (k_a k2)) F2
theorem sc_fail_row : FnScope ["rooms", "journal", "frame", "row", "taken"] ["rooms", "journal", "frame", "row"] (defScope s_fail_row) := ⟨rfl, rfl, rfl, by decide +kernel, rfl, by decide +kernel, by decide +kernel⟩
theorem ok_fail_row   {cFrame : Addr} (D : DefAt K mg "fail_row" s_fail_row) (tFrame : T_Frame K mg cFrame) (m_Frame_taken : MCal P w K mg base 1 cFrame "taken" (spTaken cFrame)) (m_Frame_finish : MCal P w K mg base 1 cFrame "finish" (spFinish cFrame)) : Cal P w K mg base 2 "fail_row" (spD K cFrame rFail) := by
  refine cal_of (N := ["rooms", "journal", "frame", "row", "taken"]) (ps := ["rooms", "journal", "frame", "row"]) D sc_fail_row (fun vs H Q E h => ?_) (fun _ _ _ _ _ _ us hl => bd4 (R := fun us => bindArgs _ ⟨us, []⟩ = pure (List.zip _ us)) (fun _ _ _ _ => rfl) us hl) (fun f cdv A outer s H vs Q E hr h => ?_)
  · obtain ⟨vR, vJ, f, x, x', ws, p, w, n, rfl, _⟩ := h; rfl
  · obtain ⟨vR, vJ, fr, x, x', ws, p, wd, n, rfl, F, hp, hR, hl, k⟩ := h
    obtain ⟨s0, t0, e0, rfl⟩ := hR
    refine ⟨_, (pss_cons (ps_set (i := 4) sc_fail_row.nd rfl (by first | exact Or.inl rfl | exact Or.inr rfl) (pe_mcal m_Frame_taken (hr.mono (by decide)) (pv 2) (pa_cons pe_int pa_nil)))
      (pss_one (ps_expr (pe_mcal m_Frame_finish (hr.mono (by decide)) (pv 2) (pa_cons pe_str (pa_cons (pe_ix ix_list (pv 4) pe_int (fun _ _ => rfl)) pa_nil)))))), ?_⟩
    try simp only [nox_K, nox_P, nox_w, nox_mg, nox_base, cxOf_K, cxOf_P, cxOf_w, cxOf_mg, cxOf_base]
    repeat walk_at "rdk"
    refine rd_methA F.ob rfl ?_
    repeat walk_at "rdk"
    first | refine sp_gen fun zQ zq => ⟨fr, x, ws, s0, [t0], rfl, F, e0, by show 1 ≤ 1000; decide, fun q H1 _ k1 F1 e1 => zq _ _ ?_⟩ | refine ⟨fr, x, ws, s0, [t0], rfl, F, e0, by show 1 ≤ 1000; decide, fun q H1 _ k1 F1 e1 => ?_⟩
    have e1' : H1 q = some (.lst [.int t0]) := e1
    repeat walk_at "rdk"
    refine rd_methA F1.ob rfl ?_
    repeat walk_at "rdk"
    first | refine sp_gen fun zQ zq => ⟨fr, _, ws, "fail", t0, rfl, F1, fun H2 k2 F2 => zq _ _ ?_⟩ | refine ⟨fr, _, ws, "fail", t0, rfl, F1, fun H2 k2 F2 => ?_⟩
    repeat walk_at "rdk"
    exact k _ ((k_st k1).trans (k_a k2)) F2

end
end My

namespace My
open PySem L2
local macro_rules | `(tactic| walk_at "rw") => `(tactic| first
  | walk_at "rdk"
  | ((with_reducible refine' L2.rd_ixT ?h ?e ?_); (case h => assumption); (case e => exact My.row_at0))
  | fail)
local macro_rules | `(tactic| walk_at "rz") => `(tactic| first
  | ((with_reducible refine L2.rd_iteD (fun _ => ?_) (fun _ => ?_)) <;> (try (exfalso; omega)))
  | ((with_reducible refine L2.rd_iteND (fun _ => ?_) (fun _ => ?_)) <;> (try (exfalso; omega)))
  | ((with_reducible refine L2.rd_iteNND (fun _ => ?_) (fun _ => ?_)) <;> (try (exfalso; omega)))
  | walk_at "rw"
  | fail)

noncomputable def RDL : List (Str × RD) := [("push", rPush), ("drop", rDrop), ("copy", rCopy), ("swap", rSwap), ("add", rReck), ("minus", rReck), ("times", rReck), ("over", rReck), ("rest", rReck), ("below", rReck), ("same", rReck), ("both", rReck), ("either", rReck), ("unlike", rReck), ("up", rReck), ("down", rReck), ("jump", rJump), ("jumpif", rJumpif), ("me", rMe), ("from", rFrom), ("sent", rSent), ("word", rWord), ("give", rGive), ("fail", rFail)]
noncomputable def DoOk (P : Program) (w : World) (K : PySem.W.Frag) (mg : Str → Option Value) (base : Heap) (cF aD : Addr) : Prop :=
  ∃ vs, DictK P w K aD vs ∧ ∀ x R, RDL.lookup x = some R → ∃ fa, valueAt vs (.inr x) = some (.ref fa) ∧ CalF P w K mg base 4 fa (spD K cF R)
noncomputable def spDoRow (K : PySem.W.Frag) (cF : Addr) : Sp := fun vs H Q _ => ∃ (vR vJ : V) (f : FrI) (x x' : FrS) (ws : List V) (p : Addr) (w : Str) (n : Option Int) (R : RD), vs = [vR, vJ, .ref f.a, .ref p] ∧ FrAt cF H f x ws ∧ IsRow K H p w n ∧ RDL.lookup w = some R ∧ R x w n x' ∧ x.stack.length ≤ 900 ∧
  ∀ H', KeptX (inF f) H H' → FrAt cF H' f x' ws → Q .non H'
noncomputable def spNo : Sp := fun _ _ _ _ => False

noncomputable def bringsR (x : FrS) (w : Str) (b : Bool) : Prop := (w ≠ "call" ∧ b = false) ∨ (w = "call" ∧ ∃ s c u v, x.stack = s ++ [c, u, v] ∧ b = decide (0 < c))
noncomputable def fillsR (A : Nat → Option AcI) (S : Nat → AcS) (x : FrS) (w : Str) (b : Bool) : Prop := (w ≠ "save" ∧ b = false) ∨ (w = "save" ∧ ∃ s p v, x.stack = s ++ [p, v] ∧ ((v = 0 ∧ b = false) ∨ (v ≠ 0 ∧ ∃ i y, x.who = ((i : Nat) : Int) ∧ i < 16 ∧ A i = some y ∧ b = decide ((S i).store p = 0))))
noncomputable def spBrings (K : PySem.W.Frag) (cF : Addr) : Sp := fun vs H Q _ => ∃ (f : FrI) (x : FrS) (ws : List V) (p : Addr) (w : Str) (n : Option Int) (b : Bool), vs = [.ref f.a, .ref p] ∧ FrAt cF H f x ws ∧ IsRow K H p w n ∧ bringsR x w b ∧ Q (.bl b) H
noncomputable def spFills (K : PySem.W.Frag) (C cF : Addr) : Sp := fun vs H Q _ => ∃ (R : Addr) (A : Nat → Option AcI) (S : Nat → AcS) (m : Nat) (f : FrI) (x : FrS) (ws : List V) (p : Addr) (w : Str) (n : Option Int) (b : Bool), vs = [.ref R, .ref f.a, .ref p] ∧ Rooms K C H R A S m ∧ FrAt cF H f x ws ∧ IsRow K H p w n ∧ fillsR A S x w b ∧ Q (.bl b) H
noncomputable def spRowPrice (K : PySem.W.Frag) (C cF : Addr) : Sp := fun vs H Q _ => ∃ (R : Addr) (A : Nat → Option AcI) (S : Nat → AcS) (m : Nat) (f : FrI) (x : FrS) (ws : List V) (p : Addr) (w : Str) (n : Option Int) (b1 b2 : Bool) (t l pr d : Int), vs = [.ref R, .ref f.a, .ref p] ∧ Rooms K C H R A S m ∧ FrAt cF H f x ws ∧ IsRow K H p w n ∧ bringsR x w b1 ∧ fillsR A S x w b2 ∧ RT.lookup w = some (t, l, pr, d) ∧ Q (.int (if (b1 || b2) = true then d else pr)) H
noncomputable def barB (x : FrS) (w : Str) (b1 : Bool) : Bool := x.looking && (inS w ["save", "note"] || b1)
noncomputable def spBarred (K : PySem.W.Frag) (cF : Addr) : Sp := fun vs H Q _ => ∃ (f : FrI) (x : FrS) (ws : List V) (p : Addr) (w : Str) (n : Option Int) (b1 : Bool), vs = [.ref f.a, .ref p] ∧ FrAt cF H f x ws ∧ IsRow K H p w n ∧ bringsR x w b1 ∧ ∀ H', Same H H' → Q (.bl (barB x w b1)) H'
noncomputable def aheadR (A : Nat → Option AcI) (S : Nat → AcS) (x : FrS) (w : Str) (n : Option Int) (e : Option Str) : Prop := ∃ r t l pr d, reachOf w n = some r ∧ RT.lookup w = some (t, l, pr, d) ∧
  (((x.stack.length : Int) < t + r ∧ e = some ("short" : Str)) ∨ (¬ (x.stack.length : Int) < t + r ∧ 24 < (x.stack.length : Int) - (t + r) + (l + r) ∧ e = some ("full" : Str)) ∨ (¬ (x.stack.length : Int) < t + r ∧ ¬ 24 < (x.stack.length : Int) - (t + r) + (l + r) ∧
    ∃ b1 b2, bringsR x w b1 ∧ fillsR A S x w b2 ∧ ((barB x w b1 = true ∧ e = some ("barred" : Str)) ∨ (barB x w b1 = false ∧ x.given - x.used < (if (b1 || b2) = true then d else pr) ∧ e = some ("dry" : Str)) ∨ (barB x w b1 = false ∧ ¬ x.given - x.used < (if (b1 || b2) = true then d else pr) ∧ e = none))))
noncomputable def spAhead (K : PySem.W.Frag) (C cF : Addr) : Sp := fun vs H Q _ => ∃ (R : Addr) (A : Nat → Option AcI) (S : Nat → AcS) (m : Nat) (f : FrI) (x : FrS) (ws : List V) (p : Addr) (w : Str) (n : Option Int) (e : Option Str), vs = [.ref R, .ref f.a, .ref p] ∧ Rooms K C H R A S m ∧ FrAt cF H f x ws ∧ IsRow K H p w n ∧ aheadR A S x w n e ∧ ∀ H', Same H H' → Q (endV e) H'
theorem at_m3 {xs s : List Int} {c u v : Int} (e : xs = s ++ [c, u, v]) : atI (xs.map V.int) (-3) = some (.int c) := by
  have h : atI (xs.map V.int) (-1 - ((2 : Nat) : Int)) = some (.int c) := atI_neg (by rw [e]; simp) (by rw [e]; simp)
  exact h
theorem at_m2 {xs s : List Int} {u v : Int} (e : xs = s ++ [u, v]) : atI (xs.map V.int) (-2) = some (.int u) := by
  have h : atI (xs.map V.int) (-1 - ((1 : Nat) : Int)) = some (.int u) := atI_neg (by rw [e]; simp) (by rw [e]; simp)
  exact h
theorem at_m1 {xs s : List Int} {v : Int} (e : xs = s ++ [v]) : atI (xs.map V.int) (-1) = some (.int v) := by
  have h : atI (xs.map V.int) (-1 - ((0 : Nat) : Int)) = some (.int v) := atI_neg (by rw [e]; simp) (by rw [e]; simp)
  exact h

section
variable {P : Program} {w : World} {K : PySem.W.Frag} {mg : Str → Option Value} {base : Heap}
theorem do_ok {cFrame aD : Addr} {u1 u2 u3 u4 u5 u6 u7 u8 u9 u10 u11 u12 u13 u14 u15 u16 u17 : Value} (dk : DictK P w K aD [(Sum.inr "push", u1), (Sum.inr "drop", u2), (Sum.inr "copy", u3), (Sum.inr "swap", u4), (Sum.inr "add", u5), (Sum.inr "minus", u5), (Sum.inr "times", u5), (Sum.inr "over", u5), (Sum.inr "rest", u5), (Sum.inr "below", u5), (Sum.inr "same", u5), (Sum.inr "both", u5), (Sum.inr "either", u5), (Sum.inr "unlike", u5), (Sum.inr "up", u5), (Sum.inr "down", u5), (Sum.inr "jump", u6), (Sum.inr "jumpif", u7), (Sum.inr "load", u8), (Sum.inr "save", u9), (Sum.inr "me", u10), (Sum.inr "from", u11), (Sum.inr "sent", u12), (Sum.inr "word", u13), (Sum.inr "coin", u14), (Sum.inr "note", u15), (Sum.inr "give", u16), (Sum.inr "fail", u17)])
    (m_push_row : mg "push_row" = some u1) (m_drop_row : mg "drop_row" = some u2) (m_copy_row : mg "copy_row" = some u3) (m_swap_row : mg "swap_row" = some u4) (m_reckon_row : mg "reckon_row" = some u5) (m_jump_row : mg "jump_row" = some u6) (m_jumpif_row : mg "jumpif_row" = some u7) (m_me_row : mg "me_row" = some u10) (m_from_row : mg "from_row" = some u11) (m_sent_row : mg "sent_row" = some u12) (m_word_row : mg "word_row" = some u13) (m_give_row : mg "give_row" = some u16) (m_fail_row : mg "fail_row" = some u17)
    (c_push_row : Cal P w K mg base 2 "push_row" (spD K cFrame rPush)) (c_drop_row : Cal P w K mg base 2 "drop_row" (spD K cFrame rDrop)) (c_copy_row : Cal P w K mg base 2 "copy_row" (spD K cFrame rCopy)) (c_swap_row : Cal P w K mg base 1 "swap_row" (spD K cFrame rSwap)) (c_reckon_row : Cal P w K mg base 3 "reckon_row" (spD K cFrame rReck)) (c_jump_row : Cal P w K mg base 1 "jump_row" (spD K cFrame rJump)) (c_jumpif_row : Cal P w K mg base 2 "jumpif_row" (spD K cFrame rJumpif)) (c_me_row : Cal P w K mg base 2 "me_row" (spD K cFrame rMe)) (c_from_row : Cal P w K mg base 2 "from_row" (spD K cFrame rFrom)) (c_sent_row : Cal P w K mg base 2 "sent_row" (spD K cFrame rSent)) (c_word_row : Cal P w K mg base 2 "word_row" (spD K cFrame rWord)) (c_give_row : Cal P w K mg base 2 "give_row" (spD K cFrame rGive)) (c_fail_row : Cal P w K mg base 2 "fail_row" (spD K cFrame rFail)) : DoOk P w K mg base cFrame aD := by
  refine ⟨_, dk, fun x R h => ?_⟩
  have hm := memLookup h
  simp only [RDL, List.mem_cons, Prod.mk.injEq, List.not_mem_nil, or_false] at hm
  rcases hm with ⟨rfl, rfl⟩ | ⟨rfl, rfl⟩ | ⟨rfl, rfl⟩ | ⟨rfl, rfl⟩ | ⟨rfl, rfl⟩ | ⟨rfl, rfl⟩ | ⟨rfl, rfl⟩ | ⟨rfl, rfl⟩ | ⟨rfl, rfl⟩ | ⟨rfl, rfl⟩ | ⟨rfl, rfl⟩ | ⟨rfl, rfl⟩ | ⟨rfl, rfl⟩ | ⟨rfl, rfl⟩ | ⟨rfl, rfl⟩ | ⟨rfl, rfl⟩ | ⟨rfl, rfl⟩ | ⟨rfl, rfl⟩ | ⟨rfl, rfl⟩ | ⟨rfl, rfl⟩ | ⟨rfl, rfl⟩ | ⟨rfl, rfl⟩ | ⟨rfl, rfl⟩ | ⟨rfl, rfl⟩
  · obtain ⟨fa, m, c⟩ := Cal.mono c_push_row (k := 4) (by decide)
    rw [m_push_row] at m
    cases m
    exact ⟨fa, rfl, c⟩
  · obtain ⟨fa, m, c⟩ := Cal.mono c_drop_row (k := 4) (by decide)
    rw [m_drop_row] at m
    cases m
    exact ⟨fa, rfl, c⟩
  · obtain ⟨fa, m, c⟩ := Cal.mono c_copy_row (k := 4) (by decide)
    rw [m_copy_row] at m
    cases m
    exact ⟨fa, rfl, c⟩
  · obtain ⟨fa, m, c⟩ := Cal.mono c_swap_row (k := 4) (by decide)
    rw [m_swap_row] at m
    cases m
    exact ⟨fa, rfl, c⟩
  · obtain ⟨fa, m, c⟩ := Cal.mono c_reckon_row (k := 4) (by decide)
    rw [m_reckon_row] at m
    cases m
    exact ⟨fa, rfl, c⟩
  · obtain ⟨fa, m, c⟩ := Cal.mono c_reckon_row (k := 4) (by decide)
    rw [m_reckon_row] at m
    cases m
    exact ⟨fa, rfl, c⟩
  · obtain ⟨fa, m, c⟩ := Cal.mono c_reckon_row (k := 4) (by decide)
    rw [m_reckon_row] at m
    cases m
    exact ⟨fa, rfl, c⟩
  · obtain ⟨fa, m, c⟩ := Cal.mono c_reckon_row (k := 4) (by decide)
    rw [m_reckon_row] at m
    cases m
    exact ⟨fa, rfl, c⟩
  · obtain ⟨fa, m, c⟩ := Cal.mono c_reckon_row (k := 4) (by decide)
    rw [m_reckon_row] at m
    cases m
    exact ⟨fa, rfl, c⟩
  · obtain ⟨fa, m, c⟩ := Cal.mono c_reckon_row (k := 4) (by decide)
    rw [m_reckon_row] at m
    cases m
    exact ⟨fa, rfl, c⟩
  · obtain ⟨fa, m, c⟩ := Cal.mono c_reckon_row (k := 4) (by decide)
    rw [m_reckon_row] at m
    cases m
    exact ⟨fa, rfl, c⟩
  · obtain ⟨fa, m, c⟩ := Cal.mono c_reckon_row (k := 4) (by decide)
    rw [m_reckon_row] at m
    cases m
    exact ⟨fa, rfl, c⟩
  · obtain ⟨fa, m, c⟩ := Cal.mono c_reckon_row (k := 4) (by decide)
    rw [m_reckon_row] at m
    cases m
    exact ⟨fa, rfl, c⟩
  · obtain ⟨fa, m, c⟩ := Cal.mono c_reckon_row (k := 4) (by decide)
    rw [m_reckon_row] at m
    cases m
    exact ⟨fa, rfl, c⟩
  · obtain ⟨fa, m, c⟩ := Cal.mono c_reckon_row (k := 4) (by decide)
    rw [m_reckon_row] at m
    cases m
    exact ⟨fa, rfl, c⟩
  · obtain ⟨fa, m, c⟩ := Cal.mono c_reckon_row (k := 4) (by decide)
    rw [m_reckon_row] at m
    cases m
    exact ⟨fa, rfl, c⟩
  · obtain ⟨fa, m, c⟩ := Cal.mono c_jump_row (k := 4) (by decide)
    rw [m_jump_row] at m
    cases m
    exact ⟨fa, rfl, c⟩
  · obtain ⟨fa, m, c⟩ := Cal.mono c_jumpif_row (k := 4) (by decide)
    rw [m_jumpif_row] at m
    cases m
    exact ⟨fa, rfl, c⟩
  · obtain ⟨fa, m, c⟩ := Cal.mono c_me_row (k := 4) (by decide)
    rw [m_me_row] at m
    cases m
    exact ⟨fa, rfl, c⟩
  · obtain ⟨fa, m, c⟩ := Cal.mono c_from_row (k := 4) (by decide)
    rw [m_from_row] at m
    cases m
    exact ⟨fa, rfl, c⟩
  · obtain ⟨fa, m, c⟩ := Cal.mono c_sent_row (k := 4) (by decide)
    rw [m_sent_row] at m
    cases m
    exact ⟨fa, rfl, c⟩
  · obtain ⟨fa, m, c⟩ := Cal.mono c_word_row (k := 4) (by decide)
    rw [m_word_row] at m
    cases m
    exact ⟨fa, rfl, c⟩
  · obtain ⟨fa, m, c⟩ := Cal.mono c_give_row (k := 4) (by decide)
    rw [m_give_row] at m
    cases m
    exact ⟨fa, rfl, c⟩
  · obtain ⟨fa, m, c⟩ := Cal.mono c_fail_row (k := 4) (by decide)
    rw [m_fail_row] at m
    cases m
    exact ⟨fa, rfl, c⟩
theorem sc_do_row : FnScope ["rooms", "journal", "frame", "row"] ["rooms", "journal", "frame", "row"] (defScope s_do_row) := ⟨rfl, rfl, rfl, by decide +kernel, rfl, by decide +kernel, by decide +kernel⟩
theorem ok_do_row  {cFrame aD : Addr} (DO : DoOk P w K mg base cFrame aD)  (D : DefAt K mg "do_row" s_do_row) (g_DOINGS : GlobAt mg "DOINGS" (.ref aD)) : Cal P w K mg base 5 "do_row" (spDoRow K cFrame) := by
  refine cal_of (N := ["rooms", "journal", "frame", "row"]) (ps := ["rooms", "journal", "frame", "row"]) D sc_do_row (fun vs H Q E h => ?_) (fun _ _ _ _ _ _ us hl => bd4 (R := fun us => bindArgs _ ⟨us, []⟩ = pure (List.zip _ us)) (fun _ _ _ _ => rfl) us hl) (fun f cdv A outer s H vs Q E hr h => ?_)
  · obtain ⟨vR, vJ, f, x, x', ws, p, w, n, R, rfl, _⟩ := h; rfl
  · obtain ⟨vR, vJ, fr, x, x', ws, p, wd, n, R, rfl, F, hp, hR, hRx, hl, k⟩ := h
    first | refine sp_gen fun zQ zq => ⟨_, (pss_one (ps_expr (pe_callV (k := 4) (hr.mono (by decide)) (pe_ixK (pe_glA rfl g_DOINGS) (pe_ix ix_tup (pv 3) pe_int (fun _ _ => rfl)) (fun _ _ => rfl)) (pa_cons (pv 0) (pa_cons (pv 1) (pa_cons (pv 2) (pa_cons (pv 3) pa_nil))))))), zq _ _ ?_⟩ | refine ⟨_, (pss_one (ps_expr (pe_callV (k := 4) (hr.mono (by decide)) (pe_ixK (pe_glA rfl g_DOINGS) (pe_ix ix_tup (pv 3) pe_int (fun _ _ => rfl)) (fun _ _ => rfl)) (pa_cons (pv 0) (pa_cons (pv 1) (pa_cons (pv 2) (pa_cons (pv 3) pa_nil))))))), ?_⟩
    try simp only [nox_K, nox_P, nox_w, nox_mg, nox_base, cxOf_K, cxOf_P, cxOf_w, cxOf_mg, cxOf_base]
    obtain ⟨ts, dk, al⟩ := DO
    obtain ⟨fa, hv, cf⟩ := al wd R hR
    refine rd_drop ?_
    unfold tCallV
    repeat walk_at "rw"
    refine rd_DK (v := .ref fa) dk hv rfl ?_
    first | refine sp_gen fun zQ zq => ⟨fa, _, rfl, cf, zq _ _ ?_⟩ | refine ⟨fa, _, rfl, cf, ?_⟩
    repeat walk_at "rdk"
    first | refine sp_gen fun zQ zq => ⟨vR, vJ, fr, x, x', ws, p, wd, n, rfl, F, hp, hRx, hl, fun H' k1 F1 => zq _ _ ?_⟩ | refine ⟨vR, vJ, fr, x, x', ws, p, wd, n, rfl, F, hp, hRx, hl, fun H' k1 F1 => ?_⟩
    repeat walk_at "rdk"
    exact k H' k1 F1
theorem sc_brings_coin : FnScope ["frame", "row"] ["frame", "row"] (defScope s_brings_coin) := ⟨rfl, rfl, rfl, by decide +kernel, rfl, by decide +kernel, by decide +kernel⟩
theorem ok_brings_coin   {cFrame : Addr} (D : DefAt K mg "brings_coin" s_brings_coin) (tFrame : T_Frame K mg cFrame) : Cal P w K mg base 1 "brings_coin" (spBrings K cFrame) := by
  refine cal_of (N := ["frame", "row"]) (ps := ["frame", "row"]) D sc_brings_coin (fun vs H Q E h => ?_) (fun _ _ _ _ _ _ us hl => bd2 (R := fun us => bindArgs _ ⟨us, []⟩ = pure (List.zip _ us)) (fun _ _ => rfl) us hl) (fun f cdv A outer s H vs Q E hr h => ?_)
  · obtain ⟨f, x, ws, p, w, n, b, rfl, _⟩ := h; rfl
  · obtain ⟨fr, x, ws, p, wd, n, b, rfl, F, hp, hb, k⟩ := h
    first | refine sp_gen fun zQ zq => ⟨_, (pss_one (ps_ret (pe_and (pe_cmpR op_eq (pe_ix ix_tup (pv 1) pe_int (fun _ _ => rfl)) pe_str (nomark _)) (pe_one (pe_cmpR op_gt (pe_ix ix_list (pe_fld (pv 0) rfl) (pe_un un_neg pe_int) (fun _ _ => rfl)) pe_int (nomark _)))))), zq _ _ ?_⟩ | refine ⟨_, (pss_one (ps_ret (pe_and (pe_cmpR op_eq (pe_ix ix_tup (pv 1) pe_int (fun _ _ => rfl)) pe_str (nomark _)) (pe_one (pe_cmpR op_gt (pe_ix ix_list (pe_fld (pv 0) rfl) (pe_un un_neg pe_int) (fun _ _ => rfl)) pe_int (nomark _)))))), ?_⟩
    try simp only [nox_K, nox_P, nox_w, nox_mg, nox_base, cxOf_K, cxOf_P, cxOf_w, cxOf_mg, cxOf_base]
    rcases hb with ⟨hw, rfl⟩ | ⟨rfl, s0, c, u, v, e0, rfl⟩
    · repeat' walk_at "rw"
      · exact absurd (by assumption) hw
      · exact k
    · repeat' walk_at "rw"
      · refine rd_fldA F.ob tFrame.k.cl tFrame.n_stack rfl ?_
        repeat walk_at "rw"
        refine rd_ixL (sql_of F.st) (at_m3 e0) ?_
        repeat walk_at "rw"
        exact k
      · rename_i z; exact absurd rfl z
theorem sc_fills_place : FnScope ["rooms", "frame", "row"] ["rooms", "frame", "row"] (defScope s_fills_place) := ⟨rfl, rfl, rfl, by decide +kernel, rfl, by decide +kernel, by decide +kernel⟩
theorem ok_fills_place   {cFrame : Addr} {cAccount : Addr} (D : DefAt K mg "fills_place" s_fills_place) (tFrame : T_Frame K mg cFrame) (tAccount : T_Account K mg cAccount) (m_Account_loaded : MCal P w K mg base 1 cAccount "loaded" (spLoaded K cAccount)) : Cal P w K mg base 2 "fills_place" (spFills K cAccount cFrame) := by
  refine cal_of (N := ["rooms", "frame", "row"]) (ps := ["rooms", "frame", "row"]) D sc_fills_place (fun vs H Q E h => ?_) (fun _ _ _ _ _ _ us hl => bd3 (R := fun us => bindArgs _ ⟨us, []⟩ = pure (List.zip _ us)) (fun _ _ _ => rfl) us hl) (fun f cdv A outer s H vs Q E hr h => ?_)
  · obtain ⟨R, A, S, m, f, x, ws, p, w, n, b, rfl, _⟩ := h; rfl
  · obtain ⟨R, Ar, S, m, fr, x, ws, p, wd, n, b, rfl, r, F, hp, hb, k⟩ := h
    refine ⟨_, (pss_cons (ps_if (PW.pt (pw_or (pt_cmpR op_ne (pe_ix ix_tup (pv 2) pe_int (fun _ _ => rfl)) pe_str (nomark _)) (pw_or1 (pt_cmpR op_eq (pe_ix ix_list (pe_fld (pv 1) rfl) (pe_un un_neg pe_int) (fun _ _ => rfl)) pe_int (nomark _))))) (pss_one (ps_ret pe_bl)) pss_nil)
      (pss_one (ps_ret (pe_cmpR op_eq (pe_mcal m_Account_loaded (hr.mono (by decide)) (pe_ix ix_list (pv 0) (pe_fld (pv 1) rfl) (fun _ _ => rfl)) (pa_cons (pe_ix ix_list (pe_fld (pv 1) rfl) (pe_un un_neg pe_int) (fun _ _ => rfl)) pa_nil)) pe_int (nomark _))))), ?_⟩
    try simp only [nox_K, nox_P, nox_w, nox_mg, nox_base, cxOf_K, cxOf_P, cxOf_w, cxOf_mg, cxOf_base]
    rcases hb with ⟨hw, rfl⟩ | ⟨rfl, s0, pl, v, e0, hb⟩
    · repeat' walk_at "rw"
      · exact k
      · exact absurd (by assumption) hw
    · have e1 : x.stack = (s0 ++ [pl]) ++ [v] := by rw [e0]; simp
      repeat' walk_at "rw"
      · rename_i z; exact absurd rfl z
      · refine rd_fldA F.ob tFrame.k.cl tFrame.n_stack rfl ?_
        repeat walk_at "rw"
        refine rd_ixL (sql_of F.st) (at_m1 e1) ?_
        repeat' walk_at "rw"
        · rename_i z
          rcases hb with ⟨_, rfl⟩ | ⟨hv, _⟩
          · exact k
          · exact absurd z hv
        · rename_i z
          rcases hb with ⟨hv, _⟩ | ⟨_, i, y, ew, hi, hy, rfl⟩
          · exact absurd hv z
          · refine rd_fldA F.ob tFrame.k.cl tFrame.n_who rfl ?_
            rw [ew]
            refine rd_ixL (sql_of r.ob) (r.at hi hy) ?_
            have ay := r.ac i y hi hy
            refine rd_methA ay.ob rfl ?_
            repeat walk_at "rw"
            refine rd_fldA F.ob tFrame.k.cl tFrame.n_stack rfl ?_
            repeat walk_at "rw"
            refine rd_ixL (sql_of F.st) (at_m2 e0) ?_
            repeat walk_at "rw"
            first | refine sp_gen fun zQ zq => ⟨y.a, y.dx, y.pr, y.st, _, _, _, _, _, m, pl, rfl, ay, zq _ _ ?_⟩ | refine ⟨y.a, y.dx, y.pr, y.st, _, _, _, _, _, m, pl, rfl, ay, ?_⟩
            repeat walk_at "rw"
            exact k
theorem sc_row_price : FnScope ["rooms", "frame", "row"] ["rooms", "frame", "row"] (defScope s_row_price) := ⟨rfl, rfl, rfl, by decide +kernel, rfl, by decide +kernel, by decide +kernel⟩
theorem ok_row_price    (D : DefAt K mg "row_price" s_row_price) (cd2_price : CalD P w K mg base 1 "price" (spPrice K) []) (c_brings_coin : Cal P w K mg base 1 "brings_coin" (spBrings K cFrame)) (c_fills_place : Cal P w K mg base 2 "fills_place" (spFills K cAccount cFrame)) : Cal P w K mg base 3 "row_price" (spRowPrice K cAccount cFrame) := by
  refine cal_of (N := ["rooms", "frame", "row"]) (ps := ["rooms", "frame", "row"]) D sc_row_price (fun vs H Q E h => ?_) (fun _ _ _ _ _ _ us hl => bd3 (R := fun us => bindArgs _ ⟨us, []⟩ = pure (List.zip _ us)) (fun _ _ _ => rfl) us hl) (fun f cdv A outer s H vs Q E hr h => ?_)
  · obtain ⟨R, A, S, m, f, x, ws, p, w, n, b1, b2, t, l, pr, d, rfl, _⟩ := h; rfl
  · obtain ⟨R, Ar, S, m, fr, x, ws, p, wd, n, b1, b2, t, l, pr, d, rfl, r, F, hp, hb1, hb2, ht, k⟩ := h
    first | refine sp_gen fun zQ zq => ⟨_, (pss_one (ps_ret (pe_calD cd2_price (hr.mono (by decide)) rfl (pa_cons (pv 2) (pa_cons (pe_or (pe_cal c_brings_coin (hr.mono (by decide)) rfl (pa_cons (pv 1) (pa_cons (pv 2) pa_nil))) (pe_one (pe_cal c_fills_place (hr.mono (by decide)) rfl (pa_cons (pv 0) (pa_cons (pv 1) (pa_cons (pv 2) pa_nil)))))) pa_nil))))), zq _ _ ?_⟩ | refine ⟨_, (pss_one (ps_ret (pe_calD cd2_price (hr.mono (by decide)) rfl (pa_cons (pv 2) (pa_cons (pe_or (pe_cal c_brings_coin (hr.mono (by decide)) rfl (pa_cons (pv 1) (pa_cons (pv 2) pa_nil))) (pe_one (pe_cal c_fills_place (hr.mono (by decide)) rfl (pa_cons (pv 0) (pa_cons (pv 1) (pa_cons (pv 2) pa_nil)))))) pa_nil))))), ?_⟩
    try simp only [nox_K, nox_P, nox_w, nox_mg, nox_base, cxOf_K, cxOf_P, cxOf_w, cxOf_mg, cxOf_base]
    repeat walk_at "rw"
    first | refine sp_gen fun zQ zq => ⟨fr, x, ws, p, wd, n, b1, rfl, F, hp, hb1, zq _ _ ?_⟩ | refine ⟨fr, x, ws, p, wd, n, b1, rfl, F, hp, hb1, ?_⟩
    cases b1 with
    | true =>
      repeat walk_at "rw"
      exact ⟨p, wd, n, t, l, pr, d, true, rfl, hp, ht, k⟩
    | false =>
      repeat walk_at "rw"
      first | refine sp_gen fun zQ zq => ⟨R, Ar, S, m, fr, x, ws, p, wd, n, b2, rfl, r, F, hp, hb2, zq _ _ ?_⟩ | refine ⟨R, Ar, S, m, fr, x, ws, p, wd, n, b2, rfl, r, F, hp, hb2, ?_⟩
      repeat walk_at "rw"
      exact ⟨p, wd, n, t, l, pr, d, b2, rfl, hp, ht, k⟩
theorem sc_is_barred : FnScope ["frame", "row"] ["frame", "row"] (defScope s_is_barred) := ⟨rfl, rfl, rfl, by decide +kernel, rfl, by decide +kernel, by decide +kernel⟩
theorem ok_is_barred   {cFrame : Addr} (D : DefAt K mg "is_barred" s_is_barred) (tFrame : T_Frame K mg cFrame) (c_brings_coin : Cal P w K mg base 1 "brings_coin" (spBrings K cFrame)) : Cal P w K mg base 2 "is_barred" (spBarred K cFrame) := by
  refine cal_of (N := ["frame", "row"]) (ps := ["frame", "row"]) D sc_is_barred (fun vs H Q E h => ?_) (fun _ _ _ _ _ _ us hl => bd2 (R := fun us => bindArgs _ ⟨us, []⟩ = pure (List.zip _ us)) (fun _ _ => rfl) us hl) (fun f cdv A outer s H vs Q E hr h => ?_)
  · obtain ⟨f, x, ws, p, w, n, b, rfl, _⟩ := h; rfl
  · obtain ⟨fr, x, ws, p, wd, n, b, rfl, F, hp, hb, k⟩ := h
    first | refine sp_gen fun zQ zq => ⟨_, (pss_one (ps_ret (pe_and (pe_fld (pv 0) rfl) (pe_one (pe_or (pe_cmpR op_in_seq (pe_ix ix_tup (pv 1) pe_int (fun _ _ => rfl)) (pe_tup (pa_cons pe_str (pa_cons pe_str pa_nil))) rfl) (pe_one (pe_cal c_brings_coin (hr.mono (by decide)) rfl (pa_cons (pv 0) (pa_cons (pv 1) pa_nil))))))))), zq _ _ ?_⟩ | refine ⟨_, (pss_one (ps_ret (pe_and (pe_fld (pv 0) rfl) (pe_one (pe_or (pe_cmpR op_in_seq (pe_ix ix_tup (pv 1) pe_int (fun _ _ => rfl)) (pe_tup (pa_cons pe_str (pa_cons pe_str pa_nil))) rfl) (pe_one (pe_cal c_brings_coin (hr.mono (by decide)) rfl (pa_cons (pv 0) (pa_cons (pv 1) pa_nil))))))))), ?_⟩
    try simp only [nox_K, nox_P, nox_w, nox_mg, nox_base, cxOf_K, cxOf_P, cxOf_w, cxOf_mg, cxOf_base]
    repeat walk_at "rw"
    refine rd_fldA F.ob tFrame.k.cl tFrame.n_looking rfl ?_
    unfold barB at k
    cases e : x.looking with
    | false =>
      rw [e] at k
      repeat walk_at "rw"
      exact k H (Same.refl H)
    | true =>
      rw [e] at k
      repeat walk_at "rw"
      refine ⟨by decide, fun q hq => ?_⟩
      have s1 : Same H (upd H q (.tup [.str "save", .str "note"])) := Same.new hq
      refine rd_inT (xs := ["save", "note"]) sqt_new ?_
      have F1 := F.same s1
      have hp1 : IsRow K _ p wd n := s1.tup hp
      generalize upd H q _ = H1 at s1 F1 hp1
      (revert H1 s1 F1 hp1; refine keepIt ?_; intro H1 s1 F1 hp1)
      cases e2 : inS wd ["save", "note"] with
      | true =>
        rw [e2] at k
        repeat walk_at "rw"
        exact k H1 s1
      | false =>
        rw [e2] at k
        repeat walk_at "rw"
        exact ⟨fr, x, ws, p, wd, n, b, rfl, F1, hp1, hb, k H1 s1⟩
theorem sc_end_ahead_of : FnScope ["rooms", "frame", "row"] ["rooms", "frame", "row"] (defScope s_end_ahead_of) := ⟨rfl, rfl, rfl, by decide +kernel, rfl, by decide +kernel, by decide +kernel⟩
theorem ok_end_ahead_of   {cFrame : Addr} (D : DefAt K mg "end_ahead_of" s_end_ahead_of) (tFrame : T_Frame K mg cFrame) (m_Frame_short_for : MCal P w K mg base 3 cFrame "short_for" (spShort K cFrame)) (m_Frame_full_behind : MCal P w K mg base 3 cFrame "full_behind" (spFull K cFrame)) (m_Frame_left : MCal P w K mg base 1 cFrame "left" (spLeft cFrame)) (c_is_barred : Cal P w K mg base 2 "is_barred" (spBarred K cFrame)) (c_row_price : Cal P w K mg base 3 "row_price" (spRowPrice K cAccount cFrame)) : Cal P w K mg base 4 "end_ahead_of" (spAhead K cAccount cFrame) := by
  refine cal_of (N := ["rooms", "frame", "row"]) (ps := ["rooms", "frame", "row"]) D sc_end_ahead_of (fun vs H Q E h => ?_) (fun _ _ _ _ _ _ us hl => bd3 (R := fun us => bindArgs _ ⟨us, []⟩ = pure (List.zip _ us)) (fun _ _ _ => rfl) us hl) (fun f cdv A outer s H vs Q E hr h => ?_)
  · obtain ⟨R, A, S, m, f, x, ws, p, w, n, e, rfl, _⟩ := h; rfl
  · obtain ⟨R, Ar, S, m, fr, x, ws, p, wd, n, e, rfl, r, F, hp, ⟨rr, t, l, pr, d, hr1, hr2, ha⟩, k⟩ := h
    refine ⟨_, (pss_cons (ps_if (pt_val (pe_mcal m_Frame_short_for (hr.mono (by decide)) (pv 1) (pa_cons (pv 2) pa_nil))) (pss_one (ps_ret pe_str)) pss_nil)
      (pss_cons (ps_if (pt_val (pe_mcal m_Frame_full_behind (hr.mono (by decide)) (pv 1) (pa_cons (pv 2) pa_nil))) (pss_one (ps_ret pe_str)) pss_nil)
      (pss_cons (ps_if (pt_val (pe_cal c_is_barred (hr.mono (by decide)) rfl (pa_cons (pv 1) (pa_cons (pv 2) pa_nil)))) (pss_one (ps_ret pe_str)) pss_nil)
      (pss_cons (ps_if (pt_cmpR op_gt (pe_cal c_row_price (hr.mono (by decide)) rfl (pa_cons (pv 0) (pa_cons (pv 1) (pa_cons (pv 2) pa_nil)))) (pe_mcal0 m_Frame_left (hr.mono (by decide)) (pv 1)) (nomark _)) (pss_one (ps_ret pe_str)) pss_nil)
      (pss_one (ps_ret pe_non)))))), ?_⟩
    try simp only [nox_K, nox_P, nox_w, nox_mg, nox_base, cxOf_K, cxOf_P, cxOf_w, cxOf_mg, cxOf_base]
    rcases ha with ⟨h1, rfl⟩ | ⟨h1, h2, rfl⟩ | ⟨h1, h2, b1, b2, hb1, hb2, ha⟩
    · skip
      repeat walk_at "rz"
      refine rd_methA F.ob rfl ?_
      repeat walk_at "rz"
      first | refine sp_gen fun zQ zq => ⟨fr, x, ws, p, wd, n, rr, t, l, pr, d, rfl, F, hp, hr1, hr2, zq _ _ ?_⟩ | refine ⟨fr, x, ws, p, wd, n, rr, t, l, pr, d, rfl, F, hp, hr1, hr2, ?_⟩
      repeat walk_at "rz"
      exact k H (Same.refl H)
    · skip
      repeat walk_at "rz"
      refine rd_methA F.ob rfl ?_
      repeat walk_at "rz"
      first | refine sp_gen fun zQ zq => ⟨fr, x, ws, p, wd, n, rr, t, l, pr, d, rfl, F, hp, hr1, hr2, zq _ _ ?_⟩ | refine ⟨fr, x, ws, p, wd, n, rr, t, l, pr, d, rfl, F, hp, hr1, hr2, ?_⟩
      repeat walk_at "rz"
      refine rd_methA F.ob rfl ?_
      repeat walk_at "rz"
      first | refine sp_gen fun zQ zq => ⟨fr, x, ws, p, wd, n, rr, t, l, pr, d, rfl, F, hp, hr1, hr2, zq _ _ ?_⟩ | refine ⟨fr, x, ws, p, wd, n, rr, t, l, pr, d, rfl, F, hp, hr1, hr2, ?_⟩
      repeat walk_at "rz"
      exact k H (Same.refl H)
    · skip
      repeat walk_at "rz"
      refine rd_methA F.ob rfl ?_
      repeat walk_at "rz"
      first | refine sp_gen fun zQ zq => ⟨fr, x, ws, p, wd, n, rr, t, l, pr, d, rfl, F, hp, hr1, hr2, zq _ _ ?_⟩ | refine ⟨fr, x, ws, p, wd, n, rr, t, l, pr, d, rfl, F, hp, hr1, hr2, ?_⟩
      repeat walk_at "rz"
      refine rd_methA F.ob rfl ?_
      repeat walk_at "rz"
      first | refine sp_gen fun zQ zq => ⟨fr, x, ws, p, wd, n, rr, t, l, pr, d, rfl, F, hp, hr1, hr2, zq _ _ ?_⟩ | refine ⟨fr, x, ws, p, wd, n, rr, t, l, pr, d, rfl, F, hp, hr1, hr2, ?_⟩
      repeat walk_at "rz"
      first | refine sp_gen fun zQ zq => ⟨fr, x, ws, p, wd, n, b1, rfl, F, hp, hb1, fun H1 s1 => zq _ _ ?_⟩ | refine ⟨fr, x, ws, p, wd, n, b1, rfl, F, hp, hb1, fun H1 s1 => ?_⟩
      have F1 := F.same s1
      have r1 := r.same s1
      have hp1 : IsRow K H1 p wd n := s1.tup hp
      rcases ha with ⟨hbar, rfl⟩ | ⟨hbar, hdr, rfl⟩ | ⟨hbar, hdr, rfl⟩
      · rw [hbar]
        repeat walk_at "rz"
        exact k H1 s1
      · skip
        rw [hbar]
        repeat walk_at "rz"
        first | refine sp_gen fun zQ zq => ⟨R, Ar, S, m, fr, x, ws, p, wd, n, b1, b2, t, l, pr, d, rfl, r1, F1, hp1, hb1, hb2, hr2, zq _ _ ?_⟩ | refine ⟨R, Ar, S, m, fr, x, ws, p, wd, n, b1, b2, t, l, pr, d, rfl, r1, F1, hp1, hb1, hb2, hr2, ?_⟩
        generalize (if (b1 || b2) = true then d else pr) = z at hdr ⊢
        (revert z hdr; refine keepIt ?_; intro z hdr)
        repeat walk_at "rz"
        refine rd_methA F1.ob rfl ?_
        first | refine sp_gen fun zQ zq => ⟨fr, x, ws, rfl, F1, zq _ _ ?_⟩ | refine ⟨fr, x, ws, rfl, F1, ?_⟩
        repeat walk_at "rz"
        exact k H1 s1
      · skip
        rw [hbar]
        repeat walk_at "rz"
        first | refine sp_gen fun zQ zq => ⟨R, Ar, S, m, fr, x, ws, p, wd, n, b1, b2, t, l, pr, d, rfl, r1, F1, hp1, hb1, hb2, hr2, zq _ _ ?_⟩ | refine ⟨R, Ar, S, m, fr, x, ws, p, wd, n, b1, b2, t, l, pr, d, rfl, r1, F1, hp1, hb1, hb2, hr2, ?_⟩
        generalize (if (b1 || b2) = true then d else pr) = z at hdr ⊢
        (revert z hdr; refine keepIt ?_; intro z hdr)
        repeat walk_at "rz"
        refine rd_methA F1.ob rfl ?_
        first | refine sp_gen fun zQ zq => ⟨fr, x, ws, rfl, F1, zq _ _ ?_⟩ | refine ⟨fr, x, ws, rfl, F1, ?_⟩
        repeat walk_at "rz"
        exact k H1 s1

end
end My

namespace My
open PySem L2
local macro_rules | `(tactic| walk_at "rw") => `(tactic| first
  | walk_at "rdk"
  | ((with_reducible refine' L2.rd_ixT ?h ?e ?_); (case h => assumption); (case e => exact My.row_at0))
  | fail)
local macro_rules | `(tactic| walk_at "rz") => `(tactic| first
  | ((with_reducible refine L2.rd_iteD (fun _ => ?_) (fun _ => ?_)) <;> (try (exfalso; omega)))
  | ((with_reducible refine L2.rd_iteND (fun _ => ?_) (fun _ => ?_)) <;> (try (exfalso; omega)))
  | ((with_reducible refine L2.rd_iteNND (fun _ => ?_) (fun _ => ?_)) <;> (try (exfalso; omega)))
  | walk_at "rw"
  | fail)

noncomputable def inF3 (f : FrI) (b : Addr) : Prop := b = f.a ∨ b = f.ST ∨ b = f.SS
theorem k_F3 {f : FrI} {H H' : Hp} (k : KeptX (inF f) H H') : KeptX (inF3 f) H H' := k.mono fun _ h => h.elim .inl fun z => .inr (.inl z)
noncomputable def pricedS (x : FrS) (c : Int) : FrS := { x with used := x.used + c, row := x.row + 1 }
noncomputable def spGoRow (K : PySem.W.Frag) (C cF : Addr) : Sp := fun vs H Q _ => ∃ (R : Addr) (vJ : V) (A : Nat → Option AcI) (S : Nat → AcS) (m : Nat) (f : FrI) (x x' : FrS) (ws : List V) (p : Addr) (w : Str) (n : Option Int) (b1 b2 : Bool) (t l pr d : Int) (D : RD), vs = [.ref R, vJ, .ref f.a, .ref p] ∧ Rooms K C H R A S m ∧ FrAt cF H f x ws ∧ IsRow K H p w n ∧ bringsR x w b1 ∧ fillsR A S x w b2 ∧ RT.lookup w = some (t, l, pr, d) ∧ inS w ["call", "borrow", "look"] = false ∧ RDL.lookup w = some D ∧ D (pricedS x (if (b1 || b2) = true then d else pr)) w n x' ∧ x.stack.length ≤ 900 ∧ ws.length ≤ 100000 ∧
  ∀ H', KeptX (inF3 f) H H' → FrAt cF H' f x' (ws ++ [.int x.row]) → Q .non H'
noncomputable def OnR (A : Nat → Option AcI) (S : Nat → AcS) (rows : List Row) (x x' : FrS) (add : List V) : Prop :=
  ((rows.length : Int) ≤ x.row ∧ x' = { x with fin := some ("well" : Str), answer := 0 } ∧ add = []) ∨ ∃ (i : Nat) (w : Str) (n : Option Int), x.row = (i : Int) ∧ rows[i]? = some (w, n) ∧
    ((∃ e, aheadR A S x w n (some e) ∧ x' = { x with fin := some e, answer := 0 } ∧ add = []) ∨
     (aheadR A S x w n none ∧ ∃ (b1 b2 : Bool) (t l pr d : Int) (D : RD), bringsR x w b1 ∧ fillsR A S x w b2 ∧ RT.lookup w = some (t, l, pr, d) ∧ inS w ["call", "borrow", "look"] = false ∧ RDL.lookup w = some D ∧ D (pricedS x (if (b1 || b2) = true then d else pr)) w n x' ∧ add = [.int x.row]))
noncomputable def spGoOn (K : PySem.W.Frag) (C cF : Addr) : Sp := fun vs H Q _ => ∃ (R : Addr) (vJ : V) (A : Nat → Option AcI) (S : Nat → AcS) (m : Nat) (f : FrI) (x x' : FrS) (ws add : List V) (i : Nat) (y : AcI), vs = [.ref R, vJ, .ref f.a] ∧ Rooms K C H R A S m ∧ FrAt cF H f x ws ∧ x.whose = (i : Int) ∧ i < 16 ∧ A i = some y ∧ OnR A S (S i).rows x x' add ∧ x.stack.length ≤ 900 ∧ ws.length ≤ 100000 ∧
  ∀ H', KeptX (inF3 f) H H' → FrAt cF H' f x' (ws ++ add) → Q .non H'

section
variable {P : Program} {w : World} {K : PySem.W.Frag} {mg : Str → Option Value} {base : Heap}
theorem sc_call_row : FnScope ["rooms", "journal", "frame", "row", "other", "end"] ["rooms", "journal", "frame", "row"] (defScope s_call_row) := ⟨rfl, rfl, rfl, by decide +kernel, rfl, by decide +kernel, by decide +kernel⟩
theorem ok_call_row (D : DefAt K mg "call_row" s_call_row) : Cal P w K mg base 1 "call_row" spNo :=
  cal_of (N := ["rooms", "journal", "frame", "row", "other", "end"]) (ps := ["rooms", "journal", "frame", "row"]) D sc_call_row (fun _ _ _ _ h => h.elim) (fun _ _ _ _ _ _ us hl => bd4 (R := fun us => bindArgs _ ⟨us, []⟩ = pure (List.zip _ us)) (fun _ _ _ _ => rfl) us hl) (fun _ _ _ _ _ _ _ _ _ _ h => h.elim)
theorem sc_go_row : FnScope ["rooms", "journal", "frame", "row"] ["rooms", "journal", "frame", "row"] (defScope s_go_row) := ⟨rfl, rfl, rfl, by decide +kernel, rfl, by decide +kernel, by decide +kernel⟩
theorem ok_go_row  {aC : Addr} (tC3 : TupK K aC ((["call", "borrow", "look"] : List Str).map V.str)) {cFrame : Addr} (D : DefAt K mg "go_row" s_go_row) (tFrame : T_Frame K mg cFrame) (c_row_price : Cal P w K mg base 3 "row_price" (spRowPrice K cAccount cFrame)) (c_call_row : Cal P w K mg base 1 "call_row" spNo) (c_do_row : Cal P w K mg base 5 "do_row" (spDoRow K cFrame)) (g_CALLING : GlobAt mg "CALLING" (.ref aC)) : Cal P w K mg base 6 "go_row" (spGoRow K cAccount cFrame) := by
  refine cal_of (N := ["rooms", "journal", "frame", "row"]) (ps := ["rooms", "journal", "frame", "row"]) D sc_go_row (fun vs H Q E h => ?_) (fun _ _ _ _ _ _ us hl => bd4 (R := fun us => bindArgs _ ⟨us, []⟩ = pure (List.zip _ us)) (fun _ _ _ _ => rfl) us hl) (fun f cdv A outer s H vs Q E hr h => ?_)
  · obtain ⟨R, vJ, A, S, m, f, x, x', ws, p, w, n, b1, b2, t, l, pr, d, D, rfl, _⟩ := h; rfl
  · obtain ⟨R, vJ, Ar, S, m, fr, x, x', ws, p, wd, n, b1, b2, t, l, pr, d, Do, rfl, r, F, hp, hb1, hb2, hT, hC, hD, hDx, hl, hw, k⟩ := h
    refine ⟨_, (pss_cons (ps_fldaug (pv 2) (pe_cal c_row_price (hr.mono (by decide)) rfl (pa_cons (pv 0) (pa_cons (pv 2) (pa_cons (pv 3) pa_nil)))) in_add)
      (pss_cons (ps_expr (pe_bm PySem.F.plainAttrs_list PySem.F.slot_list_append PySem.F.type_list_append mt_append (pe_fld (pv 2) rfl) (pa_cons (pe_fld (pv 2) rfl) pa_nil)))
      (pss_cons (ps_fldaug (pv 2) pe_int in_add)
      (pss_one (ps_if (pt_cmpR op_in_seq (pe_ix ix_tup (pv 3) pe_int (fun _ _ => rfl)) (pe_glA rfl g_CALLING) rfl) (pss_one (ps_expr (pe_cal c_call_row (hr.mono (by decide)) rfl (pa_cons (pv 0) (pa_cons (pv 1) (pa_cons (pv 2) (pa_cons (pv 3) pa_nil))))))) (pss_one (ps_expr (pe_cal c_do_row (hr.mono (by decide)) rfl (pa_cons (pv 0) (pa_cons (pv 1) (pa_cons (pv 2) (pa_cons (pv 3) pa_nil)))))))))))), ?_⟩
    try simp only [nox_K, nox_P, nox_w, nox_mg, nox_base, cxOf_K, cxOf_P, cxOf_w, cxOf_mg, cxOf_base]
    repeat walk_at "rw"
    refine rd_fldA2 F.ob tFrame.k.cl tFrame.n_used rfl ?_
    repeat walk_at "rw"
    first | refine sp_gen fun zQ zq => ⟨R, Ar, S, m, fr, x, ws, p, wd, n, b1, b2, t, l, pr, d, rfl, r, F, hp, hb1, hb2, hT, zq _ _ ?_⟩ | refine ⟨R, Ar, S, m, fr, x, ws, p, wd, n, b1, b2, t, l, pr, d, rfl, r, F, hp, hb1, hb2, hT, ?_⟩
    generalize (if (b1 || b2) = true then d else pr) = c at hDx ⊢
    (revert c hDx; refine keepIt ?_; intro c hDx)
    repeat walk_at "rw"
    refine ⟨fr.dx, _, F.ob, by show 15 < 1000; decide, ?_⟩
    have F1 := F.setF { x with used := x.used + c } rfl
    have e1 : putF "used" (.int (x.used + c)) (fldF fr x) = fldF fr { x with used := x.used + c } := rfl
    rw [e1]
    have k1 : KeptX (inF3 fr) H (upd H fr.a (.ins cFrame fr.dx (fldF fr { x with used := x.used + c }))) := KeptX.upd (.inl rfl)
    have hp1 : IsRow K (upd H fr.a (.ins cFrame fr.dx (fldF fr { x with used := x.used + c }))) p wd n := row_kept hp F (KeptX.upd (.inl rfl))
    generalize upd H fr.a _ = H1 at F1 k1 hp1
    (revert H1 F1 k1 hp1; refine keepIt ?_; intro H1 F1 k1 hp1)
    repeat walk_at "rw"
    refine rd_fldA F1.ob tFrame.k.cl tFrame.n_steps rfl ?_
    refine ⟨ty_list (sql_of F1.ss), ?_⟩
    repeat walk_at "rw"
    refine rd_fldA F1.ob tFrame.k.cl tFrame.n_row rfl ?_
    repeat walk_at "rw"
    refine rd_append F1.ss (Nat.lt_of_le_of_lt hw (by decide)) ?_
    have F2 := F1.setSS (ws ++ [.int x.row])
    have k2 : KeptX (inF3 fr) H (upd H1 fr.SS (.lst (ws ++ [.int x.row]))) := k1.trans (KeptX.upd (.inr (.inr rfl)))
    have hp2 : IsRow K (upd H1 fr.SS (.lst (ws ++ [.int x.row]))) p wd n := (SameI.upd F1.ss notImm_lst).tup hp1
    generalize upd H1 fr.SS _ = H2 at F2 k2 hp2
    (revert H2 F2 k2 hp2; refine keepIt ?_; intro H2 F2 k2 hp2)
    repeat walk_at "rw"
    refine rd_fldA2 F2.ob tFrame.k.cl tFrame.n_row rfl ?_
    repeat walk_at "rw"
    refine ⟨fr.dx, _, F2.ob, by show 15 < 1000; decide, ?_⟩
    have F3 := F2.setF (pricedS x c) rfl
    have e3 : putF "row" (.int (x.row + 1)) (fldF fr { x with used := x.used + c }) = fldF fr (pricedS x c) := rfl
    rw [e3]
    have k3 : KeptX (inF3 fr) H (upd H2 fr.a (.ins cFrame fr.dx (fldF fr (pricedS x c)))) := k2.trans (KeptX.upd (.inl rfl))
    have hp3 : IsRow K (upd H2 fr.a (.ins cFrame fr.dx (fldF fr (pricedS x c)))) p wd n := row_kept hp2 F2 (KeptX.upd (.inl rfl))
    generalize upd H2 fr.a _ = H3 at F3 k3 hp3
    (revert H3 F3 k3 hp3; refine keepIt ?_; intro H3 F3 k3 hp3)
    repeat walk_at "rw"
    refine rd_inT (tC3.sqt H3) ?_
    rw [hC]
    repeat walk_at "rw"
    first | refine sp_gen fun zQ zq => ⟨.ref R, vJ, fr, _, x', _, p, wd, n, Do, rfl, F3, hp3, hD, hDx, hl, fun H4 k4 F4 => zq _ _ ?_⟩ | refine ⟨.ref R, vJ, fr, _, x', _, p, wd, n, Do, rfl, F3, hp3, hD, hDx, hl, fun H4 k4 F4 => ?_⟩
    repeat walk_at "rw"
    exact k H4 (k3.trans (k_F3 k4)) F4
theorem sc_go_on : FnScope ["rooms", "journal", "frame", "program", "row", "end"] ["rooms", "journal", "frame"] (defScope s_go_on) := ⟨rfl, rfl, rfl, by decide +kernel, rfl, by decide +kernel, by decide +kernel⟩
theorem ok_go_on   {cAccount : Addr} {cFrame : Addr} (D : DefAt K mg "go_on" s_go_on) (tAccount : T_Account K mg cAccount) (tFrame : T_Frame K mg cFrame) (m_Frame_finish : MCal P w K mg base 1 cFrame "finish" (spFinish cFrame)) (c_end_ahead_of : Cal P w K mg base 4 "end_ahead_of" (spAhead K cAccount cFrame)) (c_go_row : Cal P w K mg base 6 "go_row" (spGoRow K cAccount cFrame)) (n_len : mg "len" = none) : Cal P w K mg base 7 "go_on" (spGoOn K cAccount cFrame) := by
  refine cal_of (N := ["rooms", "journal", "frame", "program", "row", "end"]) (ps := ["rooms", "journal", "frame"]) D sc_go_on (fun vs H Q E h => ?_) (fun _ _ _ _ _ _ us hl => bd3 (R := fun us => bindArgs _ ⟨us, []⟩ = pure (List.zip _ us)) (fun _ _ _ => rfl) us hl) (fun f cdv A outer s H vs Q E hr h => ?_)
  · obtain ⟨R, vJ, A, S, m, f, x, x', ws, add, i, y, rfl, _⟩ := h; rfl
  · obtain ⟨R, vJ, Ar, S, m, fr, x, x', ws, add, iw, y, rfl, r, F, ew, hi, hy, ho, hl, hw, k⟩ := h
    refine ⟨_, (pss_cons (ps_set (i := 3) sc_go_on.nd rfl (by first | exact Or.inl rfl | exact Or.inr rfl) (pe_fld (pe_ix ix_list (pv 0) (pe_fld (pv 2) rfl) (fun _ _ => rfl)) rfl))
      (pss_cons (ps_if (pt_cmpR op_ge (pe_fld (pv 2) rfl) (pe_callB cn_len rfl n_len PySem.boot_len (pa_cons (pv 3) pa_nil)) (nomark _)) (pss_cons (ps_expr (pe_mcal m_Frame_finish (hr.mono (by decide)) (pv 2) (pa_cons pe_str (pa_cons pe_int pa_nil))))
      (pss_one ps_retN)) pss_nil)
      (pss_cons (ps_set (i := 4) sc_go_on.nd rfl (by first | exact Or.inl rfl | exact Or.inr rfl) (pe_ix ix_list (pv 3) (pe_fld (pv 2) rfl) (fun _ _ => rfl)))
      (pss_cons (ps_set (i := 5) sc_go_on.nd rfl (by first | exact Or.inl rfl | exact Or.inr rfl) (pe_cal c_end_ahead_of (hr.mono (by decide)) rfl (pa_cons (pv 0) (pa_cons (pv 2) (pa_cons (pv 4) pa_nil)))))
      (pss_one (ps_if (pt_cmpR op_isNn (pv 5) pe_non (nomark _)) (pss_one (ps_expr (pe_cal c_go_row (hr.mono (by decide)) rfl (pa_cons (pv 0) (pa_cons (pv 1) (pa_cons (pv 2) (pa_cons (pv 4) pa_nil))))))) (pss_one (ps_expr (pe_mcal m_Frame_finish (hr.mono (by decide)) (pv 2) (pa_cons (pv 5) (pa_cons pe_int pa_nil))))))))))), ?_⟩
    try simp only [nox_K, nox_P, nox_w, nox_mg, nox_base, cxOf_K, cxOf_P, cxOf_w, cxOf_mg, cxOf_base]
    have ay := r.ac iw y hi hy
    obtain ⟨xs, hx1, hx2⟩ := ay.pg
    have hlen := hx2.1
    repeat walk_at "rw"
    refine rd_fldA F.ob tFrame.k.cl tFrame.n_whose rfl ?_
    rw [ew]
    refine rd_ixL (sql_of r.ob) (r.at hi hy) ?_
    refine rd_fldA ay.ob tAccount.k.cl tAccount.n_program rfl ?_
    repeat walk_at "rw"
    refine rd_fldA F.ob tFrame.k.cl tFrame.n_row rfl ?_
    rcases ho with ⟨h1, rfl, rfl⟩ | ⟨i, wd, n, er, hrow, ho⟩
    · repeat walk_at "rz"
      refine rd_methA F.ob rfl ?_
      repeat walk_at "rw"
      first | refine sp_gen fun zQ zq => ⟨fr, x, ws, "well", 0, rfl, F, fun H1 k1 F1 => zq _ _ ?_⟩ | refine ⟨fr, x, ws, "well", 0, rfl, F, fun H1 k1 F1 => ?_⟩
      repeat walk_at "rw"
      rw [List.append_nil] at k
      exact k H1 (k1.mono fun _ h => .inl h) F1
    · have hil : i < (S iw).rows.length := (List.getElem?_eq_some_iff.mp hrow).1
      obtain ⟨pt, ep, hpt⟩ := hx2.2 i _ _ hrow (List.getElem?_eq_getElem (by rw [← hlen]; exact hil))
      have exi : atI xs x.row = some (.ref pt) := atI_nat' (i := i) (by rw [List.getElem?_eq_getElem (by rw [← hlen]; exact hil), ep]) er
      have hp : IsRow K H pt wd n := hpt
      repeat walk_at "rz"
      refine rd_fldA F.ob tFrame.k.cl tFrame.n_row rfl ?_
      refine rd_ixL (sql_of hx1) exi ?_
      repeat walk_at "rw"
      rcases ho with ⟨e, ha, rfl, rfl⟩ | ⟨ha, b1, b2, t, l, pr, d, Do, hb1, hb2, hT, hC, hD, hDx, rfl⟩
      · first | refine sp_gen fun zQ zq => ⟨R, Ar, S, m, fr, x, ws, pt, wd, n, some e, rfl, r, F, hp, ha, fun H1 s1 => zq _ _ ?_⟩ | refine ⟨R, Ar, S, m, fr, x, ws, pt, wd, n, some e, rfl, r, F, hp, ha, fun H1 s1 => ?_⟩
        have F1 := F.same s1
        rw [show endV (some e) = V.str e from rfl]
        repeat walk_at "rw"
        first | refine sp_gen fun zQ zq => ⟨rfl, zq _ _ ?_⟩ | refine ⟨rfl, ?_⟩
        rw [decide_eq_false (show ¬ V.str e = V.non by intro z; cases z)]
        repeat walk_at "rw"
        refine rd_methA F1.ob rfl ?_
        repeat walk_at "rw"
        first | refine sp_gen fun zQ zq => ⟨fr, x, ws, e, 0, rfl, F1, fun H2 k2 F2 => zq _ _ ?_⟩ | refine ⟨fr, x, ws, e, 0, rfl, F1, fun H2 k2 F2 => ?_⟩
        repeat walk_at "rw"
        rw [List.append_nil] at k
        exact k H2 (s1.keptX.trans (k2.mono fun _ h => .inl h)) F2
      · first | refine sp_gen fun zQ zq => ⟨R, Ar, S, m, fr, x, ws, pt, wd, n, none, rfl, r, F, hp, ha, fun H1 s1 => zq _ _ ?_⟩ | refine ⟨R, Ar, S, m, fr, x, ws, pt, wd, n, none, rfl, r, F, hp, ha, fun H1 s1 => ?_⟩
        have F1 := F.same s1
        have r1 := r.same s1
        have hp1 : IsRow K H1 pt wd n := s1.tup hp
        rw [show endV none = V.non from rfl]
        repeat walk_at "rw"
        first | refine sp_gen fun zQ zq => ⟨R, vJ, Ar, S, m, fr, x, x', ws, pt, wd, n, b1, b2, t, l, pr, d, Do, rfl, r1, F1, hp1, hb1, hb2, hT, hC, hD, hDx, hl, hw, fun H2 k2 F2 => zq _ _ ?_⟩ | refine ⟨R, vJ, Ar, S, m, fr, x, x', ws, pt, wd, n, b1, b2, t, l, pr, d, Do, rfl, r1, F1, hp1, hb1, hb2, hT, hC, hD, hDx, hl, hw, fun H2 k2 F2 => ?_⟩
        repeat walk_at "rw"
        exact k H2 (s1.keptX.trans k2) F2

end
end My

namespace My
open PySem L2
local macro_rules | `(tactic| walk_at "rw") => `(tactic| first
  | walk_at "rdk"
  | ((with_reducible refine' L2.rd_ixT ?h ?e ?_); (case h => assumption); (case e => exact My.row_at0))
  | fail)
local macro_rules | `(tactic| walk_at "rz") => `(tactic| first
  | ((with_reducible refine L2.rd_iteD (fun _ => ?_) (fun _ => ?_)) <;> (try (exfalso; omega)))
  | ((with_reducible refine L2.rd_iteND (fun _ => ?_) (fun _ => ?_)) <;> (try (exfalso; omega)))
  | ((with_reducible refine L2.rd_iteNND (fun _ => ?_) (fun _ => ?_)) <;> (try (exfalso; omega)))
  | walk_at "rw"
  | fail)

structure Ap (R L : Addr) (A : Nat → Option AcI) (f : FrI) : Prop where
  tR : f.ST ≠ R
  sR : f.SS ≠ R
  tL : f.ST ≠ L
  sL : f.SS ≠ L
  p : ∀ i y, i < 16 → A i = some y → f.ST ≠ y.pr ∧ f.SS ≠ y.pr
noncomputable def goX (A : Nat → Option AcI) (L : Addr) (f : FrI) (b : Addr) : Prop := ¬ Out A b ∨ b = L ∨ inF3 f b
section
variable {K : PySem.W.Frag} {C cJ cS cM cN cF : Addr} {H H' : Hp} {j dx R L : Addr} {A : Nat → Option AcI} {S : Nat → AcS} {m : Nat} {es : List DI} {f : FrI} {x : FrS} {ws : List V}
theorem k_goX (k : KeptX (inF3 f) H H') : KeptX (goX A L f) H H' := k.mono fun _ h => .inr (.inr h)
theorem k_outX (k : ∀ b, Out A b → b ≠ L → H' b = H b) : KeptX (goX A L f) H H' := fun b o e n => by
  have h1 : Out A b := Classical.byContradiction fun z => n (.inl z)
  have h2 : b ≠ L := fun z => n (.inr (.inl z))
  rw [k b h1 h2]; exact e
theorem imm_F3 (F : FrAt cF H f x ws) (k : KeptX (inF3 f) H H') : SameI H H' := k.imm fun b o z e i => by
  rcases z with rfl | rfl | rfl
  · rw [F.ob] at e; cases e; exact notImm_ins i
  · rw [F.st] at e; cases e; exact notImm_lst i
  · rw [F.ss] at e; cases e; exact notImm_lst i
theorem not_F3_ins (F : FrAt cF H f x ws) {b C' dx' : Addr} {fs : List (Str × V)} (h : H b = some (.ins C' dx' fs)) (n : fs.length ≠ 15) : ¬ inF3 f b := by
  rintro (z | z | z)
  · exact ins_ne h F.ob n z
  · exact ne_of h F.st (by intro z; cases z) z
  · exact ne_of h F.ss (by intro z; cases z) z
theorem not_F3_dK (F : FrAt cF H f x ws) {b : Addr} {kvs : List (Key × V)} (h : H b = some (.dK kvs)) : ¬ inF3 f b := by
  rintro (z | z | z)
  · exact ne_of h F.ob (by intro z; cases z) z
  · exact ne_of h F.st (by intro z; cases z) z
  · exact ne_of h F.ss (by intro z; cases z) z
theorem not_F3_lst (F : FrAt cF H f x ws) {b : Addr} {xs : List V} (h : H b = some (.lst xs)) (n1 : f.ST ≠ b) (n2 : f.SS ≠ b) : ¬ inF3 f b := by
  rintro (z | z | z)
  · exact ne_of h F.ob (by intro z; cases z) z
  · exact n1 z.symm
  · exact n2 z.symm
theorem Rooms.frame (r : Rooms K C H R A S m) (F : FrAt cF H f x ws) (a : Ap R L A f) (k : KeptX (inF3 f) H H') : Rooms K C H' R A S m := by
  have im := imm_F3 F k
  refine ⟨k _ _ r.ob (not_F3_lst F r.ob a.tR a.sR), fun i y hi hy => ?_, r.da, r.ds⟩
  have h := r.ac i y hi hy
  obtain ⟨zs, e1, e2⟩ := h.pg
  obtain ⟨kvs, e3, e4⟩ := h.sto
  exact ⟨k _ _ h.ob (not_F3_ins F h.ob (by show 5 ≠ 15; decide)), ⟨zs, k _ _ e1 (not_F3_lst F e1 (a.p i y hi hy).1 (a.p i y hi hy).2), e2.keep im⟩, kvs, k _ _ e3 (not_F3_dK F e3), e4⟩
theorem Jr.frame (J : Jr cJ cS cM cN H j dx R L A es) (F : FrAt cF H f x ws) (a : Ap R L A f) (k : KeptX (inF3 f) H H') : Jr cJ cS cM cN H' j dx R L A es :=
  ⟨k _ _ J.ob (not_F3_ins F J.ob (by show 2 ≠ 15; decide)), k _ _ J.li (not_F3_lst F J.li a.tL a.sL), fun e he => ⟨k _ _ (J.de e he).1 (not_F3_ins F (J.de e he).1 (by have := fldD_len e.d; omega)), (J.de e he).2⟩, J.nR, J.np⟩
theorem FrAt.out (F : FrAt cF H f x ws) (r : Rooms K C H R A S m) (a : Ap R L A f) (lL : H L = some (.lst (es.map fun e => V.ref e.o))) (k : ∀ b, Out A b → b ≠ L → H' b = H b) : FrAt cF H' f x ws := by
  have oa : Out A f.a := fun i y hi hy => ⟨ins_ne F.ob (r.ac i y hi hy).ob (by show 15 ≠ 5; decide), let ⟨_, g, _⟩ := (r.ac i y hi hy).sto; ne_of F.ob g (by intro z; cases z)⟩
  exact ⟨by rw [k _ oa (ne_of F.ob lL (by intro z; cases z))]; exact F.ob, by rw [k _ (r.outL F.st) a.tL]; exact F.st, by rw [k _ (r.outL F.ss) a.sL]; exact F.ss, F.ne⟩
end
noncomputable def spWriteStep (K : PySem.W.Frag) (C cJ cS cM cN cF : Addr) : Sp := fun vs H Q _ => ∃ (j dx R L : Addr) (A : Nat → Option AcI) (S : Nat → AcS) (m : Nat) (es : List DI) (e : DI) (f : FrI) (x : FrS) (ws : List V), vs = [.ref j, .ref f.a, .ref e.o] ∧ Jr cJ cS cM cN H j dx R L A es ∧ Rooms K C H R A S m ∧ H e.o = some (.ins (clsD cS cM cN e.d) e.dx (fldD e.d)) ∧ fitsD A e.d ∧ m ≤ 1000000 ∧ es.length < 1000000 ∧ FrAt cF H f x ws ∧ Ap R L A f ∧ ws.length ≤ 100000 ∧
  ∀ t H', H t = none → KeptX (goX A L f) H H' → Rooms K C H' R A (doneS S e.d) (m + 1) → Jr cJ cS cM cN H' j dx R L A (es ++ [e]) → FrAt cF H' f x (ws ++ [.ref t]) → H' t = some (.tup (tellV e.d)) → Q .non H'

section
variable {P : Program} {w : World} {K : PySem.W.Frag} {mg : Str → Option Value} {base : Heap}
theorem sc_write_step : FnScope ["journal", "frame", "deed"] ["journal", "frame", "deed"] (defScope s_write_step) := ⟨rfl, rfl, rfl, by decide +kernel, rfl, by decide +kernel, by decide +kernel⟩
theorem ok_write_step   {cJournal : Addr} {cFrame : Addr} {cSave : Addr} {cMove : Addr} {cNote : Addr} (D : DefAt K mg "write_step" s_write_step) (tJournal : T_Journal K mg cJournal) (tFrame : T_Frame K mg cFrame) (tSave : T_Save K mg cSave) (tMove : T_Move K mg cMove) (tNote : T_Note K mg cNote) (m_Journal_write : MCal P w K mg base 3 cJournal "write" (spWrite K cAccount cJournal cSave cMove cNote)) (m_Save_told : MCal P w K mg base 1 cSave "told" (spTold cSave isSave)) (m_Move_told : MCal P w K mg base 1 cMove "told" (spTold cMove isMove)) (m_Note_told : MCal P w K mg base 1 cNote "told" (spTold cNote isNote)) : Cal P w K mg base 4 "write_step" (spWriteStep K cAccount cJournal cSave cMove cNote cFrame) := by
  refine cal_of (N := ["journal", "frame", "deed"]) (ps := ["journal", "frame", "deed"]) D sc_write_step (fun vs H Q E h => ?_) (fun _ _ _ _ _ _ us hl => bd3 (R := fun us => bindArgs _ ⟨us, []⟩ = pure (List.zip _ us)) (fun _ _ _ => rfl) us hl) (fun f cdv A outer s H vs Q E hr h => ?_)
  · obtain ⟨j, dx, R, L, A, S, m, es, e, f, x, ws, rfl, _⟩ := h; rfl
  · obtain ⟨j, dx, R, L, Ar, S, m, es, e, fr, x, ws, rfl, J, r, he, fit, hm, hel, F, ap, hw, k⟩ := h
    refine ⟨_, (pss_cons (ps_expr (pe_mcal m_Journal_write (hr.mono (by decide)) (pv 0) (pa_cons (pv 2) pa_nil)))
      (pss_one (ps_expr (pe_bm PySem.F.plainAttrs_list PySem.F.slot_list_append PySem.F.type_list_append mt_append (pe_fld (pv 1) rfl) (pa_cons (pe_methD0 (T := TTo cSave cMove cNote) (t3_ok m_Save_told m_Move_told m_Note_told) (hr.mono (by decide)) (pv 2)) pa_nil))))), ?_⟩
    try simp only [nox_K, nox_P, nox_w, nox_mg, nox_base, cxOf_K, cxOf_P, cxOf_w, cxOf_mg, cxOf_base]
    repeat walk_at "rdk"
    refine rd_methA J.ob rfl ?_
    repeat walk_at "rdk"
    first | refine sp_gen fun zQ zq => ⟨j, dx, R, L, Ar, S, m, es, e, rfl, J, r, he, fit, hm, hel, fun H1 k1 r1 J1 => zq _ _ ?_⟩ | refine ⟨j, dx, R, L, Ar, S, m, es, e, rfl, J, r, he, fit, hm, hel, fun H1 k1 r1 J1 => ?_⟩
    have F1 := F.out r ap J.li k1
    have he1 := (J1.de e (List.mem_append.mpr (.inr (List.mem_singleton.mpr rfl)))).1
    repeat walk_at "rdk"
    refine rd_fldA F1.ob tFrame.k.cl tFrame.n_steps rfl ?_
    refine ⟨ty_list (sql_of F1.ss), ?_⟩
    repeat walk_at "rdk"
    refine rd_methD ?_
    repeat walk_at "rdk"
    first | refine sp_gen fun zQ zq => ⟨e.o, clsD cSave cMove cNote e.d, e.dx, fldD e.d, _, rfl, he1, fld_told e.d, tto_of cSave cMove cNote e.d, zq _ _ ?_⟩ | refine ⟨e.o, clsD cSave cMove cNote e.d, e.dx, fldD e.d, _, rfl, he1, fld_told e.d, tto_of cSave cMove cNote e.d, ?_⟩
    repeat walk_at "rdk"
    first | refine sp_gen fun zQ zq => ⟨e.o, e.dx, e.d, rfl, okOf_self e.d, he1, fun t ht => zq _ _ ?_⟩ | refine ⟨e.o, e.dx, e.d, rfl, okOf_self e.d, he1, fun t ht => ?_⟩
    have s1 : Same H1 (upd H1 t (.tup (tellV e.d))) := Same.new ht
    have r2 := r1.same s1
    have J2 := J1.same s1
    have F2 := F1.same s1
    have k2 : KeptX (goX Ar L fr) H (upd H1 t (.tup (tellV e.d))) := (k_outX k1).trans s1.keptX
    have et : (upd H1 t (.tup (tellV e.d))) t = some (.tup (tellV e.d)) := upd_same
    have htH : H t = none := by
      cases z : H t with
      | none => rfl
      | some o =>
        exfalso
        by_cases q : Out Ar t ∧ t ≠ L
        · rw [k1 t q.1 q.2, z] at ht; cases ht
        · by_cases q2 : t = L
          · rw [q2, J1.li] at ht; cases ht
          · refine q ⟨fun i y hi hy => ⟨?_, ?_⟩, q2⟩
            · intro z2; rw [z2, (r1.ac i y hi hy).ob] at ht; cases ht
            · intro z2; obtain ⟨kv, g1, _⟩ := (r1.ac i y hi hy).sto; rw [z2, g1] at ht; cases ht
    generalize upd H1 t _ = H2 at s1 r2 J2 F2 k2 et
    (revert H2 s1 r2 J2 F2 k2 et; refine keepIt ?_; intro H2 s1 r2 J2 F2 k2 et)
    repeat walk_at "rdk"
    refine rd_append F2.ss (Nat.lt_of_le_of_lt hw (by decide)) ?_
    repeat walk_at "rdk"
    have k3 : KeptX (inF3 fr) H2 (upd H2 fr.SS (.lst (ws ++ [.ref t]))) := KeptX.upd (.inr (.inr rfl))
    exact k t _ htH (k2.trans (k_goX k3)) (r2.frame F2 ap k3) (J2.frame F2 ap k3) (F2.setSS _) (by rw [upd_ne (ne_of et F2.ss (by intro z; cases z))]; exact et)

end
end My

namespace My
open PySem L2
local macro_rules | `(tactic| walk_at "rw") => `(tactic| first
  | walk_at "rdk"
  | ((with_reducible refine' L2.rd_ixT ?h ?e ?_); (case h => assumption); (case e => exact My.row_at0))
  | fail)
local macro_rules | `(tactic| walk_at "rz") => `(tactic| first
  | ((with_reducible refine L2.rd_iteD (fun _ => ?_) (fun _ => ?_)) <;> (try (exfalso; omega)))
  | ((with_reducible refine L2.rd_iteND (fun _ => ?_) (fun _ => ?_)) <;> (try (exfalso; omega)))
  | ((with_reducible refine L2.rd_iteNND (fun _ => ?_) (fun _ => ?_)) <;> (try (exfalso; omega)))
  | walk_at "rw"
  | fail)

inductive RunR (A : Nat → Option AcI) (S : Nat → AcS) (rows : List Row) : Nat → FrS → FrS → List V → Prop
  | done {x : FrS} (h : x.fin ≠ none) : RunR A S rows 0 x x []
  | step {n : Nat} {x x' y : FrS} {add vs : List V} (h : x.fin = none) (o : OnR A S rows x x' add) (l : x.stack.length ≤ 900) (e : x'.whose = x.whose) (q : RunR A S rows n x' y vs) : RunR A S rows (n + 1) x y (add ++ vs)
theorem OnR.len {A : Nat → Option AcI} {S : Nat → AcS} {rows : List Row} {x x' : FrS} {add : List V} (o : OnR A S rows x x' add) : add.length ≤ 1 := by
  rcases o with ⟨_, _, rfl⟩ | ⟨_, _, _, _, _, ⟨_, _, _, rfl⟩ | ⟨_, _, _, _, _, _, _, _, _, _, _, _, _, _, rfl⟩⟩
  · exact Nat.zero_le _
  · exact Nat.zero_le _
  · exact Nat.le_refl _
noncomputable def mvD (x : FrS) : Option Dd := if x.kind = "call" ∧ 0 < x.coin then some (.move x.caller x.who x.coin) else none
noncomputable def movedS (S : Nat → AcS) (x : FrS) : Nat → AcS := match mvD x with
  | some d => doneS S d
  | none => S
noncomputable def Brought (x : FrS) (es es1 : List DI) (pre : List V) (H' : Hp) : Prop := (mvD x = none ∧ es1 = es ∧ pre = []) ∨ ∃ d e t, mvD x = some d ∧ e.d = d ∧ es1 = es ++ [e] ∧ pre = [.ref t] ∧ H' t = some (.tup (tellV d))
noncomputable def spGo (K : PySem.W.Frag) (C cJ cS cM cN cF : Addr) : Sp := fun vs H Q _ => ∃ (j dx R L : Addr) (A : Nat → Option AcI) (S0 : Nat → AcS) (m : Nat) (es : List DI) (f : FrI) (x y : FrS) (ws adds : List V) (n i : Nat) (ac : AcI), vs = [.ref R, .ref j, .ref f.a] ∧ Jr cJ cS cM cN H j dx R L A es ∧ Rooms K C H R A (runS S0 (es.map (·.d))) m ∧ rightAll S0 (es.map (·.d)) ∧ m + es.length ≤ 10000 ∧ FrAt cF H f x ws ∧ Ap R L A f ∧ x.fin = none ∧ (∀ d, mvD x = some d → fitsD A d) ∧ x.whose = (i : Int) ∧ i < 16 ∧ A i = some ac ∧
  RunR A (movedS (runS S0 (es.map (·.d))) x) (movedS (runS S0 (es.map (·.d))) x i).rows n x y adds ∧ n + ws.length ≤ 90000 ∧
  ∀ H' es1 pre, Brought x es es1 pre H' → KeptX (goX A L f) H H' → Rooms K C H' R A (runS S0 ((if y.fin = some ("well" : Str) then es1 else es).map (·.d))) (m + es.length + 2) → rightAll S0 ((if y.fin = some ("well" : Str) then es1 else es).map (·.d)) → Jr cJ cS cM cN H' j dx R L A (if y.fin = some ("well" : Str) then es1 else es) → FrAt cF H' f y (ws ++ pre ++ adds) → Q .non H'
theorem RunR.fin {A : Nat → Option AcI} {S : Nat → AcS} {rows : List Row} : ∀ {n : Nat} {x y : FrS} {vs : List V}, RunR A S rows n x y vs → ∃ e, y.fin = some e
  | _, _, _, _, .done h => by
    rename_i x
    cases e : x.fin with
    | none => exact absurd e h
    | some e' => exact ⟨e', rfl⟩
  | _, _, _, _, .step _ _ _ _ q => q.fin
theorem Brought.keep {x : FrS} {es es1 : List DI} {pre : List V} {H H' : Hp} (b : Brought x es es1 pre H) (s : SameI H H') : Brought x es es1 pre H' := by
  rcases b with h | ⟨d, e, t, h1, h2, h3, h4, h5⟩
  · exact .inl h
  · exact .inr ⟨d, e, t, h1, h2, h3, h4, s _ _ h5 (.inl ⟨_, rfl⟩)⟩
theorem Brought.run {x : FrS} {es es1 : List DI} {pre : List V} {H : Hp} {S0 : Nat → AcS} (b : Brought x es es1 pre H) (ri : rightAll S0 (es.map (·.d))) : movedS (runS S0 (es.map (·.d))) x = runS S0 (es1.map (·.d)) ∧ rightAll S0 (es1.map (·.d)) := by
  unfold movedS
  rcases b with ⟨h1, rfl, _⟩ | ⟨d, e, t, h1, rfl, rfl, h4, h5⟩
  · rw [h1]; exact ⟨rfl, ri⟩
  · rw [h1, List.map_append]
    refine ⟨(runS_snoc _ _ _).symm, (rightAll_snoc _ _ _).mpr ⟨ri, ?_⟩⟩
    unfold mvD at h1
    split at h1
    · have hd := Option.some.inj h1
      show rightD _ e.d
      rw [← hd]
      trivial
    · cases h1
theorem Brought.len {x : FrS} {es es1 : List DI} {pre : List V} {H : Hp} (b : Brought x es es1 pre H) : es1.length ≤ es.length + 1 ∧ pre.length ≤ 1 ∧ es1.take es.length = es := by
  rcases b with ⟨_, rfl, rfl⟩ | ⟨d, e, t, _, _, rfl, rfl, _⟩
  · exact ⟨Nat.le_succ _, Nat.zero_le _, List.take_length⟩
  · exact ⟨by rw [List.length_append]; exact Nat.le_refl _, Nat.le_refl _, by rw [List.take_left]⟩
theorem out_imm {K : PySem.W.Frag} {C : Addr} {H H' : Hp} {R L : Addr} {A : Nat → Option AcI} {S : Nat → AcS} {m : Nat} {xs : List V} (r : Rooms K C H R A S m) (hL : H L = some (.lst xs)) (k : ∀ b, Out A b → b ≠ L → H' b = H b) : SameI H H' := fun b u e i => by
  have h1 : b ≠ L := fun z => by rw [z, hL] at e; cases e; exact notImm_lst i
  have h2 : Out A b := fun n y hn hy => ⟨fun z => by rw [z, (r.ac n y hn hy).ob] at e; cases e; exact notImm_ins i, fun z => by
    obtain ⟨kv, g1, _⟩ := (r.ac n y hn hy).sto
    rw [z, g1] at e; cases e; exact notImm_dK i⟩
  rw [k b h2 h1]; exact e

section
variable {P : Program} {w : World} {K : PySem.W.Frag} {mg : Str → Option Value} {base : Heap}
theorem sc_go : FnScope ["rooms", "journal", "frame", "mark"] ["rooms", "journal", "frame"] (defScope s_go) := ⟨rfl, rfl, rfl, by decide +kernel, rfl, by decide +kernel, by decide +kernel⟩
theorem ok_go   {cJournal : Addr} {cFrame : Addr} {cMove : Addr} (D : DefAt K mg "go" s_go) (tJournal : T_Journal K mg cJournal) (tFrame : T_Frame K mg cFrame) (tMove : T_Move K mg cMove) (m_Journal_mark : MCal P w K mg base 1 cJournal "mark" (spMark cJournal)) (i_Move : ICal P w K mg base 1 "Move" cMove (spInitMv cMove)) (m_Journal_back : MCal P w K mg base 3 cJournal "back" (spBack K cAccount cJournal cSave cMove cNote)) (c_write_step : Cal P w K mg base 4 "write_step" (spWriteStep K cAccount cJournal cSave cMove cNote cFrame)) (c_go_on : Cal P w K mg base 7 "go_on" (spGoOn K cAccount cFrame)) : Cal P w K mg base 8 "go" (spGo K cAccount cJournal cSave cMove cNote cFrame) := by
  refine cal_of (N := ["rooms", "journal", "frame", "mark"]) (ps := ["rooms", "journal", "frame"]) D sc_go (fun vs H Q E h => ?_) (fun _ _ _ _ _ _ us hl => bd3 (R := fun us => bindArgs _ ⟨us, []⟩ = pure (List.zip _ us)) (fun _ _ _ => rfl) us hl) (fun f cdv A outer s H vs Q E hr h => ?_)
  · obtain ⟨j, dx, R, L, A, S0, m, es, f, x, y, ws, adds, n, i, ac, rfl, _⟩ := h; rfl
  · obtain ⟨j, dx, R, L, Ar, S0, m, es, fr, x, y, ws, adds, n, iw, ac, rfl, J, r, ri, hm, F, ap, hfin, hfit, ew, hi, hac, hrun, hnw, k⟩ := h
    refine ⟨_, (pss_cons (ps_set (i := 3) sc_go.nd rfl (by first | exact Or.inl rfl | exact Or.inr rfl) (pe_mcal0 m_Journal_mark (hr.mono (by decide)) (pv 1)))
      (pss_cons (ps_cut (ps_if (PW.pt (pw_and (pt_cmpR op_eq (pe_fld (pv 2) rfl) pe_str (nomark _)) (pw_and1 (pt_cmpR op_gt (pe_fld (pv 2) rfl) pe_int (nomark _))))) (pss_one (ps_expr (pe_cal c_write_step (hr.mono (by decide)) rfl (pa_cons (pv 1) (pa_cons (pv 2) (pa_cons (pe_ical i_Move (hr.mono (by decide)) rfl (pa_cons (pe_fld (pv 2) rfl) (pa_cons (pe_fld (pv 2) rfl) (pa_cons (pe_fld (pv 2) rfl) pa_nil)))) pa_nil)))))) pss_nil))
      (pss_cons (ps_while PassesOwn.never (pt_cmpR op_isNn (pe_fld (pv 2) rfl) pe_non (nomark _))
      (pss_one (ps_expr (pe_cal c_go_on (hr.mono (by decide)) rfl (pa_cons (pv 0) (pa_cons (pv 1) (pa_cons (pv 2) pa_nil)))))))
      (pss_one (ps_if (pt_cmpR op_ne (pe_fld (pv 2) rfl) pe_str (nomark _)) (pss_one (ps_expr (pe_mcal m_Journal_back (hr.mono (by decide)) (pv 1) (pa_cons (pv 3) pa_nil)))) pss_nil))))), ?_⟩
    try simp only [nox_K, nox_P, nox_w, nox_mg, nox_base, cxOf_K, cxOf_P, cxOf_w, cxOf_mg, cxOf_base]
    repeat walk_at "rw"
    refine rd_methA J.ob rfl ?_
    repeat walk_at "rw"
    first | refine sp_gen fun zQ zq => ⟨j, dx, R, L, _, rfl, J.ob, J.li, zq _ _ ?_⟩ | refine ⟨j, dx, R, L, _, rfl, J.ob, J.li, ?_⟩
    rw [List.length_map]
    repeat walk_at "rw"
    refine rd_cut (fun σ' H' => ∃ es1 pre, Brought x es es1 pre H' ∧ KeptX (goX Ar L fr) H H' ∧ Rooms K cAccount H' R Ar (movedS (runS S0 (es.map (·.d))) x) (m + 1) ∧ Jr cJournal cSave cMove cNote H' j dx R L Ar es1 ∧ FrAt cFrame H' fr x (ws ++ pre) ∧ σ' = [some (.ref R), some (.ref j), some (.ref fr.a), some (.int (es.length : Nat))]) ?_ ?_
    · have nomv : mvD x = none → (∃ es1 pre, Brought x es es1 pre H ∧ KeptX (goX Ar L fr) H H ∧ Rooms K cAccount H R Ar (movedS (runS S0 (es.map (·.d))) x) (m + 1) ∧ Jr cJournal cSave cMove cNote H j dx R L Ar es1 ∧ FrAt cFrame H fr x (ws ++ pre) ∧ [some (V.ref R), some (V.ref j), some (V.ref fr.a), some (V.int (es.length : Nat))] = [some (.ref R), some (.ref j), some (.ref fr.a), some (.int (es.length : Nat))]) := fun e => by
        refine ⟨es, [], .inl ⟨e, rfl, rfl⟩, KeptX.refl, ?_, J, by rw [List.append_nil]; exact F, rfl⟩
        unfold movedS
        rw [e]
        exact r.le (Nat.le_succ _)
      repeat walk_at "rw"
      refine rd_fldA F.ob tFrame.k.cl tFrame.n_kind rfl ?_
      repeat' walk_at "rw"
      · rename_i hk
        refine rd_fldA F.ob tFrame.k.cl tFrame.n_coin rfl ?_
        repeat' walk_at "rw"
        · rename_i hc
          have hmv : mvD x = some (.move x.caller x.who x.coin) := by unfold mvD; rw [if_pos ⟨hk, hc⟩]
          refine rd_fldA F.ob tFrame.k.cl tFrame.n_caller rfl ?_
          repeat walk_at "rw"
          refine rd_fldA F.ob tFrame.k.cl tFrame.n_who rfl ?_
          repeat walk_at "rw"
          refine rd_fldA F.ob tFrame.k.cl tFrame.n_coin rfl ?_
          repeat walk_at "rw"
          intro o odx hx hdx hne
          have hx2 : (upd H odx (.own o)) o = none := by rw [upd_ne (Ne.symm hne)]; exact hx
          first | refine sp_gen fun zQ zq => ⟨o, odx, x.caller, x.who, x.coin, rfl, upd_same, rfl, zq _ _ ?_⟩ | refine ⟨o, odx, x.caller, x.who, x.coin, rfl, upd_same, rfl, ?_⟩
          rw [upd_upd]
          have s1 : Same H (upd (upd H odx (.own o)) o (.ins cMove odx (moveF x.caller x.who x.coin))) := (Same.new hdx).newT hx2
          have eo : (upd (upd H odx (.own o)) o (.ins cMove odx (moveF x.caller x.who x.coin))) o = some (.ins cMove odx (moveF x.caller x.who x.coin)) := upd_same
          have J1 := J.same s1
          have r1 := r.same s1
          have F1 := F.same s1
          generalize upd (upd H odx (.own o)) o (.ins cMove odx (moveF x.caller x.who x.coin)) = H1 at s1 eo J1 r1 F1
          (revert H1 s1 eo J1 r1 F1; refine keepIt ?_; intro H1 s1 eo J1 r1 F1)
          repeat walk_at "rw"
          first | refine sp_gen fun zQ zq => ⟨j, dx, R, L, Ar, _, m, es, ⟨o, odx, .move x.caller x.who x.coin⟩, fr, x, ws, rfl, J1, r1, eo, hfit _ hmv, by omega, by omega, F1, ap, by omega, fun t H2 ht k2 r2 J2 F2 et => zq _ _ ?_⟩ | refine ⟨j, dx, R, L, Ar, _, m, es, ⟨o, odx, .move x.caller x.who x.coin⟩, fr, x, ws, rfl, J1, r1, eo, hfit _ hmv, by omega, by omega, F1, ap, by omega, fun t H2 ht k2 r2 J2 F2 et => ?_⟩
          repeat walk_at "rw"
          refine ⟨es ++ [⟨o, odx, .move x.caller x.who x.coin⟩], [.ref t], .inr ⟨_, ⟨o, odx, .move x.caller x.who x.coin⟩, t, hmv, rfl, rfl, rfl, et⟩, s1.keptX.trans k2, ?_, J2, F2, rfl⟩
          unfold movedS
          rw [hmv]
          exact r2
        · rename_i hc
          exact nomv (by unfold mvD; rw [if_neg (fun z => hc z.2)])
      · rename_i hk
        exact nomv (by unfold mvD; rw [if_neg (fun z => hk z.1)])
    rintro σ1 H1 ⟨es1, pre, br, k1, r1, J1, F1, rfl⟩
    obtain ⟨eS, ri1⟩ := br.run ri
    obtain ⟨bl1, bl2, btk⟩ := br.len
    generalize hS1 : movedS (runS S0 (es.map (·.d))) x = S1 at r1 hrun eS
    (revert S1 hS1 r1 hrun eS; refine keepIt ?_; intro S1 hS1 r1 hrun eS)
    repeat walk_at "rw"
    first | refine sp_gen fun zQ zq => ⟨fun nn σ' H' => ∃ xx wz av, RunR Ar S1 (S1 iw).rows nn xx y av ∧ wz ++ av = ws ++ pre ++ adds ∧ xx.whose = (iw : Int) ∧ nn + wz.length ≤ 100000 ∧ Rooms K cAccount H' R Ar S1 (m + 1) ∧ Jr cJournal cSave cMove cNote H' j dx R L Ar es1 ∧ FrAt cFrame H' fr xx wz ∧ KeptX (goX Ar L fr) H H' ∧ SameI H1 H' ∧ σ' = [some (.ref R), some (.ref j), some (.ref fr.a), some (.int (es.length : Nat))], ⟨n, x, ws ++ pre, adds, hrun, rfl, ew, by rw [List.length_append]; omega, r1, J1, F1, k1, SameI.refl _, rfl⟩, zq _ _ ?_⟩ | refine ⟨fun nn σ' H' => ∃ xx wz av, RunR Ar S1 (S1 iw).rows nn xx y av ∧ wz ++ av = ws ++ pre ++ adds ∧ xx.whose = (iw : Int) ∧ nn + wz.length ≤ 100000 ∧ Rooms K cAccount H' R Ar S1 (m + 1) ∧ Jr cJournal cSave cMove cNote H' j dx R L Ar es1 ∧ FrAt cFrame H' fr xx wz ∧ KeptX (goX Ar L fr) H H' ∧ SameI H1 H' ∧ σ' = [some (.ref R), some (.ref j), some (.ref fr.a), some (.int (es.length : Nat))], ⟨n, x, ws ++ pre, adds, hrun, rfl, ew, by rw [List.length_append]; omega, r1, J1, F1, k1, SameI.refl _, rfl⟩, ?_⟩
    rintro nn σ' H2 ⟨xx, wz, av, hrun2, eav, ew2, hl2, r2, J2, F2, k2, si2, rfl⟩
    have hob := F2.ob
    cases hrun2 with
    | done hf =>
      obtain ⟨ee, hee⟩ : ∃ e, y.fin = some e := by
        cases e : y.fin with
        | none => exact absurd e hf
        | some e' => exact ⟨e', rfl⟩
      rw [List.append_nil] at eav
      subst eav
      have fl : (fldF fr y).lookup (Str.ofString "end") = some (V.str ee) := by show some (endV y.fin) = _; rw [hee]; rfl
      repeat walk_at "rw"
      refine rd_fldA F2.ob tFrame.k.cl tFrame.n_end fl ?_
      repeat walk_at "rw"
      first | refine sp_gen fun zQ zq => ⟨rfl, zq _ _ ?_⟩ | refine ⟨rfl, ?_⟩
      rw [decide_eq_false (show ¬ V.str ee = V.non by intro z; cases z)]
      repeat walk_at "rw"
      refine rd_fldA F2.ob tFrame.k.cl tFrame.n_end fl ?_
      repeat' walk_at "rw"
      · rename_i hne
        have hw : ¬ y.fin = some ("well" : Str) := by rw [hee]; intro z; exact hne (Option.some.inj z)
        simp only [if_neg hw] at k
        refine rd_methA J2.ob rfl ?_
        repeat walk_at "rw"
        rw [eS] at r2
        first | refine sp_gen fun zQ zq => ⟨j, dx, R, L, Ar, S0, m + 1, es1, (es.length : Nat), rfl, J2, r2, ri1, by omega, fun H3 k3 r3 ri3 J3 => zq _ _ ?_⟩ | refine ⟨j, dx, R, L, Ar, S0, m + 1, es1, (es.length : Nat), rfl, J2, r2, ri1, by omega, fun H3 k3 r3 ri3 J3 => ?_⟩
        rw [Int.toNat_natCast, btk] at r3 ri3 J3
        repeat walk_at "rw"
        rw [eS] at *
        exact k H3 es1 pre ((br.keep si2).keep (out_imm r2 J2.li k3)) (k2.trans (k_outX k3)) (r3.le (by omega)) ri3 J3 (F2.out r2 ap J2.li k3)
      · rename_i he
        subst he
        simp only [if_pos hee] at k
        rw [eS] at r2
        exact k H2 es1 pre (br.keep si2) k2 (r2.le (by omega)) ri1 J2 F2
    | step hf o hl e q =>
      rename_i n1 x' add vs
      have fl : (fldF fr xx).lookup (Str.ofString "end") = some V.non := by show some (endV xx.fin) = _; rw [hf]; rfl
      repeat walk_at "rw"
      refine rd_fldA F2.ob tFrame.k.cl tFrame.n_end fl ?_
      repeat walk_at "rw"
      refine ⟨fun σ' H' => ∃ m', m' < n1 + 1 ∧ _, fun _ _ h => h, ?_⟩
      repeat walk_at "rw"
      first | refine sp_gen fun zQ zq => ⟨R, .ref j, Ar, S1, m + 1, fr, xx, x', wz, add, iw, ac, rfl, r2, F2, ew2, hi, hac, o, hl, by omega, fun H3 k3 F3 => zq _ _ ?_⟩ | refine ⟨R, .ref j, Ar, S1, m + 1, fr, xx, x', wz, add, iw, ac, rfl, r2, F2, ew2, hi, hac, o, hl, by omega, fun H3 k3 F3 => ?_⟩
      have ol := o.len
      repeat walk_at "rw"
      exact ⟨n1, Nat.lt_succ_self _, x', wz ++ add, vs, q, by rw [List.append_assoc]; exact eav, by rw [e]; exact ew2, by rw [List.length_append]; omega, r2.frame F2 ap k3, J2.frame F2 ap k3, F3, k2.trans (k_goX k3), si2.trans (imm_F3 F2 k3), rfl⟩

end
end My

namespace My
open PySem L2
local macro_rules | `(tactic| walk_at "rw") => `(tactic| first
  | walk_at "rdk"
  | ((with_reducible refine' L2.rd_ixT ?h ?e ?_); (case h => assumption); (case e => exact My.row_at0))
  | fail)
local macro_rules | `(tactic| walk_at "rz") => `(tactic| first
  | ((with_reducible refine L2.rd_iteD (fun _ => ?_) (fun _ => ?_)) <;> (try (exfalso; omega)))
  | ((with_reducible refine L2.rd_iteND (fun _ => ?_) (fun _ => ?_)) <;> (try (exfalso; omega)))
  | ((with_reducible refine L2.rd_iteNND (fun _ => ?_) (fun _ => ?_)) <;> (try (exfalso; omega)))
  | walk_at "rw"
  | fail)

noncomputable def spEnter (K : PySem.W.Frag) (C cJ cS cM cN : Addr) : Sp := fun vs H Q _ => ∃ (j dx R L : Addr) (A : Nat → Option AcI) (S0 : Nat → AcS) (m : Nat) (es : List DI) (caller who coin word given : Int) (y : FrS) (adds : List V) (n i : Nat) (ac : AcI), vs = [.ref R, .ref j, .int caller, .int who, .int coin, .int word, .int given] ∧ Jr cJ cS cM cN H j dx R L A es ∧ Rooms K C H R A (runS S0 (es.map (·.d))) m ∧ rightAll S0 (es.map (·.d)) ∧ m + es.length ≤ 10000 ∧ (∀ d, mvD (frame0 "call" who who caller coin word given 1 false) = some d → fitsD A d) ∧ who = (i : Int) ∧ i < 16 ∧ A i = some ac ∧
  RunR A (movedS (runS S0 (es.map (·.d))) (frame0 "call" who who caller coin word given 1 false)) (movedS (runS S0 (es.map (·.d))) (frame0 "call" who who caller coin word given 1 false) i).rows n (frame0 "call" who who caller coin word given 1 false) y adds ∧ n ≤ 80000 ∧
  ∀ p T H' es1 pre, Brought (frame0 "call" who who caller coin word given 1 false) es es1 pre H' → KeptX (fun b => ¬ Out A b ∨ b = L) H H' → Rooms K C H' R A (runS S0 ((if y.fin = some ("well" : Str) then es1 else es).map (·.d))) (m + es.length + 2) → rightAll S0 ((if y.fin = some ("well" : Str) then es1 else es).map (·.d)) → Jr cJ cS cM cN H' j dx R L A (if y.fin = some ("well" : Str) then es1 else es) → H p = none → H' T = some (.lst (pre ++ adds)) → H' p = some (.tup (treeV y T)) → Q (.ref p) H'

section
variable {P : Program} {w : World} {K : PySem.W.Frag} {mg : Str → Option Value} {base : Heap}
theorem sc_enter : FnScope ["rooms", "journal", "caller", "who", "coin", "word", "given", "frame"] ["rooms", "journal", "caller", "who", "coin", "word", "given"] (defScope s_enter) := ⟨rfl, rfl, rfl, by decide +kernel, rfl, by decide +kernel, by decide +kernel⟩
theorem ok_enter   {cFrame : Addr} (D : DefAt K mg "enter" s_enter) (tFrame : T_Frame K mg cFrame) (m_Frame_tree : MCal P w K mg base 1 cFrame "tree" (spTree cFrame)) (c_go : Cal P w K mg base 8 "go" (spGo K cAccount cJournal cSave cMove cNote cFrame)) (iD7_Frame : ICalD P w K mg base 1 "Frame" cFrame (spFInit cFrame) [.int 1, .bl false]) : Cal P w K mg base 9 "enter" (spEnter K cAccount cJournal cSave cMove cNote) := by
  refine cal_of (N := ["rooms", "journal", "caller", "who", "coin", "word", "given", "frame"]) (ps := ["rooms", "journal", "caller", "who", "coin", "word", "given"]) D sc_enter (fun vs H Q E h => ?_) (fun _ _ _ _ _ _ us hl => bd7 (R := fun us => bindArgs _ ⟨us, []⟩ = pure (List.zip _ us)) (fun _ _ _ _ _ _ _ => rfl) us hl) (fun f cdv A outer s H vs Q E hr h => ?_)
  · obtain ⟨j, dx, R, L, A, S0, m, es, caller, who, coin, word, given, y, adds, n, i, ac, rfl, _⟩ := h; rfl
  · obtain ⟨j, dx, R, L, Ar, S0, m, es, caller, who, coin, word, given, y, adds, n, iw, ac, rfl, J, r, ri, hm, hfit, ew, hi, hac, hrun, hn, k⟩ := h
    refine ⟨_, (pss_cons (ps_set (i := 7) sc_enter.nd rfl (by first | exact Or.inl rfl | exact Or.inr rfl) (pe_icalD iD7_Frame (hr.mono (by decide)) rfl (pa_cons pe_str (pa_cons (pv 3) (pa_cons (pv 3) (pa_cons (pv 2) (pa_cons (pv 4) (pa_cons (pv 5) (pa_cons (pv 6) pa_nil)))))))))
      (pss_cons (ps_expr (pe_cal c_go (hr.mono (by decide)) rfl (pa_cons (pv 0) (pa_cons (pv 1) (pa_cons (pv 7) pa_nil)))))
      (pss_one (ps_ret (pe_mcal0 m_Frame_tree (hr.mono (by decide)) (pv 7)))))), ?_⟩
    try simp only [nox_K, nox_P, nox_w, nox_mg, nox_base, cxOf_K, cxOf_P, cxOf_w, cxOf_mg, cxOf_base]
    repeat walk_at "rw"
    refine rd_makeD ?_
    repeat walk_at "rw"
    intro a adx ha hadx hne
    have ha2 : (upd H adx (.own a)) a = none := by rw [upd_ne (Ne.symm hne)]; exact ha
    have s1 : Same H (upd (upd H adx (.own a)) a (.ins cFrame adx [])) := (Same.new hadx).newT ha2
    first | refine sp_gen fun zQ zq => ⟨a, adx, "call", who, who, caller, coin, word, given, 1, false, rfl, upd_same, fun ST SS H1 hST hSS F1 k1 => zq _ _ ?_⟩ | refine ⟨a, adx, "call", who, who, caller, coin, word, given, 1, false, rfl, upd_same, fun ST SS H1 hST hSS F1 k1 => ?_⟩
    have hSTH := s1.fresh hST
    have hSSH := s1.fresh hSS
    have sa : Same H H1 := fun b o e => k1 b o (s1 b o e) (ne_of_none e ha)
    have J1 := J.same sa
    have r1 := r.same sa
    have ap : Ap R L Ar ⟨a, adx, ST, SS⟩ := ⟨Ne.symm (ne_of_none r.ob hSTH), Ne.symm (ne_of_none r.ob hSSH), Ne.symm (ne_of_none J.li hSTH), Ne.symm (ne_of_none J.li hSSH), fun i y hi hy => by
      obtain ⟨xs, e1, _⟩ := (r.ac i y hi hy).pg
      exact ⟨Ne.symm (ne_of_none e1 hSTH), Ne.symm (ne_of_none e1 hSSH)⟩⟩
    first | refine sp_gen fun zQ zq => ⟨rfl, zq _ _ ?_⟩ | refine ⟨rfl, ?_⟩
    repeat walk_at "rw"
    first | refine sp_gen fun zQ zq => ⟨j, dx, R, L, Ar, S0, m, es, ⟨a, adx, ST, SS⟩, _, y, [], adds, n, iw, ac, rfl, J1, r1, ri, hm, F1, ap, rfl, hfit, ew, hi, hac, hrun, by show n + 0 ≤ 90000; omega, fun H2 es1 pre br k2 r2 ri2 J2 F2 => zq _ _ ?_⟩ | refine ⟨j, dx, R, L, Ar, S0, m, es, ⟨a, adx, ST, SS⟩, _, y, [], adds, n, iw, ac, rfl, J1, r1, ri, hm, F1, ap, rfl, hfit, ew, hi, hac, hrun, by show n + 0 ≤ 90000; omega, fun H2 es1 pre br k2 r2 ri2 J2 F2 => ?_⟩
    repeat walk_at "rw"
    refine rd_methA F2.ob rfl ?_
    first | refine sp_gen fun zQ zq => ⟨⟨a, adx, ST, SS⟩, y, _, rfl, F2, fun p T H3 s3 hp hT e1 e2 => zq _ _ ?_⟩ | refine ⟨⟨a, adx, ST, SS⟩, y, _, rfl, F2, fun p T H3 s3 hp hT e1 e2 => ?_⟩
    rw [List.nil_append] at e1
    refine k p T H3 es1 pre (br.keep s3.imm) ?_ (r2.same s3) ri2 (J2.same s3) ?_ e1 e2
    · intro b o e nb
      refine s3 _ _ (k2 b o (sa b o e) ?_)
      rintro (z | z | z | z | z)
      · exact nb (.inl z)
      · exact nb (.inr z)
      · exact ne_of_none e ha z
      · exact ne_of_none e hSTH z
      · exact ne_of_none e hSSH z
    · cases z : H p with
      | none => rfl
      | some o =>
        exfalso
        have h1 : H1 p = some o := sa _ _ z
        by_cases q : goX Ar L ⟨a, adx, ST, SS⟩ p
        · rcases q with q | q | q | q | q
          · refine q fun i y hi hy => ⟨?_, ?_⟩
            · intro z2; rw [z2, (r2.ac i y hi hy).ob] at hp; cases hp
            · intro z2; obtain ⟨kv, g1, _⟩ := (r2.ac i y hi hy).sto; rw [z2, g1] at hp; cases hp
          · rw [q, J2.li] at hp; cases hp
          · rw [q, F2.ob] at hp; cases hp
          · rw [q, F2.st] at hp; cases hp
          · rw [q, F2.ss] at hp; cases hp
        · rw [k2 p o h1 q] at hp; cases hp

end
end My

namespace My
open PySem L2
local macro_rules | `(tactic| walk_at "rw") => `(tactic| first
  | walk_at "rdk"
  | ((with_reducible refine' L2.rd_ixT ?h ?e ?_); (case h => assumption); (case e => exact My.row_at0))
  | fail)
local macro_rules | `(tactic| walk_at "rz") => `(tactic| first
  | ((with_reducible refine L2.rd_iteD (fun _ => ?_) (fun _ => ?_)) <;> (try (exfalso; omega)))
  | ((with_reducible refine L2.rd_iteND (fun _ => ?_) (fun _ => ?_)) <;> (try (exfalso; omega)))
  | ((with_reducible refine L2.rd_iteNND (fun _ => ?_) (fun _ => ?_)) <;> (try (exfalso; omega)))
  | walk_at "rw"
  | fail)

mutual
noncomputable def PlainD : Dt → Prop
  | .int _ => True
  | .str _ => True
  | .tup ds => ds.length ≤ 100000 ∧ PlainDs ds
  | .lst ds => ds.length ≤ 100000 ∧ PlainDs ds
  | _ => False
noncomputable def PlainDs : List Dt → Prop
  | [] => True
  | d :: r => PlainD d ∧ PlainDs r
end
theorem PlainDs.at : ∀ {ds : List Dt} {i : Nat} {d : Dt}, PlainDs ds → ds[i]? = some d → PlainD d
  | [], _, _, _, e => by simp at e
  | d0 :: r, i, d, h, e => by
    unfold PlainDs at h
    cases i with
    | zero => cases e; exact h.1
    | succ i => exact PlainDs.at h.2 (by simpa using e)
theorem deps_at : ∀ {ds : List Dt} {i : Nat} {d : Dt}, ds[i]? = some d → d.dep ≤ Dt.deps ds
  | [], _, _, e => by simp at e
  | d0 :: r, i, d, e => by
    unfold Dt.deps
    cases i with
    | zero => cases e; exact Nat.le_max_left ..
    | succ i => exact Nat.le_trans (deps_at (by simpa using e)) (Nat.le_max_right ..)
noncomputable def spAlike (K : PySem.W.Frag) (n : Nat) : Sp := fun vs H Q _ => ∃ d v u, vs = [v, u] ∧ PlainD d ∧ d.dep ≤ n ∧ DV K H d v ∧ DV K H d u ∧ Q (.bl true) H
noncomputable def spAlikeP (K : PySem.W.Frag) : Nat → Sp
  | 0 => spNo
  | n + 1 => spAlike K n

section
variable {P : Program} {w : World} {K : PySem.W.Frag} {mg : Str → Option Value} {base : Heap}
theorem sc_Lalike : FnScope ["_law_found", "_law_due", "_law_k"] ["_law_found", "_law_due"] (defScope s_Lalike) := ⟨rfl, rfl, rfl, by decide +kernel, rfl, by decide +kernel, by decide +kernel⟩
theorem alike_step  {n k : Nat}  (D : DefAt K mg "_law_alike" s_Lalike) (c_Lalike : Cal P w K mg base k "_law_alike" (spAlikeP K n)) (n_isinstance : mg "isinstance" = none) (n_int : mg "int" = none) (n_str : mg "str" = none) (n_tuple : mg "tuple" = none) (n_range : mg "range" = none) (n_len : mg "len" = none) (n_list : mg "list" = none) (n_bool : mg "bool" = none) : Cal P w K mg base (k + 1) "_law_alike" (spAlike K n) := by
  refine cal_of (N := ["_law_found", "_law_due", "_law_k"]) (ps := ["_law_found", "_law_due"]) D sc_Lalike (fun vs H Q E h => ?_) (fun _ _ _ _ _ _ us hl => bd2 (R := fun us => bindArgs _ ⟨us, []⟩ = pure (List.zip _ us)) (fun _ _ => rfl) us hl) (fun f cdv A outer s H vs Q E hr h => ?_)
  · obtain ⟨d, v, u, rfl, _⟩ := h; rfl
  · obtain ⟨d, v, u, rfl, pl, dp, hv, hu, k⟩ := h
    refine ⟨_, (pss_cons (ps_if (pt_val (pe_callB cn_isiA rfl n_isinstance PyProof.Rows.boot_isinstance (pa_cons (pv 1) (pa_cons (pe_blA rfl n_int PyProof.Rows.boot_int) pa_nil)))) (pss_one (ps_ret (pe_and (pe_callB cn_isiA rfl n_isinstance PyProof.Rows.boot_isinstance (pa_cons (pv 0) (pa_cons (pe_blA rfl n_int PyProof.Rows.boot_int) pa_nil))) (pe_and (pe_not (pe_callB cn_isiA rfl n_isinstance PyProof.Rows.boot_isinstance (pa_cons (pv 0) (pa_cons (pe_blA rfl n_bool PyProof.Rows.boot_bool) pa_nil)))) (pe_one (pe_cmpR op_eq (pv 0) (pv 1) (nomark _))))))) pss_nil)
      (pss_cons (ps_if (pt_val (pe_callB cn_isiA rfl n_isinstance PyProof.Rows.boot_isinstance (pa_cons (pv 1) (pa_cons (pe_blA rfl n_str PyProof.Rows.boot_str) pa_nil)))) (pss_one (ps_ret (pe_and (pe_callB cn_isiA rfl n_isinstance PyProof.Rows.boot_isinstance (pa_cons (pv 0) (pa_cons (pe_blA rfl n_str PyProof.Rows.boot_str) pa_nil))) (pe_one (pe_cmpR op_eq (pv 0) (pv 1) (nomark _)))))) pss_nil)
      (pss_cons (ps_if (pt_val (pe_callB cn_isiA rfl n_isinstance PyProof.Rows.boot_isinstance (pa_cons (pv 1) (pa_cons (pe_blA rfl n_tuple PyProof.Rows.boot_tuple) pa_nil)))) (pss_one (ps_if (pt_not (pt_val (pe_callB cn_isiA rfl n_isinstance PyProof.Rows.boot_isinstance (pa_cons (pv 0) (pa_cons (pe_blA rfl n_tuple PyProof.Rows.boot_tuple) pa_nil))))) (pss_one (ps_ret pe_bl)) pss_nil)) (pss_one (ps_if (pt_not (pt_val (pe_callB cn_isiA rfl n_isinstance PyProof.Rows.boot_isinstance (pa_cons (pv 0) (pa_cons (pe_blA rfl n_list PyProof.Rows.boot_list) pa_nil))))) (pss_one (ps_ret pe_bl)) pss_nil)))
      (pss_cons (ps_if (pt_cmpR op_ne (pe_callB cn_len rfl n_len PySem.boot_len (pa_cons (pv 0) pa_nil)) (pe_callB cn_len rfl n_len PySem.boot_len (pa_cons (pv 1) pa_nil)) (nomark _)) (pss_one (ps_ret pe_bl)) pss_nil)
      (pss_cons (ps_for PassesOwn.never rfl (pi_range1 rfl n_range (pa_cons (pe_callB cn_len rfl n_len PySem.boot_len (pa_cons (pv 1) pa_nil)) pa_nil)) (pg_name (i := 2) sc_Lalike.nd rfl (by first | exact Or.inl rfl | exact Or.inr rfl))
      (pss_one (ps_if (pt_not (pt_val (pe_cal c_Lalike hr rfl (pa_cons (pe_ix ix_seq (pv 0) (pv 2) (fun _ _ => rfl)) (pa_cons (pe_ix ix_seq (pv 1) (pv 2) (fun _ _ => rfl)) pa_nil))))) (pss_one (ps_ret pe_bl)) pss_nil)))
      (pss_one (ps_ret pe_bl))))))), ?_⟩
    try simp only [nox_K, nox_P, nox_w, nox_mg, nox_base, cxOf_K, cxOf_P, cxOf_w, cxOf_mg, cxOf_base]
    cases d with
    | non => unfold PlainD at pl; exact pl.elim
    | bl b => unfold PlainD at pl; exact pl.elim
    | int i =>
      unfold DV at hv hu
      subst hv hu
      repeat walk_at "rdz"
      all_goals first | exact k | exact rd_fin (by simp) k
    | str z =>
      unfold DV at hv hu
      subst hv hu
      repeat walk_at "rdz"
      all_goals first | exact k | exact rd_fin (by simp) k
    | lst ds =>
      unfold DV at hv hu
      obtain ⟨a1, xs, rfl, h1, d1⟩ := hv
      obtain ⟨a2, ys, rfl, h2, d2⟩ := hu
      unfold PlainD at pl
      unfold Dt.dep at dp
      have l1 := d1.length
      have l2 := d2.length
      obtain ⟨n, rfl⟩ : ∃ m, n = m + 1 := ⟨n - 1, by omega⟩
      repeat walk_at "rdz"
      all_goals try (exfalso; omega)
      refine rd_for (rd_iRng1 ?_)
      repeat walk_at "rdz"
      first | refine sp_gen fun zQ zq => ⟨_, rfl, by omega, by omega, zq _ _ ?_⟩ | refine ⟨_, rfl, by omega, by omega, ?_⟩
      have en : ((ys.length : Nat) : Int).toNat = ds.length := by omega
      rw [en]
      refine for_range (fun i σ' H' => H' = H ∧ ∃ z, σ' = [some (.ref a1), some (.ref a2), z]) ⟨rfl, _, rfl⟩ ?_ ?_
      · rintro i σ' H' hi ⟨rfl, z, rfl⟩
        have e1 := List.getElem?_eq_getElem hi
        have e2 := List.getElem?_eq_getElem (l := xs) (i := i) (by omega)
        have e3 := List.getElem?_eq_getElem (l := ys) (i := i) (by omega)
        repeat walk_at "rdz"
        refine .inl (rd_ixL h1 (atI_nat' e2 (by omega)) ?_)
        repeat walk_at "rdz"
        refine .inl (rd_ixL h2 (atI_nat' e3 (by omega)) ?_)
        repeat walk_at "rdz"
        first | refine sp_gen fun zQ zq => ⟨_, _, _, rfl, pl.2.at e1, Nat.le_trans (deps_at e1) (by omega), d1.get e1 e2, d2.get e1 e3, zq _ _ ?_⟩ | refine ⟨_, _, _, rfl, pl.2.at e1, Nat.le_trans (deps_at e1) (by omega), d1.get e1 e2, d2.get e1 e3, ?_⟩
        repeat walk_at "rdz"
        exact ⟨rfl, _, rfl⟩
      · rintro σ' H' ⟨rfl, z, rfl⟩
        repeat walk_at "rdz"
        exact k

    | tup ds =>
      unfold DV at hv hu
      obtain ⟨a1, xs, rfl, h1, d1⟩ := hv
      obtain ⟨a2, ys, rfl, h2, d2⟩ := hu
      unfold PlainD at pl
      unfold Dt.dep at dp
      have l1 := d1.length
      have l2 := d2.length
      obtain ⟨n, rfl⟩ : ∃ m, n = m + 1 := ⟨n - 1, by omega⟩
      repeat walk_at "rdz"
      all_goals try (exfalso; omega)
      refine rd_for (rd_iRng1 ?_)
      repeat walk_at "rdz"
      first | refine sp_gen fun zQ zq => ⟨_, rfl, by omega, by omega, zq _ _ ?_⟩ | refine ⟨_, rfl, by omega, by omega, ?_⟩
      have en : ((ys.length : Nat) : Int).toNat = ds.length := by omega
      rw [en]
      refine for_range (fun i σ' H' => H' = H ∧ ∃ z, σ' = [some (.ref a1), some (.ref a2), z]) ⟨rfl, _, rfl⟩ ?_ ?_
      · rintro i σ' H' hi ⟨rfl, z, rfl⟩
        have e1 := List.getElem?_eq_getElem hi
        have e2 := List.getElem?_eq_getElem (l := xs) (i := i) (by omega)
        have e3 := List.getElem?_eq_getElem (l := ys) (i := i) (by omega)
        repeat walk_at "rdz"
        refine .inr (.inl (rd_ixT h1 (atI_nat' e2 (by omega)) ?_))
        repeat walk_at "rdz"
        refine .inr (.inl (rd_ixT h2 (atI_nat' e3 (by omega)) ?_))
        repeat walk_at "rdz"
        first | refine sp_gen fun zQ zq => ⟨_, _, _, rfl, pl.2.at e1, Nat.le_trans (deps_at e1) (by omega), d1.get e1 e2, d2.get e1 e3, zq _ _ ?_⟩ | refine ⟨_, _, _, rfl, pl.2.at e1, Nat.le_trans (deps_at e1) (by omega), d1.get e1 e2, d2.get e1 e3, ?_⟩
        repeat walk_at "rdz"
        exact ⟨rfl, _, rfl⟩
      · rintro σ' H' ⟨rfl, z, rfl⟩
        repeat walk_at "rdz"
        exact k
theorem alike_no (D : DefAt K mg "_law_alike" s_Lalike) : Cal P w K mg base 1 "_law_alike" spNo :=
  cal_of (N := ["_law_found", "_law_due", "_law_k"]) (ps := ["_law_found", "_law_due"]) D sc_Lalike (fun _ _ _ _ h => h.elim) (fun _ _ _ _ _ _ us hl => bd2 (R := fun us => bindArgs _ ⟨us, []⟩ = pure (List.zip _ us)) (fun _ _ => rfl) us hl) (fun _ _ _ _ _ _ _ _ _ _ h => h.elim)
theorem alike_all (D : DefAt K mg "_law_alike" s_Lalike) (n_isinstance : mg "isinstance" = none) (n_int : mg "int" = none) (n_str : mg "str" = none) (n_tuple : mg "tuple" = none) (n_range : mg "range" = none) (n_len : mg "len" = none) (n_list : mg "list" = none) (n_bool : mg "bool" = none) : ∀ n, Cal P w K mg base (n + 2) "_law_alike" (spAlike K n)
  | 0 => alike_step (n := 0) (k := 1) D (alike_no D) n_isinstance n_int n_str n_tuple n_range n_len n_list n_bool
  | n + 1 => alike_step (n := n + 1) (k := n + 2) D (alike_all D n_isinstance n_int n_str n_tuple n_range n_len n_list n_bool n) n_isinstance n_int n_str n_tuple n_range n_len n_list n_bool

end
end My

namespace My
open PySem L2
local macro_rules | `(tactic| walk_at "rw") => `(tactic| first
  | walk_at "rdk"
  | ((with_reducible refine' L2.rd_ixT ?h ?e ?_); (case h => assumption); (case e => exact My.row_at0))
  | fail)
local macro_rules | `(tactic| walk_at "rz") => `(tactic| first
  | ((with_reducible refine L2.rd_iteD (fun _ => ?_) (fun _ => ?_)) <;> (try (exfalso; omega)))
  | ((with_reducible refine L2.rd_iteND (fun _ => ?_) (fun _ => ?_)) <;> (try (exfalso; omega)))
  | ((with_reducible refine L2.rd_iteNND (fun _ => ?_) (fun _ => ?_)) <;> (try (exfalso; omega)))
  | walk_at "rw"
  | fail)

noncomputable def wU (x : FrS) (u g : Int) : FrS := { x with used := u, given := g }
structure Like (x y : FrS) : Prop where
  a : y.kind = x.kind
  b : y.who = x.who
  c : y.whose = x.whose
  d : y.caller = x.caller
  e : y.coin = x.coin
  f : y.word = x.word
theorem Like.refl (x : FrS) : Like x x := ⟨rfl, rfl, rfl, rfl, rfl, rfl⟩
theorem Like.trans {x y z : FrS} (p : Like x y) (q : Like y z) : Like x z := ⟨q.a.trans p.a, q.b.trans p.b, q.c.trans p.c, q.d.trans p.d, q.e.trans p.e, q.f.trans p.f⟩
noncomputable def dryS (x : FrS) : FrS := { x with fin := some ("dry" : Str), answer := 0 }
noncomputable def Cost1 (rows : List Row) (x x' : FrS) (i : Nat) : Prop := x.fin = none ∧ x.stack.length ≤ 900 ∧ Like x x' ∧ ∀ (A : Nat → Option AcI) (S : Nat → AcS) (u g : Int),
  (u < g → OnR A S rows (wU x u g) (wU x' (u + 1) g) [.int (i : Int)]) ∧ (¬ u < g → OnR A S rows (wU x u g) (dryS (wU x u g)) [])
inductive Tr (rows : List Row) : FrS → List Nat → FrS → Prop
  | nil {x : FrS} : Tr rows x [] x
  | cons {x x1 y : FrS} {i : Nat} {is : List Nat} (h : Cost1 rows x x1 i) (q : Tr rows x1 is y) : Tr rows x (i :: is) y
theorem Tr.one {rows : List Row} {x y : FrS} {i : Nat} (h : Cost1 rows x y i) : Tr rows x [i] y := .cons h .nil
theorem Tr.app {rows : List Row} {z : FrS} {js : List Nat} {y : FrS} : ∀ {x : FrS} {is : List Nat}, Tr rows x is y → Tr rows y js z → Tr rows x (is ++ js) z
  | _, _, .nil, q => q
  | _, _, .cons h p, q => .cons h (p.app q)
noncomputable def intsV (is : List Nat) : List V := is.map fun i : Nat => V.int (i : Int)
theorem run_tr {rows : List Row} {A : Nat → Option AcI} {S : Nat → AcS} {g : Int} {n : Nat} {z y : FrS} {adds : List V} : ∀ {x : FrS} {is : List Nat} (u : Int), Tr rows x is y → u + is.length ≤ g → RunR A S rows n (wU y (u + is.length) g) z adds → RunR A S rows (is.length + n) (wU x u g) z (intsV is ++ adds)
  | _, _, u, .nil, _, q => by
    rw [show u + (([] : List Nat).length : Int) = u by simp] at q
    rw [show ([] : List Nat).length + n = n by simp]
    exact q
  | _, _, u, .cons (i := i) (is := is) h p, hu, q => by
    obtain ⟨h1, h2, h3, h4⟩ := h
    rw [List.length_cons] at hu q ⊢
    have := run_tr (g := g) (u + 1) p (by omega) (by rw [show u + 1 + (is.length : Int) = u + ((is.length + 1 : Nat) : Int) by omega]; exact q)
    rw [show is.length + 1 + n = (is.length + n) + 1 by omega]
    exact RunR.step (add := [.int (i : Int)]) h1 ((h4 A S u g).1 (by omega)) h2 h3.c this
theorem run_dry {rows : List Row} {A : Nat → Option AcI} {S : Nat → AcS} {y : FrS} : ∀ {x : FrS} {is : List Nat} (u : Int) (m : Nat), Tr rows x is y → m < is.length → ∃ x', Like x x' ∧ RunR A S rows (m + 1) (wU x u (u + m)) (dryS (wU x' (u + m) (u + m))) (intsV (is.take m))
  | _, _, _, _, .nil, h => absurd h (by simp)
  | x, _, u, 0, .cons h p, _ => by
    obtain ⟨h1, h2, h3, h4⟩ := h
    rw [show u + ((0 : Nat) : Int) = u by omega]
    exact ⟨x, Like.refl x, RunR.step (add := []) (vs := []) h1 ((h4 A S u u).2 (by omega)) h2 rfl (.done (by intro z; cases z))⟩
  | x, _, u, m + 1, .cons (i := i) h p, hm => by
    obtain ⟨h1, h2, h3, h4⟩ := h
    obtain ⟨x', l, q⟩ := run_dry (u + 1) m p (by simpa using hm)
    rw [show u + 1 + (m : Int) = u + ((m + 1 : Nat) : Int) by omega] at q
    exact ⟨x', h3.trans l, RunR.step (add := [.int (i : Int)]) h1 ((h4 A S u _).1 (by omega)) h2 h3.c q⟩
theorem Tr.like {rows : List Row} {y : FrS} : ∀ {x : FrS} {is : List Nat}, Tr rows x is y → Like x y
  | _, _, .nil => Like.refl _
  | _, _, .cons h p => h.2.2.1.trans p.like
theorem cost1 {rows : List Row} {x x' : FrS} {i : Nat} {w : Str} {n : Option Int} {r0 t l : Int} {D : RD} (hf : x.fin = none) (hk : x.looking = false) (er : x.row = (i : Int)) (hr : rows[i]? = some (w, n)) (a1 : reachOf w n = some r0) (a2 : RT.lookup w = some (t, l, 1, 1)) (a3 : ¬ (x.stack.length : Int) < t + r0) (a4 : ¬ 24 < (x.stack.length : Int) - (t + r0) + (l + r0)) (h9 : x.stack.length ≤ 900) (n1 : w ≠ "call") (n2 : w ≠ "save") (cl : inS w ["call", "borrow", "look"] = false) (hD : RDL.lookup w = some D) (lk : Like x x') (hB : ∀ u g : Int, D (pricedS (wU x u g) 1) w n (wU x' (u + 1) g)) : Cost1 rows x x' i := by
  refine ⟨hf, h9, lk, fun A S u g => ⟨fun hu => ?_, fun hu => ?_⟩⟩
  · refine .inr ⟨i, w, n, er, hr, .inr ⟨⟨r0, t, l, 1, 1, a1, a2, .inr (.inr ⟨a3, a4, false, false, .inl ⟨n1, rfl⟩, .inl ⟨n2, rfl⟩, .inr (.inr ⟨?_, ?_, rfl⟩)⟩)⟩, false, false, t, l, 1, 1, D, .inl ⟨n1, rfl⟩, .inl ⟨n2, rfl⟩, a2, cl, hD, hB u g, by show _ = [V.int x.row]; rw [er]⟩⟩
    · show (x.looking && _) = false
      rw [hk]; rfl
    · show ¬ g - u < 1
      omega
  · refine .inr ⟨i, w, n, er, hr, .inl ⟨"dry", ⟨r0, t, l, 1, 1, a1, a2, .inr (.inr ⟨a3, a4, false, false, .inl ⟨n1, rfl⟩, .inl ⟨n2, rfl⟩, .inr (.inl ⟨?_, ?_, rfl⟩)⟩)⟩, rfl, rfl⟩⟩
    · show (x.looking && _) = false
      rw [hk]; rfl
    · show g - u < 1
      omega
noncomputable def sr (x : FrS) (s : List Int) (r : Int) : FrS := { x with stack := s, row := r }
section
variable {rows : List Row} {x : FrS} {s : List Int} {i : Nat} (hf : x.fin = none) (hk : x.looking = false)
include hf hk
theorem c_push {k : Int} (hr : rows[i]? = some (("push" : Str), some k)) (hl : s.length < 24) : Cost1 rows (sr x s i) (sr x (s ++ [k]) ((i + 1 : Nat) : Int)) i :=
  cost1 (r0 := 0) (t := 0) (l := 1) (D := rPush) hf hk rfl hr rfl rfl (by show ¬ (s.length : Int) < 0 + 0; omega) (by show ¬ 24 < (s.length : Int) - (0 + 0) + (1 + 0); omega) (by show s.length ≤ 900; omega) (by decide) (by decide) rfl rfl ⟨rfl, rfl, rfl, rfl, rfl, rfl⟩ fun u g => ⟨k, rfl, rfl⟩
theorem c_drop {k : Int} (hr : rows[i]? = some (("drop" : Str), none)) (hl : s.length < 24) : Cost1 rows (sr x (s ++ [k]) i) (sr x s ((i + 1 : Nat) : Int)) i :=
  have e : (s ++ [k]).length = s.length + 1 := by simp
  cost1 (r0 := 0) (t := 1) (l := 0) (D := rDrop) hf hk rfl hr rfl rfl (by show ¬ ((s ++ [k]).length : Int) < 1 + 0; omega) (by show ¬ 24 < ((s ++ [k]).length : Int) - (1 + 0) + (0 + 0); omega) (by show (s ++ [k]).length ≤ 900; omega) (by decide) (by decide) rfl rfl ⟨rfl, rfl, rfl, rfl, rfl, rfl⟩ fun u g => ⟨s, k, rfl, rfl⟩
theorem c_minus {a b : Int} (hr : rows[i]? = some (("minus" : Str), none)) (hl : s.length < 20) (hi : InBoth a b) : Cost1 rows (sr x (s ++ [a, b]) i) (sr x (s ++ [rkSub a b]) ((i + 1 : Nat) : Int)) i :=
  have e : (s ++ [a, b]).length = s.length + 2 := by simp
  cost1 (r0 := 0) (t := 2) (l := 1) (D := rReck) hf hk rfl hr rfl rfl (by show ¬ ((s ++ [a, b]).length : Int) < 2 + 0; omega) (by show ¬ 24 < ((s ++ [a, b]).length : Int) - (2 + 0) + (1 + 0); omega) (by show (s ++ [a, b]).length ≤ 900; omega) (by decide) (by decide) rfl rfl ⟨rfl, rfl, rfl, rfl, rfl, rfl⟩ fun u g => ⟨rkSub, s, a, b, rfl, rfl, hi, rfl⟩
theorem c_copy0 {k : Int} (hr : rows[i]? = some (("copy" : Str), some 0)) (hl : s.length < 20) : Cost1 rows (sr x (s ++ [k]) i) (sr x (s ++ [k] ++ [k]) ((i + 1 : Nat) : Int)) i :=
  have e : (s ++ [k]).length = s.length + 1 := by simp
  cost1 (r0 := 0) (t := 1) (l := 2) (D := rCopy) hf hk rfl hr rfl rfl (by show ¬ ((s ++ [k]).length : Int) < 1 + 0; omega) (by show ¬ 24 < ((s ++ [k]).length : Int) - (1 + 0) + (2 + 0); omega) (by show (s ++ [k]).length ≤ 900; omega) (by decide) (by decide) rfl rfl ⟨rfl, rfl, rfl, rfl, rfl, rfl⟩ fun u g => ⟨0, k, rfl, by show 0 < (s ++ [k]).length; omega, by show (s ++ [k])[(s ++ [k]).length - 1 - 0]? = _; rw [e]; simp, rfl⟩
theorem c_jump {k : Int} (hr : rows[i]? = some (("jump" : Str), some k)) (hl : s.length < 24) : Cost1 rows (sr x s i) (sr x s k) i :=
  cost1 (r0 := 0) (t := 0) (l := 0) (D := rJump) hf hk rfl hr rfl rfl (by show ¬ (s.length : Int) < 0 + 0; omega) (by show ¬ 24 < (s.length : Int) - (0 + 0) + (0 + 0); omega) (by show s.length ≤ 900; omega) (by decide) (by decide) rfl rfl ⟨rfl, rfl, rfl, rfl, rfl, rfl⟩ fun u g => ⟨k, rfl, rfl⟩
theorem c_jumpif {k t : Int} (hr : rows[i]? = some (("jumpif" : Str), some k)) (hl : s.length < 20) : Cost1 rows (sr x (s ++ [t]) i) (sr x s (if t = 0 then ((i + 1 : Nat) : Int) else k)) i :=
  have e : (s ++ [t]).length = s.length + 1 := by simp
  cost1 (r0 := 0) (t := 1) (l := 0) (D := rJumpif) hf hk rfl hr rfl rfl (by show ¬ ((s ++ [t]).length : Int) < 1 + 0; omega) (by show ¬ 24 < ((s ++ [t]).length : Int) - (1 + 0) + (0 + 0); omega) (by show (s ++ [t]).length ≤ 900; omega) (by decide) (by decide) rfl rfl ⟨rfl, rfl, rfl, rfl, rfl, rfl⟩ fun u g => ⟨k, s, t, rfl, rfl, rfl⟩
end
noncomputable def rg (b n : Nat) : List Nat := (List.range n).map (b + ·)
theorem rg_snoc (b n : Nat) : rg b (n + 1) = rg b n ++ [b + n] := by unfold rg; rw [List.range_succ, List.map_append]; rfl
noncomputable def jl : Nat → Nat → List Row
  | _, 0 => []
  | i, k + 1 => (("jump" : Str), some ((2 * i + 2 : Nat) : Int)) :: (("drop" : Str), none) :: jl (i + 1) k
noncomputable def ql (number : Int) : Nat → Nat → List Row
  | _, 0 => []
  | i, k + 1 => (("push" : Str), some (number / ((i + 2 : Nat) : Int))) :: (("drop" : Str), none) :: ql number (i + 1) k
noncomputable def fl (b : Nat) : List Row := [(("push" : Str), some 1), (("minus" : Str), none), (("copy" : Str), some 0), (("jumpif" : Str), some (b : Int))]
noncomputable def tailL (last : Int) (L : Nat) : List Row := if last < 0 then [(("give" : Str), none)] else [(("push" : Str), some last), (("jumpif" : Str), some ((L + 3 : Nat) : Int)), (("fail" : Str), none)]
noncomputable def progL (over : Nat) (number : Int) (pairs : Nat) (last : Int) : List Row := jl 0 over ++ ((("push" : Str), some number) :: (ql number 0 pairs ++ (fl (2 * over + 1) ++ tailL last (2 * over + 2 * pairs + 5))))
theorem jl_len : ∀ (i k : Nat), (jl i k).length = 2 * k
  | _, 0 => rfl
  | i, k + 1 => by show (jl (i + 1) k).length + 1 + 1 = _; rw [jl_len]; omega
theorem ql_len (number : Int) : ∀ (i k : Nat), (ql number i k).length = 2 * k
  | _, 0 => rfl
  | i, k + 1 => by show (ql number (i + 1) k).length + 1 + 1 = _; rw [ql_len]; omega
theorem jl_at : ∀ (i k j : Nat), j < k → (jl i k)[2 * j]? = some (("jump" : Str), some ((2 * (i + j) + 2 : Nat) : Int))
  | _, 0, _, h => absurd h (by omega)
  | i, k + 1, 0, _ => rfl
  | i, k + 1, j + 1, h => by
    show (jl (i + 1) k)[2 * j]? = _
    rw [jl_at (i + 1) k j (by omega), show i + 1 + j = i + (j + 1) by omega]
theorem ql_at (number : Int) : ∀ (i k j : Nat), j < k → (ql number i k)[2 * j]? = some (("push" : Str), some (number / ((i + j + 2 : Nat) : Int))) ∧ (ql number i k)[2 * j + 1]? = some (("drop" : Str), none)
  | _, 0, _, h => absurd h (by omega)
  | i, k + 1, 0, _ => ⟨rfl, rfl⟩
  | i, k + 1, j + 1, h => by
    have := ql_at number (i + 1) k j (by omega)
    rw [show i + 1 + j + 2 = i + (j + 1) + 2 by omega] at this
    exact this
theorem jl_snoc : ∀ (i k : Nat), jl i (k + 1) = jl i k ++ [(("jump" : Str), some ((2 * (i + k) + 2 : Nat) : Int)), (("drop" : Str), none)]
  | _, 0 => rfl
  | i, k + 1 => by
    show _ :: _ :: jl (i + 1) (k + 1) = _
    rw [jl_snoc (i + 1) k, show i + 1 + k = i + (k + 1) by omega]
    rfl
theorem ql_snoc (number : Int) : ∀ (i k : Nat), ql number i (k + 1) = ql number i k ++ [(("push" : Str), some (number / ((i + k + 2 : Nat) : Int))), (("drop" : Str), none)]
  | _, 0 => rfl
  | i, k + 1 => by
    show _ :: _ :: ql number (i + 1) (k + 1) = _
    rw [ql_snoc number (i + 1) k, show i + 1 + k + 2 = i + (k + 1) + 2 by omega]
    rfl
section
variable {o p : Nat} {number last : Int}
theorem pr_jump {k : Nat} (h : k < o) : (progL o number p last)[2 * k]? = some (("jump" : Str), some ((2 * k + 2 : Nat) : Int)) := by
  unfold progL
  rw [List.getElem?_append_left (by rw [jl_len]; omega), jl_at 0 o k h, Nat.zero_add]
theorem pr_push : (progL o number p last)[2 * o]? = some (("push" : Str), some number) := by
  unfold progL
  rw [List.getElem?_append_right (by rw [jl_len]; omega), jl_len, Nat.sub_self]; rfl
theorem pr_in {j : Nat} : (progL o number p last)[2 * o + 1 + j]? = (ql number 0 p ++ (fl (2 * o + 1) ++ tailL last (2 * o + 2 * p + 5)))[j]? := by
  unfold progL
  rw [List.getElem?_append_right (by rw [jl_len]; omega), jl_len, show 2 * o + 1 + j - 2 * o = j + 1 by omega]; rfl
theorem pr_pair {k : Nat} (h : k < p) : (progL o number p last)[2 * o + 1 + 2 * k]? = some (("push" : Str), some (number / ((k + 2 : Nat) : Int))) ∧ (progL o number p last)[2 * o + 1 + (2 * k + 1)]? = some (("drop" : Str), none) := by
  have q := ql_at number 0 p k h
  rw [Nat.zero_add] at q
  rw [pr_in, pr_in, List.getElem?_append_left (by rw [ql_len]; omega), List.getElem?_append_left (by rw [ql_len]; omega)]
  exact q
theorem pr_four {j : Nat} (h : j < 4) : (progL o number p last)[2 * o + 1 + (2 * p + j)]? = (fl (2 * o + 1))[j]? := by
  rw [pr_in, List.getElem?_append_right (by rw [ql_len]; omega), ql_len, show 2 * p + j - 2 * p = j by omega, List.getElem?_append_left (by show j < 4; exact h)]
theorem pr_tail {j : Nat} : (progL o number p last)[2 * o + 2 * p + 5 + j]? = (tailL last (2 * o + 2 * p + 5))[j]? := by
  rw [show 2 * o + 2 * p + 5 + j = 2 * o + 1 + (2 * p + (4 + j)) by omega, pr_in, List.getElem?_append_right (by rw [ql_len]; omega), ql_len, show 2 * p + (4 + j) - 2 * p = 4 + j by omega, List.getElem?_append_right (by show 4 ≤ 4 + j; omega)]
  show (tailL last (2 * o + 2 * p + 5))[4 + j - 4]? = _
  rw [show 4 + j - 4 = j by omega]
theorem pr_len : (progL o number p last).length = 2 * o + 2 * p + 5 + (tailL last (2 * o + 2 * p + 5)).length := by
  unfold progL
  rw [List.length_append, List.length_cons, List.length_append, List.length_append, jl_len, ql_len]
  show _ + (_ + (4 + _) + 1) = _
  omega
variable {x : FrS} (hf : x.fin = none) (hk : x.looking = false)
include hf hk
theorem tr_jumps : ∀ k, k ≤ o → Tr (progL o number p last) (sr x [] ((0 : Nat) : Int)) ((List.range k).map (2 * ·)) (sr x [] ((2 * k : Nat) : Int))
  | 0, _ => .nil
  | k + 1, h => by
    rw [List.range_succ, List.map_append]
    exact (tr_jumps k (by omega)).app (.one (c_jump hf hk (pr_jump (by omega)) (by decide)))
theorem tr_pairs {v : Int} : ∀ k, k ≤ p → Tr (progL o number p last) (sr x [v] ((2 * o + 1 : Nat) : Int)) (rg (2 * o + 1) (2 * k)) (sr x [v] ((2 * o + 1 + 2 * k : Nat) : Int))
  | 0, _ => .nil
  | k + 1, h => by
    obtain ⟨q1, q2⟩ := pr_pair (o := o) (p := p) (number := number) (last := last) (k := k) (by omega)
    have t1 := c_push (s := [v]) (i := 2 * o + 1 + 2 * k) hf hk q1 (by show 1 < 24; decide)
    have t2 := c_drop (s := [v]) (i := 2 * o + 1 + (2 * k + 1)) (k := number / ((k + 2 : Nat) : Int)) hf hk q2 (by show 1 < 24; decide)
    have := (tr_pairs k (by omega)).app (.cons t1 (.one t2))
    rw [show 2 * (k + 1) = 2 * k + 1 + 1 by omega, rg_snoc, rg_snoc, List.append_assoc]
    exact this
theorem tr_turn {v : Int} (hv : In64 v) : Tr (progL o number p last) (sr x [v] ((2 * o + 1 : Nat) : Int)) (rg (2 * o + 1) (2 * p + 4)) (sr x [rkSub v 1] (if rkSub v 1 = 0 then ((2 * o + 2 * p + 5 : Nat) : Int) else ((2 * o + 1 : Nat) : Int))) := by
  have q0 : (progL o number p last)[2 * o + 1 + 2 * p]? = some (("push" : Str), some 1) := pr_four (j := 0) (by decide)
  have q1 : (progL o number p last)[2 * o + 1 + 2 * p + 1]? = some (("minus" : Str), none) := pr_four (j := 1) (by decide)
  have q2 : (progL o number p last)[2 * o + 1 + 2 * p + 1 + 1]? = some (("copy" : Str), some 0) := pr_four (j := 2) (by decide)
  have q3 : (progL o number p last)[2 * o + 1 + 2 * p + 1 + 1 + 1]? = some (("jumpif" : Str), some ((2 * o + 1 : Nat) : Int)) := pr_four (j := 3) (by decide)
  have t0 := c_push (s := [v]) hf hk q0 (by show 1 < 24; decide)
  have t1 := c_minus (s := []) (a := v) (b := 1) hf hk q1 (by decide) ⟨hv, by decide, by decide⟩
  have t2 := c_copy0 (s := []) (k := rkSub v 1) hf hk q2 (by decide)
  have t3 := c_jumpif (s := [rkSub v 1]) (t := rkSub v 1) hf hk q3 (by show 1 < 20; decide)
  have := (tr_pairs (o := o) (p := p) (number := number) (last := last) (v := v) hf hk p (Nat.le_refl _)).app (.cons t0 (.cons t1 (.cons t2 (.one t3))))
  rw [show 2 * p + 4 = 2 * p + 1 + 1 + 1 + 1 by omega, rg_snoc, rg_snoc, rg_snoc, rg_snoc, List.append_assoc, List.append_assoc, List.append_assoc, show 2 * o + 2 * p + 5 = 2 * o + 1 + 2 * p + 1 + 1 + 1 + 1 by omega]
  exact this
theorem tr_start : Tr (progL o number p last) (sr x [] ((0 : Nat) : Int)) ((List.range o).map (2 * ·) ++ [2 * o]) (sr x [number] ((2 * o + 1 : Nat) : Int)) :=
  (tr_jumps (p := p) (number := number) (last := last) hf hk o (Nat.le_refl _)).app (.one (c_push (s := []) hf hk pr_push (by decide)))
end

section

end
end My

namespace My
open PySem L2
local macro_rules | `(tactic| walk_at "rw") => `(tactic| first
  | walk_at "rdk"
  | ((with_reducible refine' L2.rd_ixT ?h ?e ?_); (case h => assumption); (case e => exact My.row_at0))
  | fail)
local macro_rules | `(tactic| walk_at "rz") => `(tactic| first
  | ((with_reducible refine L2.rd_iteD (fun _ => ?_) (fun _ => ?_)) <;> (try (exfalso; omega)))
  | ((with_reducible refine L2.rd_iteND (fun _ => ?_) (fun _ => ?_)) <;> (try (exfalso; omega)))
  | ((with_reducible refine L2.rd_iteNND (fun _ => ?_) (fun _ => ?_)) <;> (try (exfalso; omega)))
  | walk_at "rw"
  | fail)

noncomputable def spCell (K : PySem.W.Frag) : Sp := fun vs H Q _ => ∃ (p : Addr) (ns : List Int) (k : Int), vs = [.ref p, .int k] ∧ 0 ≤ k ∧ SqL K H p (ns.map V.int) ∧ ∀ i, Q (.int i) H
theorem p64 : (2 : Int) ^ Int.toNat 64 = 18446744073709551616 := by decide
section
variable {rows : List Row} {x : FrS} {s : List Int} {i : Nat} (hf : x.fin = none) (hk : x.looking = false)
include hf hk
theorem c_give {t : Int} (hr : rows[i]? = some (("give" : Str), none)) (hl : s.length < 20) : Cost1 rows (sr x (s ++ [t]) i) { sr x s ((i + 1 : Nat) : Int) with fin := some ("well" : Str), answer := t } i :=
  have e : (s ++ [t]).length = s.length + 1 := by simp
  cost1 (r0 := 0) (t := 1) (l := 0) (D := rGive) hf hk rfl hr rfl rfl (by show ¬ ((s ++ [t]).length : Int) < 1 + 0; omega) (by show ¬ 24 < ((s ++ [t]).length : Int) - (1 + 0) + (0 + 0); omega) (by show (s ++ [t]).length ≤ 900; omega) (by decide) (by decide) rfl rfl ⟨rfl, rfl, rfl, rfl, rfl, rfl⟩ fun u g => ⟨s, t, rfl, rfl⟩
theorem c_fail {t : Int} (hr : rows[i]? = some (("fail" : Str), none)) (hl : s.length < 20) : Cost1 rows (sr x (s ++ [t]) i) { sr x s ((i + 1 : Nat) : Int) with fin := some ("fail" : Str), answer := t } i :=
  have e : (s ++ [t]).length = s.length + 1 := by simp
  cost1 (r0 := 0) (t := 1) (l := 0) (D := rFail) hf hk rfl hr rfl rfl (by show ¬ ((s ++ [t]).length : Int) < 1 + 0; omega) (by show ¬ 24 < ((s ++ [t]).length : Int) - (1 + 0) + (0 + 0); omega) (by show (s ++ [t]).length ≤ 900; omega) (by decide) (by decide) rfl rfl ⟨rfl, rfl, rfl, rfl, rfl, rfl⟩ fun u g => ⟨s, t, rfl, rfl⟩
end
noncomputable def GoneOk (o p : Nat) (number most : Int) (is : List Nat) : Prop := ∀ (last : Int) (x : FrS), x.fin = none → x.looking = false → Tr (progL o number p last) (sr x [] ((0 : Nat) : Int)) is (sr x [0] ((2 * o + 2 * p + 5 : Nat) : Int)) ∨ (most ≤ (is.length : Int) ∧ ∃ y, Tr (progL o number p last) (sr x [] ((0 : Nat) : Int)) is y)
noncomputable def GoneAt (o p : Nat) (number left : Int) (is : List Nat) : Prop := ∀ (last : Int) (x : FrS), x.fin = none → x.looking = false → Tr (progL o number p last) (sr x [] ((0 : Nat) : Int)) is (sr x [left % 18446744073709551616] ((2 * o + 1 : Nat) : Int))
theorem gone_start {o p : Nat} {number : Int} (h : In64 number) : GoneAt o p number number ((List.range o).map (2 * ·) ++ [2 * o]) := fun last x hf hk => by
  have e : number % 18446744073709551616 = number := Int.emod_eq_of_lt h.1 h.2
  rw [e]
  exact tr_start hf hk
theorem gone_turn {o p : Nat} {number left : Int} {is : List Nat} (g : GoneAt o p number left is) (h1 : -100000 < left) (h2 : left ≤ 18446744073709551615) (hz : left - 1 ≠ 0) : GoneAt o p number (left - 1) (is ++ rg (2 * o + 1) (2 * p + 4)) := fun last x hf hk => by
  have hv : In64 (left % 18446744073709551616) := ⟨by omega, by omega⟩
  have e : rkSub (left % 18446744073709551616) 1 = (left - 1) % 18446744073709551616 := by unfold rkSub; omega
  have t := tr_turn (o := o) (p := p) (number := number) (last := last) (x := x) hf hk hv
  rw [e, if_neg (by omega)] at t
  exact (g last x hf hk).app t
theorem gone_last {o p : Nat} {number left most : Int} {is : List Nat} (g : GoneAt o p number left is) (hz : left - 1 = 0) : GoneOk o p number most (is ++ rg (2 * o + 1) (2 * p + 4)) := fun last x hf hk => by
  have e1 : left = 1 := by omega
  subst e1
  have t := tr_turn (o := o) (p := p) (number := number) (last := last) (x := x) (v := 1) hf hk ⟨by decide, by decide⟩
  rw [show rkSub 1 1 = 0 from rfl, if_pos rfl] at t
  exact .inl ((g last x hf hk).app t)
noncomputable def spProg (K : PySem.W.Frag) : Sp := fun vs H Q _ => ∃ (o p : Nat) (number last : Int), vs = [.int (o : Int), .int number, .int (p : Int), .int last] ∧ o ≤ 5 ∧ p ≤ 3 ∧ ∀ l xs H', Same H H' → H l = none → H' l = some (.lst xs) → RowsAt K H' (progL o number p last) xs → Q (.ref l) H'
noncomputable def spGone : Sp := fun vs H Q _ => ∃ (o p : Nat) (number most : Int), vs = [.int (o : Int), .int number, .int (p : Int), .int most] ∧ o ≤ 5 ∧ p ≤ 3 ∧ In64 number ∧ most ≤ 2000 ∧ ∀ l is H', Same H H' → H l = none → H' l = some (.lst (intsV is)) → GoneOk o p number most is → is.length ≤ 2100 → Q (.ref l) H'

section
variable {P : Program} {w : World} {K : PySem.W.Frag} {mg : Str → Option Value} {base : Heap}
theorem sc_Lcell_at : FnScope ["_law_script", "_law_k"] ["_law_script", "_law_k"] (defScope s_Lcell_at) := ⟨rfl, rfl, rfl, by decide +kernel, rfl, by decide +kernel, by decide +kernel⟩
theorem ok_Lcell_at    (D : DefAt K mg "_law_cell_at" s_Lcell_at) (n_len : mg "len" = none) : Cal P w K mg base 1 "_law_cell_at" (spCell K) := by
  refine cal_of (N := ["_law_script", "_law_k"]) (ps := ["_law_script", "_law_k"]) D sc_Lcell_at (fun vs H Q E h => ?_) (fun _ _ _ _ _ _ us hl => bd2 (R := fun us => bindArgs _ ⟨us, []⟩ = pure (List.zip _ us)) (fun _ _ => rfl) us hl) (fun f cdv A outer s H vs Q E hr h => ?_)
  · obtain ⟨p, ns, j, rfl, _⟩ := h; rfl
  · obtain ⟨p, ns, j, rfl, hj, hl, k⟩ := h
    refine ⟨_, (pss_cons (ps_if (pt_cmpR op_lt (pv 1) (pe_callB cn_len rfl n_len PySem.boot_len (pa_cons (pv 0) pa_nil)) (nomark _)) (pss_one (ps_ret (pe_ix ix_list (pv 0) (pv 1) (fun _ _ => rfl)))) pss_nil)
      (pss_one (ps_ret pe_int))), ?_⟩
    try simp only [nox_K, nox_P, nox_w, nox_mg, nox_base, cxOf_K, cxOf_P, cxOf_w, cxOf_mg, cxOf_base]
    repeat' walk_at "rdt"
    · rename_i hlt
      rw [List.length_map] at hlt
      obtain ⟨c, e1, e2⟩ := atI_some (xs := ns) hj hlt
      have e3 : (ns.map V.int)[j.toNat]? = some (.int c) := by rw [List.getElem?_map, e2]; rfl
      exact rd_ixL hl (atI_nat' e3 (by omega)) (k c)
    · exact k _
theorem sc_Lgone : FnScope ["_law_over", "_law_number", "_law_pairs", "_law_most", "_law_gone_here", "_law_left", "_law_turn", "_law_at"] ["_law_over", "_law_number", "_law_pairs", "_law_most"] (defScope s_Lgone) := ⟨rfl, rfl, rfl, by decide +kernel, rfl, by decide +kernel, by decide +kernel⟩
theorem ok_Lgone    (D : DefAt K mg "_law_gone" s_Lgone) (n_len : mg "len" = none) (n_range : mg "range" = none) : Cal P w K mg base 1 "_law_gone" spGone := by
  refine cal_of (N := ["_law_over", "_law_number", "_law_pairs", "_law_most", "_law_gone_here", "_law_left", "_law_turn", "_law_at"]) (ps := ["_law_over", "_law_number", "_law_pairs", "_law_most"]) D sc_Lgone (fun vs H Q E h => ?_) (fun _ _ _ _ _ _ us hl => bd4 (R := fun us => bindArgs _ ⟨us, []⟩ = pure (List.zip _ us)) (fun _ _ _ _ => rfl) us hl) (fun f cdv A outer s H vs Q E hr h => ?_)
  · obtain ⟨o, p, number, most, rfl, _⟩ := h; rfl
  · obtain ⟨o, p, number, most, rfl, ho, hp, hn, hm, k⟩ := h
    refine ⟨_, (pss_cons (ps_set (i := 4) sc_Lgone.nd rfl (by first | exact Or.inl rfl | exact Or.inr rfl) (pe_op op_cat (pe_comp ["_law_k"] rfl (show CompScope (defScope s_Lgone) ["_law_over", "_law_number", "_law_pairs", "_law_most", "_law_gone_here", "_law_left", "_law_turn", "_law_at"] ["_law_k"] _ from ⟨rfl, by decide +kernel, by decide +kernel, by decide +kernel, by decide +kernel, by decide +kernel⟩) (pi_range1 rfl n_range (pa_cons (pv 0) pa_nil)) (fun _ _ _ _ _ => (pg_name (i := 0) (show (["_law_k", "_law_over", "_law_number", "_law_pairs", "_law_most", "_law_gone_here", "_law_left", "_law_turn", "_law_at"] : List Str).Nodup by decide +kernel) rfl (Or.inl rfl) (.inr rfl))) (fun _ _ _ _ _ => pif_nil) (fun _ _ _ _ _ => (pe_op op_mul pe_int (pv 0)))) (pe_lst (pa_cons (pe_op op_mul pe_int (pv 0)) pa_nil))))
      (pss_cons (ps_set (i := 5) sc_Lgone.nd rfl (by first | exact Or.inl rfl | exact Or.inr rfl) (pv 1))
      (pss_cons (ps_setC (i := 6) ["_law_k"] sc_Lgone.nd rfl rfl rfl (show CompScope (defScope s_Lgone) ["_law_over", "_law_number", "_law_pairs", "_law_most", "_law_gone_here", "_law_left", "_law_turn", "_law_at"] ["_law_k"] _ from ⟨rfl, by decide +kernel, by decide +kernel, by decide +kernel, by decide +kernel, by decide +kernel⟩) (pi_range1 rfl n_range (pa_cons (pe_op op_add (pe_op op_mul pe_int (pv 2)) pe_int) pa_nil)) (fun _ _ _ _ _ => (pg_name (i := 0) (show (["_law_k", "_law_over", "_law_number", "_law_pairs", "_law_most", "_law_gone_here", "_law_left", "_law_turn", "_law_at"] : List Str).Nodup by decide +kernel) rfl (Or.inl rfl) (.inr rfl))) (fun _ _ _ _ _ => pif_nil) (fun _ _ _ _ _ => (pe_op op_add (pe_op op_add (pe_op op_mul pe_int (pv 1)) pe_int) (pv 0))))
      (pss_cons (ps_while PassesOwn.never (pt_cmpR op_lt (pe_callB cn_len rfl n_len PySem.boot_len (pa_cons (pv 4) pa_nil)) (pv 3) (nomark _))
      (pss_cons (ps_for PassesOwn.never rfl (pi_list (pv 6)) (pg_name (i := 7) sc_Lgone.nd rfl (by first | exact Or.inl rfl | exact Or.inr rfl))
      (pss_one (ps_expr (pe_bm PySem.F.plainAttrs_list PySem.F.slot_list_append PySem.F.type_list_append mt_append (pv 4) (pa_cons (pv 7) pa_nil)))))
      (pss_cons (ps_set (i := 5) sc_Lgone.nd rfl (by first | exact Or.inl rfl | exact Or.inr rfl) (pe_op op_sub (pv 5) pe_int))
      (pss_one (ps_if (pt_cmpR op_eq (pv 5) pe_int (nomark _)) (pss_one (ps_ret (pv 4))) pss_nil)))))
      (pss_one (ps_ret (pv 4))))))), ?_⟩
    try simp only [nox_K, nox_P, nox_w, nox_mg, nox_base, cxOf_K, cxOf_P, cxOf_w, cxOf_mg, cxOf_base]
    repeat walk_at "rdk"
    refine rd_comp (rd_iRng1 ?_)
    repeat walk_at "rdk"
    refine ⟨_, rfl, by omega, by omega, fun q1 hq1 => ?_⟩
    rw [Int.toNat_natCast]
    refine comp_range (ys := intsV ((List.range o).map (2 * ·))) hq1 (by unfold intsV; simp) (Nat.le_trans ho (by decide)) ?_ ?_
    · intro i y H' Q' hi hy sm q'
      unfold intsV at hy
      rw [List.getElem?_map, List.getElem?_map, List.getElem?_range hi] at hy
      cases hy
      repeat walk_at "rdk"
      rw [Int.zero_add]
      exact rd_fin (by show V.int _ = V.int _; congr 1) q'
    have s1 : Same H (upd H q1 (.lst (intsV ((List.range o).map (2 * ·))))) := Same.new hq1
    have e1 : (upd H q1 (.lst (intsV ((List.range o).map (2 * ·))))) q1 = some (.lst (intsV ((List.range o).map (2 * ·)))) := upd_same
    generalize upd H q1 _ = H1 at s1 e1
    (revert H1 s1 e1; refine keepIt ?_; intro H1 s1 e1)
    repeat walk_at "rdk"
    refine ⟨by show 1 ≤ sizeLine; decide, fun q2 hq2 => ?_⟩
    have il : ∀ is : List Nat, (intsV is).length = is.length := fun is => by unfold intsV; rw [List.length_map]
    refine rd_cat (xs := intsV ((List.range o).map (2 * ·))) (ys := [.int (2 * (o : Int))]) (by rw [upd_ne (ne_of_none e1 hq2)]; exact e1) upd_same (by rw [il, List.length_map, List.length_range]; exact Nat.le_trans (show o + 1 ≤ 1000 by omega) (by decide)) fun G hG => ?_
    have s2 : Same H (upd (upd H1 q2 (.lst [.int (2 * (o : Int))])) G (.lst (intsV ((List.range o).map (2 * ·)) ++ [.int (2 * (o : Int))]))) := (s1.newT hq2).newT hG
    have hGH : H G = none := (s1.newT hq2).fresh hG
    have eG : (upd (upd H1 q2 (.lst [.int (2 * (o : Int))])) G (.lst (intsV ((List.range o).map (2 * ·)) ++ [.int (2 * (o : Int))]))) G = some (.lst (intsV ((List.range o).map (2 * ·) ++ [2 * o]))) := by
      rw [upd_same]; unfold intsV; rw [List.map_append]; rfl
    generalize upd (upd H1 q2 _) G _ = H2 at s2 eG
    (revert H2 s2 eG; refine keepIt ?_; intro H2 s2 eG)
    repeat walk_at "rdk"
    refine rd_comp (rd_iRng1 ?_)
    repeat walk_at "rdk"
    refine ⟨_, rfl, by omega, by omega, fun TN hTN => ?_⟩
    rw [show (2 * (p : Int) + 4).toNat = 2 * p + 4 by omega]
    refine comp_range (ys := intsV (rg (2 * o + 1) (2 * p + 4))) hTN (by unfold intsV rg; simp) (Nat.le_trans (show _ ≤ 1000 by omega) (by decide)) ?_ ?_
    · intro i y H' Q' hi hy sm q'
      unfold intsV rg at hy
      rw [List.getElem?_map, List.getElem?_map, List.getElem?_range hi] at hy
      cases hy
      repeat walk_at "rdk"
      rw [Int.zero_add]
      exact rd_fin (by show V.int _ = V.int _; congr 1) q'
    have s3 : Same H (upd H2 TN (.lst (intsV (rg (2 * o + 1) (2 * p + 4))))) := s2.newT hTN
    have eG3 : (upd H2 TN (.lst (intsV (rg (2 * o + 1) (2 * p + 4))))) G = some (.lst (intsV ((List.range o).map (2 * ·) ++ [2 * o]))) := by rw [upd_ne (ne_of_none eG hTN)]; exact eG
    have eT3 : (upd H2 TN (.lst (intsV (rg (2 * o + 1) (2 * p + 4))))) TN = some (.lst (intsV (rg (2 * o + 1) (2 * p + 4)))) := upd_same
    have nTG : TN ≠ G := Ne.symm (ne_of_none eG hTN)
    generalize upd H2 TN _ = H3 at s3 eG3 eT3
    (revert H3 s3 eG3 eT3; refine keepIt ?_; intro H3 s3 eG3 eT3)
    have rl : (rg (2 * o + 1) (2 * p + 4)).length = 2 * p + 4 := by unfold rg; simp
    repeat walk_at "rdk"
    refine ⟨fun m σ' H' => ∃ is left v7, m + is.length = 3000 ∧ Same H H' ∧ H' G = some (.lst (intsV is)) ∧ H' TN = some (.lst (intsV (rg (2 * o + 1) (2 * p + 4)))) ∧ GoneAt o p number left is ∧ left ≤ number ∧ number ≤ left + (is.length : Int) ∧ is.length ≤ 2050 ∧ σ' = [some (.int (o : Int)), some (.int number), some (.int (p : Int)), some (.int most), some (.ref G), some (.int left), some (.ref TN), v7], ⟨3000 - (o + 1), (List.range o).map (2 * ·) ++ [2 * o], number, none, ?_, s3, eG3, eT3, gone_start hn, Int.le_refl _, ?_, ?_, rfl⟩, ?_⟩
    · rw [List.length_append, List.length_map, List.length_range]; show 3000 - (o + 1) + (o + 1) = 3000; omega
    · omega
    · rw [List.length_append, List.length_map, List.length_range]; show o + 1 ≤ 2050; omega
    rintro m σ' H4 ⟨is, left, v7, hmi, s4, eG4, eT4, gA, hl1, hl2, hl3, rfl⟩
    have hGs := sql_of (K := K) eG4
    have hTs := sql_of (K := K) eT4
    have ilen := il is
    repeat walk_at "rdk"
    · rename_i hlt
      rw [ilen] at hlt
      refine ⟨fun σ' H' => ∃ m', m' < m ∧ _, fun _ _ h => h, ?_⟩
      repeat walk_at "rdk"
      generalize hrg : rg (2 * o + 1) (2 * p + 4) = rr at rl eT4 hTs
      refine rd_for (rd_iList ?_)
      repeat walk_at "rdk"
      refine ⟨TN, rfl, ⟨_, hTs⟩, for_list (xs := intsV rr) (fun i σ' H' => Same H H' ∧ H' TN = some (.lst (intsV rr)) ∧ H' G = some (.lst (intsV (is ++ rr.take i))) ∧ ∃ v, σ' = [some (.int (o : Int)), some (.int number), some (.int (p : Int)), some (.int most), some (.ref G), some (.int left), some (.ref TN), v]) ⟨s4, eT4, by rw [List.take_zero, List.append_nil]; exact eG4, _, rfl⟩ (fun i σ' H' _ hz => sql_of hz.2.1) ?_ ?_⟩
      · rintro i xx σ' H5 hxx ⟨s5, eT5, eG5, v, rfl⟩
        unfold intsV at hxx
        rw [List.getElem?_map] at hxx
        obtain ⟨j, hj, rfl⟩ := Option.map_eq_some_iff.mp hxx
        have hir : i < rr.length := (List.getElem?_eq_some_iff.mp hj).1
        repeat walk_at "rdk"
        refine ⟨ty_list (sql_of eG5), ?_⟩
        repeat walk_at "rdk"
        refine rd_append eG5 (by rw [il, List.length_append, List.length_take]; exact Nat.lt_of_le_of_lt (show _ ≤ 5000 by omega) (by decide)) ?_
        repeat walk_at "rdk"
        refine ⟨s5.wr hGH, by rw [upd_ne nTG]; exact eT5, ?_, _, rfl⟩
        rw [upd_same, List.take_succ_eq_append_getElem hir, ← List.append_assoc]
        have ej : rr[i] = j := by rw [List.getElem?_eq_getElem hir] at hj; exact Option.some.inj hj
        rw [ej]
        show _ = some (HO.lst (List.map _ (_ ++ [j])))
        rw [List.map_append]; rfl
      · rintro σ' H5 ⟨s5, eT5, eG5, v, rfl⟩
        rw [show (intsV rr).length = rr.length from il rr, List.take_length] at eG5
        have hal : (is ++ rr).length = is.length + (2 * p + 4) := by rw [List.length_append, rl]
        repeat' walk_at "rdk"
        · rename_i hz
          refine k G (is ++ rr) H5 s5 hGH eG5 ?_ (by omega)
          rw [← hrg]
          exact gone_last gA hz
        · rename_i hz
          obtain ⟨hn0, hn1⟩ := hn
          refine ⟨m - (2 * p + 4), by omega, is ++ rr, left - 1, _, by omega, s5, eG5, eT5, ?_, by omega, by omega, by omega, rfl⟩
          rw [← hrg]
          exact gone_turn gA (by omega) (by omega) hz
    · rename_i hge
      rw [ilen] at hge
      repeat walk_at "rdk"
      exact k G is H4 s4 hGH eG4 (fun last x hf hk => .inr ⟨by omega, _, gA last x hf hk⟩) (by omega)

end
end My

namespace My
open PySem L2
local macro_rules | `(tactic| walk_at "rw") => `(tactic| first
  | walk_at "rdk"
  | ((with_reducible refine' L2.rd_ixT ?h ?e ?_); (case h => assumption); (case e => exact My.row_at0))
  | fail)
local macro_rules | `(tactic| walk_at "rz") => `(tactic| first
  | ((with_reducible refine L2.rd_iteD (fun _ => ?_) (fun _ => ?_)) <;> (try (exfalso; omega)))
  | ((with_reducible refine L2.rd_iteND (fun _ => ?_) (fun _ => ?_)) <;> (try (exfalso; omega)))
  | ((with_reducible refine L2.rd_iteNND (fun _ => ?_) (fun _ => ?_)) <;> (try (exfalso; omega)))
  | walk_at "rw"
  | fail)

theorem row_put {K : PySem.W.Frag} {H0 H : Hp} {RL t : Addr} {xs : List V} {rs : List Row} {r : Row} {vs : List V} (hv : vs = rowVs r) (e : H RL = some (.lst xs)) (ra : RowsAt K H rs xs) (ht : H t = none) (s0 : Same H0 H) (h0 : H0 RL = none) : (upd (upd H t (.tup vs)) RL (.lst (xs ++ [.ref t]))) RL = some (.lst (xs ++ [.ref t])) ∧ RowsAt K (upd (upd H t (.tup vs)) RL (.lst (xs ++ [.ref t]))) (rs ++ [r]) (xs ++ [.ref t]) ∧ Same H0 (upd (upd H t (.tup vs)) RL (.lst (xs ++ [.ref t]))) := by
  subst hv
  have s1 : Same H (upd H t (.tup (rowVs r))) := Same.new ht
  have im : SameI (upd H t (.tup (rowVs r))) (upd (upd H t (.tup (rowVs r))) RL (.lst (xs ++ [.ref t]))) := SameI.upd (u := .lst xs) (s1 _ _ e) notImm_lst
  exact ⟨upd_same, ((ra.keep s1.imm).keep im).snoc ⟨t, rfl, im.tup (sqt_of upd_same)⟩, (s0.newT ht).wr h0⟩
theorem rowsAt_app {K : PySem.W.Frag} {H : Hp} {rs rs' : List Row} {xs ys : List V} (h : RowsAt K H rs xs) (q : RowsAt K H rs' ys) : RowsAt K H (rs ++ rs') (xs ++ ys) := by
  obtain ⟨a, b⟩ := h
  obtain ⟨c, d⟩ := q
  refine ⟨by rw [List.length_append, List.length_append, a, c], fun i r x e1 e2 => ?_⟩
  by_cases hi : i < rs.length
  · rw [List.getElem?_append_left hi] at e1
    rw [List.getElem?_append_left (by omega)] at e2
    exact b i r x e1 e2
  · rw [List.getElem?_append_right (by omega)] at e1
    rw [List.getElem?_append_right (by omega), ← a] at e2
    exact d _ r x e1 e2

section
variable {P : Program} {w : World} {K : PySem.W.Frag} {mg : Str → Option Value} {base : Heap}
theorem sc_Lprogram : FnScope ["_law_over", "_law_number", "_law_pairs", "_law_last", "_law_rows", "_law_k", "_law_back"] ["_law_over", "_law_number", "_law_pairs", "_law_last"] (defScope s_Lprogram) := ⟨rfl, rfl, rfl, by decide +kernel, rfl, by decide +kernel, by decide +kernel⟩
theorem ok_Lprogram    (D : DefAt K mg "_law_program" s_Lprogram) (n_range : mg "range" = none) (n_len : mg "len" = none) : Cal P w K mg base 1 "_law_program" (spProg K) := by
  refine cal_of (N := ["_law_over", "_law_number", "_law_pairs", "_law_last", "_law_rows", "_law_k", "_law_back"]) (ps := ["_law_over", "_law_number", "_law_pairs", "_law_last"]) D sc_Lprogram (fun vs H Q E h => ?_) (fun _ _ _ _ _ _ us hl => bd4 (R := fun us => bindArgs _ ⟨us, []⟩ = pure (List.zip _ us)) (fun _ _ _ _ => rfl) us hl) (fun f cdv A outer s H vs Q E hr h => ?_)
  · obtain ⟨o, p, number, last, rfl, _⟩ := h; rfl
  · obtain ⟨o, p, number, last, rfl, ho, hp, k⟩ := h
    refine ⟨_, (pss_cons (ps_set (i := 4) sc_Lprogram.nd rfl (by first | exact Or.inl rfl | exact Or.inr rfl) (pe_lst pa_nil))
      (pss_cons (ps_for PassesOwn.never rfl (pi_range1 rfl n_range (pa_cons (pv 0) pa_nil)) (pg_name (i := 5) sc_Lprogram.nd rfl (by first | exact Or.inl rfl | exact Or.inr rfl))
      (pss_cons (ps_expr (pe_bm PySem.F.plainAttrs_list PySem.F.slot_list_append PySem.F.type_list_append mt_append (pv 4) (pa_cons (pe_tup (pa_cons pe_str (pa_cons (pe_op op_add (pe_callB cn_len rfl n_len PySem.boot_len (pa_cons (pv 4) pa_nil)) pe_int) pa_nil))) pa_nil)))
      (pss_one (ps_expr (pe_bm PySem.F.plainAttrs_list PySem.F.slot_list_append PySem.F.type_list_append mt_append (pv 4) (pa_cons (pe_tup (pa_cons pe_str pa_nil)) pa_nil))))))
      (pss_cons (ps_expr (pe_bm PySem.F.plainAttrs_list PySem.F.slot_list_append PySem.F.type_list_append mt_append (pv 4) (pa_cons (pe_tup (pa_cons pe_str (pa_cons (pv 1) pa_nil))) pa_nil)))
      (pss_cons (ps_set (i := 6) sc_Lprogram.nd rfl (by first | exact Or.inl rfl | exact Or.inr rfl) (pe_callB cn_len rfl n_len PySem.boot_len (pa_cons (pv 4) pa_nil)))
      (pss_cons (ps_for PassesOwn.never rfl (pi_range1 rfl n_range (pa_cons (pv 2) pa_nil)) (pg_name (i := 5) sc_Lprogram.nd rfl (by first | exact Or.inl rfl | exact Or.inr rfl))
      (pss_cons (ps_expr (pe_bm PySem.F.plainAttrs_list PySem.F.slot_list_append PySem.F.type_list_append mt_append (pv 4) (pa_cons (pe_tup (pa_cons pe_str (pa_cons (pe_op op_fdivW (pv 1) (pe_op op_add (pv 5) pe_int)) pa_nil))) pa_nil)))
      (pss_one (ps_expr (pe_bm PySem.F.plainAttrs_list PySem.F.slot_list_append PySem.F.type_list_append mt_append (pv 4) (pa_cons (pe_tup (pa_cons pe_str pa_nil)) pa_nil))))))
      (pss_cons (ps_set (i := 4) sc_Lprogram.nd rfl (by first | exact Or.inl rfl | exact Or.inr rfl) (pe_op op_cat (pv 4) (pe_lst (pa_cons (pe_tup (pa_cons pe_str (pa_cons pe_int pa_nil))) (pa_cons (pe_tup (pa_cons pe_str pa_nil)) (pa_cons (pe_tup (pa_cons pe_str (pa_cons pe_int pa_nil))) (pa_cons (pe_tup (pa_cons pe_str (pa_cons (pv 6) pa_nil))) pa_nil)))))))
      (pss_cons (ps_if (pt_cmpR op_lt (pv 3) pe_int (nomark _)) (pss_one (ps_ret (pe_op op_cat (pv 4) (pe_lst (pa_cons (pe_tup (pa_cons pe_str pa_nil)) pa_nil))))) pss_nil)
      (pss_one (ps_ret (pe_op op_cat (pv 4) (pe_lst (pa_cons (pe_tup (pa_cons pe_str (pa_cons (pv 3) pa_nil))) (pa_cons (pe_tup (pa_cons pe_str (pa_cons (pe_op op_add (pe_callB cn_len rfl n_len PySem.boot_len (pa_cons (pv 4) pa_nil)) pe_int) pa_nil))) (pa_cons (pe_tup (pa_cons pe_str pa_nil)) pa_nil)))))))))))))), ?_⟩
    try simp only [nox_K, nox_P, nox_w, nox_mg, nox_base, cxOf_K, cxOf_P, cxOf_w, cxOf_mg, cxOf_base]
    repeat walk_at "rdk"
    refine ⟨by decide, fun RL hRL => ?_⟩
    repeat walk_at "rdk"
    refine rd_for (rd_iRng1 ?_)
    repeat walk_at "rdk"
    refine ⟨_, rfl, by omega, by omega, ?_⟩
    rw [Int.toNat_natCast]
    refine for_range (fun i σ' H' => Same H H' ∧ (∃ xs, H' RL = some (.lst xs) ∧ RowsAt K H' (jl 0 i) xs) ∧ ∃ v5 v6, σ' = [some (.int (o : Int)), some (.int number), some (.int (p : Int)), some (.int last), some (.ref RL), v5, v6]) ⟨Same.new hRL, ⟨[], upd_same, RowsAt.nil⟩, _, _, rfl⟩ ?_ ?_
    · rintro i σ' H1 hi ⟨s1, ⟨xs, eR, ra⟩, v5, v6, rfl⟩
      have hxl : 2 * i = xs.length := by rw [← ra.1, jl_len]
      have hRs := sql_of (K := K) eR
      rw [Int.zero_add]
      repeat walk_at "rdk"
      refine ⟨ty_list (sql_of eR), ?_⟩
      repeat walk_at "rdk"
      refine ⟨by show 2 ≤ sizeLine; decide, fun tH2 htH2 => ?_⟩
      repeat walk_at "rdk"
      refine rd_append (by rw [upd_ne (ne_of_none eR htH2)]; exact eR) (Nat.lt_of_le_of_lt (show _ ≤ 1000 by omega) (by decide)) ?_
      obtain ⟨eRH2, raH2, sH2⟩ := row_put (r := (("jump" : Str), some ((2 * (0 + i) + 2 : Nat) : Int))) (vs := [.str "jump", .int ((xs.length : Int) + 2)]) (by show _ = [V.str "jump", V.int _]; rw [show (xs.length : Int) + 2 = ((2 * (0 + i) + 2 : Nat) : Int) by omega]) eR ra htH2 s1 hRL
      generalize upd (upd H1 tH2 _) RL _ = H2 at eRH2 raH2 sH2
      (revert H2 eRH2 raH2 sH2; refine keepIt ?_; intro H2 eRH2 raH2 sH2)
      repeat walk_at "rdk"
      refine ⟨ty_list (sql_of eRH2), ?_⟩
      repeat walk_at "rdk"
      refine ⟨by show 1 ≤ sizeLine; decide, fun tH3 htH3 => ?_⟩
      repeat walk_at "rdk"
      refine rd_append (by rw [upd_ne (ne_of_none eRH2 htH3)]; exact eRH2) (Nat.lt_of_le_of_lt (show _ ≤ 1000 by rw [List.length_append]; show xs.length + 1 ≤ 1000; omega) (by decide)) ?_
      obtain ⟨eRH3, raH3, sH3⟩ := row_put (r := (("drop" : Str), none)) (vs := [.str "drop"]) rfl eRH2 raH2 htH3 sH2 hRL
      generalize upd (upd H2 tH3 _) RL _ = H3 at eRH3 raH3 sH3
      (revert H3 eRH3 raH3 sH3; refine keepIt ?_; intro H3 eRH3 raH3 sH3)
      repeat walk_at "rdk"
      refine ⟨sH3, ⟨_, eRH3, ?_⟩, _, _, rfl⟩
      rw [jl_snoc]
      rw [List.append_assoc (jl 0 i)] at raH3
      exact raH3
    rintro σ' H1 ⟨s1, ⟨xs, eR, ra⟩, v5, v6, rfl⟩
    have hxl : 2 * o = xs.length := by rw [← ra.1, jl_len]
    repeat walk_at "rdk"
    refine ⟨ty_list (sql_of eR), ?_⟩
    repeat walk_at "rdk"
    refine ⟨by show 2 ≤ sizeLine; decide, fun tH2 htH2 => ?_⟩
    repeat walk_at "rdk"
    refine rd_append (by rw [upd_ne (ne_of_none eR htH2)]; exact eR) (Nat.lt_of_le_of_lt (show _ ≤ 1000 by omega) (by decide)) ?_
    obtain ⟨eRH2, raH2, sH2⟩ := row_put (r := (("push" : Str), some number)) (vs := [.str "push", .int number]) rfl eR ra htH2 s1 hRL
    generalize upd (upd H1 tH2 _) RL _ = H2 at eRH2 raH2 sH2
    (revert H2 eRH2 raH2 sH2; refine keepIt ?_; intro H2 eRH2 raH2 sH2)
    repeat walk_at "rdk"
    have hRs2 := sql_of (K := K) eRH2
    have hbl : (xs ++ [V.ref tH2]).length = 2 * o + 1 := by rw [List.length_append, ← hxl]; rfl
    have ra2 : RowsAt K H2 (jl 0 o ++ [(("push" : Str), some number)] ++ ql number 0 0) (xs ++ [.ref tH2]) := by show RowsAt K H2 (_ ++ []) _; rw [List.append_nil]; exact raH2
    refine rd_for (rd_iRng1 ?_)
    repeat walk_at "rdk"
    refine ⟨_, rfl, by omega, by omega, ?_⟩
    rw [Int.toNat_natCast, hbl]
    refine for_range (fun i σ' H' => Same H H' ∧ (∃ xs, H' RL = some (.lst xs) ∧ RowsAt K H' (jl 0 o ++ [(("push" : Str), some number)] ++ ql number 0 i) xs) ∧ ∃ v5, σ' = [some (.int (o : Int)), some (.int number), some (.int (p : Int)), some (.int last), some (.ref RL), v5, some (.int ((2 * o + 1 : Nat) : Int))]) ⟨sH2, ⟨_, eRH2, ra2⟩, _, rfl⟩ ?_ ?_
    · clear ra2 raH2 eRH2 hRs2 sH2 ra eR s1 hxl hbl
      rintro i σ' H4 hi ⟨s4, ⟨ys, eR4, ra4⟩, v5, rfl⟩
      have hyl : 2 * o + 1 + 2 * i = ys.length := by rw [← ra4.1, List.length_append, List.length_append, jl_len, ql_len]; rfl
      rw [Int.zero_add]
      repeat walk_at "rdk"
      refine ⟨ty_list (sql_of eR4), ?_⟩
      repeat walk_at "rdk"
      refine ⟨by show 2 ≤ sizeLine; decide, fun tH5 htH5 => ?_⟩
      repeat walk_at "rdk"
      refine rd_append (by rw [upd_ne (ne_of_none eR4 htH5)]; exact eR4) (Nat.lt_of_le_of_lt (show _ ≤ 1000 by omega) (by decide)) ?_
      obtain ⟨eRH5, raH5, sH5⟩ := row_put (r := (("push" : Str), some (number / ((0 + i + 2 : Nat) : Int)))) (vs := [.str "push", .int (number / ((i : Int) + 2))]) (by show _ = [V.str "push", V.int _]; rw [show (i : Int) + 2 = ((0 + i + 2 : Nat) : Int) by omega]) eR4 ra4 htH5 s4 hRL
      generalize upd (upd H4 tH5 _) RL _ = H5 at eRH5 raH5 sH5
      (revert H5 eRH5 raH5 sH5; refine keepIt ?_; intro H5 eRH5 raH5 sH5)
      repeat walk_at "rdk"
      refine ⟨ty_list (sql_of eRH5), ?_⟩
      repeat walk_at "rdk"
      refine ⟨by show 1 ≤ sizeLine; decide, fun tH6 htH6 => ?_⟩
      repeat walk_at "rdk"
      refine rd_append (by rw [upd_ne (ne_of_none eRH5 htH6)]; exact eRH5) (Nat.lt_of_le_of_lt (show _ ≤ 1000 by rw [List.length_append]; show ys.length + 1 ≤ 1000; omega) (by decide)) ?_
      obtain ⟨eRH6, raH6, sH6⟩ := row_put (r := (("drop" : Str), none)) (vs := [.str "drop"]) rfl eRH5 raH5 htH6 sH5 hRL
      generalize upd (upd H5 tH6 _) RL _ = H6 at eRH6 raH6 sH6
      (revert H6 eRH6 raH6 sH6; refine keepIt ?_; intro H6 eRH6 raH6 sH6)
      repeat walk_at "rdk"
      refine ⟨sH6, ⟨_, eRH6, ?_⟩, _, rfl⟩
      rw [ql_snoc, ← List.append_assoc]
      rw [List.append_assoc (jl 0 o ++ [(("push" : Str), some number)] ++ ql number 0 i)] at raH6
      exact raH6
    clear ra2 raH2 eRH2 hRs2 sH2 ra eR s1 hxl hbl
    rintro σ' H4 ⟨s4, ⟨ys, eR4, ra4⟩, v5, rfl⟩
    have hyl : 2 * o + 1 + 2 * p = ys.length := by rw [← ra4.1, List.length_append, List.length_append, jl_len, ql_len]; rfl
    repeat walk_at "rdk"
    refine ⟨by show 2 ≤ sizeLine; decide, fun t1 ht1 => ?_⟩
    have n1 : Same H4 (upd H4 t1 (.tup [.str "push", .int 1])) := Same.new ht1
    have e1 : (upd H4 t1 (.tup [.str "push", .int 1])) t1 = some (.tup [.str "push", .int 1]) := upd_same
    generalize upd H4 t1 _ = A1 at n1 e1
    (revert A1 n1 e1; refine keepIt ?_; intro A1 n1 e1)
    repeat walk_at "rdk"
    refine ⟨by show 1 ≤ sizeLine; decide, fun t2 ht2 => ?_⟩
    have n2 : Same A1 (upd A1 t2 (.tup [.str "minus"])) := Same.new ht2
    have e2 : (upd A1 t2 (.tup [.str "minus"])) t2 = some (.tup [.str "minus"]) := upd_same
    generalize upd A1 t2 _ = A2 at n2 e2
    (revert A2 n2 e2; refine keepIt ?_; intro A2 n2 e2)
    repeat walk_at "rdk"
    refine ⟨by show 2 ≤ sizeLine; decide, fun t3 ht3 => ?_⟩
    have n3 : Same A2 (upd A2 t3 (.tup [.str "copy", .int 0])) := Same.new ht3
    have e3 : (upd A2 t3 (.tup [.str "copy", .int 0])) t3 = some (.tup [.str "copy", .int 0]) := upd_same
    generalize upd A2 t3 _ = A3 at n3 e3
    (revert A3 n3 e3; refine keepIt ?_; intro A3 n3 e3)
    repeat walk_at "rdk"
    refine ⟨by show 2 ≤ sizeLine; decide, fun t4 ht4 => ?_⟩
    have n4 : Same A3 (upd A3 t4 (.tup [.str "jumpif", .int ((2 * o + 1 : Nat) : Int)])) := Same.new ht4
    have e4 : (upd A3 t4 (.tup [.str "jumpif", .int ((2 * o + 1 : Nat) : Int)])) t4 = some (.tup [.str "jumpif", .int ((2 * o + 1 : Nat) : Int)]) := upd_same
    generalize upd A3 t4 _ = A4 at n4 e4
    (revert A4 n4 e4; refine keepIt ?_; intro A4 n4 e4)
    repeat walk_at "rdk"
    refine ⟨by show 4 ≤ sizeLine; decide, fun q1 hq1 => ?_⟩
    have n5 : Same A4 (upd A4 q1 (.lst [.ref t1, .ref t2, .ref t3, .ref t4])) := Same.new hq1
    have e5 : (upd A4 q1 (.lst [.ref t1, .ref t2, .ref t3, .ref t4])) q1 = some (.lst [.ref t1, .ref t2, .ref t3, .ref t4]) := upd_same
    generalize upd A4 q1 _ = A5 at n5 e5
    (revert A5 n5 e5; refine keepIt ?_; intro A5 n5 e5)
    have n14 := ((n1.trans n2).trans n3).trans n4
    refine rd_cat ((n14.trans n5) _ _ eR4) e5 (Nat.le_trans (show ys.length + 4 ≤ 1000 by omega) (by decide)) fun L1 hL1 => ?_
    have n6 : Same A5 (upd A5 L1 (.lst (ys ++ [.ref t1, .ref t2, .ref t3, .ref t4]))) := Same.new hL1
    have e6 : (upd A5 L1 (.lst (ys ++ [.ref t1, .ref t2, .ref t3, .ref t4]))) L1 = some (.lst (ys ++ [.ref t1, .ref t2, .ref t3, .ref t4])) := upd_same
    have hL1H : H L1 = none := ((s4.trans n14).trans n5).fresh hL1
    generalize upd A5 L1 _ = A6 at n6 e6
    (revert A6 n6 e6; refine keepIt ?_; intro A6 n6 e6)
    have sA : Same H A6 := ((s4.trans n14).trans n5).trans n6
    have f1 := n6 _ _ (n5 _ _ (n4 _ _ (n3 _ _ (n2 _ _ e1))))
    have f2 := n6 _ _ (n5 _ _ (n4 _ _ (n3 _ _ e2)))
    have f3 := n6 _ _ (n5 _ _ (n4 _ _ e3))
    have f4 := n6 _ _ (n5 _ _ e4)
    have raA : RowsAt K A6 (jl 0 o ++ [(("push" : Str), some number)] ++ ql number 0 p ++ fl (2 * o + 1)) (ys ++ [.ref t1, .ref t2, .ref t3, .ref t4]) := rowsAt_app (ra4.keep ((n14.trans n5).trans n6).imm) (RowsAt.cons ⟨t1, rfl, sqt_of f1⟩ (RowsAt.cons ⟨t2, rfl, sqt_of f2⟩ (RowsAt.cons ⟨t3, rfl, sqt_of f3⟩ (RowsAt.cons ⟨t4, rfl, sqt_of f4⟩ RowsAt.nil))))
    have hzl : (ys ++ [V.ref t1, V.ref t2, V.ref t3, V.ref t4]).length = 2 * o + 2 * p + 5 := by rw [List.length_append, ← hyl]; show _ + 4 = _; omega
    generalize ys ++ [V.ref t1, V.ref t2, V.ref t3, V.ref t4] = zs at e6 raA hzl
    (revert zs e6 raA hzl; refine keepIt ?_; intro zs e6 raA hzl)
    clear f1 f2 f3 f4 n6 n5 n4 n3 n2 n1 e1 e2 e3 e4 e5 n14
    have hzs := sql_of (K := K) e6
    have epr : ∀ tl, jl 0 o ++ [(("push" : Str), some number)] ++ ql number 0 p ++ fl (2 * o + 1) ++ tl = jl 0 o ++ ((("push" : Str), some number) :: (ql number 0 p ++ (fl (2 * o + 1) ++ tl))) := fun tl => by simp only [List.append_assoc, List.cons_append, List.nil_append]
    repeat' walk_at "rdk"
    · rename_i hlast
      refine ⟨by show 1 ≤ sizeLine; decide, fun t5 ht5 => ?_⟩
      have m1 : Same A6 (upd A6 t5 (.tup [.str "give"])) := Same.new ht5
      have g1 : (upd A6 t5 (.tup [.str "give"])) t5 = some (.tup [.str "give"]) := upd_same
      generalize upd A6 t5 _ = B1 at m1 g1
      (revert B1 m1 g1; refine keepIt ?_; intro B1 m1 g1)
      repeat walk_at "rdk"
      refine ⟨by show 1 ≤ sizeLine; decide, fun q2 hq2 => ?_⟩
      have m2 : Same B1 (upd B1 q2 (.lst [.ref t5])) := Same.new hq2
      have g2 : (upd B1 q2 (.lst [.ref t5])) q2 = some (.lst [.ref t5]) := upd_same
      generalize upd B1 q2 _ = B2 at m2 g2
      (revert B2 m2 g2; refine keepIt ?_; intro B2 m2 g2)
      refine rd_cat ((m1.trans m2) _ _ e6) g2 (Nat.le_trans (show zs.length + 1 ≤ 1000 by omega) (by decide)) fun L2 hL2 => ?_
      have m3 : Same B2 (upd B2 L2 (.lst (zs ++ [.ref t5]))) := Same.new hL2
      have sB := sA.trans (m1.trans m2)
      refine k L2 _ _ (sB.trans m3) (sB.fresh hL2) upd_same ?_
      have q := rowsAt_app (raA.keep ((m1.trans m2).trans m3).imm) (RowsAt.cons (r := (("give" : Str), none)) ⟨t5, rfl, sqt_of (m3 _ _ (m2 _ _ g1))⟩ RowsAt.nil)
      unfold progL tailL
      rw [if_pos hlast, ← epr]
      exact q
    · rename_i hlast
      refine ⟨by show 2 ≤ sizeLine; decide, fun t5 ht5 => ?_⟩
      have m1 : Same A6 (upd A6 t5 (.tup [.str "push", .int last])) := Same.new ht5
      have g1 : (upd A6 t5 (.tup [.str "push", .int last])) t5 = some (.tup [.str "push", .int last]) := upd_same
      generalize upd A6 t5 _ = B1 at m1 g1
      (revert B1 m1 g1; refine keepIt ?_; intro B1 m1 g1)
      have hzs1 := m1.seq hzs
      repeat walk_at "rdk"
      rw [hzl]
      refine ⟨by show 2 ≤ sizeLine; decide, fun t6 ht6 => ?_⟩
      have m2 : Same B1 (upd B1 t6 (.tup [.str "jumpif", .int (((2 * o + 2 * p + 5 : Nat) : Int) + 3)])) := Same.new ht6
      have g2 : (upd B1 t6 (.tup [.str "jumpif", .int (((2 * o + 2 * p + 5 : Nat) : Int) + 3)])) t6 = some (.tup [.str "jumpif", .int (((2 * o + 2 * p + 5 : Nat) : Int) + 3)]) := upd_same
      generalize upd B1 t6 _ = B2 at m2 g2
      (revert B2 m2 g2; refine keepIt ?_; intro B2 m2 g2)
      repeat walk_at "rdk"
      refine ⟨by show 1 ≤ sizeLine; decide, fun t7 ht7 => ?_⟩
      have m3 : Same B2 (upd B2 t7 (.tup [.str "fail"])) := Same.new ht7
      have g3 : (upd B2 t7 (.tup [.str "fail"])) t7 = some (.tup [.str "fail"]) := upd_same
      generalize upd B2 t7 _ = B3 at m3 g3
      (revert B3 m3 g3; refine keepIt ?_; intro B3 m3 g3)
      repeat walk_at "rdk"
      refine ⟨by show 3 ≤ sizeLine; decide, fun q2 hq2 => ?_⟩
      have m4 : Same B3 (upd B3 q2 (.lst [.ref t5, .ref t6, .ref t7])) := Same.new hq2
      have g4 : (upd B3 q2 (.lst [.ref t5, .ref t6, .ref t7])) q2 = some (.lst [.ref t5, .ref t6, .ref t7]) := upd_same
      generalize upd B3 q2 _ = B4 at m4 g4
      (revert B4 m4 g4; refine keepIt ?_; intro B4 m4 g4)
      have mA := ((m1.trans m2).trans m3).trans m4
      refine rd_cat (mA _ _ e6) g4 (Nat.le_trans (show zs.length + 3 ≤ 1000 by omega) (by decide)) fun L2 hL2 => ?_
      have m5 : Same B4 (upd B4 L2 (.lst (zs ++ [.ref t5, .ref t6, .ref t7]))) := Same.new hL2
      have sB := sA.trans mA
      refine k L2 _ _ (sB.trans m5) (sB.fresh hL2) upd_same ?_
      have q := rowsAt_app (raA.keep (mA.trans m5).imm) (RowsAt.cons (r := (("push" : Str), some last)) ⟨t5, rfl, sqt_of (m5 _ _ (m4 _ _ (m3 _ _ (m2 _ _ g1))))⟩ (RowsAt.cons (r := (("jumpif" : Str), some (((2 * o + 2 * p + 5 : Nat) : Int) + 3))) ⟨t6, rfl, sqt_of (m5 _ _ (m4 _ _ (m3 _ _ g2)))⟩ (RowsAt.cons (r := (("fail" : Str), none)) ⟨t7, rfl, sqt_of (m5 _ _ (m4 _ _ g3))⟩ RowsAt.nil)))
      unfold progL tailL
      rw [if_neg hlast, ← epr]
      exact q

end
end My

namespace My
open PySem L2
local macro_rules | `(tactic| walk_at "rw") => `(tactic| first
  | walk_at "rdk"
  | ((with_reducible refine' L2.rd_ixT ?h ?e ?_); (case h => assumption); (case e => exact My.row_at0))
  | fail)
local macro_rules | `(tactic| walk_at "rz") => `(tactic| first
  | ((with_reducible refine L2.rd_iteD (fun _ => ?_) (fun _ => ?_)) <;> (try (exfalso; omega)))
  | ((with_reducible refine L2.rd_iteND (fun _ => ?_) (fun _ => ?_)) <;> (try (exfalso; omega)))
  | ((with_reducible refine L2.rd_iteNND (fun _ => ?_) (fun _ => ?_)) <;> (try (exfalso; omega)))
  | walk_at "rw"
  | fail)
theorem run_none {A : Nat → Option AcI} {S : Nat → AcS} {rows : List Row} {x : FrS} (hf : x.fin = none) (h : (rows.length : Int) ≤ x.row) (hl : x.stack.length ≤ 900) : RunR A S rows 1 x { x with fin := some ("well" : Str), answer := 0 } [] :=
  RunR.step (add := []) (vs := []) hf (.inl ⟨h, rfl, rfl⟩) hl rfl (.done (by intro z; cases z))

noncomputable def ends (last : Int) (L : Nat) : List Nat := if last < 0 then [L] else if last = 0 then [L, L + 1, L + 2] else [L, L + 1]
noncomputable def endW (last : Int) : Str := if last = 0 then "fail" else "well"
noncomputable def RunG (rows : List Row) (given : Int) (G : List Nat) (e : Str) : Prop := ∀ (A : Nat → Option AcI) (S : Nat → AcS), ∃ n y, n ≤ 3000 ∧ RunR A S rows n (frame0 "call" 9 9 2 0 5 given 1 false) y (intsV G) ∧ y.fin = some e ∧ ∀ T, treeV y T = [.str "call", .int 9, .int 9, .int 2, .int 0, .int 5, .int given, .str e, .int 0, .int (G.length : Int), .ref T]
theorem dry_ok {rows : List Row} {given : Int} {is G : List Nat} {y : FrS} (h0 : 0 ≤ given) (hg : given ≤ 2000) (t : Tr rows (sr (frame0 "call" 9 9 2 0 5 given 1 false) [] ((0 : Nat) : Int)) is y) (hl : given < (is.length : Int)) (eG : G = is.take given.toNat) : RunG rows given G "dry" := fun A S => by
  obtain ⟨x', l, q⟩ := run_dry (A := A) (S := S) 0 given.toNat t (by omega)
  rw [show (0 : Int) + (given.toNat : Int) = given by omega] at q
  subst eG
  refine ⟨_, _, by omega, q, rfl, fun T => ?_⟩
  have hlen : ((is.take given.toNat).length : Int) = given := by rw [List.length_take]; omega
  rw [hlen]
  show [V.str x'.kind, .int x'.who, .int x'.whose, .int x'.caller, .int x'.coin, .int x'.word, .int given, .str "dry", .int 0, .int given, .ref T] = _
  rw [l.a, l.b, l.c, l.d, l.e, l.f]
  rfl
theorem full_ok {rows : List Row} {given : Int} {G : List Nat} {y z : FrS} {e : Str} {n : Nat} (hn : n ≤ 1) (hg : given ≤ 2000) (t : Tr rows (sr (frame0 "call" 9 9 2 0 5 given 1 false) [] ((0 : Nat) : Int)) G y) (hl : (G.length : Int) ≤ given) (q : ∀ (A : Nat → Option AcI) (S : Nat → AcS), RunR A S rows n (wU y (0 + G.length) given) z []) (ze : z.fin = some e) (za : z.answer = 0) (zu : z.used = (G.length : Int)) (zg : z.given = given) (zl : Like y z) : RunG rows given G e := fun A S => by
  have r := run_tr (A := A) (S := S) (g := given) 0 t (by omega) (q A S)
  rw [List.append_nil] at r
  have l := t.like.trans zl
  refine ⟨_, _, by omega, r, ze, fun T => ?_⟩
  unfold treeV
  rw [ze, za, zu, zg, l.a, l.b, l.c, l.d, l.e, l.f]
  rfl
theorem run_told {o p : Nat} {number last given : Int} {is : List Nat} (h0 : 0 ≤ given) (hg : given ≤ 1600) (hs : is.length ≤ 2100) (go : GoneOk o p number (given + 20) is) (hl : -1 ≤ last) :
    (¬ given < ((is ++ ends last (2 * o + 2 * p + 5)).length : Int) → RunG (progL o number p last) given (is ++ ends last (2 * o + 2 * p + 5)) (endW last)) ∧ (given < ((is ++ ends last (2 * o + 2 * p + 5)).length : Int) → RunG (progL o number p last) given ((is ++ ends last (2 * o + 2 * p + 5)).take given.toNat) "dry") := by
  generalize hL : 2 * o + 2 * p + 5 = L
  rcases go last (frame0 "call" 9 9 2 0 5 given 1 false) rfl rfl with t | ⟨hm, y, t⟩
  · rw [hL] at t
    have hr : ∀ j, (progL o number p last)[L + j]? = (tailL last L)[j]? := fun j => by rw [← hL]; exact pr_tail
    have hlen : (progL o number p last).length = L + (tailL last L).length := by rw [← hL]; exact pr_len
    by_cases c1 : last < 0
    · have tl : tailL last L = [(("give" : Str), none)] := by unfold tailL; rw [if_pos c1]
      have eE : ends last L = [L] := by unfold ends; rw [if_pos c1]
      have h1 := hr 0
      rw [tl, Nat.add_zero] at h1
      have tt := t.app (.one (c_give (s := []) (t := 0) (x := frame0 "call" 9 9 2 0 5 given 1 false) rfl rfl h1 (by decide)))
      rw [eE]
      have eW : endW last = "well" := by unfold endW; rw [if_neg (by omega)]
      rw [eW]
      exact ⟨fun hh => full_ok (n := 0) (by decide) (by omega) tt (by omega) (fun A S => .done (by intro z; cases z)) rfl rfl (Int.zero_add _) rfl ⟨rfl, rfl, rfl, rfl, rfl, rfl⟩, fun hh => dry_ok h0 (by omega) tt hh rfl⟩
    · have tl : tailL last L = [(("push" : Str), some last), (("jumpif" : Str), some ((L + 3 : Nat) : Int)), (("fail" : Str), none)] := by unfold tailL; rw [if_neg c1]
      have h1 := hr 0
      have h2 := hr 1
      have h3 := hr 2
      rw [tl, Nat.add_zero] at h1
      rw [tl] at h2 h3
      have t1 := c_push (s := [0]) (x := frame0 "call" 9 9 2 0 5 given 1 false) rfl rfl h1 (by decide)
      have t2 := c_jumpif (s := [0]) (t := last) (x := frame0 "call" 9 9 2 0 5 given 1 false) rfl rfl h2 (by decide)
      by_cases c2 : last = 0
      · subst c2
        rw [if_pos rfl] at t2
        have t3 := c_fail (s := []) (t := 0) (x := frame0 "call" 9 9 2 0 5 given 1 false) rfl rfl h3 (by decide)
        have tt := t.app (.cons t1 (.cons t2 (.one t3)))
        have eE : ends 0 L = [L, L + 1, L + 2] := rfl
        rw [eE, show endW 0 = "fail" from rfl]
        exact ⟨fun hh => full_ok (n := 0) (by decide) (by omega) tt (by omega) (fun A S => .done (by intro z; cases z)) rfl rfl (Int.zero_add _) rfl ⟨rfl, rfl, rfl, rfl, rfl, rfl⟩, fun hh => dry_ok h0 (by omega) tt hh rfl⟩
      · rw [if_neg c2] at t2
        have tt := t.app (.cons t1 (.one t2))
        have eE : ends last L = [L, L + 1] := by unfold ends; rw [if_neg c1, if_neg c2]
        have eW : endW last = "well" := by unfold endW; rw [if_neg c2]
        rw [eE, eW]
        exact ⟨fun hh => full_ok (n := 1) (by decide) (by omega) tt (by omega) (fun A S => run_none rfl (by rw [hlen, tl]; show ((L + 3 : Nat) : Int) ≤ ((L + 3 : Nat) : Int); omega) (by show 1 ≤ 900; decide)) rfl rfl (Int.zero_add _) rfl ⟨rfl, rfl, rfl, rfl, rfl, rfl⟩, fun hh => dry_ok h0 (by omega) tt hh rfl⟩
  · refine ⟨fun hh => absurd (show given < ((is ++ ends last L).length : Int) by rw [List.length_append]; omega) hh, fun _ => dry_ok h0 (by omega) t (by omega) ?_⟩
    rw [List.take_append_of_le_length (by omega)]

section

end
end My

namespace My
open PySem L2
local macro_rules | `(tactic| walk_at "rw") => `(tactic| first
  | walk_at "rdk"
  | ((with_reducible refine' L2.rd_ixT ?h ?e ?_); (case h => assumption); (case e => exact My.row_at0))
  | fail)
local macro_rules | `(tactic| walk_at "rz") => `(tactic| first
  | ((with_reducible refine L2.rd_iteD (fun _ => ?_) (fun _ => ?_)) <;> (try (exfalso; omega)))
  | ((with_reducible refine L2.rd_iteND (fun _ => ?_) (fun _ => ?_)) <;> (try (exfalso; omega)))
  | ((with_reducible refine L2.rd_iteNND (fun _ => ?_) (fun _ => ?_)) <;> (try (exfalso; omega)))
  | walk_at "rw"
  | fail)

noncomputable def hasAll (A : Nat → Option AcI) (ss : List Nat) : Prop := ∀ i ∈ ss, i < 16 ∧ ∃ x, A i = some x
noncomputable def setO (A : Nat → Option AcI) (i : Nat) (x : AcI) : Nat → Option AcI := fun j => if j = i then some x else A j
theorem rooms_set {A : Nat → Option AcI} {i : Nat} {x : AcI} (hi : i < 16) : ((List.range 16).map fun j => roomV (A j)).set i (.ref x.a) = (List.range 16).map fun j => roomV (setO A i x j) := by
  apply List.ext_getElem?
  intro n
  rw [List.getElem?_set]
  by_cases e : i = n
  · subst e
    rw [if_pos rfl, if_pos (by simpa using hi), List.getElem?_map, List.getElem?_range hi]
    show _ = some (roomV (setO A i x i))
    unfold setO
    rw [if_pos rfl]
    rfl
  · rw [if_neg e, List.getElem?_map, List.getElem?_map]
    by_cases hn : n < 16
    · rw [List.getElem?_range hn]
      show some _ = some (roomV (setO A i x n))
      unfold setO
      rw [if_neg (Ne.symm e)]
    · rw [List.getElem?_eq_none (by simpa using hn)]
      rfl
theorem setO_old {A : Nat → Option AcI} {i : Nat} {x : AcI} : ∀ j y, setO A i x j = some y → (j = i ∧ y = x) ∨ (j ≠ i ∧ A j = some y) := fun j y h => by
  unfold setO at h
  by_cases z : j = i
  · rw [if_pos z] at h; cases h; exact .inl ⟨z, rfl⟩
  · rw [if_neg z] at h; exact .inr ⟨z, h⟩
theorem Rooms.add {K : PySem.W.Frag} {C : Addr} {H H' : Hp} {R : Addr} {A : Nat → Option AcI} {S : Nat → AcS} {m : Nat} (r : Rooms K C H R A S m) {i : Nat} (hi : i < 16) {x : AcI} {s : AcS} (e5 : H' R = some (.lst (((List.range 16).map fun j => roomV (A j)).set i (.ref x.a)))) (e6 : Acc K C H' x s m)
    (fr : ∀ b o, H b = some o → b ≠ R → (∀ kvs, o ≠ .dK kvs) → H' b = some o) (fs : ∀ j y, j < 16 → A j = some y → H' y.st = H y.st) (np : ∀ j y, j < 16 → A j = some y → y.pr ≠ R) (n3 : H x.a = none) (n4 : H x.st = none) : Rooms K C H' R (setO A i x) (setS S i s) m := by
  have hR := r.ob
  have sne : ∀ j y, j < 16 → A j = some y → ∃ kvs, H y.st = some (.dK kvs) := fun j y hj hy => let ⟨kvs, a, _⟩ := (r.ac j y hj hy).sto; ⟨kvs, a⟩
  have im : SameI H H' := fun b u e i => by
    refine fr b u e (fun z => ?_) (fun kvs z => ?_)
    · rw [z, hR] at e; cases e; exact notImm_lst i
    · rw [z] at i; exact notImm_dK i
  refine ⟨by rw [e5, rooms_set hi], fun j y hj hy => ?_, fun j j' y y' hj hj' hy hy' e => ?_, fun j j' y y' hj hj' hy hy' e => ?_⟩
  · rcases setO_old j y hy with ⟨rfl, rfl⟩ | ⟨z, gy⟩
    · unfold setS; rw [if_pos rfl]; exact e6
    · unfold setS; rw [if_neg z]
      have h := r.ac j y hj gy
      obtain ⟨xs, g1, g2⟩ := h.pg
      obtain ⟨kvs, g3, g4⟩ := h.sto
      exact ⟨fr _ _ h.ob (ne_of h.ob hR (by intro z; cases z)) (by intro _ z; cases z), ⟨xs, fr _ _ g1 (np j y hj gy) (by intro _ z; cases z), g2.keep im⟩, kvs, (fs j y hj gy).trans g3, g4⟩
  · rcases setO_old j y hy with ⟨rfl, rfl⟩ | ⟨z, gy⟩ <;> rcases setO_old j' y' hy' with ⟨rfl, rfl⟩ | ⟨z', gy'⟩
    · rfl
    · have h := (r.ac j' y' hj' gy').ob; rw [← e, n3] at h; cases h
    · have h := (r.ac j y hj gy).ob; rw [e, n3] at h; cases h
    · exact r.da j j' y y' hj hj' gy gy' e
  · rcases setO_old j y hy with ⟨rfl, rfl⟩ | ⟨z, gy⟩ <;> rcases setO_old j' y' hy' with ⟨rfl, rfl⟩ | ⟨z', gy'⟩
    · rfl
    · obtain ⟨_, h⟩ := sne j' y' hj' gy'; rw [← e, n4] at h; cases h
    · obtain ⟨_, h⟩ := sne j y hj gy; rw [e, n4] at h; cases h
    · exact r.ds j j' y y' hj hj' gy gy' e
theorem Rooms.empty {K : PySem.W.Frag} {C : Addr} {H : Hp} {R : Addr} {m : Nat} (f : H R = some (.lst ((List.range 16).map fun i => roomV ((fun _ => none : Nat → Option AcI) i)))) (S : Nat → AcS) : Rooms K C H R (fun _ => none) S m :=
  ⟨f, fun _ _ _ h => (nomatch h), fun _ _ _ _ _ _ h => (nomatch h), fun _ _ _ _ _ _ h => (nomatch h)⟩

theorem Rooms.made {K : PySem.W.Frag} {C : Addr} {H H2 : Hp} {R : Addr} {A : Nat → Option AcI} {S : Nat → AcS} {m : Nat} (r : Rooms K C H R A S m) {i : Nat} (hi : i < 16) (np : ∀ j y, j < 16 → A j = some y → y.pr ≠ R) {a dx pr st : Addr} {c p : Int} {rs : List Row} (s : Same H H2) (ha : H a = none) (hpr : H pr = none) (hst : H st = none) (ac : AcAt K C H2 a dx pr st c p 0 rs (fun _ => 0) 0) :
    Rooms K C (upd H2 R (.lst (((List.range 16).map fun j => roomV (A j)).set i (.ref a)))) R (setO A i ⟨a, dx, pr, st⟩) (setS S i ⟨c, p, 0, rs, fun _ => 0⟩) m ∧ ∀ j y, j < 16 → setO A i ⟨a, dx, pr, st⟩ j = some y → y.pr ≠ R := by
  have nR : pr ≠ R := Ne.symm (ne_of_none r.ob hpr)
  have im : SameI H2 (upd H2 R (.lst (((List.range 16).map fun j => roomV (A j)).set i (.ref a)))) := SameI.upd (s _ _ r.ob) notImm_lst
  obtain ⟨xs, g1, g2⟩ := ac.pg
  obtain ⟨kvs, g3, g4, g5⟩ := ac.sto
  refine ⟨r.add (x := ⟨a, dx, pr, st⟩) hi upd_same ⟨by rw [upd_ne (ne_of ac.ob (s _ _ r.ob) (by intro z; cases z))]; exact ac.ob, ⟨xs, by rw [upd_ne nR]; exact g1, g2.keep im⟩, kvs, by rw [upd_ne (ne_of g3 (s _ _ r.ob) (by intro z; cases z))]; exact g3, Nat.le_trans g4 (Nat.zero_le _), g5⟩ (fun b o h h1 _ => by rw [upd_ne h1]; exact s _ _ h) (fun j y hj hy => ?_) np ha hst, fun j y hj hy => ?_⟩
  · obtain ⟨kv, q, _⟩ := (r.ac j y hj hy).sto
    rw [upd_ne (ne_of q r.ob (by intro z; cases z)), q]
    exact s _ _ q
  · rcases setO_old j y hy with ⟨rfl, rfl⟩ | ⟨_, gy⟩
    · exact nR
    · exact np j y hj gy
noncomputable def spLaw (K : PySem.W.Frag) : Sp := fun vs H Q _ => ∃ (a : Addr) (ns : List Int), vs = [.ref a] ∧ SqL K H a (ns.map V.int) ∧ ns.length ≤ 63 ∧ ∀ H', Q (.bl true) H'

theorem moved_rows (S : Nat → AcS) (x : FrS) (i : Nat) : (movedS S x i).rows = (S i).rows := by
  unfold movedS
  cases e : mvD x with
  | none => rfl
  | some d =>
    unfold mvD at e
    split at e
    · cases e
      show (moved S _ _ _ i).rows = _
      rw [moved_coin]
    · cases e
theorem dvs_ints {K : PySem.W.Frag} {H : Hp} : ∀ (is : List Nat), DVs K H (is.map fun i : Nat => Dt.int (i : Int)) (intsV is)
  | [] => dvs_nil
  | _ :: is => dvs_cons dv_int (dvs_ints is)
theorem plain_ints : ∀ (is : List Nat), PlainDs (is.map fun i : Nat => Dt.int (i : Int))
  | [] => by show PlainDs []; unfold PlainDs; trivial
  | i :: is => by show PlainDs (_ :: _); unfold PlainDs; exact ⟨by unfold PlainD; trivial, plain_ints is⟩
theorem deps_ints : ∀ (is : List Nat), Dt.deps (is.map fun i : Nat => Dt.int (i : Int)) = 0
  | [] => rfl
  | i :: is => by show max 0 (Dt.deps (is.map _)) = 0; rw [deps_ints is]; rfl
noncomputable def dueG (given : Int) (e : Str) (G : List Nat) : Dt := .tup [.str "call", .int 9, .int 9, .int 2, .int 0, .int 5, .int given, .str e, .int 0, .int (G.length : Int), .lst (G.map fun i : Nat => Dt.int (i : Int))]
theorem dueG_plain (given : Int) (e : Str) {G : List Nat} (h : G.length ≤ 5000) : PlainD (dueG given e G) := by
  have hl : (G.map fun i : Nat => Dt.int (i : Int)).length ≤ 100000 := by rw [List.length_map]; omega
  unfold dueG
  simp only [PlainD, PlainDs, List.length_cons, List.length_nil, and_true, true_and]
  exact ⟨by decide, hl, plain_ints G⟩
theorem dueG_dep (given : Int) (e : Str) (G : List Nat) : (dueG given e G).dep ≤ 4 := by
  have h := deps_ints G
  unfold dueG
  simp only [Dt.dep, Dt.deps, h]
  omega
theorem dueG_dv {K : PySem.W.Frag} {H : Hp} {p T : Addr} {given : Int} {e : Str} {G : List Nat} (h1 : H p = some (.tup [.str "call", .int 9, .int 9, .int 2, .int 0, .int 5, .int given, .str e, .int 0, .int (G.length : Int), .ref T])) (h2 : H T = some (.lst (intsV G))) : DV K H (dueG given e G) (.ref p) :=
  dv_tup (sqt_of h1) (dvs_cons dv_str (dvs_cons dv_int (dvs_cons dv_int (dvs_cons dv_int (dvs_cons dv_int (dvs_cons dv_int (dvs_cons dv_int (dvs_cons dv_str (dvs_cons dv_int (dvs_cons dv_int (dvs_cons (dv_lst (sql_of h2) (dvs_ints G)) dvs_nil)))))))))))

section
variable {P : Program} {w : World} {K : PySem.W.Frag} {mg : Str → Option Value} {base : Heap}
theorem sc_law : FnScope ["_law_script", "_law_over", "_law_pairs", "_law_number", "_law_given", "_law_last", "_law_rows", "_law_gone_here", "_law_behind", "_law_end", "_law_rooms", "_law_found"] ["_law_script"] (defScope s_law) := ⟨rfl, rfl, rfl, by decide +kernel, rfl, by decide +kernel, by decide +kernel⟩
theorem ok_law   {cAccount : Addr} {cJournal : Addr} {f : Addr} {fd : FuncData} (F : Fun K "law" "law" s_law f fd) (tAccount : T_Account K mg cAccount) (tJournal : T_Journal K mg cJournal) (i_Account : ICal P w K mg base 1 "Account" cAccount (spInit K cAccount)) (i_Journal : ICal P w K mg base 1 "Journal" cJournal (spJInit cJournal)) (c_Lprogram : Cal P w K mg base 1 "_law_program" (spProg K)) (c_Lgone : Cal P w K mg base 1 "_law_gone" spGone) (c_enter : Cal P w K mg base 9 "enter" (spEnter K cAccount cJournal cSave cMove cNote)) (c_Lalike : Cal P w K mg base 6 "_law_alike" (spAlike K 4)) (c_Lcell_at : Cal P w K mg base 1 "_law_cell_at" (spCell K)) (n_len : mg "len" = none) : FnOk P w K mg base CX0 10 f fd ["_law_script"] (spLaw K) := by
  refine F.ok (N := ["_law_script", "_law_over", "_law_pairs", "_law_number", "_law_given", "_law_last", "_law_rows", "_law_gone_here", "_law_behind", "_law_end", "_law_rooms", "_law_found"]) sc_law (fun vs H Q E h => ?_) (fun cdv A outer s H vs Q E hr h => ?_)
  · obtain ⟨a, ns, rfl, _⟩ := h; rfl
  · obtain ⟨a, ns, rfl, hS, hlen, k⟩ := h
    refine ⟨_, (pss_cons (ps_set (i := 1) sc_law.nd rfl (by first | exact Or.inl rfl | exact Or.inr rfl) (pe_op op_mod (pe_cal c_Lcell_at (hr.mono (by decide)) rfl (pa_cons (pv 0) (pa_cons pe_int pa_nil))) pe_int))
      (pss_cons (ps_set (i := 2) sc_law.nd rfl (by first | exact Or.inl rfl | exact Or.inr rfl) (pe_op op_mod (pe_op op_fdivW (pe_cal c_Lcell_at (hr.mono (by decide)) rfl (pa_cons (pv 0) (pa_cons pe_int pa_nil))) pe_int) pe_int))
      (pss_cons (ps_set (i := 3) sc_law.nd rfl (by first | exact Or.inl rfl | exact Or.inr rfl) (pe_op op_mod (pe_op op_fdivW (pe_cal c_Lcell_at (hr.mono (by decide)) rfl (pa_cons (pv 0) (pa_cons pe_int pa_nil))) pe_int) (pe_op op_pow pe_int pe_int)))
      (pss_cons (ps_cut (ps_if (pt_cmpR op_eq (pe_op op_mod (pe_cal c_Lcell_at (hr.mono (by decide)) rfl (pa_cons (pv 0) (pa_cons pe_int pa_nil))) pe_int) pe_int (nomark _)) (pss_one (ps_set (i := 3) sc_law.nd rfl (by first | exact Or.inl rfl | exact Or.inr rfl) (pe_op op_mod (pv 3) pe_int))) pss_nil))
      (pss_cons (ps_set (i := 4) sc_law.nd rfl (by first | exact Or.inl rfl | exact Or.inr rfl) (pe_op op_mod (pe_op op_fdivW (pe_cal c_Lcell_at (hr.mono (by decide)) rfl (pa_cons (pv 0) (pa_cons pe_int pa_nil))) pe_int) pe_int))
      (pss_cons (ps_cut (ps_if (pt_cmpR op_eq (pe_op op_mod (pe_cal c_Lcell_at (hr.mono (by decide)) rfl (pa_cons (pv 0) (pa_cons pe_int pa_nil))) pe_int) pe_int (nomark _)) (pss_one (ps_set (i := 4) sc_law.nd rfl (by first | exact Or.inl rfl | exact Or.inr rfl) (pe_op op_add pe_int (pe_op op_mod (pe_op op_fdivW (pe_cal c_Lcell_at (hr.mono (by decide)) rfl (pa_cons (pv 0) (pa_cons pe_int pa_nil))) pe_int) pe_int)))) pss_nil))
      (pss_cons (ps_set (i := 5) sc_law.nd rfl (by first | exact Or.inl rfl | exact Or.inr rfl) (pe_op op_mod (pe_op op_fdivW (pe_cal c_Lcell_at (hr.mono (by decide)) rfl (pa_cons (pv 0) (pa_cons pe_int pa_nil))) pe_int) (pe_op op_pow pe_int pe_int)))
      (pss_cons (ps_cut (ps_if (pt_cmpR op_eq (pe_op op_mod (pe_cal c_Lcell_at (hr.mono (by decide)) rfl (pa_cons (pv 0) (pa_cons pe_int pa_nil))) pe_int) pe_int (nomark _)) (pss_one (ps_set (i := 5) sc_law.nd rfl (by first | exact Or.inl rfl | exact Or.inr rfl) (pe_un un_neg pe_int))) pss_nil))
      (pss_cons (ps_cut (ps_if (pt_cmpR op_eq (pe_op op_mod (pe_cal c_Lcell_at (hr.mono (by decide)) rfl (pa_cons (pv 0) (pa_cons pe_int pa_nil))) pe_int) pe_int (nomark _)) (pss_one (ps_set (i := 5) sc_law.nd rfl (by first | exact Or.inl rfl | exact Or.inr rfl) pe_int)) pss_nil))
      (pss_cons (ps_set (i := 6) sc_law.nd rfl (by first | exact Or.inl rfl | exact Or.inr rfl) (pe_cal c_Lprogram (hr.mono (by decide)) rfl (pa_cons (pv 1) (pa_cons (pv 3) (pa_cons (pv 2) (pa_cons (pv 5) pa_nil))))))
      (pss_cons (ps_set (i := 7) sc_law.nd rfl (by first | exact Or.inl rfl | exact Or.inr rfl) (pe_cal c_Lgone (hr.mono (by decide)) rfl (pa_cons (pv 1) (pa_cons (pv 3) (pa_cons (pv 2) (pa_cons (pe_op op_add (pv 4) pe_int) pa_nil))))))
      (pss_cons (ps_set (i := 8) sc_law.nd rfl (by first | exact Or.inl rfl | exact Or.inr rfl) (pe_op op_add (pe_op op_add (pe_op op_mul pe_int (pv 1)) (pe_op op_mul pe_int (pv 2))) pe_int))
      (pss_cons (ps_cut (ps_if (pt_cmpR op_lt (pv 5) pe_int (nomark _)) (pss_one (ps_set (i := 7) sc_law.nd rfl (by first | exact Or.inl rfl | exact Or.inr rfl) (pe_op op_cat (pv 7) (pe_lst (pa_cons (pv 8) pa_nil))))) (pss_cons (ps_set (i := 7) sc_law.nd rfl (by first | exact Or.inl rfl | exact Or.inr rfl) (pe_op op_cat (pv 7) (pe_lst (pa_cons (pv 8) (pa_cons (pe_op op_add (pv 8) pe_int) pa_nil)))))
      (pss_one (ps_cut (ps_if (pt_cmpR op_eq (pv 5) pe_int (nomark _)) (pss_one (ps_set (i := 7) sc_law.nd rfl (by first | exact Or.inl rfl | exact Or.inr rfl) (pe_op op_cat (pv 7) (pe_lst (pa_cons (pe_op op_add (pv 8) pe_int) pa_nil))))) pss_nil))))))
      (pss_cons (ps_set (i := 9) sc_law.nd rfl (by first | exact Or.inl rfl | exact Or.inr rfl) pe_str)
      (pss_cons (ps_cut (ps_if (pt_cmpR op_eq (pv 5) pe_int (nomark _)) (pss_one (ps_set (i := 9) sc_law.nd rfl (by first | exact Or.inl rfl | exact Or.inr rfl) pe_str)) pss_nil))
      (pss_cons (ps_cut (ps_if (pt_cmpR op_gt (pe_callB cn_len rfl n_len PySem.boot_len (pa_cons (pv 7) pa_nil)) (pv 4) (nomark _)) (pss_cons (ps_set (i := 7) sc_law.nd rfl (by first | exact Or.inl rfl | exact Or.inr rfl) (pe_slice sl_list (pv 7) po_none (po_some (pv 4))))
      (pss_one (ps_set (i := 9) sc_law.nd rfl (by first | exact Or.inl rfl | exact Or.inr rfl) pe_str))) pss_nil))
      (pss_cons (ps_set (i := 10) sc_law.nd rfl (by first | exact Or.inl rfl | exact Or.inr rfl) (pe_op op_rep (pe_lst (pa_cons pe_non pa_nil)) pe_int))
      (pss_cons (ps_asg (pe_ical i_Account (hr.mono (by decide)) rfl (pa_cons pe_int (pa_cons pe_int (pa_cons (pe_lst pa_nil) pa_nil)))) (pg_sub (pv 10) pe_int set_list))
      (pss_cons (ps_asg (pe_ical i_Account (hr.mono (by decide)) rfl (pa_cons pe_int (pa_cons pe_int (pa_cons (pv 6) pa_nil)))) (pg_sub (pv 10) pe_int set_list))
      (pss_cons (ps_set (i := 11) sc_law.nd rfl (by first | exact Or.inl rfl | exact Or.inr rfl) (pe_cal c_enter (hr.mono (by decide)) rfl (pa_cons (pv 10) (pa_cons (pe_ical i_Journal (hr.mono (by decide)) rfl (pa_cons (pv 10) pa_nil)) (pa_cons pe_int (pa_cons pe_int (pa_cons pe_int (pa_cons pe_int (pa_cons (pv 4) pa_nil)))))))))
      (pss_one (ps_ret (pe_cal c_Lalike (hr.mono (by decide)) rfl (pa_cons (pv 11) (pa_cons (pe_tup (pa_cons pe_str (pa_cons pe_int (pa_cons pe_int (pa_cons pe_int (pa_cons pe_int (pa_cons pe_int (pa_cons (pv 4) (pa_cons (pv 9) (pa_cons pe_int (pa_cons (pe_callB cn_len rfl n_len PySem.boot_len (pa_cons (pv 7) pa_nil)) (pa_cons (pv 7) pa_nil)))))))))))) pa_nil))))))))))))))))))))))))), ?_⟩
    try simp only [nox_K, nox_P, nox_w, nox_mg, nox_base, cxOf_K, cxOf_P, cxOf_w, cxOf_mg, cxOf_base]
    repeat walk_at "rdk"
    refine ⟨a, ns, _, rfl, by decide, hS, fun c0 => ?_⟩
    repeat walk_at "rdk"
    refine ⟨a, ns, _, rfl, by decide, hS, fun c1 => ?_⟩
    repeat walk_at "rdk"
    refine ⟨a, ns, _, rfl, by decide, hS, fun c2 => ?_⟩
    repeat walk_at "rdk"
    rw [p64]
    obtain ⟨o, eo, ho⟩ : ∃ o : Nat, c0 % 6 = (o : Int) ∧ o ≤ 5 := ⟨(c0 % 6).toNat, by omega, by omega⟩
    obtain ⟨p, ep, hp⟩ : ∃ p : Nat, c1 / 6 % 4 = (p : Int) ∧ p ≤ 3 := ⟨(c1 / 6 % 4).toNat, by omega, by omega⟩
    rw [eo, ep]
    have hn0 : In64 (c2 / 2 % 18446744073709551616) := ⟨by omega, by omega⟩
    generalize c2 / 2 % 18446744073709551616 = n0 at hn0 ⊢
    (revert n0 hn0; refine keepIt ?_; intro n0 hn0)
    refine rd_cut (fun σ' H' => ∃ number, In64 number ∧ H' = H ∧ σ' = [some (.ref a), some (.int (o : Int)), some (.int (p : Int)), some (.int number), none, none, none, none, none, none, none, none]) ?_ ?_
    · repeat walk_at "rdk"
      refine ⟨a, ns, _, rfl, by decide, hS, fun c3 => ?_⟩
      repeat' walk_at "rdk"
      · exact ⟨n0 % 12, ⟨by omega, by omega⟩, rfl, rfl⟩
      · exact ⟨n0, hn0, rfl, rfl⟩
    rintro σ1 H1 ⟨number, hn, rfl, rfl⟩
    clear hn0 eo ep
    repeat walk_at "rdk"
    refine ⟨a, ns, _, rfl, by decide, hS, fun c4 => ?_⟩
    repeat walk_at "rdk"
    have hg0 : 0 ≤ c4 / 8 % 300 ∧ c4 / 8 % 300 ≤ 1500 := by omega
    generalize c4 / 8 % 300 = g0 at hg0 ⊢
    (revert g0 hg0; refine keepIt ?_; intro g0 hg0)
    refine rd_cut (fun σ' H' => ∃ given, 0 ≤ given ∧ given ≤ 1500 ∧ H' = H1 ∧ σ' = [some (.ref a), some (.int (o : Int)), some (.int (p : Int)), some (.int number), some (.int given), none, none, none, none, none, none, none]) ?_ ?_
    · repeat walk_at "rdk"
      refine ⟨a, ns, _, rfl, by decide, hS, fun c5 => ?_⟩
      repeat' walk_at "rdk"
      · refine ⟨a, ns, _, rfl, by decide, hS, fun c6 => ?_⟩
        repeat walk_at "rdk"
        exact ⟨300 + c6 / 8 % 1200, by omega, by omega, rfl, rfl⟩
      · exact ⟨g0, hg0.1, hg0.2, rfl, rfl⟩
    rintro σ2 H2 ⟨given, hgv0, hgv1, rfl, rfl⟩
    clear hg0
    repeat walk_at "rdk"
    refine ⟨a, ns, _, rfl, by decide, hS, fun c7 => ?_⟩
    repeat walk_at "rdk"
    rw [p64]
    have hl0 : -1 ≤ c7 / 3 % 18446744073709551616 := by omega
    generalize c7 / 3 % 18446744073709551616 = l0 at hl0 ⊢
    (revert l0 hl0; refine keepIt ?_; intro l0 hl0)
    refine rd_cut (fun σ' H' => ∃ last, -1 ≤ last ∧ H' = H2 ∧ σ' = [some (.ref a), some (.int (o : Int)), some (.int (p : Int)), some (.int number), some (.int given), some (.int last), none, none, none, none, none, none]) ?_ ?_
    · repeat walk_at "rdk"
      refine ⟨a, ns, _, rfl, by decide, hS, fun c8 => ?_⟩
      repeat' walk_at "rdk"
      · exact ⟨-1, by omega, rfl, rfl⟩
      · exact ⟨l0, hl0, rfl, rfl⟩
    rintro σ3 H3 ⟨l1, hl1, rfl, rfl⟩
    clear hl0
    refine rd_cut (fun σ' H' => ∃ last, -1 ≤ last ∧ H' = H3 ∧ σ' = [some (.ref a), some (.int (o : Int)), some (.int (p : Int)), some (.int number), some (.int given), some (.int last), none, none, none, none, none, none]) ?_ ?_
    · repeat walk_at "rdk"
      refine ⟨a, ns, _, rfl, by decide, hS, fun c9 => ?_⟩
      repeat' walk_at "rdk"
      · exact ⟨0, by omega, rfl, rfl⟩
      · exact ⟨l1, hl1, rfl, rfl⟩
    rintro σ4 H4 ⟨last, hlast, rfl, rfl⟩
    clear hl1
    repeat walk_at "rdk"
    refine ⟨o, p, number, last, rfl, ho, hp, fun RL xs H5 s5 hRL eR ra => ?_⟩
    repeat walk_at "rdk"
    refine ⟨o, p, number, given + 20, rfl, ho, hp, hn, by omega, fun G0 is H6 s6 hG0 eG0 go hil => ?_⟩
    have il : ∀ is : List Nat, (intsV is).length = is.length := fun is => by unfold intsV; rw [List.length_map]
    have el : (ends last (2 * o + 2 * p + 5)).length ≤ 3 := by unfold ends; split; show 1 ≤ 3; decide; split; show 3 ≤ 3; decide; show 2 ≤ 3; decide
    obtain ⟨rt1, rt2⟩ := run_told (o := o) (p := p) (number := number) (last := last) (given := given) hgv0 (by omega) hil go hlast
    have ap : ∀ x y : List Nat, intsV (x ++ y) = intsV x ++ intsV y := fun x y => by unfold intsV; rw [List.map_append]
    have eR6 := s6 _ _ eR
    have ra6 := ra.keep s6.imm
    repeat walk_at "rdk"
    rw [show 2 * (o : Int) + 2 * (p : Int) + 5 = ((2 * o + 2 * p + 5 : Nat) : Int) by omega]
    generalize 2 * o + 2 * p + 5 = L at el rt1 rt2 ⊢
    refine rd_cut (fun σ' H' => ∃ G, Same H6 H' ∧ H' G = some (.lst (intsV (is ++ ends last L))) ∧ σ' = [some (.ref a), some (.int (o : Int)), some (.int (p : Int)), some (.int number), some (.int given), some (.int last), some (.ref RL), some (.ref G), some (.int (L : Int)), none, none, none]) ?_ ?_
    · have hsz : ∀ n, n ≤ 3 → (intsV is).length + n ≤ sizeLine := fun n hn => Nat.le_trans (show _ ≤ 5000 by rw [il]; omega) (by decide)
      repeat' walk_at "rdk"
      · rename_i hc
        refine ⟨by show 1 ≤ sizeLine; decide, fun q1 hq1 => ?_⟩
        refine rd_cat (ys := [.int (L : Int)]) (by rw [upd_ne (ne_of_none eG0 hq1)]; exact eG0) upd_same (hsz 1 (by decide)) fun G hG => ?_
        repeat walk_at "rdk"
        refine ⟨G, (Same.new hq1).newT hG, ?_, rfl⟩
        rw [upd_same, ap, show ends last L = [L] by unfold ends; rw [if_pos hc]]
        rfl
      · rename_i hc
        refine ⟨by show 2 ≤ sizeLine; decide, fun q1 hq1 => ?_⟩
        refine rd_cat (ys := [.int (L : Int), .int ((L : Int) + 1)]) (by rw [upd_ne (ne_of_none eG0 hq1)]; exact eG0) upd_same (hsz 2 (by decide)) fun G hG => ?_
        have sG : Same H6 (upd (upd H6 q1 (.lst [.int (L : Int), .int ((L : Int) + 1)])) G (.lst (intsV is ++ [.int (L : Int), .int ((L : Int) + 1)]))) := (Same.new hq1).newT hG
        have eG : (upd (upd H6 q1 (.lst [.int (L : Int), .int ((L : Int) + 1)])) G (.lst (intsV is ++ [.int (L : Int), .int ((L : Int) + 1)]))) G = some (.lst (intsV is ++ [.int (L : Int), .int ((L : Int) + 1)])) := upd_same
        generalize upd (upd H6 q1 _) G _ = H7 at sG eG
        (revert H7 sG eG; refine keepIt ?_; intro H7 sG eG)
        repeat walk_at "rdk"
        refine rd_cut (fun σ' H' => ∃ G, Same H6 H' ∧ H' G = some (.lst (intsV (is ++ ends last L))) ∧ σ' = [some (.ref a), some (.int (o : Int)), some (.int (p : Int)), some (.int number), some (.int given), some (.int last), some (.ref RL), some (.ref G), some (.int (L : Int)), none, none, none]) ?_ (fun _ _ h => h)
        repeat' walk_at "rdk"
        · rename_i hc2
          refine ⟨by show 1 ≤ sizeLine; decide, fun q2 hq2 => ?_⟩
          refine rd_cat (ys := [.int ((L : Int) + 2)]) (by rw [upd_ne (ne_of_none eG hq2)]; exact eG) upd_same (by rw [List.length_append]; exact hsz 3 (by decide)) fun G2 hG2 => ?_
          repeat walk_at "rdk"
          refine ⟨G2, (sG.newT hq2).newT hG2, ?_, rfl⟩
          rw [upd_same, ap, show ends last L = [L, L + 1, L + 2] by unfold ends; rw [if_neg hc, if_pos hc2], List.append_assoc]
          rfl
        · rename_i hc2
          refine ⟨G, sG, ?_, rfl⟩
          rw [eG, ap, show ends last L = [L, L + 1] by unfold ends; rw [if_neg hc, if_neg hc2]]
          rfl
    rintro σ5 H7 ⟨G, s7, eG, rfl⟩
    repeat walk_at "rdk"
    refine rd_cut (fun σ' H' => H' = H7 ∧ σ' = [some (.ref a), some (.int (o : Int)), some (.int (p : Int)), some (.int number), some (.int given), some (.int last), some (.ref RL), some (.ref G), some (.int (L : Int)), some (.str (endW last)), none, none]) ?_ ?_
    · repeat' walk_at "rdk"
      · rename_i hc
        refine ⟨rfl, ?_⟩
        unfold endW; rw [if_pos hc]
      · rename_i hc
        refine ⟨rfl, ?_⟩
        unfold endW; rw [if_neg hc]
    rintro σ6 H8 ⟨rfl, rfl⟩
    have hGs := sql_of (K := K) eG
    have ilf := il (is ++ ends last L)
    have hfl : (is ++ ends last L).length ≤ 2103 := by rw [List.length_append]; omega
    refine rd_cut (fun σ' H' => ∃ G2 GG e, Same H8 H' ∧ H' G2 = some (.lst (intsV GG)) ∧ RunG (progL o number p last) given GG e ∧ GG.length ≤ 2103 ∧ σ' = [some (.ref a), some (.int (o : Int)), some (.int (p : Int)), some (.int number), some (.int given), some (.int last), some (.ref RL), some (.ref G2), some (.int (L : Int)), some (.str e), none, none]) ?_ ?_
    · repeat' walk_at "rdk"
      · rename_i hc
        rw [ilf] at hc
        intro q hq
        repeat walk_at "rdk"
        have et : cutV (intsV (is ++ ends last L)) none (some given) = intsV ((is ++ ends last L).take given.toNat) := by
          rw [show given = ((given.toNat : Nat) : Int) by omega, cutV_take, Int.toNat_natCast]
          unfold intsV; rw [List.map_take]
        rw [et]
        exact ⟨q, _, "dry", Same.new hq, upd_same, rt2 hc, by rw [List.length_take]; omega, rfl⟩
      · rename_i hc
        rw [ilf] at hc
        exact ⟨G, _, _, Same.refl _, eG, rt1 hc, hfl, rfl⟩
    rintro σ7 H9 ⟨G2, GG, e, s9, eG9, hRun, hGl, rfl⟩
    have eR9 := s9 _ _ (s7 _ _ eR6)
    have ra9 := (ra6.keep s7.imm).keep s9.imm
    clear rt1 rt2 go eG0 eG hGs ilf hfl ap el eR6 ra6 ra eR
    repeat walk_at "rdk"
    refine ⟨show 1 ≤ sizeLine by decide, fun z hz => ?_⟩
    repeat walk_at "rdk"
    refine ⟨z, 16, [.non], rfl, rfl, upd_same, by decide, by decide, by decide, fun R hR0 => ?_⟩
    have e16 : (List.replicate (Int.toNat 16) [V.non]).flatten = (List.range 16).map fun i => roomV ((fun _ => none : Nat → Option AcI) i) := rfl
    rw [e16]
    have sR : Same H9 (upd (upd H9 z (.lst [.non])) R (.lst ((List.range 16).map fun i => roomV ((fun _ => none : Nat → Option AcI) i)))) := (Same.new hz).newT hR0
    have f3 : (upd (upd H9 z (.lst [.non])) R (.lst ((List.range 16).map fun i => roomV ((fun _ => none : Nat → Option AcI) i)))) R = some (.lst ((List.range 16).map fun i => roomV ((fun _ => none : Nat → Option AcI) i))) := upd_same
    have hRn : H9 R = none := (Same.new hz).fresh hR0
    generalize upd (upd H9 z (.lst [.non])) R _ = H10 at sR f3
    (revert H10 sR f3; refine keepIt ?_; intro H10 sR f3)
    have r0 : Rooms K cAccount H10 R (fun _ => none) (fun _ => ⟨0, 0, 0, [], fun _ => 0⟩) 0 := Rooms.empty f3 _
    repeat walk_at "rdk"
    refine ⟨by decide, fun pq hpq => ?_⟩
    have sq1 : Same H10 (upd H10 pq (.lst [])) := Same.new hpq
    have eq1 : (upd H10 pq (.lst [])) pq = some (.lst []) := upd_same
    generalize upd H10 pq _ = H11 at sq1 eq1
    (revert H11 sq1 eq1; refine keepIt ?_; intro H11 sq1 eq1)
    have r8 := r0.same sq1
    repeat walk_at "rdk"
    intro x1 dx1 hx1 hdx1 hnex1
    have hx12 : (upd H11 dx1 (.own x1)) x1 = none := by rw [upd_ne (Ne.symm hnex1)]; exact hx1
    have smx1 : Same H11 (upd (upd H11 dx1 (.own x1)) x1 (.ins cAccount dx1 [])) := (Same.new hdx1).newT hx12
    refine ⟨x1, dx1, pq, 10, 3, [], [], rfl, upd_same, smx1.seq (sql_of eq1), RowsAt.nil, fun prx1 stx1 H12 hprx1 hstx1 hnx1 acx1 kpx1 => ?_⟩
    have snx1 : Same H11 H12 := fun b o e => kpx1 b o (smx1 _ _ e) (ne_of_none e hx1)
    refine ⟨rfl, ?_⟩
    repeat walk_at "rdk"
    refine rd_setL (snx1 _ _ r8.ob) (ixN_nat (j := 2) rfl (by rw [List.length_map, List.length_range]; decide)) ?_
    obtain ⟨r9, np9⟩ := r8.made (a := x1) (i := 2) (by decide) (fun _ _ _ h => (nomatch h)) snx1 hx1 (smx1.fresh hprx1) (smx1.fresh hstx1) acx1
    have nkx1 : KeptX (· = R) H11 (upd H12 R (.lst (((List.range 16).map fun j => roomV ((fun _ => none : Nat → Option AcI) j)).set 2 (.ref x1)))) := snx1.keptX.trans (KeptX.upd rfl)
    generalize upd H12 R _ = H13 at r9 nkx1
    (revert H13 r9 nkx1; refine keepIt ?_; intro H13 r9 nkx1)
    have k13 : KeptX (· = R) H9 H13 := (sR.keptX.trans sq1.keptX).trans nkx1
    have eR13 := k13 _ _ eR9 (Ne.symm (Ne.symm (ne_of_none eR9 hRn)))
    have ra13 := ra9.keep (k13.imm (fun b o z e i => by rw [z, hRn] at e; cases e))
    repeat walk_at "rdk"
    intro x2 dx2 hx2 hdx2 hnex2
    have hx22 : (upd H13 dx2 (.own x2)) x2 = none := by rw [upd_ne (Ne.symm hnex2)]; exact hx2
    have smx2 : Same H13 (upd (upd H13 dx2 (.own x2)) x2 (.ins cAccount dx2 [])) := (Same.new hdx2).newT hx22
    refine ⟨x2, dx2, RL, 10, 7, xs, (progL o number p last), rfl, upd_same, smx2.seq (sql_of eR13), (ra13.keep smx2.imm), fun prx2 stx2 H14 hprx2 hstx2 hnx2 acx2 kpx2 => ?_⟩
    have snx2 : Same H13 H14 := fun b o e => kpx2 b o (smx2 _ _ e) (ne_of_none e hx2)
    refine ⟨rfl, ?_⟩
    repeat walk_at "rdk"
    refine rd_setL (snx2 _ _ r9.ob) (ixN_nat (j := 9) rfl (by rw [List.length_map, List.length_range]; decide)) ?_
    obtain ⟨r15, np15⟩ := r9.made (a := x2) (i := 9) (by decide) np9 snx2 hx2 (smx2.fresh hprx2) (smx2.fresh hstx2) acx2
    have nkx2 : KeptX (· = R) H13 (upd H14 R (.lst (((List.range 16).map fun j => roomV ((setO (fun _ => none : Nat → Option AcI) 2 ⟨x1, dx1, prx1, stx1⟩) j)).set 9 (.ref x2)))) := snx2.keptX.trans (KeptX.upd rfl)
    generalize upd H14 R _ = H15 at r15 nkx2
    (revert H15 r15 nkx2; refine keepIt ?_; intro H15 r15 nkx2)
    have k15 : KeptX (· = R) H9 H15 := k13.trans nkx2
    have eG15 := k15 _ _ eG9 (Ne.symm (Ne.symm (ne_of_none eG9 hRn)))
    generalize hA : setO (setO (fun _ => none : Nat → Option AcI) 2 ⟨x1, dx1, prx1, stx1⟩) 9 ⟨x2, dx2, prx2, stx2⟩ = Ar at r15 np15
    (revert Ar hA r15 np15; refine keepIt ?_; intro Ar hA r15 np15)
    generalize hS0 : setS (setS (fun _ => ⟨0, 0, 0, [], fun _ => 0⟩) 2 ⟨10, 3, 0, [], fun _ => 0⟩) 9 ⟨10, 7, 0, (progL o number p last), fun _ => 0⟩ = S0 at r15
    (revert S0 hS0 r15; refine keepIt ?_; intro S0 hS0 r15)
    have hAw : Ar 9 = some ⟨x2, dx2, prx2, stx2⟩ := by rw [← hA]; rfl
    have hSw : S0 9 = ⟨10, 7, 0, progL o number p last, fun _ => 0⟩ := by rw [← hS0]; rfl
    clear hA hS0
    repeat walk_at "rdk"
    intro j jdx hj hjdx hnej
    have hj2 : (upd H15 jdx (.own j)) j = none := by rw [upd_ne (Ne.symm hnej)]; exact hj
    have sj : Same H15 (upd (upd H15 jdx (.own j)) j (.ins cJournal jdx [])) := (Same.new hjdx).newT hj2
    refine ⟨j, jdx, R, rfl, upd_same, fun LL hLL => ⟨rfl, ?_⟩⟩
    have hL15 := sj.fresh hLL
    have nLj : LL ≠ j := fun q => by rw [q, upd_same] at hLL; cases hLL
    have s16 : Same H15 (upd (upd (upd (upd H15 jdx (.own j)) j (.ins cJournal jdx [])) LL (.lst [])) j (.ins cJournal jdx (jF R LL))) := fun b o e => by
      rw [upd_ne (ne_of_none e hj), upd_ne (ne_of_none e hL15)]; exact sj b o e
    have J16 : Jr cJournal cSave cMove cNote (upd (upd (upd (upd H15 jdx (.own j)) j (.ins cJournal jdx [])) LL (.lst [])) j (.ins cJournal jdx (jF R LL))) j jdx R LL Ar [] := ⟨upd_same, by rw [upd_ne nLj, upd_same]; rfl, fun _ h => (nomatch h), Ne.symm (ne_of_none r15.ob hL15), fun i y hi hy => by obtain ⟨xs, e1, _⟩ := (r15.ac i y hi hy).pg; exact Ne.symm (ne_of_none e1 hL15)⟩
    generalize upd (upd (upd (upd H15 jdx (.own j)) j (.ins cJournal jdx [])) LL (.lst [])) j _ = H16 at s16 J16
    (revert H16 s16 J16; refine keepIt ?_; intro H16 s16 J16)
    have r16 := r15.same s16
    have eG16 := s16 _ _ eG15
    have nomv : mvD (frame0 "call" 9 9 2 0 5 given 1 false) = none := by unfold mvD; rw [if_neg (by rintro ⟨_, z⟩; exact absurd z (show ¬ (0 : Int) < 0 by decide))]
    repeat walk_at "rdk"
    obtain ⟨n, y, hn2, hrun, hyf, hyt⟩ := hRun Ar (movedS S0 (frame0 "call" 9 9 2 0 5 given 1 false))
    refine ⟨j, jdx, R, LL, Ar, S0, 0, [], 2, 9, 0, 5, given, y, intsV GG, n, 9, _, rfl, J16, r16, trivial, by decide, ?_, rfl, by decide, hAw, ?_, by omega, ?_⟩
    · intro d hd
      rw [nomv] at hd
      cases hd
    · show RunR Ar (movedS S0 _) (movedS S0 _ 9).rows n _ y _
      rw [moved_rows, hSw]
      exact hrun
    intro pp T H17 es1 pre br k17 _ _ _ hpp eT eP
    have epre : pre = [] := by
      rcases br with ⟨_, _, h⟩ | ⟨d, _, _, h, _⟩
      · exact h
      · rw [nomv] at h; cases h
    subst epre
    rw [List.nil_append] at eT
    rw [hyt] at eP
    have eG17 : H17 G2 = some (.lst (intsV GG)) := k17 _ _ eG16 (fun z => z.elim (fun z => z (r16.outL eG16)) (ne_of_none eG15 hL15))
    have hG17 := sql_of (K := K) eG17
    have ilG := il GG
    clear hrun hRun r15 r16 J16 s16 sj br k17 r9 r8 r0 np9 np15 nkx1 nkx2 kpx1 kpx2 acx1 acx2
    repeat walk_at "rdk"
    rw [ilG]
    refine ⟨by show 11 ≤ sizeLine; decide, fun du hdu => ?_⟩
    have sD : Same H17 (upd H17 du (.tup [.str "call", .int 9, .int 9, .int 2, .int 0, .int 5, .int given, .str e, .int 0, .int (GG.length : Nat), .ref G2])) := Same.new hdu
    have edu : (upd H17 du (.tup [.str "call", .int 9, .int 9, .int 2, .int 0, .int 5, .int given, .str e, .int 0, .int (GG.length : Nat), .ref G2])) du = some (.tup [.str "call", .int 9, .int 9, .int 2, .int 0, .int 5, .int given, .str e, .int 0, .int (GG.length : Nat), .ref G2]) := upd_same
    generalize upd H17 du _ = H18 at sD edu
    (revert H18 sD edu; refine keepIt ?_; intro H18 sD edu)
    repeat walk_at "rdk"
    exact ⟨dueG given e GG, _, _, rfl, dueG_plain given e (by omega), dueG_dep given e GG, dueG_dv (sD _ _ eP) (sD _ _ eT), dueG_dv edu (sD _ _ eG17), k _⟩

end
end My

namespace My
open PySem L2

section
variable {P : Program} {w : World} {K : PySem.W.Frag} {mg : Str → Option Value} {base : Heap}
theorem rows_at {h : Heap} {aT : Addr} {es : Array DictEntry} {ep : Nat} {l : List (Str × Tok × Value)} {a1 a2 a3 a4 a5 a6 a7 a8 a9 a10 a11 a12 a13 a14 a15 a16 a17 a18 a19 a20 a21 a22 a23 a24 a25 a26 a27 a28 a29 a30 a31 : Addr} (X : K.In h) (G : h.Ns mainGlobals mg) (a : PySem.W.nsIn K mainGlobals "ROWS" = some (some (.ref aT))) (lk : K.lookup aT = some ⟨.type "dict", none, .dict es ep, #[]⟩)
    (he : entsOf es = l) (h2 : es = (l.map (sEnt w)).toArray) (h3 : l.map (fun p => (p.1, p.2.2)) = [(("push" : Str), Value.ref a1), (("drop" : Str), Value.ref a2), (("copy" : Str), Value.ref a3), (("swap" : Str), Value.ref a4), (("add" : Str), Value.ref a5), (("minus" : Str), Value.ref a6), (("times" : Str), Value.ref a7), (("over" : Str), Value.ref a8), (("rest" : Str), Value.ref a9), (("below" : Str), Value.ref a10), (("same" : Str), Value.ref a11), (("both" : Str), Value.ref a12), (("either" : Str), Value.ref a13), (("unlike" : Str), Value.ref a14), (("up" : Str), Value.ref a15), (("down" : Str), Value.ref a16), (("jump" : Str), Value.ref a17), (("jumpif" : Str), Value.ref a18), (("load" : Str), Value.ref a19), (("save" : Str), Value.ref a20), (("me" : Str), Value.ref a21), (("from" : Str), Value.ref a22), (("sent" : Str), Value.ref a23), (("word" : Str), Value.ref a24), (("coin" : Str), Value.ref a25), (("note" : Str), Value.ref a26), (("call" : Str), Value.ref a27), (("borrow" : Str), Value.ref a28), (("look" : Str), Value.ref a29), (("give" : Str), Value.ref a30), (("fail" : Str), Value.ref a31)])
    (t1 : TupK K a1 [.int 0, .int 1, .int 1, .int 1]) (t2 : TupK K a2 [.int 1, .int 0, .int 1, .int 1]) (t3 : TupK K a3 [.int 1, .int 2, .int 1, .int 1]) (t4 : TupK K a4 [.int 1, .int 1, .int 1, .int 1]) (t5 : TupK K a5 [.int 2, .int 1, .int 1, .int 1]) (t6 : TupK K a6 [.int 2, .int 1, .int 1, .int 1]) (t7 : TupK K a7 [.int 2, .int 1, .int 2, .int 2]) (t8 : TupK K a8 [.int 2, .int 1, .int 2, .int 2]) (t9 : TupK K a9 [.int 2, .int 1, .int 2, .int 2]) (t10 : TupK K a10 [.int 2, .int 1, .int 1, .int 1]) (t11 : TupK K a11 [.int 2, .int 1, .int 1, .int 1]) (t12 : TupK K a12 [.int 2, .int 1, .int 1, .int 1]) (t13 : TupK K a13 [.int 2, .int 1, .int 1, .int 1]) (t14 : TupK K a14 [.int 2, .int 1, .int 1, .int 1]) (t15 : TupK K a15 [.int 2, .int 1, .int 1, .int 1]) (t16 : TupK K a16 [.int 2, .int 1, .int 1, .int 1]) (t17 : TupK K a17 [.int 0, .int 0, .int 1, .int 1]) (t18 : TupK K a18 [.int 1, .int 0, .int 1, .int 1]) (t19 : TupK K a19 [.int 1, .int 1, .int 3, .int 3]) (t20 : TupK K a20 [.int 2, .int 0, .int 5, .int 12]) (t21 : TupK K a21 [.int 0, .int 1, .int 1, .int 1]) (t22 : TupK K a22 [.int 0, .int 1, .int 1, .int 1]) (t23 : TupK K a23 [.int 0, .int 1, .int 1, .int 1]) (t24 : TupK K a24 [.int 0, .int 1, .int 1, .int 1]) (t25 : TupK K a25 [.int 1, .int 1, .int 3, .int 3]) (t26 : TupK K a26 [.int 1, .int 0, .int 4, .int 4]) (t27 : TupK K a27 [.int 4, .int 2, .int 8, .int 12]) (t28 : TupK K a28 [.int 3, .int 2, .int 6, .int 6]) (t29 : TupK K a29 [.int 3, .int 2, .int 6, .int 6]) (t30 : TupK K a30 [.int 1, .int 0, .int 1, .int 1]) (t31 : TupK K a31 [.int 1, .int 0, .int 1, .int 1]) : ∃ aT : Addr, GlobAt mg "ROWS" (.ref aT) ∧ RowsOk P w K aT := by
  subst he
  have d := dictK_lit (P := P) (w := w) lk h2 (by
    have e : (entsOf es).map (·.1) = ((entsOf es).map (fun p => (p.1, p.2.2))).map (·.1) := by rw [List.map_map]; rfl
    rw [e, h3]
    show (["push", "drop", "copy", "swap", "add", "minus", "times", "over", "rest", "below", "same", "both", "either", "unlike", "up", "down", "jump", "jumpif", "load", "save", "me", "from", "sent", "word", "coin", "note", "call", "borrow", "look", "give", "fail"] : List Str).Nodup
    decide +kernel)
  have e : ((entsOf es).map fun p => ((Sum.inr p.1 : Key), p.2.2)) = ((entsOf es).map (fun p => (p.1, p.2.2))).map fun q => ((Sum.inr q.1 : Key), q.2) := by rw [List.map_map]; rfl
  rw [e, h3] at d
  refine ⟨aT, globAt_ref X G a, _, d, fun x t l p dd hx => ?_⟩
  have hm := memLookup hx
  simp only [RT, List.mem_cons, Prod.mk.injEq, List.not_mem_nil, or_false] at hm
  rcases hm with ⟨rfl, rfl, rfl, rfl, rfl⟩ | ⟨rfl, rfl, rfl, rfl, rfl⟩ | ⟨rfl, rfl, rfl, rfl, rfl⟩ | ⟨rfl, rfl, rfl, rfl, rfl⟩ | ⟨rfl, rfl, rfl, rfl, rfl⟩ | ⟨rfl, rfl, rfl, rfl, rfl⟩ | ⟨rfl, rfl, rfl, rfl, rfl⟩ | ⟨rfl, rfl, rfl, rfl, rfl⟩ | ⟨rfl, rfl, rfl, rfl, rfl⟩ | ⟨rfl, rfl, rfl, rfl, rfl⟩ | ⟨rfl, rfl, rfl, rfl, rfl⟩ | ⟨rfl, rfl, rfl, rfl, rfl⟩ | ⟨rfl, rfl, rfl, rfl, rfl⟩ | ⟨rfl, rfl, rfl, rfl, rfl⟩ | ⟨rfl, rfl, rfl, rfl, rfl⟩ | ⟨rfl, rfl, rfl, rfl, rfl⟩ | ⟨rfl, rfl, rfl, rfl, rfl⟩ | ⟨rfl, rfl, rfl, rfl, rfl⟩ | ⟨rfl, rfl, rfl, rfl, rfl⟩ | ⟨rfl, rfl, rfl, rfl, rfl⟩ | ⟨rfl, rfl, rfl, rfl, rfl⟩ | ⟨rfl, rfl, rfl, rfl, rfl⟩ | ⟨rfl, rfl, rfl, rfl, rfl⟩ | ⟨rfl, rfl, rfl, rfl, rfl⟩ | ⟨rfl, rfl, rfl, rfl, rfl⟩ | ⟨rfl, rfl, rfl, rfl, rfl⟩ | ⟨rfl, rfl, rfl, rfl, rfl⟩ | ⟨rfl, rfl, rfl, rfl, rfl⟩ | ⟨rfl, rfl, rfl, rfl, rfl⟩ | ⟨rfl, rfl, rfl, rfl, rfl⟩ | ⟨rfl, rfl, rfl, rfl, rfl⟩
  · exact ⟨_, rfl, t1⟩
  · exact ⟨_, rfl, t2⟩
  · exact ⟨_, rfl, t3⟩
  · exact ⟨_, rfl, t4⟩
  · exact ⟨_, rfl, t5⟩
  · exact ⟨_, rfl, t6⟩
  · exact ⟨_, rfl, t7⟩
  · exact ⟨_, rfl, t8⟩
  · exact ⟨_, rfl, t9⟩
  · exact ⟨_, rfl, t10⟩
  · exact ⟨_, rfl, t11⟩
  · exact ⟨_, rfl, t12⟩
  · exact ⟨_, rfl, t13⟩
  · exact ⟨_, rfl, t14⟩
  · exact ⟨_, rfl, t15⟩
  · exact ⟨_, rfl, t16⟩
  · exact ⟨_, rfl, t17⟩
  · exact ⟨_, rfl, t18⟩
  · exact ⟨_, rfl, t19⟩
  · exact ⟨_, rfl, t20⟩
  · exact ⟨_, rfl, t21⟩
  · exact ⟨_, rfl, t22⟩
  · exact ⟨_, rfl, t23⟩
  · exact ⟨_, rfl, t24⟩
  · exact ⟨_, rfl, t25⟩
  · exact ⟨_, rfl, t26⟩
  · exact ⟨_, rfl, t27⟩
  · exact ⟨_, rfl, t28⟩
  · exact ⟨_, rfl, t29⟩
  · exact ⟨_, rfl, t30⟩
  · exact ⟨_, rfl, t31⟩
theorem sums_at {h : Heap} {aS : Addr} {es : Array DictEntry} {ep : Nat} {l : List (Str × Tok × Value)} {u1 u2 u3 u4 u5 u6 u7 u8 u9 u10 u11 u12 : Value} (X : K.In h) (G : h.Ns mainGlobals mg) (a : PySem.W.nsIn K mainGlobals "SUMS" = some (some (.ref aS))) (lk : K.lookup aS = some ⟨.type "dict", none, .dict es ep, #[]⟩)
    (he : entsOf es = l) (h2 : es = (l.map (sEnt w)).toArray) (h3 : l.map (fun p => (p.1, p.2.2)) = [(("add" : Str), u1), (("minus" : Str), u2), (("times" : Str), u3), (("over" : Str), u4), (("rest" : Str), u5), (("below" : Str), u6), (("same" : Str), u7), (("both" : Str), u8), (("either" : Str), u9), (("unlike" : Str), u10), (("up" : Str), u11), (("down" : Str), u12)])
    (a1 : PySem.W.nsIn K mainGlobals "added" = some (some u1)) (a2 : PySem.W.nsIn K mainGlobals "lessened" = some (some u2)) (a3 : PySem.W.nsIn K mainGlobals "multiplied" = some (some u3)) (a4 : PySem.W.nsIn K mainGlobals "contained" = some (some u4)) (a5 : PySem.W.nsIn K mainGlobals "left_over" = some (some u5)) (a6 : PySem.W.nsIn K mainGlobals "is_below" = some (some u6)) (a7 : PySem.W.nsIn K mainGlobals "is_same" = some (some u7)) (a8 : PySem.W.nsIn K mainGlobals "in_both" = some (some u8)) (a9 : PySem.W.nsIn K mainGlobals "in_either" = some (some u9)) (a10 : PySem.W.nsIn K mainGlobals "in_just_one" = some (some u10)) (a11 : PySem.W.nsIn K mainGlobals "doubled" = some (some u11)) (a12 : PySem.W.nsIn K mainGlobals "halved" = some (some u12)) : ∃ (aS : Addr) (u1 u2 u3 u4 u5 u6 u7 u8 u9 u10 u11 u12 : Value), GlobAt mg "SUMS" (.ref aS) ∧ DictK P w K aS [(Sum.inr "add", u1), (Sum.inr "minus", u2), (Sum.inr "times", u3), (Sum.inr "over", u4), (Sum.inr "rest", u5), (Sum.inr "below", u6), (Sum.inr "same", u7), (Sum.inr "both", u8), (Sum.inr "either", u9), (Sum.inr "unlike", u10), (Sum.inr "up", u11), (Sum.inr "down", u12)] ∧ mg "added" = some u1 ∧ mg "lessened" = some u2 ∧ mg "multiplied" = some u3 ∧ mg "contained" = some u4 ∧ mg "left_over" = some u5 ∧ mg "is_below" = some u6 ∧ mg "is_same" = some u7 ∧ mg "in_both" = some u8 ∧ mg "in_either" = some u9 ∧ mg "in_just_one" = some u10 ∧ mg "doubled" = some u11 ∧ mg "halved" = some u12 := by
  subst he
  refine ⟨aS, u1, u2, u3, u4, u5, u6, u7, u8, u9, u10, u11, u12, globAt_ref X G a, ?_, PySem.W.mg_of X G a1, PySem.W.mg_of X G a2, PySem.W.mg_of X G a3, PySem.W.mg_of X G a4, PySem.W.mg_of X G a5, PySem.W.mg_of X G a6, PySem.W.mg_of X G a7, PySem.W.mg_of X G a8, PySem.W.mg_of X G a9, PySem.W.mg_of X G a10, PySem.W.mg_of X G a11, PySem.W.mg_of X G a12⟩
  have d := dictK_lit (P := P) (w := w) lk h2 (by
    have e : (entsOf es).map (·.1) = ((entsOf es).map (fun p => (p.1, p.2.2))).map (·.1) := by rw [List.map_map]; rfl
    rw [e, h3]
    show (["add", "minus", "times", "over", "rest", "below", "same", "both", "either", "unlike", "up", "down"] : List Str).Nodup
    decide +kernel)
  have e : ((entsOf es).map fun p => ((Sum.inr p.1 : Key), p.2.2)) = ((entsOf es).map (fun p => (p.1, p.2.2))).map fun q => ((Sum.inr q.1 : Key), q.2) := by rw [List.map_map]; rfl
  rw [e, h3] at d
  exact d
theorem do_at {h : Heap} {aD : Addr} {es : Array DictEntry} {ep : Nat} {l : List (Str × Tok × Value)} {u1 u2 u3 u4 u5 u6 u7 u8 u9 u10 u11 u12 u13 u14 u15 u16 u17 : Value} (X : K.In h) (G : h.Ns mainGlobals mg) (a : PySem.W.nsIn K mainGlobals "DOINGS" = some (some (.ref aD))) (lk : K.lookup aD = some ⟨.type "dict", none, .dict es ep, #[]⟩)
    (he : entsOf es = l) (h2 : es = (l.map (sEnt w)).toArray) (h3 : l.map (fun p => (p.1, p.2.2)) = [(("push" : Str), u1), (("drop" : Str), u2), (("copy" : Str), u3), (("swap" : Str), u4), (("add" : Str), u5), (("minus" : Str), u5), (("times" : Str), u5), (("over" : Str), u5), (("rest" : Str), u5), (("below" : Str), u5), (("same" : Str), u5), (("both" : Str), u5), (("either" : Str), u5), (("unlike" : Str), u5), (("up" : Str), u5), (("down" : Str), u5), (("jump" : Str), u6), (("jumpif" : Str), u7), (("load" : Str), u8), (("save" : Str), u9), (("me" : Str), u10), (("from" : Str), u11), (("sent" : Str), u12), (("word" : Str), u13), (("coin" : Str), u14), (("note" : Str), u15), (("give" : Str), u16), (("fail" : Str), u17)])
    (a_push_row : PySem.W.nsIn K mainGlobals "push_row" = some (some u1)) (a_drop_row : PySem.W.nsIn K mainGlobals "drop_row" = some (some u2)) (a_copy_row : PySem.W.nsIn K mainGlobals "copy_row" = some (some u3)) (a_swap_row : PySem.W.nsIn K mainGlobals "swap_row" = some (some u4)) (a_reckon_row : PySem.W.nsIn K mainGlobals "reckon_row" = some (some u5)) (a_jump_row : PySem.W.nsIn K mainGlobals "jump_row" = some (some u6)) (a_jumpif_row : PySem.W.nsIn K mainGlobals "jumpif_row" = some (some u7)) (a_me_row : PySem.W.nsIn K mainGlobals "me_row" = some (some u10)) (a_from_row : PySem.W.nsIn K mainGlobals "from_row" = some (some u11)) (a_sent_row : PySem.W.nsIn K mainGlobals "sent_row" = some (some u12)) (a_word_row : PySem.W.nsIn K mainGlobals "word_row" = some (some u13)) (a_give_row : PySem.W.nsIn K mainGlobals "give_row" = some (some u16)) (a_fail_row : PySem.W.nsIn K mainGlobals "fail_row" = some (some u17)) : ∃ (aD : Addr) (u1 u2 u3 u4 u5 u6 u7 u8 u9 u10 u11 u12 u13 u14 u15 u16 u17 : Value), GlobAt mg "DOINGS" (.ref aD) ∧ DictK P w K aD [(Sum.inr "push", u1), (Sum.inr "drop", u2), (Sum.inr "copy", u3), (Sum.inr "swap", u4), (Sum.inr "add", u5), (Sum.inr "minus", u5), (Sum.inr "times", u5), (Sum.inr "over", u5), (Sum.inr "rest", u5), (Sum.inr "below", u5), (Sum.inr "same", u5), (Sum.inr "both", u5), (Sum.inr "either", u5), (Sum.inr "unlike", u5), (Sum.inr "up", u5), (Sum.inr "down", u5), (Sum.inr "jump", u6), (Sum.inr "jumpif", u7), (Sum.inr "load", u8), (Sum.inr "save", u9), (Sum.inr "me", u10), (Sum.inr "from", u11), (Sum.inr "sent", u12), (Sum.inr "word", u13), (Sum.inr "coin", u14), (Sum.inr "note", u15), (Sum.inr "give", u16), (Sum.inr "fail", u17)] ∧ mg "push_row" = some u1 ∧ mg "drop_row" = some u2 ∧ mg "copy_row" = some u3 ∧ mg "swap_row" = some u4 ∧ mg "reckon_row" = some u5 ∧ mg "jump_row" = some u6 ∧ mg "jumpif_row" = some u7 ∧ mg "me_row" = some u10 ∧ mg "from_row" = some u11 ∧ mg "sent_row" = some u12 ∧ mg "word_row" = some u13 ∧ mg "give_row" = some u16 ∧ mg "fail_row" = some u17 := by
  subst he
  refine ⟨aD, u1, u2, u3, u4, u5, u6, u7, u8, u9, u10, u11, u12, u13, u14, u15, u16, u17, globAt_ref X G a, ?_, PySem.W.mg_of X G a_push_row, PySem.W.mg_of X G a_drop_row, PySem.W.mg_of X G a_copy_row, PySem.W.mg_of X G a_swap_row, PySem.W.mg_of X G a_reckon_row, PySem.W.mg_of X G a_jump_row, PySem.W.mg_of X G a_jumpif_row, PySem.W.mg_of X G a_me_row, PySem.W.mg_of X G a_from_row, PySem.W.mg_of X G a_sent_row, PySem.W.mg_of X G a_word_row, PySem.W.mg_of X G a_give_row, PySem.W.mg_of X G a_fail_row⟩
  have d := dictK_lit (P := P) (w := w) lk h2 (by
    have e : (entsOf es).map (·.1) = ((entsOf es).map (fun p => (p.1, p.2.2))).map (·.1) := by rw [List.map_map]; rfl
    rw [e, h3]
    show (["push", "drop", "copy", "swap", "add", "minus", "times", "over", "rest", "below", "same", "both", "either", "unlike", "up", "down", "jump", "jumpif", "load", "save", "me", "from", "sent", "word", "coin", "note", "give", "fail"] : List Str).Nodup
    decide +kernel)
  have e : ((entsOf es).map fun p => ((Sum.inr p.1 : Key), p.2.2)) = ((entsOf es).map (fun p => (p.1, p.2.2))).map fun q => ((Sum.inr q.1 : Key), q.2) := by rw [List.map_map]; rfl
  rw [e, h3] at d
  exact d
theorem sc_FrameI : FnScope ["self", "kind", "who", "whose", "caller", "coin", "word", "given", "depth", "looking"] ["self", "kind", "who", "whose", "caller", "coin", "word", "given", "depth", "looking"] (defScope s_Frame___init__) := ⟨rfl, rfl, rfl, by decide +kernel, rfl, by decide +kernel, by decide +kernel⟩
theorem ok_FrameI {cFrame : Addr} {tok : Tok} (D : MethAtD K cFrame "__init__" "Frame.__init__" s_Frame___init__ #[.int 1 tok, .bool false]) (tFrame : T_Frame K mg cFrame) (ds : List Value) {dvs : List V} (v : Vals dvs ds)
    (hb : ∀ (T : Addr) (kV doc pm : Value) (an : Option Addr) (cdv ct : Value) (us : List Value), (us ++ ds).length = 10 → ∃ k : Option (Array Value) → Sem (List (Str × Value)), bindArgs (PySem.W.fnOf "__init__" "Frame.__init__" (defArgs s_Frame___init__) (defBody s_Frame___init__) (defScope s_Frame___init__) (.ref T) kV doc pm an cdv ct) ⟨us, []⟩ = seqItems? (.ref T) >>= k ∧ k (some #[.int 1 tok, .bool false]) = pure ((["self", "kind", "who", "whose", "caller", "coin", "word", "given", "depth", "looking"] : List Str).zip (us ++ ds))) : ICalD P w K mg base 1 "Frame" cFrame (spFInit cFrame) dvs := by
  refine icalD_of (N := ["self", "kind", "who", "whose", "caller", "coin", "word", "given", "depth", "looking"]) (ps := ["self", "kind", "who", "whose", "caller", "coin", "word", "given", "depth", "looking"]) D tFrame.k sc_FrameI (fun vs H Q E h => ?_) (fun f cdv A outer s H vs Q E hr h => ?_) ds v hb
  · obtain ⟨a, dx, kind, who, whose, caller, coin, word, given, depth, looking, rfl, _⟩ := h; rfl
  · obtain ⟨a, dx, kind, who, whose, caller, coin, word, given, depth, looking, rfl, ha, k⟩ := h
    refine ⟨_, (pss_cons (ps_fld (pv 0) (pv 1) rfl)
      (pss_cons (ps_fld (pv 0) (pv 2) rfl)
      (pss_cons (ps_fld (pv 0) (pv 3) rfl)
      (pss_cons (ps_fld (pv 0) (pv 4) rfl)
      (pss_cons (ps_fld (pv 0) (pv 5) rfl)
      (pss_cons (ps_fld (pv 0) (pv 6) rfl)
      (pss_cons (ps_fld (pv 0) (pv 7) rfl)
      (pss_cons (ps_fld (pv 0) (pv 8) rfl)
      (pss_cons (ps_fld (pv 0) (pv 9) rfl)
      (pss_cons (ps_fld (pv 0) pe_int rfl)
      (pss_cons (ps_fld (pv 0) (pe_lst pa_nil) rfl)
      (pss_cons (ps_fld (pv 0) pe_int rfl)
      (pss_cons (ps_fld (pv 0) (pe_lst pa_nil) rfl)
      (pss_cons (ps_fld (pv 0) pe_non rfl)
      (pss_one (ps_fld (pv 0) pe_int rfl)))))))))))))))), ?_⟩
    try simp only [nox_K, nox_P, nox_w, nox_mg, nox_base, cxOf_K, cxOf_P, cxOf_w, cxOf_mg, cxOf_base]
    repeat walk_at "rdk"
    refine rd_sfldA ha tFrame.k.cl tFrame.n_kind (by decide) ?_
    repeat walk_at "rdk"
    refine rd_sfldA upd_same tFrame.k.cl tFrame.n_who (by show 1 < 1000; decide) ?_
    rw [upd_upd]
    repeat walk_at "rdk"
    refine rd_sfldA upd_same tFrame.k.cl tFrame.n_whose (by show 2 < 1000; decide) ?_
    rw [upd_upd]
    repeat walk_at "rdk"
    refine rd_sfldA upd_same tFrame.k.cl tFrame.n_caller (by show 3 < 1000; decide) ?_
    rw [upd_upd]
    repeat walk_at "rdk"
    refine rd_sfldA upd_same tFrame.k.cl tFrame.n_coin (by show 4 < 1000; decide) ?_
    rw [upd_upd]
    repeat walk_at "rdk"
    refine rd_sfldA upd_same tFrame.k.cl tFrame.n_word (by show 5 < 1000; decide) ?_
    rw [upd_upd]
    repeat walk_at "rdk"
    refine rd_sfldA upd_same tFrame.k.cl tFrame.n_given (by show 6 < 1000; decide) ?_
    rw [upd_upd]
    repeat walk_at "rdk"
    refine rd_sfldA upd_same tFrame.k.cl tFrame.n_depth (by show 7 < 1000; decide) ?_
    rw [upd_upd]
    repeat walk_at "rdk"
    refine rd_sfldA upd_same tFrame.k.cl tFrame.n_looking (by show 8 < 1000; decide) ?_
    rw [upd_upd]
    repeat walk_at "rdk"
    refine rd_sfldA upd_same tFrame.k.cl tFrame.n_used (by show 9 < 1000; decide) ?_
    rw [upd_upd]
    repeat walk_at "rdk"
    refine ⟨by decide, fun l hl => ?_⟩
    have nl : l ≠ a := fun z => by rw [z, upd_same] at hl; cases hl
    have hlH : H l = none := by rw [upd_ne nl] at hl; exact hl
    repeat walk_at "rdk"
    refine rd_sfldA (by rw [upd_ne (Ne.symm nl)]; exact upd_same) tFrame.k.cl tFrame.n_stack (by show 10 < 1000; decide) ?_
    repeat walk_at "rdk"
    refine rd_sfldA upd_same tFrame.k.cl tFrame.n_row (by show 11 < 1000; decide) ?_
    rw [upd_upd]
    repeat walk_at "rdk"
    refine ⟨by decide, fun q hq => ?_⟩
    have nq : q ≠ a := fun z => by rw [z, upd_same] at hq; cases hq
    have nql : q ≠ l := fun z => by rw [upd_ne nq, z, upd_same] at hq; cases hq
    have hqH : H q = none := by rw [upd_ne nq, upd_ne nql, upd_ne nq] at hq; exact hq
    repeat walk_at "rdk"
    refine rd_sfldA (by rw [upd_ne (Ne.symm nq)]; exact upd_same) tFrame.k.cl tFrame.n_steps (by show 12 < 1000; decide) ?_
    repeat walk_at "rdk"
    refine rd_sfldA upd_same tFrame.k.cl tFrame.n_end (by show 13 < 1000; decide) ?_
    rw [upd_upd]
    repeat walk_at "rdk"
    refine rd_sfldA upd_same tFrame.k.cl tFrame.n_answer (by show 14 < 1000; decide) ?_
    rw [upd_upd]
    refine k l q _ hlH hqH ⟨?_, ?_, ?_, Ne.symm nql⟩ ?_
    · show upd _ a _ a = _
      rw [upd_same]; rfl
    · show upd _ a _ l = _
      rw [upd_ne nl, upd_ne (Ne.symm nql), upd_ne nl, upd_same]; rfl
    · show upd _ a _ q = _
      rw [upd_ne nq, upd_same]
    · intro b o e n
      rw [upd_ne n, upd_ne (ne_of_none e hqH), upd_ne n, upd_ne (ne_of_none e hlH), upd_ne n]
      exact e

theorem mkFI {K : PySem.W.Frag} {h : Heap} {mg : Str → Option Value} {C f T : Addr} {oc c2 : Value} {od an d2 : Option Addr} {osl s2 : Array (Option Value)} {kV doc pm cdv ct : Value} {tok : Tok} {n : Nat} (X : K.In h) (G : h.Ns mainGlobals mg) (aC : PySem.W.nsIn K mainGlobals "Frame" = some (some (.ref C)))
    (a : PySem.W.findIn K (.ref C) "__init__" = some (some (.ref f))) (i : PySem.W.isFn K (.ref f) = true) (l : K.lookup f = some ⟨oc, od, .func (PySem.W.fnOf "__init__" "Frame.__init__" (defArgs s_Frame___init__) (defBody s_Frame___init__) (defScope s_Frame___init__) (.ref T) kV doc pm an cdv ct), osl⟩)
    (c : PySem.W.codeIn K cdv "Frame.__init__" = true) (k : PySem.W.keepIn K (.ref f) = true) (d : K.lookup T = some ⟨c2, d2, .seq #[.int 1 tok, .bool false] n, s2⟩) : ∃ C tok, mg "Frame" = some (.ref C) ∧ MethAtD K C "__init__" "Frame.__init__" s_Frame___init__ #[.int 1 tok, .bool false] :=
  ⟨C, tok, PySem.W.mg_of X G aC, methAtD_mk a i l c k d⟩
theorem frame7_ok {P : Program} {w : World} {K : PySem.W.Frag} {mg : Str → Option Value} {base : Heap} {cFrame : Addr} {tok : Tok} (D : MethAtD K cFrame "__init__" "Frame.__init__" s_Frame___init__ #[.int 1 tok, .bool false]) (tFrame : T_Frame K mg cFrame) : ICalD P w K mg base 1 "Frame" cFrame (spFInit cFrame) [.int 1, .bl false] :=
  ok_FrameI D tFrame [.int 1 tok, .bool false] (.cons ⟨_, rfl⟩ (.cons rfl .nil)) (fun T kV doc pm an cdv ct us hl => bd8 (R := fun us => ∃ k : Option (Array Value) → Sem (List (Str × Value)), bindArgs _ ⟨us, []⟩ = seqItems? (.ref T) >>= k ∧ k (some _) = pure (List.zip _ (us ++ [.int 1 tok, .bool false]))) (fun _ _ _ _ _ _ _ _ => ⟨_, rfl, rfl⟩) us (by rw [List.length_append] at hl; exact Nat.add_right_cancel hl))
theorem mk_Account {K : PySem.W.Frag} {h : Heap} {mg : Str → Option Value} {C : Addr} {f0 : Addr} {oc0 kV0 dc0 pm0 cd0 ct0 : Value} {od0 an0 : Option Addr} {sl0 : Array (Option Value)} {f1 : Addr} {oc1 kV1 dc1 pm1 cd1 ct1 : Value} {od1 an1 : Option Addr} {sl1 : Array (Option Value)} {f2 : Addr} {oc2 kV2 dc2 pm2 cd2 ct2 : Value} {od2 an2 : Option Addr} {sl2 : Array (Option Value)} (X : K.In h) (G : h.Ns mainGlobals mg) (aC : PySem.W.nsIn K mainGlobals "Account" = some (some (.ref C))) (pg : PySem.W.plainGet K C Str.empty = true) (hd : PySem.W.hasDictIn K C = true) (po : PySem.W.plainOver K C = true) (sa : PySem.W.findIn K (.ref C) "__setattr__" = some (some (.builtin "object.__setattr__"))) (mk : PySem.W.makesIn K C = true) (kc : PySem.W.keepIn K (.ref C) = true) (ncoin : PySem.W.findIn K (.ref C) "coin" = some none) (npurse : PySem.W.findIn K (.ref C) "purse" = some none) (ncount : PySem.W.findIn K (.ref C) "count" = some none) (nprogram : PySem.W.findIn K (.ref C) "program" = some none) (nstore : PySem.W.findIn K (.ref C) "store" = some none) (a__init__ : PySem.W.findIn K (.ref C) "__init__" = some (some (.ref f0))) (i__init__ : PySem.W.isFn K (.ref f0) = true) (l__init__ : K.lookup f0 = some ⟨oc0, od0, .func (PySem.W.fnOf "__init__" "Account.__init__" (defArgs s_Account___init__) (defBody s_Account___init__) (defScope s_Account___init__) .none kV0 dc0 pm0 an0 cd0 ct0), sl0⟩) (c__init__ : PySem.W.codeIn K cd0 "Account.__init__" = true) (k__init__ : PySem.W.keepIn K (.ref f0) = true) (aloaded : PySem.W.findIn K (.ref C) "loaded" = some (some (.ref f1))) (iloaded : PySem.W.isFn K (.ref f1) = true) (lloaded : K.lookup f1 = some ⟨oc1, od1, .func (PySem.W.fnOf "loaded" "Account.loaded" (defArgs s_Account_loaded) (defBody s_Account_loaded) (defScope s_Account_loaded) .none kV1 dc1 pm1 an1 cd1 ct1), sl1⟩) (cloaded : PySem.W.codeIn K cd1 "Account.loaded" = true) (kloaded : PySem.W.keepIn K (.ref f1) = true) (akeep : PySem.W.findIn K (.ref C) "keep" = some (some (.ref f2))) (ikeep : PySem.W.isFn K (.ref f2) = true) (lkeep : K.lookup f2 = some ⟨oc2, od2, .func (PySem.W.fnOf "keep" "Account.keep" (defArgs s_Account_keep) (defBody s_Account_keep) (defScope s_Account_keep) .none kV2 dc2 pm2 an2 cd2 ct2), sl2⟩) (ckeep : PySem.W.codeIn K cd2 "Account.keep" = true) (kkeep : PySem.W.keepIn K (.ref f2) = true) : ∃ C, T_Account K mg C ∧ MethAt K C "__init__" "Account.__init__" s_Account___init__ ∧ MethAt K C "loaded" "Account.loaded" s_Account_loaded ∧ MethAt K C "keep" "Account.keep" s_Account_keep :=
  ⟨C, ⟨⟨⟨pg, hd, po, sa⟩, mk, kc, PySem.W.mg_of X G aC⟩, ncoin, npurse, ncount, nprogram, nstore⟩, methAt_mk a__init__ i__init__ l__init__ c__init__ k__init__, methAt_mk aloaded iloaded lloaded cloaded kloaded, methAt_mk akeep ikeep lkeep ckeep kkeep⟩
theorem mk_Save {K : PySem.W.Frag} {h : Heap} {mg : Str → Option Value} {C : Addr} {f0 : Addr} {oc0 kV0 dc0 pm0 cd0 ct0 : Value} {od0 an0 : Option Addr} {sl0 : Array (Option Value)} {f1 : Addr} {oc1 kV1 dc1 pm1 cd1 ct1 : Value} {od1 an1 : Option Addr} {sl1 : Array (Option Value)} {f2 : Addr} {oc2 kV2 dc2 pm2 cd2 ct2 : Value} {od2 an2 : Option Addr} {sl2 : Array (Option Value)} {f3 : Addr} {oc3 kV3 dc3 pm3 cd3 ct3 : Value} {od3 an3 : Option Addr} {sl3 : Array (Option Value)} (X : K.In h) (G : h.Ns mainGlobals mg) (aC : PySem.W.nsIn K mainGlobals "Save" = some (some (.ref C))) (pg : PySem.W.plainGet K C Str.empty = true) (hd : PySem.W.hasDictIn K C = true) (po : PySem.W.plainOver K C = true) (sa : PySem.W.findIn K (.ref C) "__setattr__" = some (some (.builtin "object.__setattr__"))) (mk : PySem.W.makesIn K C = true) (kc : PySem.W.keepIn K (.ref C) = true) (nslot : PySem.W.findIn K (.ref C) "slot" = some none) (nplace : PySem.W.findIn K (.ref C) "place" = some none) (nold : PySem.W.findIn K (.ref C) "old" = some none) (nnew : PySem.W.findIn K (.ref C) "new" = some none) (a__init__ : PySem.W.findIn K (.ref C) "__init__" = some (some (.ref f0))) (i__init__ : PySem.W.isFn K (.ref f0) = true) (l__init__ : K.lookup f0 = some ⟨oc0, od0, .func (PySem.W.fnOf "__init__" "Save.__init__" (defArgs s_Save___init__) (defBody s_Save___init__) (defScope s_Save___init__) .none kV0 dc0 pm0 an0 cd0 ct0), sl0⟩) (c__init__ : PySem.W.codeIn K cd0 "Save.__init__" = true) (k__init__ : PySem.W.keepIn K (.ref f0) = true) (ado : PySem.W.findIn K (.ref C) "do" = some (some (.ref f1))) (ido : PySem.W.isFn K (.ref f1) = true) (ldo : K.lookup f1 = some ⟨oc1, od1, .func (PySem.W.fnOf "do" "Save.do" (defArgs s_Save_do) (defBody s_Save_do) (defScope s_Save_do) .none kV1 dc1 pm1 an1 cd1 ct1), sl1⟩) (cdo : PySem.W.codeIn K cd1 "Save.do" = true) (kdo : PySem.W.keepIn K (.ref f1) = true) (aundo : PySem.W.findIn K (.ref C) "undo" = some (some (.ref f2))) (iundo : PySem.W.isFn K (.ref f2) = true) (lundo : K.lookup f2 = some ⟨oc2, od2, .func (PySem.W.fnOf "undo" "Save.undo" (defArgs s_Save_undo) (defBody s_Save_undo) (defScope s_Save_undo) .none kV2 dc2 pm2 an2 cd2 ct2), sl2⟩) (cundo : PySem.W.codeIn K cd2 "Save.undo" = true) (kundo : PySem.W.keepIn K (.ref f2) = true) (atold : PySem.W.findIn K (.ref C) "told" = some (some (.ref f3))) (itold : PySem.W.isFn K (.ref f3) = true) (ltold : K.lookup f3 = some ⟨oc3, od3, .func (PySem.W.fnOf "told" "Save.told" (defArgs s_Save_told) (defBody s_Save_told) (defScope s_Save_told) .none kV3 dc3 pm3 an3 cd3 ct3), sl3⟩) (ctold : PySem.W.codeIn K cd3 "Save.told" = true) (ktold : PySem.W.keepIn K (.ref f3) = true) : ∃ C, T_Save K mg C ∧ MethAt K C "__init__" "Save.__init__" s_Save___init__ ∧ MethAt K C "do" "Save.do" s_Save_do ∧ MethAt K C "undo" "Save.undo" s_Save_undo ∧ MethAt K C "told" "Save.told" s_Save_told :=
  ⟨C, ⟨⟨⟨pg, hd, po, sa⟩, mk, kc, PySem.W.mg_of X G aC⟩, nslot, nplace, nold, nnew⟩, methAt_mk a__init__ i__init__ l__init__ c__init__ k__init__, methAt_mk ado ido ldo cdo kdo, methAt_mk aundo iundo lundo cundo kundo, methAt_mk atold itold ltold ctold ktold⟩
theorem mk_Move {K : PySem.W.Frag} {h : Heap} {mg : Str → Option Value} {C : Addr} {f0 : Addr} {oc0 kV0 dc0 pm0 cd0 ct0 : Value} {od0 an0 : Option Addr} {sl0 : Array (Option Value)} {f1 : Addr} {oc1 kV1 dc1 pm1 cd1 ct1 : Value} {od1 an1 : Option Addr} {sl1 : Array (Option Value)} {f2 : Addr} {oc2 kV2 dc2 pm2 cd2 ct2 : Value} {od2 an2 : Option Addr} {sl2 : Array (Option Value)} {f3 : Addr} {oc3 kV3 dc3 pm3 cd3 ct3 : Value} {od3 an3 : Option Addr} {sl3 : Array (Option Value)} (X : K.In h) (G : h.Ns mainGlobals mg) (aC : PySem.W.nsIn K mainGlobals "Move" = some (some (.ref C))) (pg : PySem.W.plainGet K C Str.empty = true) (hd : PySem.W.hasDictIn K C = true) (po : PySem.W.plainOver K C = true) (sa : PySem.W.findIn K (.ref C) "__setattr__" = some (some (.builtin "object.__setattr__"))) (mk : PySem.W.makesIn K C = true) (kc : PySem.W.keepIn K (.ref C) = true) (nslot : PySem.W.findIn K (.ref C) "slot" = some none) (ntaker : PySem.W.findIn K (.ref C) "taker" = some none) (nmany : PySem.W.findIn K (.ref C) "many" = some none) (a__init__ : PySem.W.findIn K (.ref C) "__init__" = some (some (.ref f0))) (i__init__ : PySem.W.isFn K (.ref f0) = true) (l__init__ : K.lookup f0 = some ⟨oc0, od0, .func (PySem.W.fnOf "__init__" "Move.__init__" (defArgs s_Move___init__) (defBody s_Move___init__) (defScope s_Move___init__) .none kV0 dc0 pm0 an0 cd0 ct0), sl0⟩) (c__init__ : PySem.W.codeIn K cd0 "Move.__init__" = true) (k__init__ : PySem.W.keepIn K (.ref f0) = true) (ado : PySem.W.findIn K (.ref C) "do" = some (some (.ref f1))) (ido : PySem.W.isFn K (.ref f1) = true) (ldo : K.lookup f1 = some ⟨oc1, od1, .func (PySem.W.fnOf "do" "Move.do" (defArgs s_Move_do) (defBody s_Move_do) (defScope s_Move_do) .none kV1 dc1 pm1 an1 cd1 ct1), sl1⟩) (cdo : PySem.W.codeIn K cd1 "Move.do" = true) (kdo : PySem.W.keepIn K (.ref f1) = true) (aundo : PySem.W.findIn K (.ref C) "undo" = some (some (.ref f2))) (iundo : PySem.W.isFn K (.ref f2) = true) (lundo : K.lookup f2 = some ⟨oc2, od2, .func (PySem.W.fnOf "undo" "Move.undo" (defArgs s_Move_undo) (defBody s_Move_undo) (defScope s_Move_undo) .none kV2 dc2 pm2 an2 cd2 ct2), sl2⟩) (cundo : PySem.W.codeIn K cd2 "Move.undo" = true) (kundo : PySem.W.keepIn K (.ref f2) = true) (atold : PySem.W.findIn K (.ref C) "told" = some (some (.ref f3))) (itold : PySem.W.isFn K (.ref f3) = true) (ltold : K.lookup f3 = some ⟨oc3, od3, .func (PySem.W.fnOf "told" "Move.told" (defArgs s_Move_told) (defBody s_Move_told) (defScope s_Move_told) .none kV3 dc3 pm3 an3 cd3 ct3), sl3⟩) (ctold : PySem.W.codeIn K cd3 "Move.told" = true) (ktold : PySem.W.keepIn K (.ref f3) = true) : ∃ C, T_Move K mg C ∧ MethAt K C "__init__" "Move.__init__" s_Move___init__ ∧ MethAt K C "do" "Move.do" s_Move_do ∧ MethAt K C "undo" "Move.undo" s_Move_undo ∧ MethAt K C "told" "Move.told" s_Move_told :=
  ⟨C, ⟨⟨⟨pg, hd, po, sa⟩, mk, kc, PySem.W.mg_of X G aC⟩, nslot, ntaker, nmany⟩, methAt_mk a__init__ i__init__ l__init__ c__init__ k__init__, methAt_mk ado ido ldo cdo kdo, methAt_mk aundo iundo lundo cundo kundo, methAt_mk atold itold ltold ctold ktold⟩
theorem mk_Note {K : PySem.W.Frag} {h : Heap} {mg : Str → Option Value} {C : Addr} {f0 : Addr} {oc0 kV0 dc0 pm0 cd0 ct0 : Value} {od0 an0 : Option Addr} {sl0 : Array (Option Value)} {f1 : Addr} {oc1 kV1 dc1 pm1 cd1 ct1 : Value} {od1 an1 : Option Addr} {sl1 : Array (Option Value)} {f2 : Addr} {oc2 kV2 dc2 pm2 cd2 ct2 : Value} {od2 an2 : Option Addr} {sl2 : Array (Option Value)} {f3 : Addr} {oc3 kV3 dc3 pm3 cd3 ct3 : Value} {od3 an3 : Option Addr} {sl3 : Array (Option Value)} (X : K.In h) (G : h.Ns mainGlobals mg) (aC : PySem.W.nsIn K mainGlobals "Note" = some (some (.ref C))) (pg : PySem.W.plainGet K C Str.empty = true) (hd : PySem.W.hasDictIn K C = true) (po : PySem.W.plainOver K C = true) (sa : PySem.W.findIn K (.ref C) "__setattr__" = some (some (.builtin "object.__setattr__"))) (mk : PySem.W.makesIn K C = true) (kc : PySem.W.keepIn K (.ref C) = true) (nslot : PySem.W.findIn K (.ref C) "slot" = some none) (nnumber : PySem.W.findIn K (.ref C) "number" = some none) (a__init__ : PySem.W.findIn K (.ref C) "__init__" = some (some (.ref f0))) (i__init__ : PySem.W.isFn K (.ref f0) = true) (l__init__ : K.lookup f0 = some ⟨oc0, od0, .func (PySem.W.fnOf "__init__" "Note.__init__" (defArgs s_Note___init__) (defBody s_Note___init__) (defScope s_Note___init__) .none kV0 dc0 pm0 an0 cd0 ct0), sl0⟩) (c__init__ : PySem.W.codeIn K cd0 "Note.__init__" = true) (k__init__ : PySem.W.keepIn K (.ref f0) = true) (atold : PySem.W.findIn K (.ref C) "told" = some (some (.ref f1))) (itold : PySem.W.isFn K (.ref f1) = true) (ltold : K.lookup f1 = some ⟨oc1, od1, .func (PySem.W.fnOf "told" "Note.told" (defArgs s_Note_told) (defBody s_Note_told) (defScope s_Note_told) .none kV1 dc1 pm1 an1 cd1 ct1), sl1⟩) (ctold : PySem.W.codeIn K cd1 "Note.told" = true) (ktold : PySem.W.keepIn K (.ref f1) = true) (ado : PySem.W.findIn K (.ref C) "do" = some (some (.ref f2))) (ido : PySem.W.isFn K (.ref f2) = true) (ldo : K.lookup f2 = some ⟨oc2, od2, .func (PySem.W.fnOf "do" "Deed.do" (defArgs s_Note_do) (defBody s_Note_do) (defScope s_Note_do) .none kV2 dc2 pm2 an2 cd2 ct2), sl2⟩) (cdo : PySem.W.codeIn K cd2 "Deed.do" = true) (kdo : PySem.W.keepIn K (.ref f2) = true) (aundo : PySem.W.findIn K (.ref C) "undo" = some (some (.ref f3))) (iundo : PySem.W.isFn K (.ref f3) = true) (lundo : K.lookup f3 = some ⟨oc3, od3, .func (PySem.W.fnOf "undo" "Deed.undo" (defArgs s_Note_undo) (defBody s_Note_undo) (defScope s_Note_undo) .none kV3 dc3 pm3 an3 cd3 ct3), sl3⟩) (cundo : PySem.W.codeIn K cd3 "Deed.undo" = true) (kundo : PySem.W.keepIn K (.ref f3) = true) : ∃ C, T_Note K mg C ∧ MethAt K C "__init__" "Note.__init__" s_Note___init__ ∧ MethAt K C "told" "Note.told" s_Note_told ∧ MethAt K C "do" "Deed.do" s_Note_do ∧ MethAt K C "undo" "Deed.undo" s_Note_undo :=
  ⟨C, ⟨⟨⟨pg, hd, po, sa⟩, mk, kc, PySem.W.mg_of X G aC⟩, nslot, nnumber⟩, methAt_mk a__init__ i__init__ l__init__ c__init__ k__init__, methAt_mk atold itold ltold ctold ktold, methAt_mk ado ido ldo cdo kdo, methAt_mk aundo iundo lundo cundo kundo⟩
theorem mk_Journal {K : PySem.W.Frag} {h : Heap} {mg : Str → Option Value} {C : Addr} {f0 : Addr} {oc0 kV0 dc0 pm0 cd0 ct0 : Value} {od0 an0 : Option Addr} {sl0 : Array (Option Value)} {f1 : Addr} {oc1 kV1 dc1 pm1 cd1 ct1 : Value} {od1 an1 : Option Addr} {sl1 : Array (Option Value)} {f2 : Addr} {oc2 kV2 dc2 pm2 cd2 ct2 : Value} {od2 an2 : Option Addr} {sl2 : Array (Option Value)} {f3 : Addr} {oc3 kV3 dc3 pm3 cd3 ct3 : Value} {od3 an3 : Option Addr} {sl3 : Array (Option Value)} {f4 : Addr} {oc4 kV4 dc4 pm4 cd4 ct4 : Value} {od4 an4 : Option Addr} {sl4 : Array (Option Value)} (X : K.In h) (G : h.Ns mainGlobals mg) (aC : PySem.W.nsIn K mainGlobals "Journal" = some (some (.ref C))) (pg : PySem.W.plainGet K C Str.empty = true) (hd : PySem.W.hasDictIn K C = true) (po : PySem.W.plainOver K C = true) (sa : PySem.W.findIn K (.ref C) "__setattr__" = some (some (.builtin "object.__setattr__"))) (mk : PySem.W.makesIn K C = true) (kc : PySem.W.keepIn K (.ref C) = true) (nrooms : PySem.W.findIn K (.ref C) "rooms" = some none) (ndeeds : PySem.W.findIn K (.ref C) "deeds" = some none) (a__init__ : PySem.W.findIn K (.ref C) "__init__" = some (some (.ref f0))) (i__init__ : PySem.W.isFn K (.ref f0) = true) (l__init__ : K.lookup f0 = some ⟨oc0, od0, .func (PySem.W.fnOf "__init__" "Journal.__init__" (defArgs s_Journal___init__) (defBody s_Journal___init__) (defScope s_Journal___init__) .none kV0 dc0 pm0 an0 cd0 ct0), sl0⟩) (c__init__ : PySem.W.codeIn K cd0 "Journal.__init__" = true) (k__init__ : PySem.W.keepIn K (.ref f0) = true) (awrite : PySem.W.findIn K (.ref C) "write" = some (some (.ref f1))) (iwrite : PySem.W.isFn K (.ref f1) = true) (lwrite : K.lookup f1 = some ⟨oc1, od1, .func (PySem.W.fnOf "write" "Journal.write" (defArgs s_Journal_write) (defBody s_Journal_write) (defScope s_Journal_write) .none kV1 dc1 pm1 an1 cd1 ct1), sl1⟩) (cwrite : PySem.W.codeIn K cd1 "Journal.write" = true) (kwrite : PySem.W.keepIn K (.ref f1) = true) (amark : PySem.W.findIn K (.ref C) "mark" = some (some (.ref f2))) (imark : PySem.W.isFn K (.ref f2) = true) (lmark : K.lookup f2 = some ⟨oc2, od2, .func (PySem.W.fnOf "mark" "Journal.mark" (defArgs s_Journal_mark) (defBody s_Journal_mark) (defScope s_Journal_mark) .none kV2 dc2 pm2 an2 cd2 ct2), sl2⟩) (cmark : PySem.W.codeIn K cd2 "Journal.mark" = true) (kmark : PySem.W.keepIn K (.ref f2) = true) (aback : PySem.W.findIn K (.ref C) "back" = some (some (.ref f3))) (iback : PySem.W.isFn K (.ref f3) = true) (lback : K.lookup f3 = some ⟨oc3, od3, .func (PySem.W.fnOf "back" "Journal.back" (defArgs s_Journal_back) (defBody s_Journal_back) (defScope s_Journal_back) .none kV3 dc3 pm3 an3 cd3 ct3), sl3⟩) (cback : PySem.W.codeIn K cd3 "Journal.back" = true) (kback : PySem.W.keepIn K (.ref f3) = true) (atold : PySem.W.findIn K (.ref C) "told" = some (some (.ref f4))) (itold : PySem.W.isFn K (.ref f4) = true) (ltold : K.lookup f4 = some ⟨oc4, od4, .func (PySem.W.fnOf "told" "Journal.told" (defArgs s_Journal_told) (defBody s_Journal_told) (defScope s_Journal_told) .none kV4 dc4 pm4 an4 cd4 ct4), sl4⟩) (ctold : PySem.W.codeIn K cd4 "Journal.told" = true) (ktold : PySem.W.keepIn K (.ref f4) = true) : ∃ C, T_Journal K mg C ∧ MethAt K C "__init__" "Journal.__init__" s_Journal___init__ ∧ MethAt K C "write" "Journal.write" s_Journal_write ∧ MethAt K C "mark" "Journal.mark" s_Journal_mark ∧ MethAt K C "back" "Journal.back" s_Journal_back ∧ MethAt K C "told" "Journal.told" s_Journal_told :=
  ⟨C, ⟨⟨⟨pg, hd, po, sa⟩, mk, kc, PySem.W.mg_of X G aC⟩, nrooms, ndeeds⟩, methAt_mk a__init__ i__init__ l__init__ c__init__ k__init__, methAt_mk awrite iwrite lwrite cwrite kwrite, methAt_mk amark imark lmark cmark kmark, methAt_mk aback iback lback cback kback, methAt_mk atold itold ltold ctold ktold⟩
theorem mk_Frame {K : PySem.W.Frag} {h : Heap} {mg : Str → Option Value} {C : Addr} {f0 : Addr} {oc0 kV0 dc0 pm0 cd0 ct0 : Value} {od0 an0 : Option Addr} {sl0 : Array (Option Value)} {f1 : Addr} {oc1 kV1 dc1 pm1 cd1 ct1 : Value} {od1 an1 : Option Addr} {sl1 : Array (Option Value)} {f2 : Addr} {oc2 kV2 dc2 pm2 cd2 ct2 : Value} {od2 an2 : Option Addr} {sl2 : Array (Option Value)} {f3 : Addr} {oc3 kV3 dc3 pm3 cd3 ct3 : Value} {od3 an3 : Option Addr} {sl3 : Array (Option Value)} {f4 : Addr} {oc4 kV4 dc4 pm4 cd4 ct4 : Value} {od4 an4 : Option Addr} {sl4 : Array (Option Value)} {f5 : Addr} {oc5 kV5 dc5 pm5 cd5 ct5 : Value} {od5 an5 : Option Addr} {sl5 : Array (Option Value)} {f6 : Addr} {oc6 kV6 dc6 pm6 cd6 ct6 : Value} {od6 an6 : Option Addr} {sl6 : Array (Option Value)} (X : K.In h) (G : h.Ns mainGlobals mg) (aC : PySem.W.nsIn K mainGlobals "Frame" = some (some (.ref C))) (pg : PySem.W.plainGet K C Str.empty = true) (hd : PySem.W.hasDictIn K C = true) (po : PySem.W.plainOver K C = true) (sa : PySem.W.findIn K (.ref C) "__setattr__" = some (some (.builtin "object.__setattr__"))) (mk : PySem.W.makesIn K C = true) (kc : PySem.W.keepIn K (.ref C) = true) (nkind : PySem.W.findIn K (.ref C) "kind" = some none) (nwho : PySem.W.findIn K (.ref C) "who" = some none) (nwhose : PySem.W.findIn K (.ref C) "whose" = some none) (ncaller : PySem.W.findIn K (.ref C) "caller" = some none) (ncoin : PySem.W.findIn K (.ref C) "coin" = some none) (nword : PySem.W.findIn K (.ref C) "word" = some none) (ngiven : PySem.W.findIn K (.ref C) "given" = some none) (ndepth : PySem.W.findIn K (.ref C) "depth" = some none) (nlooking : PySem.W.findIn K (.ref C) "looking" = some none) (nused : PySem.W.findIn K (.ref C) "used" = some none) (nstack : PySem.W.findIn K (.ref C) "stack" = some none) (nrow : PySem.W.findIn K (.ref C) "row" = some none) (nsteps : PySem.W.findIn K (.ref C) "steps" = some none) (nend : PySem.W.findIn K (.ref C) "end" = some none) (nanswer : PySem.W.findIn K (.ref C) "answer" = some none) (aleft : PySem.W.findIn K (.ref C) "left" = some (some (.ref f0))) (ileft : PySem.W.isFn K (.ref f0) = true) (lleft : K.lookup f0 = some ⟨oc0, od0, .func (PySem.W.fnOf "left" "Frame.left" (defArgs s_Frame_left) (defBody s_Frame_left) (defScope s_Frame_left) .none kV0 dc0 pm0 an0 cd0 ct0), sl0⟩) (cleft : PySem.W.codeIn K cd0 "Frame.left" = true) (kleft : PySem.W.keepIn K (.ref f0) = true) (ashort_for : PySem.W.findIn K (.ref C) "short_for" = some (some (.ref f1))) (ishort_for : PySem.W.isFn K (.ref f1) = true) (lshort_for : K.lookup f1 = some ⟨oc1, od1, .func (PySem.W.fnOf "short_for" "Frame.short_for" (defArgs s_Frame_short_for) (defBody s_Frame_short_for) (defScope s_Frame_short_for) .none kV1 dc1 pm1 an1 cd1 ct1), sl1⟩) (cshort_for : PySem.W.codeIn K cd1 "Frame.short_for" = true) (kshort_for : PySem.W.keepIn K (.ref f1) = true) (afull_behind : PySem.W.findIn K (.ref C) "full_behind" = some (some (.ref f2))) (ifull_behind : PySem.W.isFn K (.ref f2) = true) (lfull_behind : K.lookup f2 = some ⟨oc2, od2, .func (PySem.W.fnOf "full_behind" "Frame.full_behind" (defArgs s_Frame_full_behind) (defBody s_Frame_full_behind) (defScope s_Frame_full_behind) .none kV2 dc2 pm2 an2 cd2 ct2), sl2⟩) (cfull_behind : PySem.W.codeIn K cd2 "Frame.full_behind" = true) (kfull_behind : PySem.W.keepIn K (.ref f2) = true) (ataken : PySem.W.findIn K (.ref C) "taken" = some (some (.ref f3))) (itaken : PySem.W.isFn K (.ref f3) = true) (ltaken : K.lookup f3 = some ⟨oc3, od3, .func (PySem.W.fnOf "taken" "Frame.taken" (defArgs s_Frame_taken) (defBody s_Frame_taken) (defScope s_Frame_taken) .none kV3 dc3 pm3 an3 cd3 ct3), sl3⟩) (ctaken : PySem.W.codeIn K cd3 "Frame.taken" = true) (ktaken : PySem.W.keepIn K (.ref f3) = true) (alay : PySem.W.findIn K (.ref C) "lay" = some (some (.ref f4))) (ilay : PySem.W.isFn K (.ref f4) = true) (llay : K.lookup f4 = some ⟨oc4, od4, .func (PySem.W.fnOf "lay" "Frame.lay" (defArgs s_Frame_lay) (defBody s_Frame_lay) (defScope s_Frame_lay) .none kV4 dc4 pm4 an4 cd4 ct4), sl4⟩) (clay : PySem.W.codeIn K cd4 "Frame.lay" = true) (klay : PySem.W.keepIn K (.ref f4) = true) (afinish : PySem.W.findIn K (.ref C) "finish" = some (some (.ref f5))) (ifinish : PySem.W.isFn K (.ref f5) = true) (lfinish : K.lookup f5 = some ⟨oc5, od5, .func (PySem.W.fnOf "finish" "Frame.finish" (defArgs s_Frame_finish) (defBody s_Frame_finish) (defScope s_Frame_finish) .none kV5 dc5 pm5 an5 cd5 ct5), sl5⟩) (cfinish : PySem.W.codeIn K cd5 "Frame.finish" = true) (kfinish : PySem.W.keepIn K (.ref f5) = true) (atree : PySem.W.findIn K (.ref C) "tree" = some (some (.ref f6))) (itree : PySem.W.isFn K (.ref f6) = true) (ltree : K.lookup f6 = some ⟨oc6, od6, .func (PySem.W.fnOf "tree" "Frame.tree" (defArgs s_Frame_tree) (defBody s_Frame_tree) (defScope s_Frame_tree) .none kV6 dc6 pm6 an6 cd6 ct6), sl6⟩) (ctree : PySem.W.codeIn K cd6 "Frame.tree" = true) (ktree : PySem.W.keepIn K (.ref f6) = true) : ∃ C, T_Frame K mg C ∧ MethAt K C "left" "Frame.left" s_Frame_left ∧ MethAt K C "short_for" "Frame.short_for" s_Frame_short_for ∧ MethAt K C "full_behind" "Frame.full_behind" s_Frame_full_behind ∧ MethAt K C "taken" "Frame.taken" s_Frame_taken ∧ MethAt K C "lay" "Frame.lay" s_Frame_lay ∧ MethAt K C "finish" "Frame.finish" s_Frame_finish ∧ MethAt K C "tree" "Frame.tree" s_Frame_tree :=
  ⟨C, ⟨⟨⟨pg, hd, po, sa⟩, mk, kc, PySem.W.mg_of X G aC⟩, nkind, nwho, nwhose, ncaller, ncoin, nword, ngiven, ndepth, nlooking, nused, nstack, nrow, nsteps, nend, nanswer⟩, methAt_mk aleft ileft lleft cleft kleft, methAt_mk ashort_for ishort_for lshort_for cshort_for kshort_for, methAt_mk afull_behind ifull_behind lfull_behind cfull_behind kfull_behind, methAt_mk ataken itaken ltaken ctaken ktaken, methAt_mk alay ilay llay clay klay, methAt_mk afinish ifinish lfinish cfinish kfinish, methAt_mk atree itree ltree ctree ktree⟩
end
end My


namespace L2
open PySem PySem.W
theorem walkX_of {q : Program} {loose : List Str} {XP : (Str → Option Value) → Heap → Prop} {r : RowW} {d : DefRec} {kwd : List (Str × PySem.Expr)} {run : Value → List Value → Sem Value} {K : Params → Frag} {as : List Addr} {n t : Nat} (e : ∀ P, as = (K P).map (·.1))
    (h : WalkO q loose XP (fun w h => (K w.params).In h) r d kwd run) : WalkX q loose XP (X.obsZ as) (X.valZ K n t) r d kwd run :=
  fun w s₀ s₁ mg mb G y a o pm cd doc dV kV h1 h2 h3 h4 h5 h6 args vals as' L => h w s₀ s₁ mg mb G (InK.keeps w s₀.heap s₁.heap (X.z_facts e y).2.1 (Laid.keeps L)) a o pm cd doc dV kV h1 h2 h3 h4 h5 h6 args vals as'
end L2
open PySem PySem.W PyProof.Rows
local macro_rules | `(tactic| walk_at "vals") => `(tactic| first
  | exact L2.vals_nil
  | (refine L2.vals_int ?_; walk_at "vals")
  | (refine L2.vals_str ?_; walk_at "vals")
  | fail)
namespace PySem.W.Fast
theorem tw1647431557701118351 : True := ⟨⟩
theorem tw10473835741186640567 : True := ⟨⟩
theorem tw11881164294167357472 : True := ⟨⟩
theorem tw414028616067979360 : True := ⟨⟩
theorem tw15832314853498274944 : True := ⟨⟩
theorem tw9668660581127454880 : True := ⟨⟩
theorem tw17113442523696610464 : True := ⟨⟩
theorem tw8613452884368354528 : True := ⟨⟩
theorem tw17009168089206504704 : True := ⟨⟩
theorem tw3561391561638351136 : True := ⟨⟩
theorem tw156558811820165504 : True := ⟨⟩
theorem tw8757882592449410432 : True := ⟨⟩
theorem tw7853875898236214688 : True := ⟨⟩
theorem tw6959645278854568480 : True := ⟨⟩
theorem tw17391675997219019328 : True := ⟨⟩
theorem tw4164067690650861120 : True := ⟨⟩
theorem tw6668752283162358496 : True := ⟨⟩
theorem tw15156885835361271552 : True := ⟨⟩
theorem tw9100739161496485664 : True := ⟨⟩
theorem tw998346649688029024 : True := ⟨⟩
theorem tw16844858513201893344 : True := ⟨⟩
theorem tw912318805465144321 : True := ⟨⟩
theorem tw12153432385147665441 : True := ⟨⟩
theorem tw6104773109111394369 : True := ⟨⟩
theorem tw738567921174279265 : True := ⟨⟩
theorem tw15202257764292646049 : True := ⟨⟩
theorem tw5213475309331621057 : True := ⟨⟩
theorem tw10842912200900535489 : True := ⟨⟩
theorem tw1335358230994581697 : True := ⟨⟩
theorem tw16503445508548178145 : True := ⟨⟩
theorem tw4901239276059246881 : True := ⟨⟩
theorem tw11745817503145414945 : True := ⟨⟩
theorem tw11152736816564975937 : True := ⟨⟩
theorem tw16780351232908479809 : True := ⟨⟩
theorem tw16766261589253345601 : True := ⟨⟩
theorem tw3535767108053425505 : True := ⟨⟩
theorem tw15941054450591128961 : True := ⟨⟩
theorem tw6128166083378199937 : True := ⟨⟩
theorem tw5386752627434748321 : True := ⟨⟩
theorem tw11308340044043462081 : True := ⟨⟩
theorem tw2085394138481697281 : True := ⟨⟩
theorem tw12425213415040999937 : True := ⟨⟩
theorem tw1092813608773473825 : True := ⟨⟩
theorem tw11712806770908193313 : True := ⟨⟩
theorem tw13704048089171822209 : True := ⟨⟩
theorem tw6602672988583800481 : True := ⟨⟩
theorem tw9439225181351654145 : True := ⟨⟩
theorem tw1038835349300103937 : True := ⟨⟩
theorem tw17167740005056925441 : True := ⟨⟩
theorem tw6264104372791244609 : True := ⟨⟩
theorem tw14186991745383246689 : True := ⟨⟩
theorem tw10149466343090064257 : True := ⟨⟩
theorem tw10740042557794163585 : True := ⟨⟩
theorem tw10588835466377252737 : True := ⟨⟩
theorem tw5653340363573531553 : True := ⟨⟩
theorem tw11037210123383316385 : True := ⟨⟩
theorem tw5096969640663265282 : True := ⟨⟩
theorem tw1286703252510620674 : True := ⟨⟩
theorem tw14915383730035343362 : True := ⟨⟩
theorem tw7966410719553111042 : True := ⟨⟩
theorem tw3553158199868333090 : True := ⟨⟩
theorem tw14338545555135153186 : True := ⟨⟩
theorem tw1960401090419993666 : True := ⟨⟩
theorem tw18217345637922017410 : True := ⟨⟩
theorem tw14806213463625386178 : True := ⟨⟩
theorem tw17652074271266999490 : True := ⟨⟩
theorem tw13111427170824990978 : True := ⟨⟩
theorem tw15636724965711873314 : True := ⟨⟩
theorem tw15446196025402336546 : True := ⟨⟩
theorem tw12619820840393450786 : True := ⟨⟩
theorem tw16628313176602860834 : True := ⟨⟩
theorem tw6243732857015757090 : True := ⟨⟩
theorem tw4904609487584732514 : True := ⟨⟩
theorem tw12110339876544816482 : True := ⟨⟩
theorem tw10570468506822384034 : True := ⟨⟩
theorem tw3745313172217465314 : True := ⟨⟩
theorem tw7580769559952065058 : True := ⟨⟩
theorem tw13484911379797416482 : True := ⟨⟩
theorem tw16946311125946234402 : True := ⟨⟩
theorem tw7153481219712799458 : True := ⟨⟩
theorem tw1436592879713849058 : True := ⟨⟩
theorem tw9417600266704632578 : True := ⟨⟩
theorem tw1895025219148324642 : True := ⟨⟩
theorem tw9323139867759253378 : True := ⟨⟩
theorem tw8772234059953190786 : True := ⟨⟩
theorem tw3855512074822543234 : True := ⟨⟩
theorem tw10568640437570030498 : True := ⟨⟩
theorem tw9276855662177085346 : True := ⟨⟩
theorem tw7572102775202000834 : True := ⟨⟩
theorem tw2369471047860795362 : True := ⟨⟩
theorem tw5029458629878512610 : True := ⟨⟩
theorem tw12137902202368093187 : True := ⟨⟩
theorem tw10878757872306335779 : True := ⟨⟩
theorem tw2174013631832540195 : True := ⟨⟩
theorem tw4130237419718087779 : True := ⟨⟩
theorem tw4888848998952318115 : True := ⟨⟩
theorem tw779682537189503139 : True := ⟨⟩
theorem tw10399718302115268803 : True := ⟨⟩
theorem tw7337872410871501027 : True := ⟨⟩
theorem tw3743449624157821219 : True := ⟨⟩
theorem tw15827073796700552579 : True := ⟨⟩
theorem tw8156035620624600515 : True := ⟨⟩
theorem tw6183920535573257667 : True := ⟨⟩
theorem tw8695679778453952067 : True := ⟨⟩
theorem tw15724054163451014755 : True := ⟨⟩
theorem tw2197856369664843363 : True := ⟨⟩
theorem tw6168495888656888515 : True := ⟨⟩
theorem tw13935526383561076451 : True := ⟨⟩
theorem tw7867022200454612771 : True := ⟨⟩
theorem tw7519871019911733027 : True := ⟨⟩
theorem tw8657510545802491779 : True := ⟨⟩
theorem tw17190583718763696035 : True := ⟨⟩
theorem tw12764866372578472931 : True := ⟨⟩
theorem tw5423149037084737540 : True := ⟨⟩
theorem tw13898832517585208324 : True := ⟨⟩
theorem tw11108892043999760388 : True := ⟨⟩
theorem tw7613762964288573508 : True := ⟨⟩
theorem tw6010239863354851428 : True := ⟨⟩
theorem tw3663043617027886180 : True := ⟨⟩
theorem tw626535165364969572 : True := ⟨⟩
theorem tw3557024138139987044 : True := ⟨⟩
theorem tw10076857327710554340 : True := ⟨⟩
theorem tw17275687522077772004 : True := ⟨⟩
theorem tw5408508881272911076 : True := ⟨⟩
theorem tw500132088605191428 : True := ⟨⟩
theorem tw10974449331416698148 : True := ⟨⟩
theorem tw10357417307259969924 : True := ⟨⟩
theorem tw15981087954999011780 : True := ⟨⟩
theorem tw7630753597481565668 : True := ⟨⟩
theorem tw707119024783432228 : True := ⟨⟩
theorem tw10587687283541422660 : True := ⟨⟩
theorem tw16150000994373022276 : True := ⟨⟩
theorem tw18196462056562909764 : True := ⟨⟩
theorem tw4210247873807541828 : True := ⟨⟩
theorem tw9885238719352960580 : True := ⟨⟩
theorem tw10485298686911401796 : True := ⟨⟩
theorem tw4324622234517362500 : True := ⟨⟩
theorem tw12135499935034793796 : True := ⟨⟩
theorem tw14363950679563330436 : True := ⟨⟩
theorem tw3263853094322118564 : True := ⟨⟩
theorem tw16985833553297493956 : True := ⟨⟩
theorem tw1476979016872359876 : True := ⟨⟩
theorem tw9015747264922044517 : True := ⟨⟩
theorem tw8712642076577814725 : True := ⟨⟩
theorem tw5831323504553450693 : True := ⟨⟩
theorem tw3717928499102250181 : True := ⟨⟩
theorem tw16091050872785453285 : True := ⟨⟩
theorem tw5530714498733070597 : True := ⟨⟩
theorem tw5691911217925332229 : True := ⟨⟩
theorem tw2090736096916942117 : True := ⟨⟩
theorem tw5319099922395169125 : True := ⟨⟩
theorem tw10185668023769180549 : True := ⟨⟩
theorem tw15308023846443618725 : True := ⟨⟩
theorem tw8524377291443766725 : True := ⟨⟩
theorem tw7174121055076333029 : True := ⟨⟩
theorem tw15722753141593889253 : True := ⟨⟩
theorem tw265991282475661797 : True := ⟨⟩
theorem tw7827277375815063109 : True := ⟨⟩
theorem tw12835209483394150981 : True := ⟨⟩
theorem tw1896646235684122245 : True := ⟨⟩
theorem tw15152112068179380933 : True := ⟨⟩
theorem tw1372420964025963237 : True := ⟨⟩
theorem tw1565823337906636549 : True := ⟨⟩
theorem tw5880064676622005061 : True := ⟨⟩
theorem tw10107423492116490085 : True := ⟨⟩
theorem tw6742594188771546981 : True := ⟨⟩
theorem tw9487850394883453829 : True := ⟨⟩
theorem tw9266761433615217573 : True := ⟨⟩
theorem tw4147272723179689925 : True := ⟨⟩
theorem tw12187259991855876069 : True := ⟨⟩
theorem tw4605438299107825670 : True := ⟨⟩
theorem tw5827983949447502854 : True := ⟨⟩
theorem tw1496779116084177926 : True := ⟨⟩
theorem tw9759017681108979750 : True := ⟨⟩
theorem tw11348292288889213990 : True := ⟨⟩
theorem tw13264994480227737638 : True := ⟨⟩
theorem tw14028092245774794822 : True := ⟨⟩
theorem tw11001497973067932742 : True := ⟨⟩
theorem tw17727918514063608998 : True := ⟨⟩
theorem tw2473311823459921062 : True := ⟨⟩
theorem tw10030170176075014342 : True := ⟨⟩
theorem tw16529219614276003014 : True := ⟨⟩
theorem tw12368251804293855494 : True := ⟨⟩
theorem tw1802828914099785030 : True := ⟨⟩
theorem tw5279919344502487398 : True := ⟨⟩
theorem tw6455713567995898246 : True := ⟨⟩
theorem tw7905322848457961926 : True := ⟨⟩
theorem tw16739369177477726726 : True := ⟨⟩
theorem tw18044635205324482086 : True := ⟨⟩
theorem tw12688410196276434470 : True := ⟨⟩
theorem tw12114980603226411590 : True := ⟨⟩
theorem tw2910001684722512518 : True := ⟨⟩
theorem tw13592325346697690822 : True := ⟨⟩
theorem tw17767184804007009062 : True := ⟨⟩
theorem tw737399207527795494 : True := ⟨⟩
theorem tw2214919599274691398 : True := ⟨⟩
theorem tw9294326285396869990 : True := ⟨⟩
theorem tw6930616174708065126 : True := ⟨⟩
theorem tw8396304819037148038 : True := ⟨⟩
theorem tw1703976586579483590 : True := ⟨⟩
theorem tw928195494018158566 : True := ⟨⟩
theorem tw13247740540371211335 : True := ⟨⟩
theorem tw17176317463333615687 : True := ⟨⟩
theorem tw9385260371100449863 : True := ⟨⟩
theorem tw14676694562505148487 : True := ⟨⟩
theorem tw16540576712320600167 : True := ⟨⟩
theorem tw1663623881055750311 : True := ⟨⟩
theorem tw5354438336225776935 : True := ⟨⟩
theorem tw1343813910525388103 : True := ⟨⟩
theorem tw1072483302631563591 : True := ⟨⟩
theorem tw7595558324922486119 : True := ⟨⟩
theorem tw871624448043278759 : True := ⟨⟩
theorem tw11190000809325605287 : True := ⟨⟩
theorem tw5332720451487035975 : True := ⟨⟩
theorem tw5096946840027688551 : True := ⟨⟩
theorem tw4068251951033874023 : True := ⟨⟩
theorem tw2897239915021190791 : True := ⟨⟩
theorem tw13957434946615326407 : True := ⟨⟩
theorem tw1723533241055170247 : True := ⟨⟩
theorem tw12097379396597780199 : True := ⟨⟩
theorem tw14015466387704737511 : True := ⟨⟩
theorem tw8885225375290353415 : True := ⟨⟩
theorem tw14877574842352843559 : True := ⟨⟩
theorem tw118746743241291591 : True := ⟨⟩
theorem tw185451824922924935 : True := ⟨⟩
theorem tw3497454104480812999 : True := ⟨⟩
theorem tw4234962905538366439 : True := ⟨⟩
theorem tw3262759680413025288 : True := ⟨⟩
theorem tw16533941963842976776 : True := ⟨⟩
theorem tw13545645498587511848 : True := ⟨⟩
theorem tw16561210052968192072 : True := ⟨⟩
theorem tw8766391178431294536 : True := ⟨⟩
theorem tw16249056506907481352 : True := ⟨⟩
theorem tw2651882463270554920 : True := ⟨⟩
theorem tw8848987625174077800 : True := ⟨⟩
theorem tw2983368723177495944 : True := ⟨⟩
theorem tw17693958493286233576 : True := ⟨⟩
theorem tw645707422325234184 : True := ⟨⟩
theorem tw10780662594771005992 : True := ⟨⟩
theorem tw999038462060932680 : True := ⟨⟩
theorem tw16702764189199712872 : True := ⟨⟩
theorem tw15037135895654105736 : True := ⟨⟩
theorem tw14883015100518469288 : True := ⟨⟩
theorem tw3596653410620959400 : True := ⟨⟩
theorem tw6149720730962162376 : True := ⟨⟩
theorem tw12228209967473702632 : True := ⟨⟩
theorem tw2911695947734947560 : True := ⟨⟩
theorem tw4980354746542123784 : True := ⟨⟩
theorem tw9585125892099437320 : True := ⟨⟩
theorem tw7227868356861332264 : True := ⟨⟩
theorem tw2074302072181986184 : True := ⟨⟩
theorem tw16131464624451261320 : True := ⟨⟩
theorem tw15101595306003562408 : True := ⟨⟩
theorem tw8606016736832250792 : True := ⟨⟩
theorem tw3274816028213321704 : True := ⟨⟩
theorem tw10492172303859244073 : True := ⟨⟩
theorem tw18005485347573800073 : True := ⟨⟩
theorem tw6542683252831485065 : True := ⟨⟩
theorem tw11654219560550025385 : True := ⟨⟩
theorem tw12008238466432137417 : True := ⟨⟩
theorem tw4622528694535854313 : True := ⟨⟩
theorem tw13096091726083725545 : True := ⟨⟩
theorem tw8810259017625135401 : True := ⟨⟩
theorem tw17376415614785461641 : True := ⟨⟩
theorem tw13034043009535825289 : True := ⟨⟩
theorem tw13296999425443260841 : True := ⟨⟩
theorem tw4758467524823508393 : True := ⟨⟩
theorem tw6380196558751912393 : True := ⟨⟩
theorem tw15150799057896850953 : True := ⟨⟩
theorem tw18249255961165553161 : True := ⟨⟩
theorem tw5157077358779139689 : True := ⟨⟩
theorem tw5681084627035220617 : True := ⟨⟩
theorem tw8492245341267728041 : True := ⟨⟩
theorem tw13378987716704353961 : True := ⟨⟩
theorem tw8435177997389877929 : True := ⟨⟩
theorem tw13272549152632036009 : True := ⟨⟩
theorem tw12180390820066463497 : True := ⟨⟩
theorem tw14613318447741655817 : True := ⟨⟩
theorem tw17986252817310537513 : True := ⟨⟩
theorem tw6799575137041081161 : True := ⟨⟩
theorem tw4154773162228842313 : True := ⟨⟩
theorem tw2087585021635503017 : True := ⟨⟩
theorem tw11464135617161209769 : True := ⟨⟩
theorem tw7555698879257490345 : True := ⟨⟩
theorem tw8416234717066033129 : True := ⟨⟩
theorem tw13641457039651516426 : True := ⟨⟩
theorem tw2093709130300562474 : True := ⟨⟩
theorem tw7607909624801549450 : True := ⟨⟩
theorem tw11039373713819630762 : True := ⟨⟩
theorem tw14465423686672775370 : True := ⟨⟩
theorem tw11685068460624549098 : True := ⟨⟩
theorem tw8710844255753147658 : True := ⟨⟩
theorem tw10357771695645290762 : True := ⟨⟩
theorem tw13841192828768767274 : True := ⟨⟩
theorem tw4342284418272362794 : True := ⟨⟩
theorem tw15570062755332925770 : True := ⟨⟩
theorem tw12706499365177132426 : True := ⟨⟩
theorem tw6434589526378802602 : True := ⟨⟩
theorem tw2998035439796839914 : True := ⟨⟩
theorem tw12782153830406309450 : True := ⟨⟩
theorem tw12950532324502482506 : True := ⟨⟩
theorem tw12954552578869595882 : True := ⟨⟩
theorem tw10182939493870828266 : True := ⟨⟩
theorem tw7366500715837518602 : True := ⟨⟩
theorem tw4853231888755262250 : True := ⟨⟩
theorem tw8544565040642555754 : True := ⟨⟩
theorem tw12507164938629901194 : True := ⟨⟩
theorem tw989344547413841866 : True := ⟨⟩
theorem tw11393479297347107786 : True := ⟨⟩
theorem tw14440887190671825898 : True := ⟨⟩
theorem tw17436279675037700074 : True := ⟨⟩
theorem tw17506274600250030123 : True := ⟨⟩
theorem tw17083191792813802571 : True := ⟨⟩
theorem tw11033799819692353611 : True := ⟨⟩
theorem tw1114127498389122251 : True := ⟨⟩
theorem tw12727332167205623019 : True := ⟨⟩
theorem tw10026406071350066411 : True := ⟨⟩
theorem tw3870375394673016139 : True := ⟨⟩
theorem tw13937804674314627403 : True := ⟨⟩
theorem tw12786157360846412139 : True := ⟨⟩
theorem tw8130332810016964971 : True := ⟨⟩
theorem tw780629018198781355 : True := ⟨⟩
theorem tw10651643197771818443 : True := ⟨⟩
theorem tw11345497018161489419 : True := ⟨⟩
theorem tw7220490099921073707 : True := ⟨⟩
theorem tw14785473427203446347 : True := ⟨⟩
theorem tw4342634186429602411 : True := ⟨⟩
theorem tw4873828644224410219 : True := ⟨⟩
theorem tw16842493560943897227 : True := ⟨⟩
theorem tw4210951759788576427 : True := ⟨⟩
theorem tw5796684832711856843 : True := ⟨⟩
theorem tw13509323750638847723 : True := ⟨⟩
theorem tw6192582386591681259 : True := ⟨⟩
theorem tw18268779799348621163 : True := ⟨⟩
theorem tw4587414789373786987 : True := ⟨⟩
theorem tw12147684234964174795 : True := ⟨⟩
theorem tw16001657667417701355 : True := ⟨⟩
theorem tw15140956329829918732 : True := ⟨⟩
theorem tw2624119922999586828 : True := ⟨⟩
theorem tw15918876211250333740 : True := ⟨⟩
theorem tw16371242828733654060 : True := ⟨⟩
theorem tw11288891060939528236 : True := ⟨⟩
theorem tw12107593563979085900 : True := ⟨⟩
theorem tw14291947305328434284 : True := ⟨⟩
theorem tw2095540325076696172 : True := ⟨⟩
theorem tw1614081959894372524 : True := ⟨⟩
theorem tw6603857648316923084 : True := ⟨⟩
theorem tw2297855693735227596 : True := ⟨⟩
theorem tw13269210516064122060 : True := ⟨⟩
theorem tw11343263571051315500 : True := ⟨⟩
theorem tw3925521600416330124 : True := ⟨⟩
theorem tw8066185179053544844 : True := ⟨⟩
theorem tw13174406981346942380 : True := ⟨⟩
theorem tw1089925020404108748 : True := ⟨⟩
theorem tw11565786587918107244 : True := ⟨⟩
theorem tw4460844945125737068 : True := ⟨⟩
theorem tw4905015643236768524 : True := ⟨⟩
theorem tw8416948241939903244 : True := ⟨⟩
theorem tw3758340943804164876 : True := ⟨⟩
theorem tw4133617892935767948 : True := ⟨⟩
theorem tw5080902584020107148 : True := ⟨⟩
theorem tw809799415441261484 : True := ⟨⟩
theorem tw5423183659106100172 : True := ⟨⟩
theorem tw17345658812804972557 : True := ⟨⟩
theorem tw11734152882614623277 : True := ⟨⟩
theorem tw14726897152121531437 : True := ⟨⟩
theorem tw5787160087470404717 : True := ⟨⟩
theorem tw1351847538884975789 : True := ⟨⟩
theorem tw10972476196693910701 : True := ⟨⟩
theorem tw16953829214165608621 : True := ⟨⟩
theorem tw11734305169254628589 : True := ⟨⟩
theorem tw16666384183840360685 : True := ⟨⟩
theorem tw3923710685123729677 : True := ⟨⟩
theorem tw1136365107006094605 : True := ⟨⟩
theorem tw4511408475814180141 : True := ⟨⟩
theorem tw5197690466045138253 : True := ⟨⟩
theorem tw2374828046187087245 : True := ⟨⟩
theorem tw15074196272162058669 : True := ⟨⟩
theorem tw1405382559653074413 : True := ⟨⟩
theorem tw12460079175971436013 : True := ⟨⟩
theorem tw12700159009128834573 : True := ⟨⟩
theorem tw15251600563380271661 : True := ⟨⟩
theorem tw11901037366375467597 : True := ⟨⟩
theorem tw14721663328022319693 : True := ⟨⟩
theorem tw6961715359398858349 : True := ⟨⟩
theorem tw1967921789000883821 : True := ⟨⟩
theorem tw16272526875329667693 : True := ⟨⟩
theorem tw17939147943833544301 : True := ⟨⟩
theorem tw9093717321497934445 : True := ⟨⟩
theorem tw6661318901432984237 : True := ⟨⟩
theorem tw9938424307036333773 : True := ⟨⟩
theorem tw9171043531870955341 : True := ⟨⟩
theorem tw13569597104143328077 : True := ⟨⟩
theorem tw15295130831307311981 : True := ⟨⟩
theorem tw3911332054861227885 : True := ⟨⟩
theorem tw375414332309839757 : True := ⟨⟩
theorem tw6943659323385427853 : True := ⟨⟩
theorem tw2280579028596046797 : True := ⟨⟩
theorem tw15711633314042425358 : True := ⟨⟩
theorem tw27751805832934414 : True := ⟨⟩
theorem tw17022049504154487950 : True := ⟨⟩
theorem tw6488985522380490926 : True := ⟨⟩
theorem tw1702630929711275214 : True := ⟨⟩
theorem tw16977005998196859214 : True := ⟨⟩
theorem tw9875191007470881134 : True := ⟨⟩
theorem tw7155358858289104270 : True := ⟨⟩
theorem tw5632860809898888622 : True := ⟨⟩
theorem tw3337058459760602542 : True := ⟨⟩
theorem tw14216193954742870510 : True := ⟨⟩
theorem tw14271846612870653454 : True := ⟨⟩
theorem tw7619031864669916782 : True := ⟨⟩
theorem tw1215391168614183566 : True := ⟨⟩
theorem tw1065403256003433166 : True := ⟨⟩
theorem tw10758760504584139470 : True := ⟨⟩
theorem tw17763459847287598830 : True := ⟨⟩
theorem tw7206606622037221134 : True := ⟨⟩
theorem tw10773320491027512078 : True := ⟨⟩
theorem tw8349882711912600334 : True := ⟨⟩
theorem tw9184670401467481870 : True := ⟨⟩
theorem tw9362154314170760974 : True := ⟨⟩
theorem tw1986982223669213038 : True := ⟨⟩
theorem tw4752808772571583342 : True := ⟨⟩
theorem tw6923260023783486318 : True := ⟨⟩
theorem tw6582173401819890574 : True := ⟨⟩
theorem tw15719944502507478958 : True := ⟨⟩
theorem tw18421622323266191310 : True := ⟨⟩
theorem tw7368045689263716334 : True := ⟨⟩
theorem tw17564585164258141231 : True := ⟨⟩
theorem tw14638546348923556975 : True := ⟨⟩
theorem tw5073335049801713839 : True := ⟨⟩
theorem tw6423383525962771695 : True := ⟨⟩
theorem tw3279904269865598191 : True := ⟨⟩
theorem tw18323336678748257551 : True := ⟨⟩
theorem tw3329531541896080687 : True := ⟨⟩
theorem tw222116617021721903 : True := ⟨⟩
theorem tw3306848168081454447 : True := ⟨⟩
theorem tw11521012499370899919 : True := ⟨⟩
theorem tw7086571872873260559 : True := ⟨⟩
theorem tw16663606132418028047 : True := ⟨⟩
theorem tw4196423007820496431 : True := ⟨⟩
theorem tw7766949975593981519 : True := ⟨⟩
theorem tw13727851405699763791 : True := ⟨⟩
theorem tw10944971679223350895 : True := ⟨⟩
theorem tw13787147311374702191 : True := ⟨⟩
theorem tw16385244638564315759 : True := ⟨⟩
theorem tw11396366260529172111 : True := ⟨⟩
theorem tw8001299024100301615 : True := ⟨⟩
theorem tw12935613616165760847 : True := ⟨⟩
theorem tw3334817070493609807 : True := ⟨⟩
theorem tw13200778807595801519 : True := ⟨⟩
theorem tw18332326468757770288 : True := ⟨⟩
theorem tw15458678329810956368 : True := ⟨⟩
theorem tw15246126066586036464 : True := ⟨⟩
theorem tw16833298639725890832 : True := ⟨⟩
theorem tw4868692527809961232 : True := ⟨⟩
theorem tw6336734352927269136 : True := ⟨⟩
theorem tw5234876052417038608 : True := ⟨⟩
theorem tw7549697775442213168 : True := ⟨⟩
theorem tw2759709576380140880 : True := ⟨⟩
theorem tw6555192716186874288 : True := ⟨⟩
theorem tw8911122572451653104 : True := ⟨⟩
theorem tw5027448798407830000 : True := ⟨⟩
theorem tw13696689872513992272 : True := ⟨⟩
theorem tw17478000992891059792 : True := ⟨⟩
theorem tw15465658732277971568 : True := ⟨⟩
theorem tw9645869359979134576 : True := ⟨⟩
theorem tw1461255658524513968 : True := ⟨⟩
theorem tw4607745134234099408 : True := ⟨⟩
theorem tw14750678403028887376 : True := ⟨⟩
theorem tw2487320919441411952 : True := ⟨⟩
theorem tw3274369514244090768 : True := ⟨⟩
theorem tw2255090216767741872 : True := ⟨⟩
theorem tw9705372577594666928 : True := ⟨⟩
theorem tw12602128312423832593 : True := ⟨⟩
theorem tw17848017203776946289 : True := ⟨⟩
theorem tw13669233422432240881 : True := ⟨⟩
theorem tw16346982135849884913 : True := ⟨⟩
theorem tw678678002024039665 : True := ⟨⟩
theorem tw5314733232229638417 : True := ⟨⟩
theorem tw5513734456604554513 : True := ⟨⟩
theorem tw12614568291310118193 : True := ⟨⟩
theorem tw9371765503223814449 : True := ⟨⟩
theorem tw5729089852664832401 : True := ⟨⟩
theorem tw8688887521085897137 : True := ⟨⟩
theorem tw10081228789382177233 : True := ⟨⟩
theorem tw1094653775911540209 : True := ⟨⟩
theorem tw10090938916877199985 : True := ⟨⟩
theorem tw13620917472610587281 : True := ⟨⟩
theorem tw11423631369794477713 : True := ⟨⟩
theorem tw13477667429420605201 : True := ⟨⟩
theorem tw2096021232012154673 : True := ⟨⟩
theorem tw1601155747197476657 : True := ⟨⟩
theorem tw10573974360329799537 : True := ⟨⟩
theorem tw15681225006215764849 : True := ⟨⟩
theorem tw10221835757139053425 : True := ⟨⟩
theorem tw11510828553392247697 : True := ⟨⟩
theorem tw7225754234091616177 : True := ⟨⟩
theorem tw3715703026765560753 : True := ⟨⟩
theorem tw11105954225215380465 : True := ⟨⟩
theorem tw8516376455937208305 : True := ⟨⟩
theorem tw4582331730615209010 : True := ⟨⟩
theorem tw11082900076806712370 : True := ⟨⟩
theorem tw11684754768170462290 : True := ⟨⟩
theorem tw11274217789757671538 : True := ⟨⟩
theorem tw2155930432453521586 : True := ⟨⟩
theorem tw1919824978981140658 : True := ⟨⟩
theorem tw15309952096493188306 : True := ⟨⟩
theorem tw5275241982178476242 : True := ⟨⟩
theorem tw12080656536711910610 : True := ⟨⟩
theorem tw678526505603635506 : True := ⟨⟩
theorem tw9477553878788417906 : True := ⟨⟩
theorem tw530159106181995986 : True := ⟨⟩
theorem tw17289805713098432978 : True := ⟨⟩
theorem tw3377179581417297426 : True := ⟨⟩
theorem tw8209763006604173010 : True := ⟨⟩
theorem tw1201726759148500754 : True := ⟨⟩
theorem tw10642653037153711922 : True := ⟨⟩
theorem tw4310321046614879058 : True := ⟨⟩
theorem tw3713270312907260786 : True := ⟨⟩
theorem tw12714407986651879282 : True := ⟨⟩
theorem tw12196824565117460466 : True := ⟨⟩
theorem tw4862547014601316403 : True := ⟨⟩
theorem tw17083991194496196755 : True := ⟨⟩
theorem tw14799430828373567699 : True := ⟨⟩
theorem tw957701535485619507 : True := ⟨⟩
theorem tw9335038996163486067 : True := ⟨⟩
theorem tw5192607096739047891 : True := ⟨⟩
theorem tw6710315213071820275 : True := ⟨⟩
theorem tw5676285222416874035 : True := ⟨⟩
theorem tw1634696522204278323 : True := ⟨⟩
theorem tw3558855520090402387 : True := ⟨⟩
theorem tw10297155150930058835 : True := ⟨⟩
theorem tw9782328902666729043 : True := ⟨⟩
theorem tw14070847584382657139 : True := ⟨⟩
theorem tw5691444255755190931 : True := ⟨⟩
theorem tw11195834074332909203 : True := ⟨⟩
theorem tw2784353783302942355 : True := ⟨⟩
theorem tw11731537149894178515 : True := ⟨⟩
theorem tw2522533312437478099 : True := ⟨⟩
theorem tw543137346170267411 : True := ⟨⟩
theorem tw6120467403576925011 : True := ⟨⟩
theorem tw12881856795556215667 : True := ⟨⟩
theorem tw6064314416198391699 : True := ⟨⟩
theorem tw17380835505038562227 : True := ⟨⟩
theorem tw10589650520357601203 : True := ⟨⟩
theorem tw16471646907890079699 : True := ⟨⟩
theorem tw16684727970643723316 : True := ⟨⟩
theorem tw5751164256557408372 : True := ⟨⟩
theorem tw12506568719031824564 : True := ⟨⟩
theorem tw12625261407582653652 : True := ⟨⟩
theorem tw3724119969215101204 : True := ⟨⟩
theorem tw10656451146222007572 : True := ⟨⟩
theorem tw6887975642427041076 : True := ⟨⟩
theorem tw10260432722532490548 : True := ⟨⟩
theorem tw16841454021472815476 : True := ⟨⟩
theorem tw18326764589060541812 : True := ⟨⟩
theorem tw7879034792579776916 : True := ⟨⟩
theorem tw1607050404836654644 : True := ⟨⟩
theorem tw17432042930778491444 : True := ⟨⟩
theorem tw10788789282050457172 : True := ⟨⟩
theorem tw5510292086627543668 : True := ⟨⟩
theorem tw10260881532428357236 : True := ⟨⟩
theorem tw2847321575374717588 : True := ⟨⟩
theorem tw274898647348671188 : True := ⟨⟩
theorem tw15717086296903897844 : True := ⟨⟩
theorem tw3961244880773019380 : True := ⟨⟩
theorem tw17432411911108058932 : True := ⟨⟩
theorem tw17843322903143568212 : True := ⟨⟩
theorem tw9055839172846216148 : True := ⟨⟩
theorem tw9945982633635300340 : True := ⟨⟩
theorem tw5226177199245349876 : True := ⟨⟩
theorem tw5346885701636953109 : True := ⟨⟩
theorem tw10788373541459245141 : True := ⟨⟩
theorem tw2503161106242063509 : True := ⟨⟩
theorem tw6486857127304819893 : True := ⟨⟩
theorem tw7362632036023173333 : True := ⟨⟩
theorem tw6914765658668796149 : True := ⟨⟩
theorem tw5916430517233174805 : True := ⟨⟩
theorem tw16753533908275000629 : True := ⟨⟩
theorem tw9348815044404402581 : True := ⟨⟩
theorem tw12849748695626056085 : True := ⟨⟩
theorem tw3311019103808727477 : True := ⟨⟩
theorem tw12825107146220551733 : True := ⟨⟩
theorem tw14163704630402896437 : True := ⟨⟩
theorem tw14414528804505975349 : True := ⟨⟩
theorem tw9185758993941718645 : True := ⟨⟩
theorem tw80140169150616181 : True := ⟨⟩
theorem tw9518494880826567317 : True := ⟨⟩
theorem tw8411657959320197877 : True := ⟨⟩
theorem tw4743874555422971733 : True := ⟨⟩
theorem tw11002085268082967381 : True := ⟨⟩
theorem tw1923637376681935733 : True := ⟨⟩
theorem tw9484982614774554549 : True := ⟨⟩
theorem tw12637855799901737941 : True := ⟨⟩
theorem tw10499590183435924502 : True := ⟨⟩
theorem tw807768571323656278 : True := ⟨⟩
theorem tw3064001926346299510 : True := ⟨⟩
theorem tw4322507630601850006 : True := ⟨⟩
theorem tw1194522579564973206 : True := ⟨⟩
theorem tw1919089472751618230 : True := ⟨⟩
theorem tw15410453358223598838 : True := ⟨⟩
theorem tw8289920807902584086 : True := ⟨⟩
theorem tw3516710175282651478 : True := ⟨⟩
theorem tw1250354079974516054 : True := ⟨⟩
theorem tw12782458378915539350 : True := ⟨⟩
theorem tw13529196472723152342 : True := ⟨⟩
theorem tw13279478531092591062 : True := ⟨⟩
theorem tw1084409178940303894 : True := ⟨⟩
theorem tw4203892043626451478 : True := ⟨⟩
theorem tw14173890014759634550 : True := ⟨⟩
theorem tw2844019480664723062 : True := ⟨⟩
theorem tw16821869209677094550 : True := ⟨⟩
theorem tw790261202910972630 : True := ⟨⟩
theorem tw13341923917883950934 : True := ⟨⟩
theorem tw6883861877342992246 : True := ⟨⟩
theorem tw2148736701373671447 : True := ⟨⟩
theorem tw8586078453857022999 : True := ⟨⟩
theorem tw3230731044766647447 : True := ⟨⟩
theorem tw17598684736089266359 : True := ⟨⟩
theorem tw6159619936504841431 : True := ⟨⟩
theorem tw9563681526190829847 : True := ⟨⟩
theorem tw14309300833565551927 : True := ⟨⟩
theorem tw17723193584634965303 : True := ⟨⟩
theorem tw2726183238462265655 : True := ⟨⟩
theorem tw5092003517402161527 : True := ⟨⟩
theorem tw14756245312410188183 : True := ⟨⟩
theorem tw13174076086262697431 : True := ⟨⟩
theorem tw8194253930992331255 : True := ⟨⟩
theorem tw18002162404028247671 : True := ⟨⟩
theorem tw3519799135215095479 : True := ⟨⟩
theorem tw1903054335948728023 : True := ⟨⟩
theorem tw4158891368125151959 : True := ⟨⟩
theorem tw3064472020424707799 : True := ⟨⟩
theorem tw3863376625232300823 : True := ⟨⟩
theorem tw13707502215462739735 : True := ⟨⟩
theorem tw16125431091034148727 : True := ⟨⟩
theorem tw13395470735660214167 : True := ⟨⟩
theorem tw9920108012384346007 : True := ⟨⟩
theorem tw681659682925676439 : True := ⟨⟩
theorem tw15766643924898459607 : True := ⟨⟩
theorem tw15628426816071727095 : True := ⟨⟩
theorem tw10937835080732782648 : True := ⟨⟩
theorem tw6388747651811000472 : True := ⟨⟩
theorem tw3311892228563768536 : True := ⟨⟩
theorem tw18408765006954911992 : True := ⟨⟩
theorem tw13559425083163048216 : True := ⟨⟩
theorem tw2264166937106017560 : True := ⟨⟩
theorem tw8681003385754206552 : True := ⟨⟩
theorem tw8881578163375955320 : True := ⟨⟩
theorem tw7566760101703117176 : True := ⟨⟩
theorem tw3742536991722498424 : True := ⟨⟩
theorem tw1677609851039078808 : True := ⟨⟩
theorem tw13934746063057313208 : True := ⟨⟩
theorem tw12488580807038412248 : True := ⟨⟩
theorem tw13431780339213184472 : True := ⟨⟩
theorem tw2271372520525172184 : True := ⟨⟩
theorem tw8581092625954298424 : True := ⟨⟩
theorem tw3338282570382977624 : True := ⟨⟩
theorem tw7187183112546148952 : True := ⟨⟩
theorem tw8009667217980502680 : True := ⟨⟩
theorem tw14139499286343859928 : True := ⟨⟩
theorem tw9580697457078513464 : True := ⟨⟩
theorem tw6973670991059387352 : True := ⟨⟩
theorem tw815632105116564472 : True := ⟨⟩
theorem tw13437782345283108889 : True := ⟨⟩
theorem tw15124992117841068089 : True := ⟨⟩
theorem tw969030589763120217 : True := ⟨⟩
theorem tw15345596411491907705 : True := ⟨⟩
theorem tw2350568531307472025 : True := ⟨⟩
theorem tw8140179773949065401 : True := ⟨⟩
theorem tw3112775449380566233 : True := ⟨⟩
theorem tw2851681555061079257 : True := ⟨⟩
theorem tw14998389436234709241 : True := ⟨⟩
theorem tw11125096265609961753 : True := ⟨⟩
theorem tw15041006336770502937 : True := ⟨⟩
theorem tw2793591478705622329 : True := ⟨⟩
theorem tw18269187536401475001 : True := ⟨⟩
theorem tw15966080622615501273 : True := ⟨⟩
theorem tw11874084869971623417 : True := ⟨⟩
theorem tw8177208089599232505 : True := ⟨⟩
theorem tw3161379341861955193 : True := ⟨⟩
theorem tw14187264336749384313 : True := ⟨⟩
theorem tw9671976525004685945 : True := ⟨⟩
theorem tw10814753349482093209 : True := ⟨⟩
theorem tw12466988699298799257 : True := ⟨⟩
theorem tw11694254821637512857 : True := ⟨⟩
theorem tw1078380141253269177 : True := ⟨⟩
theorem tw10181343131068060345 : True := ⟨⟩
theorem tw16841497200735606457 : True := ⟨⟩
theorem tw2003229011930663641 : True := ⟨⟩
theorem tw12841608868799943545 : True := ⟨⟩
theorem tw10609699810517727161 : True := ⟨⟩
theorem tw5310260839223216089 : True := ⟨⟩
theorem tw11821952661193008121 : True := ⟨⟩
theorem tw5973099755676954617 : True := ⟨⟩
theorem tw1617495959960772634 : True := ⟨⟩
theorem tw6104985214914297946 : True := ⟨⟩
theorem tw2466123346577202266 : True := ⟨⟩
theorem tw13628008498800849050 : True := ⟨⟩
theorem tw14634111000946348250 : True := ⟨⟩
theorem tw5576205366887768282 : True := ⟨⟩
theorem tw8691048486607973594 : True := ⟨⟩
theorem tw7237741836150307098 : True := ⟨⟩
theorem tw9070326730841135418 : True := ⟨⟩
theorem tw20352195699858746 : True := ⟨⟩
theorem tw8787688339686057498 : True := ⟨⟩
theorem tw10681635189483590234 : True := ⟨⟩
theorem tw12435307663857815194 : True := ⟨⟩
theorem tw2719011298909635226 : True := ⟨⟩
theorem tw13228631515510203066 : True := ⟨⟩
theorem tw4497912848383512282 : True := ⟨⟩
theorem tw13120963941219027674 : True := ⟨⟩
theorem tw6984044456134746874 : True := ⟨⟩
theorem tw11264593764977691386 : True := ⟨⟩
theorem tw6700835638612994874 : True := ⟨⟩
theorem tw7049882000494777146 : True := ⟨⟩
theorem tw953240804225898298 : True := ⟨⟩
theorem tw2188862141954713402 : True := ⟨⟩
theorem tw14060651726777988954 : True := ⟨⟩
theorem tw12522315487810503546 : True := ⟨⟩
theorem tw6885081751853059962 : True := ⟨⟩
theorem tw18239827203107836794 : True := ⟨⟩
theorem tw17841439590128943002 : True := ⟨⟩
theorem tw10675653014358454170 : True := ⟨⟩
theorem tw10118205892061837242 : True := ⟨⟩
theorem tw2459927588742174682 : True := ⟨⟩
theorem tw10670549092560345050 : True := ⟨⟩
theorem tw15978816311163623483 : True := ⟨⟩
theorem tw17269370650833212475 : True := ⟨⟩
theorem tw2228882814991050843 : True := ⟨⟩
theorem tw9657832971393556571 : True := ⟨⟩
theorem tw4399901191316629627 : True := ⟨⟩
theorem tw16897876347090028731 : True := ⟨⟩
theorem tw7274987068217326811 : True := ⟨⟩
theorem tw471433473104632059 : True := ⟨⟩
theorem tw2925562755910018395 : True := ⟨⟩
theorem tw18293640436380229979 : True := ⟨⟩
theorem tw15712424814662815099 : True := ⟨⟩
theorem tw1957444904283718011 : True := ⟨⟩
theorem tw9154909588558803355 : True := ⟨⟩
theorem tw16575316518662973979 : True := ⟨⟩
theorem tw10492860233611263515 : True := ⟨⟩
theorem tw6052767152479579707 : True := ⟨⟩
theorem tw14810867184103032411 : True := ⟨⟩
theorem tw2889131568117179995 : True := ⟨⟩
theorem tw10276164234880350843 : True := ⟨⟩
theorem tw8955302816003611323 : True := ⟨⟩
theorem tw1740130144866855643 : True := ⟨⟩
theorem tw2935504532949269211 : True := ⟨⟩
theorem tw1340263474563005179 : True := ⟨⟩
theorem tw3222444183886163707 : True := ⟨⟩
theorem tw1182399804137972507 : True := ⟨⟩
theorem tw1415890118021309339 : True := ⟨⟩
theorem tw2959325964597065627 : True := ⟨⟩
theorem tw12614851753141768123 : True := ⟨⟩
theorem tw12261161196405802939 : True := ⟨⟩
theorem tw14461026165966753723 : True := ⟨⟩
theorem tw10514309745526834139 : True := ⟨⟩
theorem tw17679971600775156731 : True := ⟨⟩
theorem tw4580756415263643643 : True := ⟨⟩
theorem tw7235918896832059387 : True := ⟨⟩
theorem tw12984718455787696123 : True := ⟨⟩
theorem tw16060090229476447292 : True := ⟨⟩
theorem tw4102619138615018588 : True := ⟨⟩
theorem tw16473367951936679004 : True := ⟨⟩
theorem tw17814495784684998812 : True := ⟨⟩
theorem tw15601729661995242684 : True := ⟨⟩
theorem tw1411084135999838396 : True := ⟨⟩
theorem tw11626273401399920860 : True := ⟨⟩
theorem tw2705957148850326780 : True := ⟨⟩
theorem tw10923536864310553916 : True := ⟨⟩
theorem tw6624110169684408636 : True := ⟨⟩
theorem tw14738372910917837116 : True := ⟨⟩
theorem tw12383384649079035228 : True := ⟨⟩
theorem tw8907151040700464508 : True := ⟨⟩
theorem tw10898384317213945244 : True := ⟨⟩
theorem tw10445130375372569052 : True := ⟨⟩
theorem tw16306293377450156636 : True := ⟨⟩
theorem tw1943453893545764476 : True := ⟨⟩
theorem tw11124560109618205340 : True := ⟨⟩
theorem tw18096519121946888892 : True := ⟨⟩
theorem tw11296461675628589788 : True := ⟨⟩
theorem tw15742242461008545596 : True := ⟨⟩
theorem tw10813785360196074332 : True := ⟨⟩
theorem tw14371973362672634716 : True := ⟨⟩
theorem tw6438249722124537756 : True := ⟨⟩
theorem tw12135530041057910748 : True := ⟨⟩
theorem tw12287783194623802364 : True := ⟨⟩
theorem tw5908314851275630653 : True := ⟨⟩
theorem tw16489465781680454813 : True := ⟨⟩
theorem tw10848243249845732509 : True := ⟨⟩
theorem tw3866566474931667133 : True := ⟨⟩
theorem tw11804898569432553661 : True := ⟨⟩
theorem tw3755474929326830813 : True := ⟨⟩
theorem tw3100409044325007613 : True := ⟨⟩
theorem tw10047959644951218429 : True := ⟨⟩
theorem tw18433804066911376637 : True := ⟨⟩
theorem tw6492861882594246973 : True := ⟨⟩
theorem tw3923039955215140189 : True := ⟨⟩
theorem tw3520806391606503805 : True := ⟨⟩
theorem tw876889353626719645 : True := ⟨⟩
theorem tw12936176409008814557 : True := ⟨⟩
theorem tw13591535493829312029 : True := ⟨⟩
theorem tw256422597359583869 : True := ⟨⟩
theorem tw6348544692228194013 : True := ⟨⟩
theorem tw7963337781268503293 : True := ⟨⟩
theorem tw10586086778894085917 : True := ⟨⟩
theorem tw10683311137295793949 : True := ⟨⟩
theorem tw13342528653270383453 : True := ⟨⟩
theorem tw16839161781057580925 : True := ⟨⟩
theorem tw10318069026801301534 : True := ⟨⟩
theorem tw11672922670259786782 : True := ⟨⟩
theorem tw7399469235780843550 : True := ⟨⟩
theorem tw13017802227729046590 : True := ⟨⟩
theorem tw12798783598966641854 : True := ⟨⟩
theorem tw3505539387365798206 : True := ⟨⟩
theorem tw9277865693426707838 : True := ⟨⟩
theorem tw12654168930331213246 : True := ⟨⟩
theorem tw17272601691316840926 : True := ⟨⟩
theorem tw10961452978897289726 : True := ⟨⟩
theorem tw3187487556011864574 : True := ⟨⟩
theorem tw14007955818669776414 : True := ⟨⟩
theorem tw7043566999245142590 : True := ⟨⟩
theorem tw2375048364794268286 : True := ⟨⟩
theorem tw17136489112879718046 : True := ⟨⟩
theorem tw12133036001629881022 : True := ⟨⟩
theorem tw6627282566401522366 : True := ⟨⟩
theorem tw7898523998277321438 : True := ⟨⟩
theorem tw3036067315274751742 : True := ⟨⟩
theorem tw1651428122158411582 : True := ⟨⟩
theorem tw16444175030471680830 : True := ⟨⟩
theorem tw12870103579044054878 : True := ⟨⟩
theorem tw8777319135959957374 : True := ⟨⟩
theorem tw17691865189477841886 : True := ⟨⟩
theorem tw14777994443692754942 : True := ⟨⟩
theorem tw18096885535865592830 : True := ⟨⟩
theorem tw13329069371264240671 : True := ⟨⟩
theorem tw18188767323220745279 : True := ⟨⟩
theorem tw11814522141836914783 : True := ⟨⟩
theorem tw9097653143232026783 : True := ⟨⟩
theorem tw17691763859665312927 : True := ⟨⟩
theorem tw6051119933282224351 : True := ⟨⟩
theorem tw13729391384900956383 : True := ⟨⟩
theorem tw16909652859882065151 : True := ⟨⟩
theorem tw6733048072476583199 : True := ⟨⟩
theorem tw16075040083530345855 : True := ⟨⟩
theorem tw10645618078508631487 : True := ⟨⟩
theorem tw4492859935187885503 : True := ⟨⟩
theorem tw6694776509902767583 : True := ⟨⟩
theorem tw13074395783331302879 : True := ⟨⟩
theorem tw17377487739143645695 : True := ⟨⟩
theorem tw2504769148051827263 : True := ⟨⟩
theorem tw6963885530081020479 : True := ⟨⟩
theorem tw563780543313247903 : True := ⟨⟩
theorem tw17369009310340615871 : True := ⟨⟩
theorem tw4643921430353282783 : True := ⟨⟩
theorem tw285623387107253983 : True := ⟨⟩
theorem tw3011081966889643775 : True := ⟨⟩
theorem tw14682910320562194207 : True := ⟨⟩
theorem tw11171611850342278975 : True := ⟨⟩
theorem tw15276231614548720479 : True := ⟨⟩
theorem tw3029295830348027743 : True := ⟨⟩
theorem tw7836723943676193759 : True := ⟨⟩
theorem tw7638791689118535647 : True := ⟨⟩
end PySem.W.Fast
set_option maxRecDepth 100000 in
set_option maxHeartbeats 0 in
theorem PySem.Challenge.cw_meterhouse_k32_jumps_holds : PySem.Challenge.rw_meterhouse_k32_jumps.Holds := by
  w_on; o_law; z_head; (case hw => w_witness2)
  k_fill
  refine L2.walkX_of (fun _ => by kernel_rfl) ?_
  refine L2.walk_ofK (l := PySem.Challenge.rw_meterhouse_k32_jumps) (n := 63) (k := 10) (x := "_law_script") (CX := L2.CX0) (sp := My.spLaw) rfl (by decide) rfl ⟨rfl, by decide, by decide⟩ (fun w h Y => Y) ?F ?S ?C
  case F =>
    intro w mg fa h KX G hmg
    have D_added : L2.DefAt (L2.KOf KX) mg "added" My.s_added := by
      dsimp only [L2.KOf]
      refine' L2.defAt_mk KX G ?a ?l ?c ?k
      (case a => k_is); (case l => k_is); (case c => k_is); (case k => k_is)
    have D_lessened : L2.DefAt (L2.KOf KX) mg "lessened" My.s_lessened := by
      dsimp only [L2.KOf]
      refine' L2.defAt_mk KX G ?a ?l ?c ?k
      (case a => k_is); (case l => k_is); (case c => k_is); (case k => k_is)
    have D_multiplied : L2.DefAt (L2.KOf KX) mg "multiplied" My.s_multiplied := by
      dsimp only [L2.KOf]
      refine' L2.defAt_mk KX G ?a ?l ?c ?k
      (case a => k_is); (case l => k_is); (case c => k_is); (case k => k_is)
    have D_contained : L2.DefAt (L2.KOf KX) mg "contained" My.s_contained := by
      dsimp only [L2.KOf]
      refine' L2.defAt_mk KX G ?a ?l ?c ?k
      (case a => k_is); (case l => k_is); (case c => k_is); (case k => k_is)
    have D_left_over : L2.DefAt (L2.KOf KX) mg "left_over" My.s_left_over := by
      dsimp only [L2.KOf]
      refine' L2.defAt_mk KX G ?a ?l ?c ?k
      (case a => k_is); (case l => k_is); (case c => k_is); (case k => k_is)
    have D_is_below : L2.DefAt (L2.KOf KX) mg "is_below" My.s_is_below := by
      dsimp only [L2.KOf]
      refine' L2.defAt_mk KX G ?a ?l ?c ?k
      (case a => k_is); (case l => k_is); (case c => k_is); (case k => k_is)
    have D_is_same : L2.DefAt (L2.KOf KX) mg "is_same" My.s_is_same := by
      dsimp only [L2.KOf]
      refine' L2.defAt_mk KX G ?a ?l ?c ?k
      (case a => k_is); (case l => k_is); (case c => k_is); (case k => k_is)
    have D_in_both : L2.DefAt (L2.KOf KX) mg "in_both" My.s_in_both := by
      dsimp only [L2.KOf]
      refine' L2.defAt_mk KX G ?a ?l ?c ?k
      (case a => k_is); (case l => k_is); (case c => k_is); (case k => k_is)
    have D_in_either : L2.DefAt (L2.KOf KX) mg "in_either" My.s_in_either := by
      dsimp only [L2.KOf]
      refine' L2.defAt_mk KX G ?a ?l ?c ?k
      (case a => k_is); (case l => k_is); (case c => k_is); (case k => k_is)
    have D_in_just_one : L2.DefAt (L2.KOf KX) mg "in_just_one" My.s_in_just_one := by
      dsimp only [L2.KOf]
      refine' L2.defAt_mk KX G ?a ?l ?c ?k
      (case a => k_is); (case l => k_is); (case c => k_is); (case k => k_is)
    have D_doubled : L2.DefAt (L2.KOf KX) mg "doubled" My.s_doubled := by
      dsimp only [L2.KOf]
      refine' L2.defAt_mk KX G ?a ?l ?c ?k
      (case a => k_is); (case l => k_is); (case c => k_is); (case k => k_is)
    have D_halved : L2.DefAt (L2.KOf KX) mg "halved" My.s_halved := by
      dsimp only [L2.KOf]
      refine' L2.defAt_mk KX G ?a ?l ?c ?k
      (case a => k_is); (case l => k_is); (case c => k_is); (case k => k_is)
    have D_reckon : L2.DefAt (L2.KOf KX) mg "reckon" My.s_reckon := by
      dsimp only [L2.KOf]
      refine' L2.defAt_mk KX G ?a ?l ?c ?k
      (case a => k_is); (case l => k_is); (case c => k_is); (case k => k_is)
    have D_reach : L2.DefAt (L2.KOf KX) mg "reach" My.s_reach := by
      dsimp only [L2.KOf]
      refine' L2.defAt_mk KX G ?a ?l ?c ?k
      (case a => k_is); (case l => k_is); (case c => k_is); (case k => k_is)
    have D_takes : L2.DefAt (L2.KOf KX) mg "takes" My.s_takes := by
      dsimp only [L2.KOf]
      refine' L2.defAt_mk KX G ?a ?l ?c ?k
      (case a => k_is); (case l => k_is); (case c => k_is); (case k => k_is)
    have D_leaves : L2.DefAt (L2.KOf KX) mg "leaves" My.s_leaves := by
      dsimp only [L2.KOf]
      refine' L2.defAt_mk KX G ?a ?l ?c ?k
      (case a => k_is); (case l => k_is); (case c => k_is); (case k => k_is)
    have D_shift_coin : L2.DefAt (L2.KOf KX) mg "shift_coin" My.s_shift_coin := by
      dsimp only [L2.KOf]
      refine' L2.defAt_mk KX G ?a ?l ?c ?k
      (case a => k_is); (case l => k_is); (case c => k_is); (case k => k_is)
    have D_push_row : L2.DefAt (L2.KOf KX) mg "push_row" My.s_push_row := by
      dsimp only [L2.KOf]
      refine' L2.defAt_mk KX G ?a ?l ?c ?k
      (case a => k_is); (case l => k_is); (case c => k_is); (case k => k_is)
    have D_drop_row : L2.DefAt (L2.KOf KX) mg "drop_row" My.s_drop_row := by
      dsimp only [L2.KOf]
      refine' L2.defAt_mk KX G ?a ?l ?c ?k
      (case a => k_is); (case l => k_is); (case c => k_is); (case k => k_is)
    have D_copy_row : L2.DefAt (L2.KOf KX) mg "copy_row" My.s_copy_row := by
      dsimp only [L2.KOf]
      refine' L2.defAt_mk KX G ?a ?l ?c ?k
      (case a => k_is); (case l => k_is); (case c => k_is); (case k => k_is)
    have D_swap_row : L2.DefAt (L2.KOf KX) mg "swap_row" My.s_swap_row := by
      dsimp only [L2.KOf]
      refine' L2.defAt_mk KX G ?a ?l ?c ?k
      (case a => k_is); (case l => k_is); (case c => k_is); (case k => k_is)
    have D_reckon_row : L2.DefAt (L2.KOf KX) mg "reckon_row" My.s_reckon_row := by
      dsimp only [L2.KOf]
      refine' L2.defAt_mk KX G ?a ?l ?c ?k
      (case a => k_is); (case l => k_is); (case c => k_is); (case k => k_is)
    have D_jump_row : L2.DefAt (L2.KOf KX) mg "jump_row" My.s_jump_row := by
      dsimp only [L2.KOf]
      refine' L2.defAt_mk KX G ?a ?l ?c ?k
      (case a => k_is); (case l => k_is); (case c => k_is); (case k => k_is)
    have D_jumpif_row : L2.DefAt (L2.KOf KX) mg "jumpif_row" My.s_jumpif_row := by
      dsimp only [L2.KOf]
      refine' L2.defAt_mk KX G ?a ?l ?c ?k
      (case a => k_is); (case l => k_is); (case c => k_is); (case k => k_is)
    have D_me_row : L2.DefAt (L2.KOf KX) mg "me_row" My.s_me_row := by
      dsimp only [L2.KOf]
      refine' L2.defAt_mk KX G ?a ?l ?c ?k
      (case a => k_is); (case l => k_is); (case c => k_is); (case k => k_is)
    have D_from_row : L2.DefAt (L2.KOf KX) mg "from_row" My.s_from_row := by
      dsimp only [L2.KOf]
      refine' L2.defAt_mk KX G ?a ?l ?c ?k
      (case a => k_is); (case l => k_is); (case c => k_is); (case k => k_is)
    have D_sent_row : L2.DefAt (L2.KOf KX) mg "sent_row" My.s_sent_row := by
      dsimp only [L2.KOf]
      refine' L2.defAt_mk KX G ?a ?l ?c ?k
      (case a => k_is); (case l => k_is); (case c => k_is); (case k => k_is)
    have D_word_row : L2.DefAt (L2.KOf KX) mg "word_row" My.s_word_row := by
      dsimp only [L2.KOf]
      refine' L2.defAt_mk KX G ?a ?l ?c ?k
      (case a => k_is); (case l => k_is); (case c => k_is); (case k => k_is)
    have D_give_row : L2.DefAt (L2.KOf KX) mg "give_row" My.s_give_row := by
      dsimp only [L2.KOf]
      refine' L2.defAt_mk KX G ?a ?l ?c ?k
      (case a => k_is); (case l => k_is); (case c => k_is); (case k => k_is)
    have D_fail_row : L2.DefAt (L2.KOf KX) mg "fail_row" My.s_fail_row := by
      dsimp only [L2.KOf]
      refine' L2.defAt_mk KX G ?a ?l ?c ?k
      (case a => k_is); (case l => k_is); (case c => k_is); (case k => k_is)
    have D_do_row : L2.DefAt (L2.KOf KX) mg "do_row" My.s_do_row := by
      dsimp only [L2.KOf]
      refine' L2.defAt_mk KX G ?a ?l ?c ?k
      (case a => k_is); (case l => k_is); (case c => k_is); (case k => k_is)
    have D_brings_coin : L2.DefAt (L2.KOf KX) mg "brings_coin" My.s_brings_coin := by
      dsimp only [L2.KOf]
      refine' L2.defAt_mk KX G ?a ?l ?c ?k
      (case a => k_is); (case l => k_is); (case c => k_is); (case k => k_is)
    have D_fills_place : L2.DefAt (L2.KOf KX) mg "fills_place" My.s_fills_place := by
      dsimp only [L2.KOf]
      refine' L2.defAt_mk KX G ?a ?l ?c ?k
      (case a => k_is); (case l => k_is); (case c => k_is); (case k => k_is)
    have D_row_price : L2.DefAt (L2.KOf KX) mg "row_price" My.s_row_price := by
      dsimp only [L2.KOf]
      refine' L2.defAt_mk KX G ?a ?l ?c ?k
      (case a => k_is); (case l => k_is); (case c => k_is); (case k => k_is)
    have D_is_barred : L2.DefAt (L2.KOf KX) mg "is_barred" My.s_is_barred := by
      dsimp only [L2.KOf]
      refine' L2.defAt_mk KX G ?a ?l ?c ?k
      (case a => k_is); (case l => k_is); (case c => k_is); (case k => k_is)
    have D_end_ahead_of : L2.DefAt (L2.KOf KX) mg "end_ahead_of" My.s_end_ahead_of := by
      dsimp only [L2.KOf]
      refine' L2.defAt_mk KX G ?a ?l ?c ?k
      (case a => k_is); (case l => k_is); (case c => k_is); (case k => k_is)
    have D_call_row : L2.DefAt (L2.KOf KX) mg "call_row" My.s_call_row := by
      dsimp only [L2.KOf]
      refine' L2.defAt_mk KX G ?a ?l ?c ?k
      (case a => k_is); (case l => k_is); (case c => k_is); (case k => k_is)
    have D_go_row : L2.DefAt (L2.KOf KX) mg "go_row" My.s_go_row := by
      dsimp only [L2.KOf]
      refine' L2.defAt_mk KX G ?a ?l ?c ?k
      (case a => k_is); (case l => k_is); (case c => k_is); (case k => k_is)
    have D_go_on : L2.DefAt (L2.KOf KX) mg "go_on" My.s_go_on := by
      dsimp only [L2.KOf]
      refine' L2.defAt_mk KX G ?a ?l ?c ?k
      (case a => k_is); (case l => k_is); (case c => k_is); (case k => k_is)
    have D_write_step : L2.DefAt (L2.KOf KX) mg "write_step" My.s_write_step := by
      dsimp only [L2.KOf]
      refine' L2.defAt_mk KX G ?a ?l ?c ?k
      (case a => k_is); (case l => k_is); (case c => k_is); (case k => k_is)
    have D_go : L2.DefAt (L2.KOf KX) mg "go" My.s_go := by
      dsimp only [L2.KOf]
      refine' L2.defAt_mk KX G ?a ?l ?c ?k
      (case a => k_is); (case l => k_is); (case c => k_is); (case k => k_is)
    have D_enter : L2.DefAt (L2.KOf KX) mg "enter" My.s_enter := by
      dsimp only [L2.KOf]
      refine' L2.defAt_mk KX G ?a ?l ?c ?k
      (case a => k_is); (case l => k_is); (case c => k_is); (case k => k_is)
    have D_Lalike : L2.DefAt (L2.KOf KX) mg "_law_alike" My.s_Lalike := by
      dsimp only [L2.KOf]
      refine' L2.defAt_mk KX G ?a ?l ?c ?k
      (case a => k_is); (case l => k_is); (case c => k_is); (case k => k_is)
    have D_Lcell_at : L2.DefAt (L2.KOf KX) mg "_law_cell_at" My.s_Lcell_at := by
      dsimp only [L2.KOf]
      refine' L2.defAt_mk KX G ?a ?l ?c ?k
      (case a => k_is); (case l => k_is); (case c => k_is); (case k => k_is)
    have D_Lgone : L2.DefAt (L2.KOf KX) mg "_law_gone" My.s_Lgone := by
      dsimp only [L2.KOf]
      refine' L2.defAt_mk KX G ?a ?l ?c ?k
      (case a => k_is); (case l => k_is); (case c => k_is); (case k => k_is)
    have D_Lprogram : L2.DefAt (L2.KOf KX) mg "_law_program" My.s_Lprogram := by
      dsimp only [L2.KOf]
      refine' L2.defAt_mk KX G ?a ?l ?c ?k
      (case a => k_is); (case l => k_is); (case c => k_is); (case k => k_is)
    have D_law : L2.DefAt (L2.KOf KX) mg "law" My.s_law := by
      dsimp only [L2.KOf]
      refine' L2.defAt_mk KX G ?a ?l ?c ?k
      (case a => k_is); (case l => k_is); (case c => k_is); (case k => k_is)
    have x_Account : ∃ C, My.T_Account (L2.KOf KX) mg C ∧ L2.MethAt (L2.KOf KX) C "__init__" "Account.__init__" My.s_Account___init__ ∧ L2.MethAt (L2.KOf KX) C "loaded" "Account.loaded" My.s_Account_loaded ∧ L2.MethAt (L2.KOf KX) C "keep" "Account.keep" My.s_Account_keep := by
      dsimp only [L2.KOf]
      refine' My.mk_Account KX G ?aC ?pg ?hd ?po ?sa ?mk ?kc ?ncoin ?npurse ?ncount ?nprogram ?nstore ?a__init__ ?i__init__ ?l__init__ ?c__init__ ?k__init__ ?aloaded ?iloaded ?lloaded ?cloaded ?kloaded ?akeep ?ikeep ?lkeep ?ckeep ?kkeep
      (case aC => k_is); (case pg => k_is); (case hd => k_is); (case po => k_is); (case sa => k_is); (case mk => k_is); (case kc => k_is); (case ncoin => k_is); (case npurse => k_is); (case ncount => k_is); (case nprogram => k_is); (case nstore => k_is); (case a__init__ => k_is); (case i__init__ => k_is); (case l__init__ => k_is); (case c__init__ => k_is); (case k__init__ => k_is); (case aloaded => k_is); (case iloaded => k_is); (case lloaded => k_is); (case cloaded => k_is); (case kloaded => k_is); (case akeep => k_is); (case ikeep => k_is); (case lkeep => k_is); (case ckeep => k_is); (case kkeep => k_is)
    obtain ⟨cAccount, tAccount, D_Account___init__, D_Account_loaded, D_Account_keep⟩ := x_Account
    have x_Save : ∃ C, My.T_Save (L2.KOf KX) mg C ∧ L2.MethAt (L2.KOf KX) C "__init__" "Save.__init__" My.s_Save___init__ ∧ L2.MethAt (L2.KOf KX) C "do" "Save.do" My.s_Save_do ∧ L2.MethAt (L2.KOf KX) C "undo" "Save.undo" My.s_Save_undo ∧ L2.MethAt (L2.KOf KX) C "told" "Save.told" My.s_Save_told := by
      dsimp only [L2.KOf]
      refine' My.mk_Save KX G ?aC ?pg ?hd ?po ?sa ?mk ?kc ?nslot ?nplace ?nold ?nnew ?a__init__ ?i__init__ ?l__init__ ?c__init__ ?k__init__ ?ado ?ido ?ldo ?cdo ?kdo ?aundo ?iundo ?lundo ?cundo ?kundo ?atold ?itold ?ltold ?ctold ?ktold
      (case aC => k_is); (case pg => k_is); (case hd => k_is); (case po => k_is); (case sa => k_is); (case mk => k_is); (case kc => k_is); (case nslot => k_is); (case nplace => k_is); (case nold => k_is); (case nnew => k_is); (case a__init__ => k_is); (case i__init__ => k_is); (case l__init__ => k_is); (case c__init__ => k_is); (case k__init__ => k_is); (case ado => k_is); (case ido => k_is); (case ldo => k_is); (case cdo => k_is); (case kdo => k_is); (case aundo => k_is); (case iundo => k_is); (case lundo => k_is); (case cundo => k_is); (case kundo => k_is); (case atold => k_is); (case itold => k_is); (case ltold => k_is); (case ctold => k_is); (case ktold => k_is)
    obtain ⟨cSave, tSave, D_Save___init__, D_Save_do, D_Save_undo, D_Save_told⟩ := x_Save
    have x_Move : ∃ C, My.T_Move (L2.KOf KX) mg C ∧ L2.MethAt (L2.KOf KX) C "__init__" "Move.__init__" My.s_Move___init__ ∧ L2.MethAt (L2.KOf KX) C "do" "Move.do" My.s_Move_do ∧ L2.MethAt (L2.KOf KX) C "undo" "Move.undo" My.s_Move_undo ∧ L2.MethAt (L2.KOf KX) C "told" "Move.told" My.s_Move_told := by
      dsimp only [L2.KOf]
      refine' My.mk_Move KX G ?aC ?pg ?hd ?po ?sa ?mk ?kc ?nslot ?ntaker ?nmany ?a__init__ ?i__init__ ?l__init__ ?c__init__ ?k__init__ ?ado ?ido ?ldo ?cdo ?kdo ?aundo ?iundo ?lundo ?cundo ?kundo ?atold ?itold ?ltold ?ctold ?ktold
      (case aC => k_is); (case pg => k_is); (case hd => k_is); (case po => k_is); (case sa => k_is); (case mk => k_is); (case kc => k_is); (case nslot => k_is); (case ntaker => k_is); (case nmany => k_is); (case a__init__ => k_is); (case i__init__ => k_is); (case l__init__ => k_is); (case c__init__ => k_is); (case k__init__ => k_is); (case ado => k_is); (case ido => k_is); (case ldo => k_is); (case cdo => k_is); (case kdo => k_is); (case aundo => k_is); (case iundo => k_is); (case lundo => k_is); (case cundo => k_is); (case kundo => k_is); (case atold => k_is); (case itold => k_is); (case ltold => k_is); (case ctold => k_is); (case ktold => k_is)
    obtain ⟨cMove, tMove, D_Move___init__, D_Move_do, D_Move_undo, D_Move_told⟩ := x_Move
    have x_Note : ∃ C, My.T_Note (L2.KOf KX) mg C ∧ L2.MethAt (L2.KOf KX) C "__init__" "Note.__init__" My.s_Note___init__ ∧ L2.MethAt (L2.KOf KX) C "told" "Note.told" My.s_Note_told ∧ L2.MethAt (L2.KOf KX) C "do" "Deed.do" My.s_Note_do ∧ L2.MethAt (L2.KOf KX) C "undo" "Deed.undo" My.s_Note_undo := by
      dsimp only [L2.KOf]
      refine' My.mk_Note KX G ?aC ?pg ?hd ?po ?sa ?mk ?kc ?nslot ?nnumber ?a__init__ ?i__init__ ?l__init__ ?c__init__ ?k__init__ ?atold ?itold ?ltold ?ctold ?ktold ?ado ?ido ?ldo ?cdo ?kdo ?aundo ?iundo ?lundo ?cundo ?kundo
      (case aC => k_is); (case pg => k_is); (case hd => k_is); (case po => k_is); (case sa => k_is); (case mk => k_is); (case kc => k_is); (case nslot => k_is); (case nnumber => k_is); (case a__init__ => k_is); (case i__init__ => k_is); (case l__init__ => k_is); (case c__init__ => k_is); (case k__init__ => k_is); (case atold => k_is); (case itold => k_is); (case ltold => k_is); (case ctold => k_is); (case ktold => k_is); (case ado => k_is); (case ido => k_is); (case ldo => k_is); (case cdo => k_is); (case kdo => k_is); (case aundo => k_is); (case iundo => k_is); (case lundo => k_is); (case cundo => k_is); (case kundo => k_is)
    obtain ⟨cNote, tNote, D_Note___init__, D_Note_told, D_Note_do, D_Note_undo⟩ := x_Note
    have x_Journal : ∃ C, My.T_Journal (L2.KOf KX) mg C ∧ L2.MethAt (L2.KOf KX) C "__init__" "Journal.__init__" My.s_Journal___init__ ∧ L2.MethAt (L2.KOf KX) C "write" "Journal.write" My.s_Journal_write ∧ L2.MethAt (L2.KOf KX) C "mark" "Journal.mark" My.s_Journal_mark ∧ L2.MethAt (L2.KOf KX) C "back" "Journal.back" My.s_Journal_back ∧ L2.MethAt (L2.KOf KX) C "told" "Journal.told" My.s_Journal_told := by
      dsimp only [L2.KOf]
      refine' My.mk_Journal KX G ?aC ?pg ?hd ?po ?sa ?mk ?kc ?nrooms ?ndeeds ?a__init__ ?i__init__ ?l__init__ ?c__init__ ?k__init__ ?awrite ?iwrite ?lwrite ?cwrite ?kwrite ?amark ?imark ?lmark ?cmark ?kmark ?aback ?iback ?lback ?cback ?kback ?atold ?itold ?ltold ?ctold ?ktold
      (case aC => k_is); (case pg => k_is); (case hd => k_is); (case po => k_is); (case sa => k_is); (case mk => k_is); (case kc => k_is); (case nrooms => k_is); (case ndeeds => k_is); (case a__init__ => k_is); (case i__init__ => k_is); (case l__init__ => k_is); (case c__init__ => k_is); (case k__init__ => k_is); (case awrite => k_is); (case iwrite => k_is); (case lwrite => k_is); (case cwrite => k_is); (case kwrite => k_is); (case amark => k_is); (case imark => k_is); (case lmark => k_is); (case cmark => k_is); (case kmark => k_is); (case aback => k_is); (case iback => k_is); (case lback => k_is); (case cback => k_is); (case kback => k_is); (case atold => k_is); (case itold => k_is); (case ltold => k_is); (case ctold => k_is); (case ktold => k_is)
    obtain ⟨cJournal, tJournal, D_Journal___init__, D_Journal_write, D_Journal_mark, D_Journal_back, D_Journal_told⟩ := x_Journal
    have x_Frame : ∃ C, My.T_Frame (L2.KOf KX) mg C ∧ L2.MethAt (L2.KOf KX) C "left" "Frame.left" My.s_Frame_left ∧ L2.MethAt (L2.KOf KX) C "short_for" "Frame.short_for" My.s_Frame_short_for ∧ L2.MethAt (L2.KOf KX) C "full_behind" "Frame.full_behind" My.s_Frame_full_behind ∧ L2.MethAt (L2.KOf KX) C "taken" "Frame.taken" My.s_Frame_taken ∧ L2.MethAt (L2.KOf KX) C "lay" "Frame.lay" My.s_Frame_lay ∧ L2.MethAt (L2.KOf KX) C "finish" "Frame.finish" My.s_Frame_finish ∧ L2.MethAt (L2.KOf KX) C "tree" "Frame.tree" My.s_Frame_tree := by
      dsimp only [L2.KOf]
      refine' My.mk_Frame KX G ?aC ?pg ?hd ?po ?sa ?mk ?kc ?nkind ?nwho ?nwhose ?ncaller ?ncoin ?nword ?ngiven ?ndepth ?nlooking ?nused ?nstack ?nrow ?nsteps ?nend ?nanswer ?aleft ?ileft ?lleft ?cleft ?kleft ?ashort_for ?ishort_for ?lshort_for ?cshort_for ?kshort_for ?afull_behind ?ifull_behind ?lfull_behind ?cfull_behind ?kfull_behind ?ataken ?itaken ?ltaken ?ctaken ?ktaken ?alay ?ilay ?llay ?clay ?klay ?afinish ?ifinish ?lfinish ?cfinish ?kfinish ?atree ?itree ?ltree ?ctree ?ktree
      (case aC => k_is); (case pg => k_is); (case hd => k_is); (case po => k_is); (case sa => k_is); (case mk => k_is); (case kc => k_is); (case nkind => k_is); (case nwho => k_is); (case nwhose => k_is); (case ncaller => k_is); (case ncoin => k_is); (case nword => k_is); (case ngiven => k_is); (case ndepth => k_is); (case nlooking => k_is); (case nused => k_is); (case nstack => k_is); (case nrow => k_is); (case nsteps => k_is); (case nend => k_is); (case nanswer => k_is); (case aleft => k_is); (case ileft => k_is); (case lleft => k_is); (case cleft => k_is); (case kleft => k_is); (case ashort_for => k_is); (case ishort_for => k_is); (case lshort_for => k_is); (case cshort_for => k_is); (case kshort_for => k_is); (case afull_behind => k_is); (case ifull_behind => k_is); (case lfull_behind => k_is); (case cfull_behind => k_is); (case kfull_behind => k_is); (case ataken => k_is); (case itaken => k_is); (case ltaken => k_is); (case ctaken => k_is); (case ktaken => k_is); (case alay => k_is); (case ilay => k_is); (case llay => k_is); (case clay => k_is); (case klay => k_is); (case afinish => k_is); (case ifinish => k_is); (case lfinish => k_is); (case cfinish => k_is); (case kfinish => k_is); (case atree => k_is); (case itree => k_is); (case ltree => k_is); (case ctree => k_is); (case ktree => k_is)
    obtain ⟨cFrame, tFrame, D_Frame_left, D_Frame_short_for, D_Frame_full_behind, D_Frame_taken, D_Frame_lay, D_Frame_finish, D_Frame_tree⟩ := x_Frame
    have n_max : mg "max" = none := by
      refine' PySem.W.mg_none_of KX G ?a
      (case a => k_is)
    have n_list : mg "list" = none := by
      refine' PySem.W.mg_none_of KX G ?a
      (case a => k_is)
    have n_len : mg "len" = none := by
      refine' PySem.W.mg_none_of KX G ?a
      (case a => k_is)
    have n_range : mg "range" = none := by
      refine' PySem.W.mg_none_of KX G ?a
      (case a => k_is)
    have n_reversed : mg "reversed" = none := by
      refine' PySem.W.mg_none_of KX G ?a
      (case a => k_is)
    have n_isinstance : mg "isinstance" = none := by
      refine' PySem.W.mg_none_of KX G ?a
      (case a => k_is)
    have n_int : mg "int" = none := by
      refine' PySem.W.mg_none_of KX G ?a
      (case a => k_is)
    have n_str : mg "str" = none := by
      refine' PySem.W.mg_none_of KX G ?a
      (case a => k_is)
    have n_tuple : mg "tuple" = none := by
      refine' PySem.W.mg_none_of KX G ?a
      (case a => k_is)
    have n_bool : mg "bool" = none := by
      refine' PySem.W.mg_none_of KX G ?a
      (case a => k_is)
    have g_WIDE : L2.GlobAt mg "WIDE" (.int 18446744073709551616) := by
      refine' L2.globAt_int KX G ?a
      (case a => k_is)
    have g_FIGURES : L2.GlobAt mg "FIGURES" (.int 64) := by
      refine' L2.globAt_int KX G ?a
      (case a => k_is)
    have g_MOST_ON_STACK : L2.GlobAt mg "MOST_ON_STACK" (.int 24) := by
      refine' L2.globAt_int KX G ?a
      (case a => k_is)
    have D_price : L2.DefAtD (L2.KOf KX) mg "price" My.s_price #[.bool false] := by
      dsimp only [L2.KOf]
      refine' L2.defAtD_mk KX G ?a ?l ?c ?k ?d
      (case a => k_is); (case l => k_is); (case c => k_is); (case k => k_is); (case d => k_is)
    have RR : ∃ aT : Addr, L2.GlobAt mg "ROWS" (.ref aT) ∧ My.RowsOk PySem.Challenge.rw_meterhouse_k32_jumps.prog w (L2.KOf KX) aT := by
      dsimp only [L2.KOf]
      refine' My.rows_at KX G ?a ?l ?e1 ?e2 ?e3 ?t1 ?t2 ?t3 ?t4 ?t5 ?t6 ?t7 ?t8 ?t9 ?t10 ?t11 ?t12 ?t13 ?t14 ?t15 ?t16 ?t17 ?t18 ?t19 ?t20 ?t21 ?t22 ?t23 ?t24 ?t25 ?t26 ?t27 ?t28 ?t29 ?t30 ?t31
      (case a => k_is); (case l => k_is); (case e1 => rfl); (case e2 => rfl); (case e3 => rfl)
      case t1 =>
        refine' L2.tupK_mk ?l ?v ?z
        (case l => k_is); (case v => walk_at "vals"); (case z => decide)
      case t2 =>
        refine' L2.tupK_mk ?l ?v ?z
        (case l => k_is); (case v => walk_at "vals"); (case z => decide)
      case t3 =>
        refine' L2.tupK_mk ?l ?v ?z
        (case l => k_is); (case v => walk_at "vals"); (case z => decide)
      case t4 =>
        refine' L2.tupK_mk ?l ?v ?z
        (case l => k_is); (case v => walk_at "vals"); (case z => decide)
      case t5 =>
        refine' L2.tupK_mk ?l ?v ?z
        (case l => k_is); (case v => walk_at "vals"); (case z => decide)
      case t6 =>
        refine' L2.tupK_mk ?l ?v ?z
        (case l => k_is); (case v => walk_at "vals"); (case z => decide)
      case t7 =>
        refine' L2.tupK_mk ?l ?v ?z
        (case l => k_is); (case v => walk_at "vals"); (case z => decide)
      case t8 =>
        refine' L2.tupK_mk ?l ?v ?z
        (case l => k_is); (case v => walk_at "vals"); (case z => decide)
      case t9 =>
        refine' L2.tupK_mk ?l ?v ?z
        (case l => k_is); (case v => walk_at "vals"); (case z => decide)
      case t10 =>
        refine' L2.tupK_mk ?l ?v ?z
        (case l => k_is); (case v => walk_at "vals"); (case z => decide)
      case t11 =>
        refine' L2.tupK_mk ?l ?v ?z
        (case l => k_is); (case v => walk_at "vals"); (case z => decide)
      case t12 =>
        refine' L2.tupK_mk ?l ?v ?z
        (case l => k_is); (case v => walk_at "vals"); (case z => decide)
      case t13 =>
        refine' L2.tupK_mk ?l ?v ?z
        (case l => k_is); (case v => walk_at "vals"); (case z => decide)
      case t14 =>
        refine' L2.tupK_mk ?l ?v ?z
        (case l => k_is); (case v => walk_at "vals"); (case z => decide)
      case t15 =>
        refine' L2.tupK_mk ?l ?v ?z
        (case l => k_is); (case v => walk_at "vals"); (case z => decide)
      case t16 =>
        refine' L2.tupK_mk ?l ?v ?z
        (case l => k_is); (case v => walk_at "vals"); (case z => decide)
      case t17 =>
        refine' L2.tupK_mk ?l ?v ?z
        (case l => k_is); (case v => walk_at "vals"); (case z => decide)
      case t18 =>
        refine' L2.tupK_mk ?l ?v ?z
        (case l => k_is); (case v => walk_at "vals"); (case z => decide)
      case t19 =>
        refine' L2.tupK_mk ?l ?v ?z
        (case l => k_is); (case v => walk_at "vals"); (case z => decide)
      case t20 =>
        refine' L2.tupK_mk ?l ?v ?z
        (case l => k_is); (case v => walk_at "vals"); (case z => decide)
      case t21 =>
        refine' L2.tupK_mk ?l ?v ?z
        (case l => k_is); (case v => walk_at "vals"); (case z => decide)
      case t22 =>
        refine' L2.tupK_mk ?l ?v ?z
        (case l => k_is); (case v => walk_at "vals"); (case z => decide)
      case t23 =>
        refine' L2.tupK_mk ?l ?v ?z
        (case l => k_is); (case v => walk_at "vals"); (case z => decide)
      case t24 =>
        refine' L2.tupK_mk ?l ?v ?z
        (case l => k_is); (case v => walk_at "vals"); (case z => decide)
      case t25 =>
        refine' L2.tupK_mk ?l ?v ?z
        (case l => k_is); (case v => walk_at "vals"); (case z => decide)
      case t26 =>
        refine' L2.tupK_mk ?l ?v ?z
        (case l => k_is); (case v => walk_at "vals"); (case z => decide)
      case t27 =>
        refine' L2.tupK_mk ?l ?v ?z
        (case l => k_is); (case v => walk_at "vals"); (case z => decide)
      case t28 =>
        refine' L2.tupK_mk ?l ?v ?z
        (case l => k_is); (case v => walk_at "vals"); (case z => decide)
      case t29 =>
        refine' L2.tupK_mk ?l ?v ?z
        (case l => k_is); (case v => walk_at "vals"); (case z => decide)
      case t30 =>
        refine' L2.tupK_mk ?l ?v ?z
        (case l => k_is); (case v => walk_at "vals"); (case z => decide)
      case t31 =>
        refine' L2.tupK_mk ?l ?v ?z
        (case l => k_is); (case v => walk_at "vals"); (case z => decide)
    obtain ⟨aT, g_ROWS, rok⟩ := RR
    have S1 : ∃ (aS : Addr) (u1 u2 u3 u4 u5 u6 u7 u8 u9 u10 u11 u12 : Value), L2.GlobAt mg "SUMS" (.ref aS) ∧ L2.DictK PySem.Challenge.rw_meterhouse_k32_jumps.prog w (L2.KOf KX) aS [(Sum.inr "add", u1), (Sum.inr "minus", u2), (Sum.inr "times", u3), (Sum.inr "over", u4), (Sum.inr "rest", u5), (Sum.inr "below", u6), (Sum.inr "same", u7), (Sum.inr "both", u8), (Sum.inr "either", u9), (Sum.inr "unlike", u10), (Sum.inr "up", u11), (Sum.inr "down", u12)] ∧ mg "added" = some u1 ∧ mg "lessened" = some u2 ∧ mg "multiplied" = some u3 ∧ mg "contained" = some u4 ∧ mg "left_over" = some u5 ∧ mg "is_below" = some u6 ∧ mg "is_same" = some u7 ∧ mg "in_both" = some u8 ∧ mg "in_either" = some u9 ∧ mg "in_just_one" = some u10 ∧ mg "doubled" = some u11 ∧ mg "halved" = some u12 := by
      dsimp only [L2.KOf]
      refine' My.sums_at KX G ?a ?l ?e1 ?e2 ?e3 ?m1 ?m2 ?m3 ?m4 ?m5 ?m6 ?m7 ?m8 ?m9 ?m10 ?m11 ?m12
      (case a => k_is); (case l => k_is); (case e1 => rfl); (case e2 => rfl); (case e3 => rfl)
      (case m1 => k_is); (case m2 => k_is); (case m3 => k_is); (case m4 => k_is); (case m5 => k_is); (case m6 => k_is); (case m7 => k_is); (case m8 => k_is); (case m9 => k_is); (case m10 => k_is); (case m11 => k_is); (case m12 => k_is)
    obtain ⟨aS, u1, u2, u3, u4, u5, u6, u7, u8, u9, u10, u11, u12, g_SUMS, dk, m1, m2, m3, m4, m5, m6, m7, m8, m9, m10, m11, m12⟩ := S1
    have DO1 : ∃ (aD : Addr) (u1 u2 u3 u4 u5 u6 u7 u8 u9 u10 u11 u12 u13 u14 u15 u16 u17 : Value), L2.GlobAt mg "DOINGS" (.ref aD) ∧ L2.DictK PySem.Challenge.rw_meterhouse_k32_jumps.prog w (L2.KOf KX) aD [(Sum.inr "push", u1), (Sum.inr "drop", u2), (Sum.inr "copy", u3), (Sum.inr "swap", u4), (Sum.inr "add", u5), (Sum.inr "minus", u5), (Sum.inr "times", u5), (Sum.inr "over", u5), (Sum.inr "rest", u5), (Sum.inr "below", u5), (Sum.inr "same", u5), (Sum.inr "both", u5), (Sum.inr "either", u5), (Sum.inr "unlike", u5), (Sum.inr "up", u5), (Sum.inr "down", u5), (Sum.inr "jump", u6), (Sum.inr "jumpif", u7), (Sum.inr "load", u8), (Sum.inr "save", u9), (Sum.inr "me", u10), (Sum.inr "from", u11), (Sum.inr "sent", u12), (Sum.inr "word", u13), (Sum.inr "coin", u14), (Sum.inr "note", u15), (Sum.inr "give", u16), (Sum.inr "fail", u17)] ∧ mg "push_row" = some u1 ∧ mg "drop_row" = some u2 ∧ mg "copy_row" = some u3 ∧ mg "swap_row" = some u4 ∧ mg "reckon_row" = some u5 ∧ mg "jump_row" = some u6 ∧ mg "jumpif_row" = some u7 ∧ mg "me_row" = some u10 ∧ mg "from_row" = some u11 ∧ mg "sent_row" = some u12 ∧ mg "word_row" = some u13 ∧ mg "give_row" = some u16 ∧ mg "fail_row" = some u17 := by
      dsimp only [L2.KOf]
      refine' My.do_at KX G ?a ?l ?e1 ?e2 ?e3 ?m_push_row ?m_drop_row ?m_copy_row ?m_swap_row ?m_reckon_row ?m_jump_row ?m_jumpif_row ?m_me_row ?m_from_row ?m_sent_row ?m_word_row ?m_give_row ?m_fail_row
      (case a => k_is); (case l => k_is); (case e1 => rfl); (case e2 => rfl); (case e3 => rfl)
      (case m_push_row => k_is); (case m_drop_row => k_is); (case m_copy_row => k_is); (case m_swap_row => k_is); (case m_reckon_row => k_is); (case m_jump_row => k_is); (case m_jumpif_row => k_is); (case m_me_row => k_is); (case m_from_row => k_is); (case m_sent_row => k_is); (case m_word_row => k_is); (case m_give_row => k_is); (case m_fail_row => k_is)
    obtain ⟨aD, u1, u2, u3, u4, u5, u6, u7, u8, u9, u10, u11, u12, u13, u14, u15, u16, u17, g_DOINGS, dkD, m_push_row, m_drop_row, m_copy_row, m_swap_row, m_reckon_row, m_jump_row, m_jumpif_row, m_me_row, m_from_row, m_sent_row, m_word_row, m_give_row, m_fail_row⟩ := DO1
    have T_REACHING : ∃ a, L2.GlobAt mg "REACHING" (.ref a) ∧ L2.TupK (L2.KOf KX) a ((["copy", "swap"] : List PySem.Str).map L2.V.str) := by
      dsimp only [L2.KOf]
      refine' L2.globTup KX G ?a ?l ?v ?z
      (case a => k_is); (case l => k_is); (case v => walk_at "vals"); (case z => decide)
    obtain ⟨a_REACHING, g_REACHING, t_REACHING⟩ := T_REACHING
    have T_CALLING : ∃ a, L2.GlobAt mg "CALLING" (.ref a) ∧ L2.TupK (L2.KOf KX) a ((["call", "borrow", "look"] : List PySem.Str).map L2.V.str) := by
      dsimp only [L2.KOf]
      refine' L2.globTup KX G ?a ?l ?v ?z
      (case a => k_is); (case l => k_is); (case v => walk_at "vals"); (case z => decide)
    obtain ⟨a_CALLING, g_CALLING, t_CALLING⟩ := T_CALLING
    have x_FI : ∃ C tok, mg "Frame" = some (.ref C) ∧ L2.MethAtD (L2.KOf KX) C "__init__" "Frame.__init__" My.s_Frame___init__ #[.int 1 tok, .bool false] := by
      dsimp only [L2.KOf]
      refine' My.mkFI KX G ?aC ?a ?i ?l ?c ?k ?d
      (case aC => k_is); (case a => k_is); (case i => k_is); (case l => k_is); (case c => k_is); (case k => k_is); (case d => k_is)
    have y_FI : ∃ tok, L2.MethAtD (L2.KOf KX) cFrame "__init__" "Frame.__init__" My.s_Frame___init__ #[.int 1 tok, .bool false] := by
      obtain ⟨C, tok, e1, q⟩ := x_FI
      have h1 := tFrame.k.mgC
      rw [e1] at h1
      cases h1
      exact ⟨tok, q⟩
    obtain ⟨tokF, D_FI⟩ := y_FI

    obtain ⟨fl, fd, FL, ml⟩ := D_law
    have e0 := hmg.symm.trans ml
    cases e0
    refine ⟨fd, L2.fun_binds1 FL, fun base KB GB => ?_⟩
    have c_added := My.ok_added (P := PySem.Challenge.rw_meterhouse_k32_jumps.prog) (w := w) (base := base)  D_added    g_WIDE
    have c_lessened := My.ok_lessened (P := PySem.Challenge.rw_meterhouse_k32_jumps.prog) (w := w) (base := base)  D_lessened    g_WIDE
    have c_multiplied := My.ok_multiplied (P := PySem.Challenge.rw_meterhouse_k32_jumps.prog) (w := w) (base := base)  D_multiplied    g_WIDE
    have c_contained := My.ok_contained (P := PySem.Challenge.rw_meterhouse_k32_jumps.prog) (w := w) (base := base)  D_contained    
    have c_left_over := My.ok_left_over (P := PySem.Challenge.rw_meterhouse_k32_jumps.prog) (w := w) (base := base)  D_left_over    
    have c_is_below := My.ok_is_below (P := PySem.Challenge.rw_meterhouse_k32_jumps.prog) (w := w) (base := base)  D_is_below    
    have c_is_same := My.ok_is_same (P := PySem.Challenge.rw_meterhouse_k32_jumps.prog) (w := w) (base := base)  D_is_same    
    have c_in_both := My.ok_in_both (P := PySem.Challenge.rw_meterhouse_k32_jumps.prog) (w := w) (base := base)  D_in_both    
    have c_in_either := My.ok_in_either (P := PySem.Challenge.rw_meterhouse_k32_jumps.prog) (w := w) (base := base)  D_in_either    
    have c_in_just_one := My.ok_in_just_one (P := PySem.Challenge.rw_meterhouse_k32_jumps.prog) (w := w) (base := base)  D_in_just_one    
    have c_doubled := My.ok_doubled (P := PySem.Challenge.rw_meterhouse_k32_jumps.prog) (w := w) (base := base)  D_doubled    n_max g_FIGURES g_WIDE
    have c_halved := My.ok_halved (P := PySem.Challenge.rw_meterhouse_k32_jumps.prog) (w := w) (base := base)  D_halved    n_max g_FIGURES
    have sok := My.sums_ok (P := PySem.Challenge.rw_meterhouse_k32_jumps.prog) (w := w) (base := base) dk m1 m2 m3 m4 m5 m6 m7 m8 m9 m10 m11 m12 c_added c_lessened c_multiplied c_contained c_left_over c_is_below c_is_same c_in_both c_in_either c_in_just_one c_doubled c_halved
    have c_reckon := My.ok_reckon (P := PySem.Challenge.rw_meterhouse_k32_jumps.prog) (w := w) (base := base) sok D_reckon    g_SUMS
    have c_reach := My.ok_reach (P := PySem.Challenge.rw_meterhouse_k32_jumps.prog) (w := w) (base := base) t_REACHING D_reach    g_REACHING
    have c_takes := My.ok_takes (P := PySem.Challenge.rw_meterhouse_k32_jumps.prog) (w := w) (base := base) rok D_takes    c_reach g_ROWS
    have c_leaves := My.ok_leaves (P := PySem.Challenge.rw_meterhouse_k32_jumps.prog) (w := w) (base := base) rok D_leaves    c_reach g_ROWS
    have cd2_price := My.ok_price (P := PySem.Challenge.rw_meterhouse_k32_jumps.prog) (w := w) (base := base) rok D_price g_ROWS
    have i_Account := My.ok_Account___init__ (P := PySem.Challenge.rw_meterhouse_k32_jumps.prog) (w := w) (base := base)  D_Account___init__ tAccount   n_list
    have m_Account_loaded := My.ok_Account_loaded (P := PySem.Challenge.rw_meterhouse_k32_jumps.prog) (w := w) (base := base)  D_Account_loaded tAccount   
    have m_Account_keep := My.ok_Account_keep (P := PySem.Challenge.rw_meterhouse_k32_jumps.prog) (w := w) (base := base)  D_Account_keep tAccount   
    have c_shift_coin := My.ok_shift_coin (P := PySem.Challenge.rw_meterhouse_k32_jumps.prog) (w := w) (base := base)  D_shift_coin tAccount   
    have i_Save := My.ok_Save___init__ (P := PySem.Challenge.rw_meterhouse_k32_jumps.prog) (w := w) (base := base)  D_Save___init__ tSave   
    have i_Move := My.ok_Move___init__ (P := PySem.Challenge.rw_meterhouse_k32_jumps.prog) (w := w) (base := base)  D_Move___init__ tMove   
    have i_Note := My.ok_Note___init__ (P := PySem.Challenge.rw_meterhouse_k32_jumps.prog) (w := w) (base := base)  D_Note___init__ tNote   
    have m_Save_do := My.ok_Save_do (P := PySem.Challenge.rw_meterhouse_k32_jumps.prog) (w := w) (base := base)  D_Save_do tSave tAccount m_Account_keep  
    have m_Move_do := My.ok_Move_do (P := PySem.Challenge.rw_meterhouse_k32_jumps.prog) (w := w) (base := base)  D_Move_do tMove   c_shift_coin
    have m_Note_do := My.ok_Note_do (P := PySem.Challenge.rw_meterhouse_k32_jumps.prog) (w := w) (base := base) (cAccount := cAccount) D_Note_do tNote   
    have m_Save_undo := My.ok_Save_undo (P := PySem.Challenge.rw_meterhouse_k32_jumps.prog) (w := w) (base := base)  D_Save_undo tSave tAccount m_Account_keep  
    have m_Move_undo := My.ok_Move_undo (P := PySem.Challenge.rw_meterhouse_k32_jumps.prog) (w := w) (base := base)  D_Move_undo tMove   c_shift_coin
    have m_Note_undo := My.ok_Note_undo (P := PySem.Challenge.rw_meterhouse_k32_jumps.prog) (w := w) (base := base) (cAccount := cAccount) D_Note_undo tNote   
    have i_Journal := My.ok_Journal___init__ (P := PySem.Challenge.rw_meterhouse_k32_jumps.prog) (w := w) (base := base)  D_Journal___init__ tJournal   
    have m_Journal_mark := My.ok_Journal_mark (P := PySem.Challenge.rw_meterhouse_k32_jumps.prog) (w := w) (base := base)  D_Journal_mark tJournal   n_len
    have m_Journal_write := My.ok_Journal_write (P := PySem.Challenge.rw_meterhouse_k32_jumps.prog) (w := w) (base := base)  D_Journal_write tJournal tSave tMove tNote tAccount m_Save_do m_Move_do m_Note_do  
    have m_Journal_back := My.ok_Journal_back (P := PySem.Challenge.rw_meterhouse_k32_jumps.prog) (w := w) (base := base)  D_Journal_back tJournal tSave tMove tNote tAccount m_Save_undo m_Move_undo m_Note_undo  n_len n_max
    have m_Save_told := My.ok_Save_told (P := PySem.Challenge.rw_meterhouse_k32_jumps.prog) (w := w) (base := base)  D_Save_told tSave   
    have m_Move_told := My.ok_Move_told (P := PySem.Challenge.rw_meterhouse_k32_jumps.prog) (w := w) (base := base)  D_Move_told tMove   
    have m_Note_told := My.ok_Note_told (P := PySem.Challenge.rw_meterhouse_k32_jumps.prog) (w := w) (base := base)  D_Note_told tNote   
    have m_Journal_told := My.ok_Journal_told (P := PySem.Challenge.rw_meterhouse_k32_jumps.prog) (w := w) (base := base)  D_Journal_told tJournal tSave tMove tNote m_Save_told m_Move_told m_Note_told  
    have m_Frame_left := My.ok_Frame_left (P := PySem.Challenge.rw_meterhouse_k32_jumps.prog) (w := w) (base := base)  D_Frame_left tFrame   
    have m_Frame_short_for := My.ok_Frame_short_for (P := PySem.Challenge.rw_meterhouse_k32_jumps.prog) (w := w) (base := base)  D_Frame_short_for tFrame   c_takes n_len
    have m_Frame_full_behind := My.ok_Frame_full_behind (P := PySem.Challenge.rw_meterhouse_k32_jumps.prog) (w := w) (base := base)  D_Frame_full_behind tFrame   c_leaves c_takes n_len g_MOST_ON_STACK
    have m_Frame_taken := My.ok_Frame_taken (P := PySem.Challenge.rw_meterhouse_k32_jumps.prog) (w := w) (base := base)  D_Frame_taken tFrame   n_range n_list n_reversed
    have m_Frame_lay := My.ok_Frame_lay (P := PySem.Challenge.rw_meterhouse_k32_jumps.prog) (w := w) (base := base)  D_Frame_lay tFrame   
    have m_Frame_finish := My.ok_Frame_finish (P := PySem.Challenge.rw_meterhouse_k32_jumps.prog) (w := w) (base := base)  D_Frame_finish tFrame   
    have m_Frame_tree := My.ok_Frame_tree (P := PySem.Challenge.rw_meterhouse_k32_jumps.prog) (w := w) (base := base)  D_Frame_tree tFrame   n_list
    have c_push_row := My.ok_push_row (P := PySem.Challenge.rw_meterhouse_k32_jumps.prog) (w := w) (base := base)  D_push_row tFrame m_Frame_lay  
    have c_drop_row := My.ok_drop_row (P := PySem.Challenge.rw_meterhouse_k32_jumps.prog) (w := w) (base := base)  D_drop_row tFrame m_Frame_taken  
    have c_copy_row := My.ok_copy_row (P := PySem.Challenge.rw_meterhouse_k32_jumps.prog) (w := w) (base := base)  D_copy_row tFrame m_Frame_lay  
    have c_swap_row := My.ok_swap_row (P := PySem.Challenge.rw_meterhouse_k32_jumps.prog) (w := w) (base := base)  D_swap_row tFrame   n_len
    have c_reckon_row := My.ok_reckon_row (P := PySem.Challenge.rw_meterhouse_k32_jumps.prog) (w := w) (base := base)  D_reckon_row tFrame m_Frame_taken m_Frame_lay  c_reckon
    have c_jump_row := My.ok_jump_row (P := PySem.Challenge.rw_meterhouse_k32_jumps.prog) (w := w) (base := base)  D_jump_row tFrame   
    have c_jumpif_row := My.ok_jumpif_row (P := PySem.Challenge.rw_meterhouse_k32_jumps.prog) (w := w) (base := base)  D_jumpif_row tFrame m_Frame_taken  
    have c_me_row := My.ok_me_row (P := PySem.Challenge.rw_meterhouse_k32_jumps.prog) (w := w) (base := base)  D_me_row tFrame m_Frame_lay  
    have c_from_row := My.ok_from_row (P := PySem.Challenge.rw_meterhouse_k32_jumps.prog) (w := w) (base := base)  D_from_row tFrame m_Frame_lay  
    have c_sent_row := My.ok_sent_row (P := PySem.Challenge.rw_meterhouse_k32_jumps.prog) (w := w) (base := base)  D_sent_row tFrame m_Frame_lay  
    have c_word_row := My.ok_word_row (P := PySem.Challenge.rw_meterhouse_k32_jumps.prog) (w := w) (base := base)  D_word_row tFrame m_Frame_lay  
    have c_give_row := My.ok_give_row (P := PySem.Challenge.rw_meterhouse_k32_jumps.prog) (w := w) (base := base)  D_give_row tFrame m_Frame_taken m_Frame_finish  
    have c_fail_row := My.ok_fail_row (P := PySem.Challenge.rw_meterhouse_k32_jumps.prog) (w := w) (base := base)  D_fail_row tFrame m_Frame_taken m_Frame_finish  
    have dok := My.do_ok (P := PySem.Challenge.rw_meterhouse_k32_jumps.prog) (w := w) (base := base) (cFrame := cFrame) dkD m_push_row m_drop_row m_copy_row m_swap_row m_reckon_row m_jump_row m_jumpif_row m_me_row m_from_row m_sent_row m_word_row m_give_row m_fail_row c_push_row c_drop_row c_copy_row c_swap_row c_reckon_row c_jump_row c_jumpif_row c_me_row c_from_row c_sent_row c_word_row c_give_row c_fail_row
    have c_do_row := My.ok_do_row (P := PySem.Challenge.rw_meterhouse_k32_jumps.prog) (w := w) (base := base) dok D_do_row    g_DOINGS
    have c_brings_coin := My.ok_brings_coin (P := PySem.Challenge.rw_meterhouse_k32_jumps.prog) (w := w) (base := base)  D_brings_coin tFrame   
    have c_fills_place := My.ok_fills_place (P := PySem.Challenge.rw_meterhouse_k32_jumps.prog) (w := w) (base := base)  D_fills_place tFrame tAccount m_Account_loaded  
    have c_row_price := My.ok_row_price (P := PySem.Challenge.rw_meterhouse_k32_jumps.prog) (w := w) (base := base)  D_row_price    cd2_price c_brings_coin c_fills_place
    have c_is_barred := My.ok_is_barred (P := PySem.Challenge.rw_meterhouse_k32_jumps.prog) (w := w) (base := base)  D_is_barred tFrame   c_brings_coin
    have c_end_ahead_of := My.ok_end_ahead_of (P := PySem.Challenge.rw_meterhouse_k32_jumps.prog) (w := w) (base := base)  D_end_ahead_of tFrame m_Frame_short_for m_Frame_full_behind m_Frame_left  c_is_barred c_row_price
    have c_call_row := My.ok_call_row (P := PySem.Challenge.rw_meterhouse_k32_jumps.prog) (w := w) (base := base) D_call_row
    have c_go_row := My.ok_go_row (P := PySem.Challenge.rw_meterhouse_k32_jumps.prog) (w := w) (base := base) t_CALLING D_go_row tFrame   c_row_price c_call_row c_do_row g_CALLING
    have c_go_on := My.ok_go_on (P := PySem.Challenge.rw_meterhouse_k32_jumps.prog) (w := w) (base := base)  D_go_on tAccount tFrame m_Frame_finish  c_end_ahead_of c_go_row n_len
    have c_write_step := My.ok_write_step (P := PySem.Challenge.rw_meterhouse_k32_jumps.prog) (w := w) (base := base)  D_write_step tJournal tFrame tSave tMove tNote m_Journal_write m_Save_told m_Move_told m_Note_told  
    have c_go := My.ok_go (P := PySem.Challenge.rw_meterhouse_k32_jumps.prog) (w := w) (base := base)  D_go tJournal tFrame tMove m_Journal_mark i_Move m_Journal_back  c_write_step c_go_on
    have iD7_Frame := My.frame7_ok (P := PySem.Challenge.rw_meterhouse_k32_jumps.prog) (w := w) (base := base) D_FI tFrame
    have c_enter := My.ok_enter (P := PySem.Challenge.rw_meterhouse_k32_jumps.prog) (w := w) (base := base)  D_enter tFrame m_Frame_tree  c_go iD7_Frame
    have c_Lalike := My.alike_all (P := PySem.Challenge.rw_meterhouse_k32_jumps.prog) (w := w) (base := base) D_Lalike n_isinstance n_int n_str n_tuple n_range n_len n_list n_bool 4
    have c_Lcell_at := My.ok_Lcell_at (P := PySem.Challenge.rw_meterhouse_k32_jumps.prog) (w := w) (base := base)  D_Lcell_at    n_len
    have c_Lgone := My.ok_Lgone (P := PySem.Challenge.rw_meterhouse_k32_jumps.prog) (w := w) (base := base)  D_Lgone    n_len n_range
    have c_Lprogram := My.ok_Lprogram (P := PySem.Challenge.rw_meterhouse_k32_jumps.prog) (w := w) (base := base)  D_Lprogram    n_range n_len
    exact My.ok_law  FL tAccount tJournal i_Account i_Journal  c_Lprogram c_Lgone c_enter c_Lalike c_Lcell_at n_len
  case S => exact fun K H a ns hl hO hS => ⟨a, ns, rfl, hS, hl, fun _ => rfl⟩
  case C => exact fun _ _ _ _ z => z

