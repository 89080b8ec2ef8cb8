import PyProof.Rows.All
import Wide.All
import OpenK.AllK
import Wide.FinOn
import Lean
import PyProof.EqAt
import PyProof.EqKinds
import PyProof.TupleCall
import PySem.Challenge.RW_meterhouse_k25_journal_back
set_option Elab.async false
set_option linter.all false
set_option maxRecDepth 100000
set_option maxHeartbeats 4000000
namespace L2
open PySem PySem.Spec PyProof.Rows

noncomputable abbrev Key := Sum Int Str
noncomputable def keyIs : Key → Value → Bool
  | .inl k, v => Value.isInt k v
  | .inr x, v => Value.isStrOf x v
noncomputable def keyH (w : World) : Key → Int
  | .inl k => hashInt k
  | .inr x => hashStr w x
theorem keyIs_shape : ∀ {k : Key} {v : Value}, keyIs k v = true → (∃ i t, k = Sum.inl i ∧ v = Value.int i t) ∨ (∃ x t, k = Sum.inr x ∧ v = Value.str x t)
  | .inl i, v, h => by
    obtain ⟨t, e⟩ := Value.isInt_shape (k := i) (v := v) h
    exact .inl ⟨i, t, rfl, e⟩
  | .inr x, v, h => by
    obtain ⟨t, e⟩ := Value.isStrOf_shape (x := x) (v := v) h
    exact .inr ⟨x, t, rfl, e⟩
theorem keyIs_int (i : Int) (t : Tok) : keyIs (.inl i) (.int i t) = true := by simp [keyIs, Value.isInt]
theorem keyIs_str (x : Str) (t : Tok) : keyIs (.inr x) (.str x t) = true := by simp [keyIs, Value.isStrOf]
theorem key_ll (a b : Int) : decide ((Sum.inl a : Key) = Sum.inl b) = (a == b) := by
  by_cases e : a = b
  · subst e; simp
  · have h : ¬ (Sum.inl a : Key) = Sum.inl b := fun q => e (Sum.inl.inj q)
    rw [decide_eq_false h]
    exact (beq_eq_false_iff_ne.mpr e).symm
theorem key_rr (a b : Str) : decide ((Sum.inr a : Key) = Sum.inr b) = decide (a = b) := by
  by_cases e : a = b
  · subst e; simp
  · have h : ¬ (Sum.inr a : Key) = Sum.inr b := fun q => e (Sum.inr.inj q)
    rw [decide_eq_false h, decide_eq_false e]
theorem key_lr (a : Int) (b : Str) : decide ((Sum.inl a : Key) = Sum.inr b) = false := decide_eq_false (fun q => nomatch q)
theorem key_rl (a : Str) (b : Int) : decide ((Sum.inr a : Key) = Sum.inl b) = false := decide_eq_false (fun q => nomatch q)

noncomputable def mixKind (prog : Program) (w : World) : PySem.KeyKind prog w Key where
  is := keyIs
  hash := keyH w
  inj := fun v a b ha hb => by
    rcases keyIs_shape ha with ⟨i, t, rfl, rfl⟩ | ⟨x, t, rfl, rfl⟩
    · rcases keyIs_shape hb with ⟨j, u, rfl, e⟩ | ⟨y, u, rfl, e⟩
      · injection e with e1 _; rw [e1]
      · exact nomatch e
    · rcases keyIs_shape hb with ⟨j, u, rfl, e⟩ | ⟨y, u, rfl, e⟩
      · exact nomatch e
      · injection e with e1 _; rw [e1]
  byValue := fun k v h => by
    rcases keyIs_shape h with ⟨i, t, rfl, rfl⟩ | ⟨x, t, rfl, rfl⟩ <;> rfl
  pyHash := fun hv h => by
    rcases keyIs_shape hv with ⟨i, t, rfl, rfl⟩ | ⟨x, t, rfl, rfl⟩
    · exact wpAny_pyHash_int h
    · exact wpAny_pyHash_str h
  eqBool := fun hu hv h => by
    rcases keyIs_shape hu with ⟨i, t, rfl, rfl⟩ | ⟨x, t, rfl, rfl⟩
    · rcases keyIs_shape hv with ⟨j, u, rfl, rfl⟩ | ⟨y, u, rfl, rfl⟩
      · rw [key_ll] at h; exact wpAny_eqBool_int h
      · rw [key_lr] at h; exact SeqAt.EqAt.int_str i t y u _ _ _ _ h
    · rcases keyIs_shape hv with ⟨j, u, rfl, rfl⟩ | ⟨y, u, rfl, rfl⟩
      · rw [key_rl] at h; exact SeqAt.EqAt.str_int x t j u _ _ _ _ h
      · rw [key_rr] at h; exact wpAny_eqBool_str h
  «strs» := fun k x t v h => by
    rcases keyIs_shape h with ⟨i, u, rfl, e⟩ | ⟨y, u, rfl, e⟩
    · exact nomatch e
    · injection e with e1 _
      subst e1
      cases v <;> rfl

theorem mixKind_is (prog : Program) (w : World) (k : Key) (v : Value) : (mixKind prog w).is k v = keyIs k v := rfl
theorem mixKind_int (prog : Program) (w : World) (i : Int) (t : Tok) : (mixKind prog w).is (.inl i) (.int i t) = true := keyIs_int i t
theorem mixKind_str (prog : Program) (w : World) (x : Str) (t : Tok) : (mixKind prog w).is (.inr x) (.str x t) = true := keyIs_str x t
end L2

namespace L2
open PySem PySem.Spec PyProof.Rows

inductive V where
  | non | bl (b : Bool) | int (i : Int) | str (x : Str) | byt (b : Array UInt8) | flt (b : UInt64) | ref (a : Addr) | ty (n : String)
  deriving DecidableEq

noncomputable def RelV : V → Value → Prop
  | .non, u => u = Value.none
  | .bl b, u => u = Value.bool b
  | .int i, u => ∃ t, u = Value.int i t
  | .str x, u => ∃ t, u = Value.str x t
  | .byt b, u => ∃ t, u = Value.bytes b t
  | .flt b, u => ∃ t, u = Value.float b t
  | .ref a, u => u = Value.ref a
  | .ty n, u => u = Value.type n

noncomputable abbrev Vals : List V → List Value → Prop := Paired RelV
theorem Vals.length {xs : List V} {us : List Value} (r : Vals xs us) : xs.length = us.length := Paired.length r
theorem Vals.get : ∀ {xs : List V} {us : List Value} {i : Nat} {x : V}, Vals xs us → xs[i]? = some x → ∃ u, us[i]? = some u ∧ RelV x u
  | _, _, _, _, .nil, e => by simp at e
  | _, _, 0, _, .cons r _, e => by simp at e; subst e; exact ⟨_, rfl, r⟩
  | _, _, i + 1, x, .cons _ t, e => by
    obtain ⟨u, h1, h2⟩ := Vals.get (i := i) (x := x) t (by simpa using e)
    exact ⟨u, by simpa using h1, h2⟩
theorem Vals.set {x : V} {u : Value} (r : RelV x u) : ∀ {xs : List V} {us : List Value} (i : Nat), Vals xs us → Vals (xs.set i x) (us.set i u)
  | _, _, _, .nil => .nil
  | _, _, 0, .cons _ t => .cons r t
  | _, _, i + 1, .cons q t => .cons q (Vals.set r i t)
theorem Vals.append : ∀ {xs ys : List V} {us ws : List Value}, Vals xs us → Vals ys ws → Vals (xs ++ ys) (us ++ ws)
  | _, _, _, _, .nil, s => s
  | _, _, _, _, .cons r t, s => .cons r (Vals.append t s)
theorem Vals.take : ∀ {xs : List V} {us : List Value} (n : Nat), Vals xs us → Vals (xs.take n) (us.take n)
  | _, _, 0, _ => .nil
  | _, _, _ + 1, .nil => .nil
  | _, _, n + 1, .cons r t => .cons r (Vals.take n t)
theorem Vals.drop : ∀ {xs : List V} {us : List Value} (n : Nat), Vals xs us → Vals (xs.drop n) (us.drop n)
  | _, _, 0, r => r
  | _, _, _ + 1, .nil => .nil
  | _, _, n + 1, .cons _ t => Vals.drop n t
theorem Vals.none_of : ∀ {xs : List V} {us : List Value} {i : Nat}, Vals xs us → xs[i]? = none → us[i]? = none := fun {xs us i} r e => by
  have h1 := r.length
  have h2 : xs.length ≤ i := List.getElem?_eq_none_iff.mp e
  exact List.getElem?_eq_none_iff.mpr (by omega)

noncomputable def RelO : Option V → Option Value → Prop
  | some v, some u => RelV v u
  | none, none => True
  | _, _ => False
noncomputable def KV {κ : Type} : List (κ × V) → List (κ × Value) → Prop := Paired fun (p : κ × V) (q : κ × Value) => p.1 = q.1 ∧ RelV p.2 q.2

noncomputable def kV : Key → V
  | .inl i => .int i
  | .inr x => .str x

inductive HO where
  /-- a list -/
  | lst (xs : List V)
  /-- a tuple (never changes) -/
  | tup (xs : List V)
  /-- a dict whose keys are ints and texts; one whose keys are tuples of ints and texts (the empty one is both) -/
  | dK (kvs : List (Key × V)) | dT (kvs : List (List Key × V))
  /-- a set of ints: its members, its size -/
  | set (S : Int → Bool) (n : Nat)
  /-- an instance of the class at C, its dict at dx, its attributes -/
  | ins (C dx : Addr) (fs : List (Str × V))
  /-- the dict of the instance at x -/
  | own (x : Addr)
  /-- the dict of an exception -/
  | xd (fs : List (Str × V))
  /-- a bound method, f of x -/
  | met (f x : Addr)
  /-- a range object lo, lo + 1, .. below hi -/
  | rng (lo hi : Int)
  /-- a thing that is known to the object (the script; a dict while a loop walks it): read, never written while it is so -/
  | frz (o : Obj) (u : HO)
  /-- a code object's table -/
  | tbl (ps : Array Value)
  /-- any other thing, by what is true of its one object (a def of one's own: SetO a S n := HO.ext fun h => ..) -/
  | ext (φ : Heap → Prop)

noncomputable abbrev Hp := Addr → Option HO
noncomputable def upd (H : Hp) (a : Addr) (o : HO) : Hp := fun b => if b = a then some o else H b
theorem upd_same {H : Hp} {a : Addr} {o : HO} : upd H a o a = some o := by unfold upd; rw [if_pos rfl]
theorem upd_ne {H : Hp} {a b : Addr} {o : HO} (h : b ≠ a) : upd H a o b = H b := by unfold upd; rw [if_neg h]
theorem upd_upd {H : Hp} {a : Addr} {o u : HO} : upd (upd H a o) a u = upd H a u := by
  funext b; unfold upd; split <;> rfl
theorem ne_of {H : Hp} {a b : Addr} {o u : HO} (h : H a = some o) (h' : H b = some u) (d : o ≠ u) : a ≠ b := by
  intro e; subst e; rw [h] at h'; exact d (Option.some.inj h')
theorem ne_of_none {H : Hp} {a b : Addr} {o : HO} (h : H a = some o) (h' : H b = none) : a ≠ b := by
  intro e; subst e; rw [h] at h'; cases h'

section
variable (P : Program) (w : World)
noncomputable def ObjOk (H : Hp) (h : Heap) (a : Addr) : HO → Prop
  | .lst xs => xs.length ≤ sizeLine ∧ ∃ (its : List Value) (n : Nat), Vals xs its ∧ h.get? a = some { cls := .type "list", data := .seq its.toArray n }
  | .tup xs => xs.length ≤ sizeLine ∧ ∃ its : List Value, Vals xs its ∧ IsTup h a its.toArray
  | .dK kvs => kvs.length ≤ sizeLine ∧ (a == sysModules) = false ∧ ∃ vs, KV kvs vs ∧ h.DictOf (mixKind P w) a vs
  | .dT kvs => kvs.length ≤ sizeLine ∧ (a == sysModules) = false ∧ ∃ xs : List (List Key × Addr × Value),
      Paired (fun (p : List Key × V) (q : List Key × Addr × Value) => p.1 = q.1 ∧ H q.2.1 = some (.tup (p.1.map kV)) ∧ RelV p.2 q.2.2) kvs xs ∧
      ∃ o es ep, h.get? a = some o ∧ o.ExactDict ∧ o.data = .dict es ep ∧ es.toList = xs.map (entryOfKey (tupleKind (mixKind P w))) ∧ (xs.map (·.1)).Nodup
  | .set S n => h.SetOf (intKind P w) a S n
  | .ins C dx fs => H dx = some (.own a) ∧ fs.length ≤ 1000 ∧ dx ≠ a ∧ h.get? a = some (PySem.W.instObj C dx) ∧
      ∃ mA, h.Ns1 dx mA ∧ (∀ f, RelO (fs.lookup f) (mA f)) ∧ PySem.Within mA (fs.map (·.1))
  | .own _ => ∃ o, h.get? a = some o
  | .xd fs => ∃ mA, h.Ns1 a mA ∧ ∀ f, RelO (fs.lookup f) (mA f)
  | .rng lo hi => ∃ t u v, h.get? a = some { cls := .type "range", data := .fields #[.int lo t, .int hi u, .int 1 v] }
  | .frz o u => h.get? a = some o ∧ ObjOk H h a u
  | .tbl ps => h.get? a = some { cls := .none, data := .fields ps }
  | .met f x => h.get? a = some (PySem.W.methodObj (.ref f) (.ref x))
  | .ext φ => φ h ∧ (∃ o, h.get? a = some o) ∧ ∀ h1 h2 : Heap, φ h1 → (∀ o, h1.get? a = some o → h2.get? a = some o) → φ h2
noncomputable def HOk (H : Hp) (h : Heap) : Prop := ∀ a o, H a = some o → ObjOk P w H h a o
end

section
variable {P : Program} {w : World} {H H' : Hp} {h h' : Heap} {a : Addr} {o : HO}
theorem ObjOk.lt (x : ObjOk P w H h a o) : a < h.objs.size := by
  cases o with
  | lst xs => obtain ⟨_, _, _, _, e⟩ := x; exact Heap.lt_size e
  | tup xs => obtain ⟨_, _, _, p⟩ := x; exact p.lt
  | dK kvs => obtain ⟨_, _, _, _, o, _, _, e, _⟩ := x; exact Heap.lt_size e
  | dT kvs => obtain ⟨_, _, _, _, o, _, _, e, _⟩ := x; exact Heap.lt_size e
  | set S n => obtain ⟨o, _, _, _, e, _⟩ := x; exact Heap.lt_size e
  | ins C dx fs => obtain ⟨_, _, _, e, _⟩ := x; exact Heap.lt_size e
  | own y => obtain ⟨_, e⟩ := x; exact Heap.lt_size e
  | xd fs => obtain ⟨_, ⟨_, _, _, e, _⟩, _⟩ := x; exact Heap.lt_size e
  | rng lo hi => obtain ⟨_, _, _, e⟩ := x; exact Heap.lt_size e
  | frz ob u => obtain ⟨e, _⟩ := x; exact Heap.lt_size e
  | tbl ps => exact Heap.lt_size (show h.get? a = some _ from x)
  | met f y => exact Heap.lt_size (show h.get? a = some _ from x)
  | ext φ => obtain ⟨_, ⟨_, e⟩, _⟩ := x; exact Heap.lt_size e
theorem Paired.mapP {α β : Type} {F G : α → β → Prop} : ∀ {l₁ : List α} {l₂ : List β}, Paired F l₁ l₂ → (∀ a b, F a b → G a b) → Paired G l₁ l₂
  | _, _, .nil, _ => .nil
  | _, _, .cons r t, f => .cons (f _ _ r) (Paired.mapP t f)
theorem ObjOk.stay (x : ObjOk P w H h a o) (k : ∀ b u, (b = a ∨ H b = some (.own a)) → h.get? b = some u → h'.get? b = some u)
    (ho : ∀ b, H b = some (.own a) → H' b = some (.own a)) (ht : ∀ b xs, H b = some (.tup xs) → H' b = some (.tup xs)) : ObjOk P w H' h' a o := by
  induction o with
  | lst xs => obtain ⟨z, its, n, r, e⟩ := x; exact ⟨z, its, n, r, k _ _ (.inl rfl) e⟩
  | tup xs => obtain ⟨z, its, r, ob, e, c⟩ := x; exact ⟨z, its, r, ob, k _ _ (.inl rfl) e, c⟩
  | dK kvs => obtain ⟨z, y, vs, r, ob, es, ep, e, c⟩ := x; exact ⟨z, y, vs, r, ob, es, ep, k _ _ (.inl rfl) e, c⟩
  | dT kvs =>
    obtain ⟨z, y, xs, r, ob, es, ep, e, c⟩ := x
    exact ⟨z, y, xs, Paired.mapP r fun p q z => ⟨z.1, ht _ _ z.2.1, z.2.2⟩, ob, es, ep, k _ _ (.inl rfl) e, c⟩
  | set S n => obtain ⟨ob, es, ep, t, e, c⟩ := x; exact ⟨ob, es, ep, t, k _ _ (.inl rfl) e, c⟩
  | ins C dx fs =>
    obtain ⟨d, z, ne, e, mA, ⟨od, es, ep, e2, c⟩, r⟩ := x
    exact ⟨ho _ d, z, ne, k _ _ (.inl rfl) e, mA, ⟨od, es, ep, k _ _ (.inr d) e2, c⟩, r⟩
  | own y => obtain ⟨ob, e⟩ := x; exact ⟨ob, k _ _ (.inl rfl) e⟩
  | xd fs => obtain ⟨mA, ⟨od, es, ep, e, c⟩, r⟩ := x; exact ⟨mA, ⟨od, es, ep, k _ _ (.inl rfl) e, c⟩, r⟩
  | rng lo hi => obtain ⟨t, u, v, e⟩ := x; exact ⟨t, u, v, k _ _ (.inl rfl) e⟩
  | frz ob u ih => obtain ⟨e, q⟩ := x; exact ⟨k _ _ (.inl rfl) e, ih q⟩
  | tbl ps =>
    have e : h.get? a = some { cls := .none, data := .fields ps } := x
    show h'.get? a = some { cls := .none, data := .fields ps }
    exact k a _ (.inl rfl) e
  | met f y =>
    have e : h.get? a = some (PySem.W.methodObj (.ref f) (.ref y)) := x
    show h'.get? a = some (PySem.W.methodObj (.ref f) (.ref y))
    exact k a _ (.inl rfl) e
  | ext φ => obtain ⟨p, ⟨o, e⟩, st⟩ := x; exact ⟨st _ _ p fun o q => k _ _ (.inl rfl) q, ⟨o, k _ _ (.inl rfl) e⟩, st⟩
theorem HOk.lt (x : HOk P w H h) (e : H a = some o) : a < h.objs.size := (x a o e).lt
theorem HOk.fresh (x : HOk P w H h) (e : h.objs.size ≤ a) : H a = none := by
  cases q : H a with
  | none => rfl
  | some u => exact absurd (Nat.lt_of_lt_of_le (x.lt q) e) (Nat.lt_irrefl _)
theorem HOk.kept (x : HOk P w H h) (k : ∀ b u, h.get? b = some u → h'.get? b = some u) : HOk P w H h' := fun a o e =>
  (x a o e).stay (fun b u _ q => k b u q) (fun _ q => q) fun _ _ q => q
theorem HOk.laid (x : HOk P w H h) (k : ∀ b u, h.get? b = some u → h'.get? b = some u) (hp : h.objs.size ≤ a) (new : ObjOk P w (upd H a o) h' a o) : HOk P w (upd H a o) h' := fun b u e => by
  have hn := x.fresh hp
  by_cases hb : b = a
  · subst hb; rw [upd_same] at e; cases e; exact new
  · rw [upd_ne hb] at e
    exact (x b u e).stay (fun c v _ q => k c v q) (fun c q => by rw [upd_ne (ne_of_none q hn)]; exact q) fun c xs q => by rw [upd_ne (ne_of_none q hn)]; exact q
end

noncomputable def Rd (H : Hp) (a : Addr) (u : HO) : Prop := H a = some u ∨ ∃ o, H a = some (.frz o u)
theorem Rd.of {H : Hp} {a : Addr} {u : HO} (h : H a = some u) : Rd H a u := .inl h
theorem Rd.ok {P : Program} {w : World} {H : Hp} {h : Heap} {a : Addr} {u : HO} (r : Rd H a u) (x : HOk P w H h) : ObjOk P w H h a u := by
  rcases r with r | ⟨o, r⟩
  · exact x a u r
  · obtain ⟨_, q⟩ := x a _ r
    exact q
noncomputable def Mut : Option HO → Prop
  | some (.lst _) => True
  | some (.dK _) => True
  | some (.dT _) => True
  | some (.set _ _) => True
  | some (.ins _ _ _) => True
  | some (.ext _) => True
  | _ => False
section
variable {P : Program} {w : World} {H : Hp} {h h' : Heap} {x e : Addr} {o' : HO}
theorem HOk.write (ok : HOk P w H h) (mu : Mut (H x)) (he : e = x ∨ H e = some (.own x)) (k : ∀ b u, b ≠ e → h.get? b = some u → h'.get? b = some u) (heo : ∃ u, h'.get? e = some u)
    (new : ObjOk P w (upd H x o') h' x o') : HOk P w (upd H x o') h' := fun b u q => by
  have nown : ∀ c y, H c = some (.own y) → c ≠ x := fun c y r z => by subst z; rw [r] at mu; exact mu
  have ntup : ∀ c xs, H c = some (.tup xs) → c ≠ x := fun c xs r z => by subst z; rw [r] at mu; exact mu
  by_cases hb : b = x
  · subst hb; rw [upd_same] at q; cases q; exact new
  · rw [upd_ne hb] at q
    by_cases hbe : b = e
    · have q' : H b = some (.own x) := by
        rcases he with z | z
        · exact absurd (hbe.trans z) hb
        · rw [hbe]; exact z
      rw [q] at q'; cases q'
      obtain ⟨v, hv⟩ := heo
      exact ⟨v, by rw [hbe]; exact hv⟩
    · refine (ok b u q).stay (fun c v hc r => k c v ?_ r) (fun c r => by rw [upd_ne (nown c b r)]; exact r) fun c xs r => by rw [upd_ne (ntup c xs r)]; exact r
      rcases hc with rfl | hc
      · exact hbe
      · rintro rfl
        rcases he with z | z
        · exact nown c b hc z
        · rw [hc] at z; cases z; exact hb rfl
end

structure Un (fs ex : List Addr) (H H' : Hp) (h h' : Heap) : Prop where
  keep : ∀ b o, h.get? b = some o → H b = none → b ∉ fs → b ∉ ex → h'.get? b = some o
  slot : ∀ b o, h.get? b = some o → H b = none → b ∈ fs → b ∉ ex → ∃ sl, h'.get? b = some { o with slots := sl }
  free : ∀ b o, h.get? b = some o → H b = none → b ∉ ex → H' b = none
  there : ∀ b o, h.get? b = some o → b ∉ ex → ∃ o', h'.get? b = some o'
  tups : ∀ b xs, H b = some (.tup xs) → H' b = some (.tup xs)
  frzs : ∀ b o u, H b = some (.frz o u) → H' b = some (.frz o u)
  tbls : ∀ b ps, H b = some (.tbl ps) → ∃ more, H' b = some (.tbl (ps ++ more))
section
variable {fs fs' ex ex' : List Addr} {H H1 H2 : Hp} {h h1 h2 h' : Heap} {a x e : Addr} {o : HO}
theorem Un.any (u : Un fs ex H H1 h h1) {b : Addr} {ob : Obj} (q : h.get? b = some ob) (n : H b = none) (hx : b ∉ ex) : ∃ sl, h1.get? b = some { ob with slots := sl } := by
  by_cases hb : b ∈ fs
  · exact u.slot b ob q n hb hx
  · exact ⟨ob.slots, u.keep b ob q n hb hx⟩
theorem Un.trans (a : Un fs ex H H1 h h1) (b : Un fs ex H1 H2 h1 h2) : Un fs ex H H2 h h2 where
  keep := fun c ob q n hc hx => b.keep c ob (a.keep c ob q n hc hx) (a.free c ob q n hx) hc hx
  slot := fun c ob q n hc hx => by
    obtain ⟨sl, e1⟩ := a.slot c ob q n hc hx
    obtain ⟨sl', e2⟩ := b.slot c _ e1 (a.free c ob q n hx) hc hx
    exact ⟨sl', e2⟩
  free := fun c ob q n hx => by
    obtain ⟨o', e1⟩ := a.there c ob q hx
    exact b.free c o' e1 (a.free c ob q n hx) hx
  there := fun c ob q hx => by
    obtain ⟨o', e1⟩ := a.there c ob q hx
    exact b.there c o' e1 hx
  tups := fun c xs q => b.tups c xs (a.tups c xs q)
  frzs := fun c ob xs q => b.frzs c ob xs (a.frzs c ob xs q)
  tbls := fun c ps q => by
    obtain ⟨m1, e1⟩ := a.tbls c ps q
    obtain ⟨m2, e2⟩ := b.tbls c _ e1
    exact ⟨m1 ++ m2, by rw [e2, Array.append_assoc]⟩
theorem Un.kept (k : ∀ b u, h.get? b = some u → h'.get? b = some u) : Un fs ex H H h h' :=
  ⟨fun b ob q _ _ _ => k b ob q, fun b ob q _ _ _ => ⟨ob.slots, k b ob q⟩, fun _ _ _ n _ => n, fun b ob q _ => ⟨ob, k b ob q⟩, fun _ _ q => q, fun _ _ _ q => q, fun _ ps q => ⟨#[], by rw [q]; simp⟩⟩
theorem Un.refl : Un fs ex H H h h := Un.kept fun _ _ q => q
theorem Un.laid (k : ∀ b u, h.get? b = some u → h'.get? b = some u) (hp : h.objs.size ≤ a) (hn : H a = none) : Un fs ex H (upd H a o) h h' where
  keep := fun b u q _ _ _ => k b u q
  slot := fun b u q _ _ _ => ⟨u.slots, k b u q⟩
  free := fun b u q n _ => by rw [upd_ne (Nat.ne_of_lt (Nat.lt_of_lt_of_le (Heap.lt_size q) hp))]; exact n
  there := fun b u q _ => ⟨u, k b u q⟩
  tups := fun b xs q => by rw [upd_ne (ne_of_none q hn)]; exact q
  frzs := fun b u xs q => by rw [upd_ne (ne_of_none q hn)]; exact q
  tbls := fun b ps q => ⟨#[], by rw [upd_ne (ne_of_none q hn), q]; simp⟩
theorem Un.write (mu : Mut (H x)) (he : e = x ∨ H e = some (.own x)) (k : ∀ b u, b ≠ e → h.get? b = some u → h'.get? b = some u) (heo : ∃ u, h'.get? e = some u) : Un fs ex H (upd H x o) h h' := by
  have hx : ∀ b, H b = none → b ≠ x := fun b n z => by subst z; rw [n] at mu; exact mu
  have hb : ∀ b, H b = none → b ≠ e := fun b n z => by
    subst z
    rcases he with r | r
    · exact hx b n r
    · rw [n] at r; cases r
  have hm : ∀ b u, H b = some u → ¬ Mut (some u) → b ≠ x := fun b u q nm z => by subst z; rw [q] at mu; exact nm mu
  refine ⟨fun b u q n _ _ => k b u (hb b n) q, fun b u q n _ _ => ⟨u.slots, k b u (hb b n) q⟩, fun b u q n _ => by rw [upd_ne (hx b n)]; exact n, fun b u q _ => ?_,
    fun b xs q => by rw [upd_ne (hm b _ q fun z => z)]; exact q, fun b u xs q => by rw [upd_ne (hm b _ q fun z => z)]; exact q, fun b ps q => ⟨#[], by rw [upd_ne (hm b _ q fun z => z), q]; simp⟩⟩
  by_cases hbe : b = e
  · subst hbe; exact heo
  · exact ⟨u, k b u hbe q⟩
theorem Un.mono (u : Un fs ex H H1 h h1) (hs : ∀ b ∈ fs, b ∈ fs') (hx : ∀ b ∈ ex, b ∈ ex') : Un fs' ex' H H1 h h1 :=
  ⟨fun b ob q n hb he => u.keep b ob q n (fun z => hb (hs b z)) fun z => he (hx b z), fun _ _ q n _ he => u.any q n fun z => he (hx _ z), fun b ob q n he => u.free b ob q n fun z => he (hx b z), fun b ob q he => u.there b ob q fun z => he (hx b z), u.tups, u.frzs, u.tbls⟩
end

noncomputable def trk (h : Heap) (H : Hp) : List Addr := (List.range h.objs.size).filter fun a => (H a).isSome
noncomputable def hidT (h : Heap) (H : Hp) : Heap := PySem.W.hideAll h (trk h H)
theorem hidT_size (h : Heap) (H : Hp) : (hidT h H).objs.size = h.objs.size := PySem.W.hideAll_size _ _
theorem hidT_get {h : Heap} {H : Hp} {b : Addr} {o : Obj} (e : h.get? b = some o) (n : H b = none) : (hidT h H).get? b = some o :=
  PySem.W.hideAll_get _ e fun hm => by
    have q : (H b).isSome = true := (List.mem_filter.mp hm).2
    rw [n] at q; simp at q
theorem of_hidT {h : Heap} {H : Hp} {b : Addr} {o : Obj} (e : (hidT h H).get? b = some o) : h.get? b = some o ∧ H b = none := by
  have e' : h.get? b = some o := PySem.W.of_hideAll (trk h H) e
  refine ⟨e', ?_⟩
  cases q : H b with
  | none => rfl
  | some x =>
    have hm : b ∈ trk h H := List.mem_filter.mpr ⟨List.mem_range.mpr (Heap.lt_size e'), by simp [q]⟩
    have z : (hidT h H).get? b = none := PySem.W.hideAll_none (trk h H) hm
    rw [z] at e; cases e

noncomputable def allNews (g h : Heap) (L : Addr) : List (Addr × Obj) := (List.range h.objs.size).filterMap fun a => if a = L ∨ (g.get? a).isSome = true then none else (h.get? a).map fun o => (a, o)
noncomputable def rest (g h : Heap) (L d : Addr) : List (Addr × Obj) := (allNews g h L).filter fun p => decide (p.1 ≠ d)
end L2

namespace L2
open PySem PySem.Spec PyProof.Rows

structure Mod (K : PySem.W.Frag) (mg : Str → Option Value) (base : Heap) : Prop where
  kin : K.In base
  glob : base.Ns mainGlobals mg
  blt : ∃ mb, base.Ns builtinsNs mb ∧ ∀ x : Str, x ≠ "__name__" → mb x = bootBuiltins x
  nolimit : base.NoLimit

structure Cx where
  prog : Program
  w : World
  K : PySem.W.Frag
  mg : Str → Option Value
  base : Heap
  A : Around
  N : List Str
  s₀ : Shared
  H₀ : Hp
  env : Env
  outer : List Env
  stack : List Env
  ex : List Addr
  fn : Str → Bool
  calm : Bool
  pn : List (Addr × Obj)
  xe : Value → Shared → Prop
noncomputable def frs (l : List Env) : List Addr := l.filterMap (·.frame)
noncomputable abbrev Cx.fs (X : Cx) : List Addr := frs X.outer

noncomputable def Vis (sc : Scope) (x : Str) : Prop := sc.names.lookup x = some .local ∨ sc.names.lookup x = some .cell ∨ sc.names.lookup x = some .free
noncomputable def Loc (sc : Scope) (x : Str) : Prop := sc.names.lookup x = some .local ∨ sc.names.lookup x = some .cell
noncomputable def Look (env : Env) (h : Heap) (m : Str → Option Value) (x : Str) (u : Value) : Prop :=
  (env.kindOf x = some .local ∧ m x = some u) ∨ ((env.kindOf x = some .cell ∨ env.kindOf x = some .free) ∧ ∃ c, env.cells.lookup x = some c ∧ h.IsCell c (some u))

structure Cx.Ok (X : Cx) : Prop where
  mod : Mod X.K X.mg X.base
  kind : X.env.scope.kind = .function
  glob : X.env.globals = mainGlobals
  blt : X.env.builtins = builtinsNs
  above : X.s₀.heap.objs.size ≤ X.env.locals
  inj : ∀ x y c, X.env.cells.lookup x = some c → X.env.cells.lookup y = some c → x = y
  has : ∀ x, (X.env.kindOf x = some .cell ∨ X.env.kindOf x = some .free) → ∃ c, X.env.cells.lookup x = some c
  cab : ∀ x c, X.fn x = true → X.env.cells.lookup x = some c → X.s₀.heap.objs.size ≤ c
  hd : X.calm = true → X.A.handled = none
  frames : X.A.frames = some X.stack
  stk : X.stack = X.outer ∨ (X.stack = X.env :: X.outer ∧ X.env.frame = some X.env.locals)
  exf : ∀ b ∈ X.ex, b ≠ X.env.locals ∧ ∀ x c, X.env.cells.lookup x = some c → c ≠ b
  bs : ∀ b o, X.base.get? b = some o → X.s₀.heap.get? b = some o ∧ X.H₀ b = none
  bsz : X.base.objs.size ≤ X.s₀.heap.objs.size
  noex : ∀ b o, X.base.get? b = some o → b ∉ X.ex
  exfs : ∀ b ∈ X.ex, b ∉ X.fs
  funs : X.s₀.heap.FunFrames X.base X.outer
  frf : ∀ b ∈ X.fs, X.H₀ b = none

structure Inv (X : Cx) (pins : List (Addr × Obj)) (σ : List (Option V)) (H : Hp) (s : Shared) : Prop where
  ok : X.Ok
  os : s.os = X.s₀.os
  bare : AllBare s.gens
  base : Un X.fs X.ex X.H₀ H X.s₀.heap s.heap
  loc : ∃ m, s.heap.Ns X.env.locals m ∧ ∀ (i : Nat) (x : Str) (v : V), X.N[i]? = some x → σ[i]? = some (some v) → Vis X.env.scope x → ∃ u, RelV v u ∧ Look X.env s.heap m x u
  cell : ∀ x c, X.env.cells.lookup x = some c → ∃ v, s.heap.IsCell c v
  free : H X.env.locals = none
  freeC : ∀ x c, X.env.cells.lookup x = some c → H c = none
  pin : ∀ p ∈ X.pn ++ pins, s.heap.get? p.1 = some p.2 ∧ H p.1 = none ∧ p.1 ≠ X.env.locals ∧ p.1 ∉ X.fs ∧ ∀ v, p.2.data ≠ .cell v
  hok : HOk X.prog X.w H s.heap
  len : σ.length = X.N.length

section
variable {X : Cx} {pins : List (Addr × Obj)} {σ : List (Option V)} {H H' : Hp} {s : Shared} {h' : Heap}

theorem Cx.Ok.nofr (ok : X.Ok) {b : Addr} {o : Obj} (e : X.base.get? b = some o) : b ∉ X.fs := fun hb => by
  have := (ok.funs.mem hb).1
  rw [e] at this; cases this
theorem Inv.bs (I : Inv X pins σ H s) : ∀ b o, X.base.get? b = some o → s.heap.get? b = some o ∧ H b = none := fun b o e =>
  ⟨I.base.keep b o (I.ok.bs b o e).1 (I.ok.bs b o e).2 (I.ok.nofr e) (I.ok.noex b o e), I.base.free b o (I.ok.bs b o e).1 (I.ok.bs b o e).2 (I.ok.noex b o e)⟩
theorem Inv.bk (I : Inv X pins σ H s) : ∀ b o, X.base.get? b = some o → s.heap.get? b = some o := fun b o e => (I.bs b o e).1
theorem Inv.mod (I : Inv X pins σ H s) : Mod X.K X.mg X.base := I.ok.mod
theorem Inv.kIn (I : Inv X pins σ H s) : X.K.In s.heap := I.ok.mod.kin.keeps I.bk
theorem Inv.nolimit (I : Inv X pins σ H s) : s.heap.NoLimit := I.ok.mod.nolimit.keeps I.bk
theorem Inv.fr (I : Inv X pins σ H s) : ∃ m, Fr X.base X.env.locals s.heap m :=
  let ⟨m, hn, _⟩ := I.loc
  ⟨m, hn, I.bk, Nat.le_trans I.ok.bsz I.ok.above⟩
theorem Inv.lt (I : Inv X pins σ H s) : X.env.locals < s.heap.objs.size := let ⟨_, hn, _⟩ := I.loc; hn.lt
theorem Inv.sz (I : Inv X pins σ H s) : X.s₀.heap.objs.size ≤ s.heap.objs.size := Nat.le_trans I.ok.above (Nat.le_of_lt I.lt)
theorem Inv.nofs (I : Inv X pins σ H s) {a : Addr} (h : s.heap.objs.size ≤ a) : a ∉ X.fs := fun hb => by
  obtain ⟨_, o, ho, _⟩ := I.ok.funs.mem hb
  exact absurd (Nat.lt_of_lt_of_le (Heap.lt_size ho) (Nat.le_trans I.sz h)) (Nat.lt_irrefl _)
theorem Inv.cne (I : Inv X pins σ H s) : ∀ x c, X.env.cells.lookup x = some c → c ≠ X.env.locals := fun x c e z => by
  obtain ⟨v, o, ho, hd⟩ := I.cell x c e
  obtain ⟨m, ⟨o', es, ep, ho', hd', _⟩, _⟩ := I.loc
  rw [z, ho'] at ho; cases ho; rw [hd'] at hd; cases hd
theorem Inv.funs (I : Inv X pins σ H s) : s.heap.FunFrames X.base X.outer := by
  have all : ∀ (l : List Env), (∀ b ∈ frs l, b ∈ X.fs) → X.s₀.heap.FunFrames X.base l → s.heap.FunFrames X.base l := by
    intro l
    induction l with
    | nil => intro _ _; trivial
    | cons env r ih =>
      intro hs hl
      obtain ⟨hk, ⟨L, o, hf, hn, ho, hd⟩, hr⟩ := hl
      have hL : L ∈ X.fs := hs L (by unfold frs; rw [List.filterMap_cons, hf]; exact List.mem_cons_self)
      obtain ⟨sl, e⟩ := I.base.slot L o ho (I.ok.frf L hL) hL fun z => I.ok.exfs L z hL
      exact ⟨hk, ⟨L, _, hf, hn, e, hd⟩, ih (fun b hb => hs b (by unfold frs; rw [List.filterMap_cons, hf]; exact List.mem_cons_of_mem _ hb)) hr⟩
  exact all X.outer (fun _ hb => hb) I.ok.funs

theorem Inv.stack (I : Inv X pins σ H s) : s.heap.FunFrames X.base X.stack := by
  rcases I.ok.stk with e | ⟨e, hf⟩
  · rw [e]; exact I.funs
  · rw [e]
    obtain ⟨m, hn, _⟩ := I.loc
    refine .cons (by rw [I.ok.kind]; decide) hf hn ?_ I.funs
    exact Heap.get?_none_of_le (Nat.le_trans I.ok.bsz I.ok.above)
theorem Inv.stkSub (I : Inv X pins σ H s) : ∀ b ∈ frs X.stack, b ∈ X.env.locals :: X.fs := fun b hb => by
  rcases I.ok.stk with e | ⟨e, hf⟩
  · rw [e] at hb; exact List.mem_cons_of_mem _ hb
  · rw [e] at hb
    unfold frs at hb
    rw [List.filterMap_cons, hf] at hb
    exact hb
theorem Inv.stkFree (I : Inv X pins σ H s) : ∀ b ∈ frs X.stack, H b = none := fun b hb => by
  rcases List.mem_cons.mp (I.stkSub b hb) with e | hb
  · rw [e]; exact I.free
  · obtain ⟨_, o, ho, _⟩ := I.ok.funs.mem hb
    exact I.base.free b o ho (I.ok.frf b hb) fun z => I.ok.exfs b z hb

theorem Inv.step {g' : Array GenState} {t' : Nat} {d' : Drawn} {ch : List Addr} (I : Inv X pins σ H s)
    (hch : ∀ b ∈ ch, (b ∈ X.ex ∨ X.s₀.heap.objs.size ≤ b) ∧ b ≠ X.env.locals ∧ (∀ x c, X.env.cells.lookup x = some c → c ≠ b) ∧ ∀ p ∈ X.pn ++ pins, p.1 ≠ b)
    (keep : ∀ b o, b ≠ X.env.locals → b ∉ X.fs → b ∉ ch → s.heap.get? b = some o → H b = none → h'.get? b = some o)
    (slot : ∀ b o, b ≠ X.env.locals → b ∈ X.fs → b ∉ ch → s.heap.get? b = some o → H b = none → ∃ sl, h'.get? b = some { o with slots := sl }) (free : ∀ b o, b ∉ ch → s.heap.get? b = some o → H b = none → H' b = none)
    (there : ∀ b o, b ∉ ch → s.heap.get? b = some o → ∃ o', h'.get? b = some o')
    (tups : ∀ b xs, H b = some (.tup xs) → H' b = some (.tup xs)) (frzs : ∀ b o u, H b = some (.frz o u) → H' b = some (.frz o u)) (tbls : ∀ b ps, H b = some (.tbl ps) → ∃ more, H' b = some (.tbl (ps ++ more)))
    (ns : ∀ m, s.heap.Ns X.env.locals m → h'.Ns X.env.locals m) (hok : HOk X.prog X.w H' h') (hg : AllBare g') :
    Inv X pins σ H' { s with heap := h', gens := g', drawn := d', toks := t' } := by
  have neL : ∀ b o, X.s₀.heap.get? b = some o → b ≠ X.env.locals := fun b o e => Nat.ne_of_lt (Nat.lt_of_lt_of_le (Heap.lt_size e) I.ok.above)
  have neC : ∀ b o, X.s₀.heap.get? b = some o → b ∉ X.ex → b ∉ ch := fun b o e hx hb => by
    rcases (hch b hb).1 with z | z
    · exact hx z
    · exact absurd (Nat.lt_of_lt_of_le (Heap.lt_size e) z) (Nat.lt_irrefl _)
  have cellK : ∀ x c, X.env.cells.lookup x = some c → ∀ v, s.heap.IsCell c v → h'.IsCell c v := fun x c e v ⟨o, ho, hd⟩ => by
    have nch : c ∉ ch := fun z => (hch c z).2.2.1 x c e rfl
    by_cases hc : c ∈ X.fs
    · obtain ⟨sl, q⟩ := slot c o (I.cne x c e) hc nch ho (I.freeC x c e)
      exact ⟨_, q, hd⟩
    · exact ⟨o, keep c o (I.cne x c e) hc nch ho (I.freeC x c e), hd⟩
  refine ⟨I.ok, I.os, hg, ⟨fun b o e n hb hx => ?_, fun b o e n hb hx => ?_, fun b o e n hx => ?_, fun b o e hx => ?_, fun b xs e => tups b xs (I.base.tups b xs e), fun b o xs e => frzs b o xs (I.base.frzs b o xs e), fun b ps e => ?_⟩, ?_, fun x c e => ?_, ?_, fun x c e => ?_, fun p hp => ?_, hok, I.len⟩
  · exact keep b o (neL b o e) hb (neC b o e hx) (I.base.keep b o e n hb hx) (I.base.free b o e n hx)
  · obtain ⟨sl, e1⟩ := I.base.slot b o e n hb hx
    obtain ⟨sl', e2⟩ := slot b _ (neL b o e) hb (neC b o e hx) e1 (I.base.free b o e n hx)
    exact ⟨sl', e2⟩
  · obtain ⟨o', e1⟩ := I.base.there b o e hx
    exact free b o' (neC b o e hx) e1 (I.base.free b o e n hx)
  · obtain ⟨o', e1⟩ := I.base.there b o e hx
    exact there b o' (neC b o e hx) e1
  · obtain ⟨m1, e1⟩ := I.base.tbls b ps e
    obtain ⟨m2, e2⟩ := tbls b _ e1
    exact ⟨m1 ++ m2, by rw [e2, Array.append_assoc]⟩
  · obtain ⟨m, hn, hl⟩ := I.loc
    refine ⟨m, ns m hn, fun i x v e1 e2 e3 => ?_⟩
    obtain ⟨u, r, l⟩ := hl i x v e1 e2 e3
    refine ⟨u, r, ?_⟩
    rcases l with l | ⟨k, c, e, z⟩
    · exact .inl l
    · exact .inr ⟨k, c, e, cellK x c e _ z⟩
  · obtain ⟨v, z⟩ := I.cell x c e
    exact ⟨v, cellK x c e v z⟩
  · obtain ⟨m, ⟨o, _, _, ho, _⟩, _⟩ := I.loc
    exact free _ o (fun z => (hch _ z).2.1 rfl) ho I.free
  · obtain ⟨v, o, ho, hd⟩ := I.cell x c e
    exact free c o (fun z => (hch c z).2.2.1 x c e rfl) ho (I.freeC x c e)
  · obtain ⟨e, n, ne, nf, d⟩ := I.pin p hp
    have nch : p.1 ∉ ch := fun z => (hch p.1 z).2.2.2 p hp rfl
    exact ⟨keep p.1 p.2 ne nf nch e n, free p.1 p.2 nch e n, ne, nf, d⟩
theorem Inv.un {t' : Nat} (I : Inv X pins σ H s) (u : Un X.fs [] H H' s.heap h') (hok : HOk X.prog X.w H' h') : Inv X pins σ H' { s with heap := h', toks := t' } := by
  obtain ⟨m, ⟨o, es, ep, ho, r⟩, _⟩ := id I.loc
  obtain ⟨sl, hL⟩ := u.any ho I.free (by simp)
  exact I.step (g' := s.gens) (d' := s.drawn) (ch := []) (fun _ z => nomatch z) (fun b o _ hb _ e n => u.keep b o e n hb (by simp)) (fun b o _ hb _ e n => u.slot b o e n hb (by simp)) (fun b o _ e n => u.free b o e n (by simp)) (fun b o _ e => u.there b o e (by simp)) u.tups u.frzs u.tbls (fun m' hm => by
    obtain ⟨o', es', ep', ho', r'⟩ := hm
    rw [ho] at ho'; cases ho'
    exact ⟨_, es', ep', hL, r'⟩) hok I.bare
theorem Inv.call {g' : Array GenState} {t' : Nat} {d' : Drawn} {ch : List Addr} (I : Inv X pins σ H s) (u : Un (frs X.stack) ch H H' s.heap h') (hok : HOk X.prog X.w H' h') (hg : AllBare g')
    (hch : ∀ b ∈ ch, (b ∈ X.ex ∨ X.s₀.heap.objs.size ≤ b) ∧ b ≠ X.env.locals ∧ (∀ x c, X.env.cells.lookup x = some c → c ≠ b) ∧ ∀ p ∈ X.pn ++ pins, p.1 ≠ b) :
    Inv X pins σ H' { s with heap := h', gens := g', drawn := d', toks := t' } := by
  obtain ⟨m, ⟨o, es, ep, ho, r⟩, _⟩ := id I.loc
  obtain ⟨sl, hL⟩ := u.any ho I.free fun z => (hch _ z).2.1 rfl
  exact I.step (ch := ch) hch (fun b o hL hb hc e n => u.keep b o e n (fun z => (List.mem_cons.mp (I.stkSub b z)).elim hL hb) hc) (fun b o _ _ hc e n => u.any e n hc) (fun b o hc e n => u.free b o e n hc) (fun b o hc e => u.there b o e hc) u.tups u.frzs u.tbls (fun m' hm => by
    obtain ⟨o', es', ep', ho', r'⟩ := hm
    rw [ho] at ho'; cases ho'
    exact ⟨_, es', ep', hL, r'⟩) hok hg
theorem Inv.turned {t' : Nat} {it : Addr} (I : Inv X pins σ H s) (k : ∀ b o, b ≠ it → s.heap.get? b = some o → h'.get? b = some o) (hn : H it = none) (hL : it ≠ X.env.locals)
    (h1 : it ∈ X.ex ∨ X.s₀.heap.objs.size ≤ it) (h2 : ∀ x c, X.env.cells.lookup x = some c → c ≠ it) (h3 : ∀ p ∈ X.pn ++ pins, p.1 ≠ it) : Inv X pins σ H { s with heap := h', toks := t' } := by
  have nit : ∀ b u, H b = some u → b ≠ it := fun b u e z => by rw [z, hn] at e; cases e
  refine I.step (g' := s.gens) (d' := s.drawn) (ch := [it]) (fun b hb => ?_) (fun b o _ _ hc e _ => k b o (fun z => hc (by simp [z])) e) (fun b o _ _ hc e _ => ⟨o.slots, k b o (fun z => hc (by simp [z])) e⟩) (fun _ _ _ _ n => n)
    (fun b o hc e => ⟨o, k b o (fun z => hc (by simp [z])) e⟩) (fun _ _ e => e) (fun _ _ _ e => e) (fun b ps e => ⟨#[], by rw [e]; simp⟩) (fun m hm => ?_) (fun b u e => ?_) I.bare
  · have e : b = it := by simpa using hb
    subst e
    exact ⟨h1, hL, h2, h3⟩
  · obtain ⟨o, es, ep, ho, r⟩ := hm
    exact ⟨o, es, ep, k _ o (Ne.symm hL) ho, r⟩
  · refine (I.hok b u e).stay (fun c v hc q => k c v ?_ q) (fun _ q => q) fun _ _ q => q
    rcases hc with z | z
    · rw [z]; exact nit b u e
    · exact nit c _ z
theorem Inv.tok (I : Inv X pins σ H s) (t : Nat) : Inv X pins σ H { s with toks := t } := I.un (h' := s.heap) (t' := t) Un.refl I.hok
theorem Inv.kept {t' : Nat} (I : Inv X pins σ H s) (k : ∀ b u, s.heap.get? b = some u → h'.get? b = some u) : Inv X pins σ H { s with heap := h', toks := t' } := I.un (Un.kept k) (I.hok.kept k)
theorem Inv.laid {a : Addr} {o : HO} {t' : Nat} (I : Inv X pins σ H s) (k : ∀ b u, s.heap.get? b = some u → h'.get? b = some u) (hp : s.heap.objs.size ≤ a) (new : ObjOk X.prog X.w (upd H a o) h' a o) :
    Inv X pins σ (upd H a o) { s with heap := h', toks := t' } := I.un (Un.laid k hp (I.hok.fresh hp)) (I.hok.laid k hp new)
theorem Inv.write {x e : Addr} {o : HO} {t' : Nat} (I : Inv X pins σ H s) (mu : Mut (H x)) (he : e = x ∨ H e = some (.own x)) (k : ∀ b u, b ≠ e → s.heap.get? b = some u → h'.get? b = some u) (heo : ∃ u, h'.get? e = some u)
    (new : ObjOk X.prog X.w (upd H x o) h' x o) : Inv X pins σ (upd H x o) { s with heap := h', toks := t' } := I.un (Un.write mu he k heo) (I.hok.write mu he k heo new)
theorem Inv.pins_of {pins' : List (Addr × Obj)} (I : Inv X pins σ H s) (h : ∀ p ∈ pins', s.heap.get? p.1 = some p.2 ∧ H p.1 = none ∧ p.1 ≠ X.env.locals ∧ p.1 ∉ X.fs ∧ ∀ v, p.2.data ≠ .cell v) : Inv X pins' σ H s :=
  ⟨I.ok, I.os, I.bare, I.base, I.loc, I.cell, I.free, I.freeC, fun p hp => (List.mem_append.mp hp).elim (fun z => I.pin p (List.mem_append_left _ z)) (h p), I.hok, I.len⟩

theorem nodup_ix {N : List Str} (hN : N.Nodup) {i j : Nat} {x : Str} (a : N[i]? = some x) (b : N[j]? = some x) : i = j := by
  obtain ⟨h1, e1⟩ := List.getElem?_eq_some_iff.mp a
  obtain ⟨h2, e2⟩ := List.getElem?_eq_some_iff.mp b
  exact (List.getElem_inj hN).mp (e1.trans e2.symm)

theorem store_ok2 {M : Model} {A : Around} {E : Value → Shared → Prop} {i : Nat} {x : Str} {v : V} {u : Value} {Q : Unit → Shared → Prop} (I : Inv X pins σ H s) (hN : X.N.Nodup) (hi : X.N[i]? = some x) (hx : Loc X.env.scope x) (r : RelV v u)
    (h : ∀ s', Inv X pins (σ.set i (some v)) H s' → (∃ a, Heap.SameBut a s.heap s'.heap ∧ (a = X.env.locals ∨ X.env.cells.lookup x = some a)) → Q () s') (hf : X.fn x = true ∨ X.env.scope.names.lookup x = some .local := by first | exact .inl rfl | exact .inr rfl | assumption) : wpAny M A (storeName X.env x u) Q E s := by
  obtain ⟨m, hn, hl⟩ := id I.loc
  have hcls : (X.env.scope.kind == .class || (X.env.scope.kind == .module && X.env.locals != X.env.globals)) = false := by rw [I.ok.kind]; rfl
  have hiσ : i < σ.length := by rw [I.len]; exact (List.getElem?_eq_some_iff.mp hi).1
  have cne := I.cne
  have tracked : ∀ {a : Addr} {h' : Heap}, (∃ o, s.heap.get? a = some o ∧ H a = none) → Heap.SameBut a s.heap h' → HOk X.prog X.w H h' := fun {a h'} ha hs b ob e => by
    obtain ⟨_, _, hfree⟩ := ha
    refine (I.hok b ob e).stay (fun c w' hc q => (hs.2 c ?_).trans q) (fun _ q => q) fun _ _ q => q
    rintro rfl
    rcases hc with rfl | hc
    · rw [hfree] at e; cases e
    · rw [hfree] at hc; cases hc
  rcases hx with hk | hk
  · refine wpAny_storeName_local hk hn (fun h' hn' hs => ?_) hcls
    obtain ⟨oL, _, _, hoL, _⟩ := id hn
    refine h _ ⟨I.ok, I.os, I.bare, ⟨fun b o e n hb hx => ?_, fun b o e n hb hx => ?_, I.base.free, fun b o e hx => ?_, I.base.tups, I.base.frzs, I.base.tbls⟩, ⟨_, hn', fun j y v' e1 e2 e3 => ?_⟩, fun y c e => ?_, I.free, I.freeC, fun p hp => ?_, tracked ⟨oL, hoL, I.free⟩ hs, by simpa using I.len⟩ ⟨_, hs, .inl rfl⟩
    · exact (hs.2 b (Nat.ne_of_lt (Nat.lt_of_lt_of_le (Heap.lt_size e) I.ok.above))).trans (I.base.keep b o e n hb hx)
    · obtain ⟨sl, e1⟩ := I.base.slot b o e n hb hx
      exact ⟨sl, (hs.2 b (Nat.ne_of_lt (Nat.lt_of_lt_of_le (Heap.lt_size e) I.ok.above))).trans e1⟩
    · obtain ⟨o', e1⟩ := I.base.there b o e hx
      exact ⟨o', (hs.2 b (Nat.ne_of_lt (Nat.lt_of_lt_of_le (Heap.lt_size e) I.ok.above))).trans e1⟩
    · by_cases hj : j = i
      · subst hj
        rw [hi] at e1; cases e1
        rw [List.getElem?_set_self hiσ] at e2
        cases e2
        exact ⟨u, r, .inl ⟨hk, by simp⟩⟩
      · rw [List.getElem?_set_ne (Ne.symm hj)] at e2
        obtain ⟨u', r', q⟩ := hl j y v' e1 e2 e3
        refine ⟨u', r', ?_⟩
        rcases q with ⟨k, e⟩ | ⟨k, c, e, z⟩
        · refine .inl ⟨k, ?_⟩
          have : y ≠ x := fun e => hj (nodup_ix hN e1 (e ▸ hi))
          simp [this, e]
        · exact .inr ⟨k, c, e, z.sameBut hs (cne y c e)⟩
    · obtain ⟨w', z⟩ := I.cell y c e
      exact ⟨w', z.sameBut hs (cne y c e)⟩
    · obtain ⟨e, n, ne, nf, d⟩ := I.pin p hp
      exact ⟨(hs.2 p.1 ne).trans e, n, ne, nf, d⟩
  · have hfn : X.fn x = true := by
      rcases hf with z | z
      · exact z
      · rw [z] at hk; cases hk
    obtain ⟨c, hc⟩ := I.ok.has x (.inl hk)
    obtain ⟨w', z⟩ := I.cell x c hc
    refine wpAny_storeName_cell I.ok.kind hk hc z (fun h' hc' hs => ?_)
    obtain ⟨oc, hoc, hocd⟩ := id z
    refine h { s with heap := h' } ⟨I.ok, I.os, I.bare, ⟨fun b o e n hb hx => ?_, fun b o e n hb hx => ?_, I.base.free, fun b o e hx => ?_, I.base.tups, I.base.frzs, I.base.tbls⟩, ⟨m, hn.sameBut hs (Ne.symm (cne x c hc)), fun j y v' e1 e2 e3 => ?_⟩, fun y c' e => ?_, I.free, I.freeC, fun p hp => ?_, tracked ⟨oc, hoc, I.freeC x c hc⟩ hs, by simpa using I.len⟩ ⟨c, hs, .inr hc⟩
    · exact (hs.2 b (Nat.ne_of_lt (Nat.lt_of_lt_of_le (Heap.lt_size e) (I.ok.cab x c hfn hc)))).trans (I.base.keep b o e n hb hx)
    · obtain ⟨sl, e1⟩ := I.base.slot b o e n hb hx
      exact ⟨sl, (hs.2 b (Nat.ne_of_lt (Nat.lt_of_lt_of_le (Heap.lt_size e) (I.ok.cab x c hfn hc)))).trans e1⟩
    · obtain ⟨o', e1⟩ := I.base.there b o e hx
      exact ⟨o', (hs.2 b (Nat.ne_of_lt (Nat.lt_of_lt_of_le (Heap.lt_size e) (I.ok.cab x c hfn hc)))).trans e1⟩
    · by_cases hj : j = i
      · subst hj
        rw [hi] at e1; cases e1
        rw [List.getElem?_set_self hiσ] at e2
        cases e2
        exact ⟨u, r, .inr ⟨.inl hk, c, hc, hc'⟩⟩
      · rw [List.getElem?_set_ne (Ne.symm hj)] at e2
        obtain ⟨u', r', q⟩ := hl j y v' e1 e2 e3
        refine ⟨u', r', ?_⟩
        rcases q with q | ⟨k, c', e, z'⟩
        · exact .inl q
        · refine .inr ⟨k, c', e, z'.sameBut hs ?_⟩
          rintro rfl
          exact hj (nodup_ix hN e1 (I.ok.inj _ _ _ e hc ▸ hi))
    · by_cases hcc : c' = c
      · subst hcc; exact ⟨_, hc'⟩
      · obtain ⟨w2, z2⟩ := I.cell y c' e
        exact ⟨w2, z2.sameBut hs hcc⟩
    · obtain ⟨e, n, ne, nf, d⟩ := I.pin p hp
      refine ⟨(hs.2 p.1 ?_).trans e, n, ne, nf, d⟩
      intro q
      rw [q, hoc] at e
      have q' : oc = p.2 := Option.some.inj e
      exact d w' (by rw [← q']; exact hocd)
theorem store_ok {M : Model} {A : Around} {E : Value → Shared → Prop} {i : Nat} {x : Str} {v : V} {u : Value} {Q : Unit → Shared → Prop} (I : Inv X pins σ H s) (hN : X.N.Nodup) (hi : X.N[i]? = some x) (hx : Loc X.env.scope x) (r : RelV v u)
    (h : ∀ s', Inv X pins (σ.set i (some v)) H s' → Q () s') (hf : X.fn x = true ∨ X.env.scope.names.lookup x = some .local := by first | exact .inl rfl | exact .inr rfl | assumption) : wpAny M A (storeName X.env x u) Q E s :=
  store_ok2 I hN hi hx r (fun s' I' _ => h s' I') hf
theorem Inv.call' {s' : Shared} {ch : List Addr} (I : Inv X pins σ H s) (ho : s'.os = s.os) (u : Un (frs X.stack) ch H H' s.heap s'.heap) (hok : HOk X.prog X.w H' s'.heap) (hg : AllBare s'.gens)
    (hch : ∀ b ∈ ch, (b ∈ X.ex ∨ X.s₀.heap.objs.size ≤ b) ∧ b ≠ X.env.locals ∧ (∀ x c, X.env.cells.lookup x = some c → c ≠ b) ∧ ∀ p ∈ X.pn ++ pins, p.1 ≠ b) : Inv X pins σ H' s' := by
  obtain ⟨h', g', d', t', o'⟩ := s'
  have e : o' = s.os := ho
  subst e
  exact I.call (g' := g') (t' := t') (d' := d') u hok hg hch
end

noncomputable abbrev XK := Value → Option Addr → Hp → Prop
noncomputable abbrev St := List (Option V)
noncomputable abbrev VK := V → Hp → Prop
noncomputable abbrev TE := St → Hp → VK → Prop
noncomputable abbrev TT := St → Hp → (Bool → Hp → Prop) → Prop
noncomputable abbrev TA := St → Hp → (List V → Hp → Prop) → Prop
structure Ends where
  nx : St → Hp → Prop
  rt : VK
  bk : St → Hp → Prop := fun _ _ => False
  ct : St → Hp → Prop := fun _ _ => False
noncomputable abbrev TS := Ends → St → Hp → Prop

noncomputable def EP (X : Cx) (pins : List (Addr × Obj)) (σ : St) (Q : VK) (u : Value) (s' : Shared) : Prop := ∃ v H', Inv X pins σ H' s' ∧ RelV v u ∧ Q v H'
noncomputable def TP (X : Cx) (pins : List (Addr × Obj)) (σ : St) (Q : Bool → Hp → Prop) (b : Bool) (s' : Shared) : Prop := ∃ H', Inv X pins σ H' s' ∧ Q b H'
noncomputable def AP (X : Cx) (pins : List (Addr × Obj)) (σ : St) (Q : List V → Hp → Prop) (us : List Value) (s' : Shared) : Prop := ∃ vs H', Inv X pins σ H' s' ∧ Vals vs us ∧ Q vs H'
noncomputable def SP (X : Cx) (pins : List (Addr × Obj)) (D : Ends) (f : Flow) (s' : Shared) : Prop :=
  match f with
  | .next => ∃ σ' H', Inv X pins σ' H' s' ∧ D.nx σ' H'
  | .brk => ∃ σ' H', Inv X pins σ' H' s' ∧ D.bk σ' H'
  | .cont => ∃ σ' H', Inv X pins σ' H' s' ∧ D.ct σ' H'
  | .ret u => ∃ v σ' H', Inv X pins σ' H' s' ∧ RelV v u ∧ D.rt v H'

noncomputable def PE (X : Cx) (e : Expr) (t : TE) : Prop :=
  ∀ (pins : List (Addr × Obj)) (s : Shared) (σ : St) (H : Hp) (Q : VK), Inv X pins σ H s → t σ H Q → wpAny (model X.prog X.w) X.A (eval e X.env) (EP X pins σ Q) X.xe s
noncomputable def PT (X : Cx) (e : Expr) (t : TT) : Prop :=
  ∀ (pins : List (Addr × Obj)) (s : Shared) (σ : St) (H : Hp) (Q : Bool → Hp → Prop), Inv X pins σ H s → t σ H Q → wpAny (model X.prog X.w) X.A (isTrue e X.env (eval e X.env)) (TP X pins σ Q) X.xe s
noncomputable def PW (X : Cx) (e : Expr) (t : TT) : Prop :=
  ∀ (whole : Sem Value) (pins : List (Addr × Obj)) (s : Shared) (σ : St) (H : Hp) (Q : Bool → Hp → Prop), Inv X pins σ H s → t σ H Q → wpAny (model X.prog X.w) X.A (isTrue e X.env whole) (TP X pins σ Q) X.xe s
theorem PW.pt {X : Cx} {e : Expr} {t : TT} (h : PW X e t) : PT X e t := h _
noncomputable def PA (X : Cx) (es : List Expr) (t : TA) : Prop :=
  ∀ (pos : Pos) (pins : List (Addr × Obj)) (s : Shared) (σ : St) (H : Hp) (Q : List V → Hp → Prop), Inv X pins σ H s → t σ H Q → wpAny (model X.prog X.w) X.A (spliced (backTo pos (starEach es X.env))) (AP X pins σ Q) X.xe s
noncomputable def PS (X : Cx) (st : Stmt) (t : TS) : Prop :=
  ∀ (pins : List (Addr × Obj)) (s : Shared) (σ : St) (H : Hp) (D : Ends), Inv X pins σ H s → t D σ H → wpAny (model X.prog X.w) X.A (exec st X.env) (SP X pins D) X.xe s
noncomputable def PSs (X : Cx) (st : List Stmt) (t : TS) : Prop :=
  ∀ (pins : List (Addr × Obj)) (s : Shared) (σ : St) (H : Hp) (D : Ends), Inv X pins σ H s → t D σ H → wpAny (model X.prog X.w) X.A (execs st X.env) (SP X pins D) X.xe s
theorem thn {α : Type} {t : Sem α} {Q Q' : α → Shared → Prop} {M : Model} {A : Around} {E : Value → Shared → Prop} {s : Shared} (h : wpAny M A t Q E s) (hQ : ∀ a s, Q a s → Q' a s) : wpAny M A t Q' E s := wpAny_mono h hQ fun _ _ x => x
end L2

namespace L2
open PySem PySem.Spec PyProof.Rows
section
variable {X : Cx}

theorem bin {a b : Expr} {ta tb : TE} (ha : PE X a ta) (hb : PE X b tb) {pins : List (Addr × Obj)} {s : Shared} {σ : St} {H : Hp} {R : V → V → Hp → Prop} (I : Inv X pins σ H s) (h : ta σ H fun x H1 => tb σ H1 fun y H2 => R x y H2)
    {α : Type} {Q : α → Shared → Prop} {f : Value → Value → Sem α}
    (hf : ∀ v u s2 x y H2, Inv X pins σ H2 s2 → RelV x v → RelV y u → R x y H2 → wpAny (model X.prog X.w) X.A (f v u) Q X.xe s2) :
    wpAny (model X.prog X.w) X.A (eval a X.env) (fun v s₁ => wpAny (model X.prog X.w) X.A (eval b X.env) (fun u s₂ => wpAny (model X.prog X.w) X.A (f v u) Q X.xe s₂) X.xe s₁) X.xe s := by
  refine thn (ha pins s σ H _ I h) fun v s1 ⟨x, H1, I1, r1, q1⟩ => ?_
  refine thn (hb pins s1 σ H1 _ I1 q1) fun u s2 ⟨y, H2, I2, r2, q2⟩ => ?_
  exact hf v u s2 x y H2 I2 r1 r2 q2

noncomputable def tVar (i : Nat) : TE := fun σ H Q => ∃ v, σ[i]? = some (some v) ∧ Q v H
noncomputable def tC (v : V) : TE := fun _ H Q => Q v H
theorem pe_var {i : Nat} {x : Str} {pos : Pos} (hN : X.N[i]? = some x) (hv : Vis X.env.scope x) (hd : (x == ("__debug__" : Str)) = false := by decide) (hcd : (x == ("__classdict__" : Str)) = false := by decide) : PE X (.Name x pos) (tVar i) := by
  intro pins s σ H Q I h
  obtain ⟨v, e, h⟩ := h
  obtain ⟨m, hn, hl⟩ := I.loc
  obtain ⟨u, r, l⟩ := hl i x v hN e hv
  have fin : EP X pins σ Q u s := ⟨v, H, I, r, h⟩
  rcases l with ⟨hk, hm⟩ | ⟨hk, c, hc, hcell⟩
  · exact wpAny_Name (wpAny_loadName_local I.ok.kind hk hn hm fin) hd
  · rcases hk with hk | hk
    · exact wpAny_Name (wpAny_loadName_cell I.ok.kind hk hc hcell fin) hd
    · exact wpAny_Name (wpAny_loadName_free I.ok.kind hk hc hcell fin hcd) hd
theorem pe_int {i j pos} : PE X (.Constant (.int i) j pos) (tC (.int i)) := fun _ _ _ H _ I h => wpAny_Constant_int ⟨.int i, H, I.tok _, ⟨_, rfl⟩, h⟩
theorem pe_bl {b j pos} : PE X (.Constant (.bool b) j pos) (tC (.bl b)) := fun _ _ _ H _ I h => Constant_bool ⟨.bl b, H, I, rfl, h⟩
theorem pe_non {j pos} : PE X (.Constant .none j pos) (tC .non) := fun _ _ _ H _ I h => Constant_none ⟨.non, H, I, rfl, h⟩
theorem pe_str {x j pos} : PE X (.Constant (.str x) j pos) (tC (.str x)) := fun _ _ _ H _ I h => Calls.Constant_str ⟨.str x, H, I.tok _, ⟨_, rfl⟩, h⟩

noncomputable def Gl (X : Cx) (x : Str) : Prop := X.env.kindOf x = some .globalImplicit
theorem ld_glob {E : Value → Shared → Prop} {pins : List (Addr × Obj)} {s : Shared} {σ : St} {H : Hp} {x : Str} {u : Value} {pos : Pos} {Q : Value → Shared → Prop} (I : Inv X pins σ H s) (hg : Gl X x) (hm : X.mg x = some u) (h : Q u s)
    (hd : (x == ("__debug__" : Str)) = false := by decide) : wpAny (model X.prog X.w) X.A (eval (.Name x pos) X.env) Q E s :=
  Calls.Name_function_global I.ok.kind hg (Calls.loadGlobal_global (by rw [I.ok.glob]; exact I.mod.glob.keeps I.bk) hm h) hd
theorem ld_blt {E : Value → Shared → Prop} {pins : List (Addr × Obj)} {s : Shared} {σ : St} {H : Hp} {x : Str} {u : Value} {pos : Pos} {Q : Value → Shared → Prop} (I : Inv X pins σ H s) (hg : Gl X x) (hm : X.mg x = none) (hv : bootBuiltins x = some u) (h : Q u s)
    (hn : x ≠ "__name__" := by decide) (hd : (x == ("__debug__" : Str)) = false := by decide) : wpAny (model X.prog X.w) X.A (eval (.Name x pos) X.env) Q E s := by
  obtain ⟨mb, h1, h2⟩ := I.mod.blt
  exact Calls.Name_function_global I.ok.kind hg (Calls.loadGlobal_builtin (by rw [I.ok.glob]; exact I.mod.glob.keeps I.bk) hm (by rw [I.ok.blt]; exact h1.keeps I.bk) ((h2 x hn).trans hv) h) hd
theorem pe_bltn {x : Str} {v : V} {u : Value} {pos : Pos} (hg : Gl X x) (hm : X.mg x = none) (hv : bootBuiltins x = some u) (r : RelV v u) (hn : x ≠ "__name__" := by decide) (hd : (x == ("__debug__" : Str)) = false := by decide) : PE X (.Name x pos) (tC v) :=
  fun _ _ _ H _ I h => ld_blt I hg hm hv ⟨v, H, I, r, h⟩ hn hd

noncomputable def t2I (ta tb : TE) (k : Int → Int → Hp → Prop) : St → Hp → Prop := fun σ H => ta σ H fun x H1 => tb σ H1 fun y H2 => ∃ i j, x = .int i ∧ y = .int j ∧ k i j H2
variable {a b : Expr} {ta tb : TE} {pos : Pos}
noncomputable def PC (X : Cx) (op : CmpOp) (a b : Expr) (t : TE) : Prop :=
  ∀ (pins : List (Addr × Obj)) (s : Shared) (σ : St) (H : Hp) (Q : VK), Inv X pins σ H s → t σ H Q →
    wpAny (model X.prog X.w) X.A (eval a X.env) (fun v s₁ => wpAny (model X.prog X.w) X.A (eval b X.env) (fun u s₂ => wpAny (model X.prog X.w) X.A (compareOp op v u) (EP X pins σ Q) X.xe s₂) X.xe s₁) X.xe s
theorem nobehind (b : Expr) {op : CmpOp} (h : op ≠ .In) (h2 : op ≠ .NotIn) : behindInMarks op b = false := by
  have e1 : (op == CmpOp.In) = false := by cases op <;> first | rfl | exact absurd rfl h
  have e2 : (op == CmpOp.NotIn) = false := by cases op <;> first | rfl | exact absurd rfl h2
  cases b <;> simp [behindInMarks, e1, e2]
noncomputable def tCmp (p : Int → Int → Bool) (ta tb : TE) : TE := fun σ H Q => t2I ta tb (fun i j H2 => Q (.bl (p i j)) H2) σ H
noncomputable abbrev tLt : TE → TE → TE := tCmp fun i j => decide (i < j)
noncomputable abbrev tLe : TE → TE → TE := tCmp fun i j => decide (i ≤ j)
noncomputable abbrev tGt : TE → TE → TE := tCmp fun i j => decide (j < i)
noncomputable abbrev tGe : TE → TE → TE := tCmp fun i j => decide (j ≤ i)
noncomputable abbrev tEqI : TE → TE → TE := tCmp fun i j => decide (i = j)
noncomputable abbrev tNeI : TE → TE → TE := tCmp fun i j => !decide (i = j)
noncomputable def tB (t : TE) : TT := fun σ H Q => t σ H fun x H1 => ∃ c, x = .bl c ∧ Q c H1
theorem pt_cmp {op : CmpOp} {t : TE} (h : PC X op a b t) (h1 : behindInMarks op b = false := by first | exact nobehind _ (by decide) (by decide) | rfl) : PT X (.Compare a [op] [b] pos) (tB t) := by
  intro pins s σ H Q I hw
  refine wpAny_isTrue_Compare1 (thn (h pins s σ H _ I hw) fun v s1 h1 => thn h1 fun u s2 h2 => thn h2 fun c s3 hzq => ?_) h1
  obtain ⟨x, H1, I1, r1, q1⟩ := hzq
  obtain ⟨d, rfl, q⟩ := q1
  cases r1
  exact wpAny_truthy_bool ⟨H1, I1, q⟩
theorem pt_val {e : Expr} {t : TE} (h : PE X e t) (he : ∀ whole, isTrue e X.env whole = (do let v ← whole; standAt e.pos; holding [v] (truthy v)) := by intro _; rfl) : PT X e (tB t) := by
  intro pins s σ H Q I hw
  refine isTrue_plain (thn (h pins s σ H _ I hw) fun v s1 hzq => ?_) (he _)
  obtain ⟨x, H1, I1, r1, q1⟩ := hzq
  obtain ⟨d, rfl, q⟩ := q1
  cases r1
  exact wpAny_truthy_bool ⟨H1, I1, q⟩

variable {tA tB' : TT} {rest : List Expr}
noncomputable def tOr (t u : TT) : TT := fun σ H Q => t σ H fun c H1 => if c = true then Q true H1 else u σ H1 Q
noncomputable def tNot (t : TT) : TT := fun σ H Q => t σ H fun c H1 => Q (!c) H1
theorem pw_or1 (ha : PT X a tA) : PW X (.BoolOp .Or [a] pos) tA := by
  intro wh pins s σ H Q I h
  refine isTrue_or (thn (ha pins s σ H Q I h) fun c s1 e => ?_)
  cases c with
  | false => exact isTrue_or_nil e
  | true => exact e
theorem pw_or (ha : PT X a tA) (hb : PW X (.BoolOp .Or (b :: rest) pos) tB') : PW X (.BoolOp .Or (a :: b :: rest) pos) (tOr tA tB') := by
  intro wh pins s σ H Q I h
  refine isTrue_or (thn (ha pins s σ H _ I h) fun c s1 hzq => ?_)
  obtain ⟨H1, I1, q1⟩ := hzq
  cases c with
  | true => exact ⟨H1, I1, q1⟩
  | false => exact hb wh pins s1 σ H1 Q I1 q1
theorem pt_not (ha : PT X a tA) : PT X (.UnaryOp .Not a pos) (tNot tA) := by
  intro pins s σ H Q I h
  exact isTrue_not (ha pins s σ H (fun c H1 => Q (!c) H1) I h)
noncomputable def tAndV (ta tb : TE) : TE := fun σ H Q => ta σ H fun x H1 => ∃ c, x = .bl c ∧ if c = true then tb σ H1 Q else Q (.bl false) H1
noncomputable def tNotV (ta : TE) : TE := fun σ H Q => ta σ H fun x H1 => ∃ c, x = .bl c ∧ Q (.bl (!c)) H1
theorem pe_one {op} {t : TE} (h : PE X a t) : PE X (.BoolOp op [a] pos) t := fun pins s σ H Q I hw => BoolOp_one (h pins s σ H Q I hw)
theorem pe_and (ha : PE X a ta) (hb : PE X (.BoolOp .And (b :: rest) pos) tb) : PE X (.BoolOp .And (a :: b :: rest) pos) (tAndV ta tb) := by
  intro pins s σ H Q I h
  refine BoolOp_and (thn (ha pins s σ H _ I h) fun v s1 hzq => ?_)
  obtain ⟨x, H1, I1, r1, q1⟩ := hzq
  obtain ⟨c, rfl, q1⟩ := q1
  cases r1
  refine wpAny_truthy_bool ?_
  cases c with
  | true => exact hb pins s1 σ H1 Q I1 q1
  | false => exact ⟨.bl false, H1, I1, rfl, q1⟩
theorem pe_not (ha : PE X a ta) : PE X (.UnaryOp .Not a pos) (tNotV ta) := by
  intro pins s σ H Q I h
  refine UnaryOp_ (thn (ha pins s σ H _ I h) fun v s1 hzq => ?_)
  obtain ⟨x, H1, I1, r1, q1⟩ := hzq
  obtain ⟨c, rfl, q1⟩ := q1
  cases r1
  exact not_of (wpAny_truthy_bool ⟨.bl (!c), H1, I1, rfl, q1⟩)
noncomputable def tIf (t : TT) (ta tb : TE) : TE := fun σ H Q => t σ H fun c H1 => if c = true then ta σ H1 Q else tb σ H1 Q
theorem pe_ifExp {c : Expr} (hc : PT X c tA) (ha : PE X a ta) (hb : PE X b tb) : PE X (.IfExp c a b pos) (tIf tA ta tb) := by
  intro pins s σ H Q I h
  refine wpAny_IfExp (thn (hc pins s σ H _ I h) fun d s1 hzq => ?_)
  obtain ⟨H1, I1, q1⟩ := hzq
  cases d with
  | true => exact ha pins s1 σ H1 Q I1 q1
  | false => exact hb pins s1 σ H1 Q I1 q1
end
end L2

namespace L2
open PySem PySem.Spec PyProof.Rows

noncomputable def SqL (K : PySem.W.Frag) (H : Hp) (a : Addr) (xs : List V) : Prop :=
  Rd H a (.lst xs) ∨
    ∃ (o : Obj) (its : Array Value) (n : Nat), K.lookup a = some o ∧ o.cls = .type "list" ∧ o.dict = none ∧ o.data = .seq its n ∧ its.size ≤ sizeLine ∧ Vals xs its.toList
noncomputable def SqT (K : PySem.W.Frag) (H : Hp) (a : Addr) (xs : List V) : Prop :=
  Rd H a (.tup xs) ∨
    ∃ (o : Obj) (its : Array Value) (n : Nat), K.lookup a = some o ∧ o.cls = .type "tuple" ∧ o.data = .seq its n ∧ its.size ≤ sizeLine ∧ Vals xs its.toList
noncomputable def absV : Value → Option V
  | .none => some .non
  | .bool b => some (.bl b)
  | .int i _ => some (.int i)
  | .str x _ => some (.str x)
  | .bytes b _ => some (.byt b)
  | .float b _ => some (.flt b)
  | .ref a => some (.ref a)
  | .type n => some (.ty n)
  | _ => none
theorem RelV.abs {x : V} {u : Value} (r : RelV x u) : absV u = some x := by
  cases x with
  | non => cases r; rfl
  | bl _ => cases r; rfl
  | int _ => obtain ⟨t, rfl⟩ := r; rfl
  | str _ => obtain ⟨t, rfl⟩ := r; rfl
  | byt _ => obtain ⟨t, rfl⟩ := r; rfl
  | flt _ => obtain ⟨t, rfl⟩ := r; rfl
  | ref _ => cases r; rfl
  | ty _ => cases r; rfl
theorem RelV.inj {x y : V} {u : Value} (r : RelV x u) (q : RelV y u) : x = y := Option.some.inj (r.abs.symm.trans q.abs)
theorem Vals.inj : ∀ {xs ys : List V} {us : List Value}, Vals xs us → Vals ys us → xs = ys
  | _, _, _, .nil, .nil => rfl
  | _, _, _, .cons r t, .cons r' t' => by rw [r.inj r', Vals.inj t t']
section
variable {X : Cx} {pins : List (Addr × Obj)} {σ : St} {H : Hp} {s : Shared} {a : Addr} {xs ys : List V}
theorem SqL.of {K : PySem.W.Frag} (h : H a = some (.lst xs)) : SqL K H a xs := .inl (.inl h)
theorem SqT.of {K : PySem.W.Frag} (h : H a = some (.tup xs)) : SqT K H a xs := .inl (.inl h)
theorem Inv.list (I : Inv X pins σ H s) (h : SqL X.K H a xs) : ∃ its : List Value, Vals xs its ∧ PlainL s.heap a its.toArray ∧ xs.length ≤ sizeLine := by
  rcases h with h | ⟨o, its, n, hk, hc, hd, hs, hz, r⟩
  · obtain ⟨z, its, n, r, e⟩ := h.ok I.hok
    exact ⟨its, r, ⟨_, n, e, rfl, rfl, rfl⟩, z⟩
  · refine ⟨its.toList, r, ⟨o, n, I.kIn a o hk, hc, hd, by simpa using hs⟩, ?_⟩
    have e := r.length
    simp only [Array.length_toList] at e
    omega
theorem Inv.tuple (I : Inv X pins σ H s) (h : SqT X.K H a xs) : ∃ its : List Value, Vals xs its ∧ IsTup s.heap a its.toArray ∧ xs.length ≤ sizeLine := by
  rcases h with h | ⟨o, its, n, hk, hc, hs, hz, r⟩
  · obtain ⟨z, its, r, p⟩ := h.ok I.hok
    exact ⟨its, r, p, z⟩
  · refine ⟨its.toList, r, ⟨o, I.kIn a o hk, hc, n, by simpa using hs⟩, ?_⟩
    have e := r.length
    simp only [Array.length_toList] at e
    omega
theorem Inv.list_inj (I : Inv X pins σ H s) (h : SqL X.K H a xs) (h' : SqL X.K H a ys) : xs = ys := by
  obtain ⟨its, r, ⟨o, n, e, _, _, d⟩, _⟩ := I.list h
  obtain ⟨its', r', ⟨o', n', e', _, _, d'⟩, _⟩ := I.list h'
  rw [e] at e'; cases e'
  rw [d] at d'
  injection d' with d1 _
  have : its = its' := by simpa using congrArg Array.toList d1
  subst this
  exact r.inj r'
theorem Inv.tuple_inj (I : Inv X pins σ H s) (h : SqT X.K H a xs) (h' : SqT X.K H a ys) : xs = ys := by
  obtain ⟨its, r, ⟨o, e, _, n, d⟩, _⟩ := I.tuple h
  obtain ⟨its', r', ⟨o', e', _, n', d'⟩, _⟩ := I.tuple h'
  rw [e] at e'; cases e'
  rw [d] at d'
  injection d' with d1 _
  have : its = its' := by simpa using congrArg Array.toList d1
  subst this
  exact r.inj r'
end

noncomputable abbrev Cx.wish (X : Cx) (E : Value → Shared → Prop) : Cx := { X with xe := E }
noncomputable abbrev Cx.nox (X : Cx) : Cx := X.wish fun _ _ => False
theorem Cx.Ok.wish {X : Cx} (ok : X.Ok) (E : Value → Shared → Prop) : (X.wish E).Ok :=
  ⟨ok.mod, ok.kind, ok.glob, ok.blt, ok.above, ok.inj, ok.has, ok.cab, ok.hd, ok.frames, ok.stk, ok.exf, ok.bs, ok.bsz, ok.noex, ok.exfs, ok.funs, ok.frf⟩
theorem Cx.Ok.unwish {X : Cx} {E : Value → Shared → Prop} (ok : (X.wish E).Ok) : X.Ok :=
  ⟨ok.mod, ok.kind, ok.glob, ok.blt, ok.above, ok.inj, ok.has, ok.cab, ok.hd, ok.frames, ok.stk, ok.exf, ok.bs, ok.bsz, ok.noex, ok.exfs, ok.funs, ok.frf⟩
section
variable {X : Cx} {pins : List (Addr × Obj)} {σ : St} {H : Hp} {s : Shared} {E : Value → Shared → Prop}
theorem Inv.wish (I : Inv X pins σ H s) (E : Value → Shared → Prop) : Inv (X.wish E) pins σ H s := ⟨I.ok.wish E, I.os, I.bare, I.base, I.loc, I.cell, I.free, I.freeC, I.pin, I.hok, I.len⟩
theorem Inv.unwish (I : Inv (X.wish E) pins σ H s) : Inv X pins σ H s := ⟨I.ok.unwish, I.os, I.bare, I.base, I.loc, I.cell, I.free, I.freeC, I.pin, I.hok, I.len⟩
theorem SP.unwish {D : Ends} {f : Flow} {s' : Shared} (h : SP (X.wish E) pins D f s') : SP X pins D f s' := by
  cases f with
  | next => obtain ⟨σ', H', I, q⟩ := h; exact ⟨σ', H', I.unwish, q⟩
  | brk => obtain ⟨σ', H', I, q⟩ := h; exact ⟨σ', H', I.unwish, q⟩
  | cont => obtain ⟨σ', H', I, q⟩ := h; exact ⟨σ', H', I.unwish, q⟩
  | ret u => obtain ⟨v, σ', H', I, r, q⟩ := h; exact ⟨v, σ', H', I.unwish, r, q⟩
theorem PE.nox {e : Expr} {t : TE} (h : PE X.nox e t) : PE X e t := fun pins s σ H Q I hw =>
  wpAny_mono (h pins s σ H Q (I.wish _) hw) (fun _ _ ⟨v, H', I', r, q⟩ => ⟨v, H', I'.unwish, r, q⟩) fun _ _ z => False.elim z
theorem PT.nox {e : Expr} {t : TT} (h : PT X.nox e t) : PT X e t := fun pins s σ H Q I hw =>
  wpAny_mono (h pins s σ H Q (I.wish _) hw) (fun _ _ ⟨H', I', q⟩ => ⟨H', I'.unwish, q⟩) fun _ _ z => False.elim z
theorem PSs.nox {st : List Stmt} {t : TS} (h : PSs X.nox st t) : PSs X st t := fun pins s σ H D I hw =>
  wpAny_mono (h pins s σ H D (I.wish _) hw) (fun _ _ q => q.unwish) fun _ _ z => False.elim z
end

section
variable {X : Cx} {st : Stmt} {rest : List Stmt} {t u : TS} {e : Expr} {te : TE} {pos : Pos}
noncomputable def tNext : TS := fun D σ H => D.nx σ H
noncomputable def tSeq (t u : TS) : TS := fun D σ H => t { D with nx := u D } σ H
theorem pss_nil : PSs X [] tNext := fun _ _ σ H _ I h => wpAny_execs_nil ⟨σ, H, I, h⟩
theorem pss_cons (h1 : PS X st t) (h2 : PSs X rest u) : PSs X (st :: rest) (tSeq t u) := by
  intro pins s σ H D I h
  refine wpAny_execs_cons (thn (h1 pins s σ H { D with nx := u D } I h) fun f s1 q => ?_)
  cases f with
  | next =>
    obtain ⟨σ', H', I', q⟩ := q
    exact h2 pins s1 σ' H' D I' q
  | ret v => exact q
  | brk => exact q
  | cont => exact q
theorem pss_one (h1 : PS X st t) : PSs X [st] t := by
  intro pins s σ H D I h
  refine wpAny_execs_cons (thn (h1 pins s σ H D I h) fun f s1 q => ?_)
  cases f with
  | next => exact wpAny_execs_nil q
  | ret v => exact q
  | brk => exact q
  | cont => exact q
theorem ps_pass : PS X (.Pass pos) tNext := fun _ _ σ H _ I h => wpAny_Pass ⟨σ, H, I, h⟩
theorem Inv.quiet {pins : List (Addr × Obj)} {σ : St} {H : Hp} {s : Shared} (I : Inv X pins σ H s) : interactive X.env = false := by simp [interactive, I.ok.kind]
noncomputable def tDrop (te : TE) : TS := fun D σ H => te σ H fun _ H1 => D.nx σ H1
theorem ps_expr (he : PE X e te) (hs : swapsWith e none pos.line X.env = pure false := by rfl) : PS X (.Expr e pos) (tDrop te) := by
  intro pins s σ H D I h
  exact wpAny_Expr_any (thn (he pins s σ H _ I h) fun v s1 ⟨x, H1, I1, r1, q1⟩ => ⟨σ, H1, I1, q1⟩) I.quiet hs
noncomputable def tRet (te : TE) : TS := fun D σ H => te σ H D.rt
theorem ps_ret (he : PE X e te) : PS X (.Return (some e) pos) (tRet te) := by
  intro pins s σ H D I h
  exact wpAny_Return_some (thn (he pins s σ H _ I h) fun v s1 ⟨x, H1, I1, r1, q1⟩ => ⟨x, σ, H1, I1, r1, q1⟩)
noncomputable def tIfS (c : TT) (t u : TS) : TS := fun D σ H => c σ H fun b H1 => if b = true then t D σ H1 else u D σ H1
theorem ps_if {c : Expr} {a b : List Stmt} {tc : TT} (hc : PT X c tc) (ha : PSs X a t) (hb : PSs X b u) : PS X (.If c a b pos) (tIfS tc t u) := by
  intro pins s σ H D I h
  refine wpAny_If (thn (hc pins s σ H _ I h) fun d s1 hzq => ?_)
  obtain ⟨H1, I1, q1⟩ := hzq
  cases d with
  | true => exact ha pins s1 σ H1 D I1 q1
  | false => exact hb pins s1 σ H1 D I1 q1
end

noncomputable abbrev TG := V → St → Hp → (St → Hp → Prop) → Prop
noncomputable abbrev TGs := List V → St → Hp → (St → Hp → Prop) → Prop
noncomputable def PG (X : Cx) (target : Expr) (t : TG) : Prop :=
  ∀ (pins : List (Addr × Obj)) (s : Shared) (σ : St) (H : Hp) (v : V) (u : Value) (Q : St → Hp → Prop), Inv X pins σ H s → RelV v u → t v σ H Q →
    wpAny (model X.prog X.w) X.A (assign target X.env u) (fun _ s' => ∃ σ' H', Inv X pins σ' H' s' ∧ Q σ' H') X.xe s
noncomputable abbrev TSet := V → V → V → Hp → (Hp → Prop) → Prop
noncomputable def PSet (X : Cx) (t : TSet) : Prop :=
  ∀ (pins : List (Addr × Obj)) (s : Shared) (σ : St) (H : Hp) (o i v : V) (ov iv u : Value) (Q : Hp → Prop), Inv X pins σ H s → RelV o ov → RelV i iv → RelV v u → t o i v H Q →
    wpAny (model X.prog X.w) X.A (setItem ov iv u) (fun _ s' => ∃ H', Inv X pins σ H' s' ∧ Q H') X.xe s
noncomputable abbrev TIp := V → V → Hp → VK → Prop
section
variable {X : Cx} {pos : Pos}
noncomputable def gName (i : Nat) : TG := fun v σ H Q => Q (σ.set i (some v)) H
theorem pg_name {i : Nat} {x : Str} (hN : X.N.Nodup) (hi : X.N[i]? = some x) (hx : Loc X.env.scope x) (hf : X.fn x = true ∨ X.env.scope.names.lookup x = some .local := by first | exact .inl rfl | exact .inr rfl | assumption) : PG X (.Name x pos) (gName i) := by
  intro pins s σ H v u Q I r h
  exact wpAny_assign_Name (store_ok I hN hi hx r (fun s' I' => ⟨_, H, I', h⟩) hf)
noncomputable def gSub (to ti : TE) (t : TSet) : TG := fun v σ H Q => to σ H fun o H1 => ti σ H1 fun i H2 => t o i v H2 fun H3 => Q σ H3
theorem pg_sub {o i : Expr} {to ti : TE} {t : TSet} (ho : PE X o to) (hi : PE X i ti) (hs : PSet X t)
    (ha : ∀ v, assign (.Subscript o i pos) X.env v = (do
      let ov ← holding [v] (eval o X.env)
      let iv ← holding [v, ov] (eval i X.env)
      standAt pos
      holding [v, ov, iv] (setItem ov iv v)
      release [v, ov, iv] []) := by intro _; rfl) : PG X (.Subscript o i pos) (gSub to ti t) := by
  intro pins s σ H v u Q I r h
  rw [ha]
  refine wpAny_bind (wpAny_holding (thn (ho pins s σ H _ I h) fun ov s1 hzq => ?_))
  obtain ⟨x, H1, I1, r1, q1⟩ := hzq
  refine wpAny_bind (wpAny_holding (thn (hi pins s1 σ H1 _ I1 q1) fun iv s2 hzq => ?_))
  obtain ⟨y, H2, I2, r2, q2⟩ := hzq
  refine wpAny_bind (wpAny_standAt (wpAny_bind (wpAny_holding (thn (hs pins s2 σ H2 x y v ov iv u _ I2 r1 r2 r q2) fun _ s3 hzq => ?_))))
  obtain ⟨H3, I3, q3⟩ := hzq
  exact wpAny_release ⟨σ, H3, I3, q3⟩
noncomputable def tAsg (te : TE) (g : TG) : TS := fun D σ H => te σ H fun x H1 => g x σ H1 D.nx
theorem ps_asg {tg e : Expr} {te : TE} {g : TG} (he : PE X e te) (hg : PG X tg g) (hs : swapsWithSole [tg] e pos.line X.env = pure false := by rfl) (hw : swappedStores [tg] e X.env = pure none := by rfl)
    (h1 : (assignEach [tg] X.env).map (·.2) = [assign tg X.env] := by rfl) : PS X (.Assign [tg] e pos) (tAsg te g) := by
  intro pins s σ H D I h
  refine wpAny_Assign_stores (thn (he pins s σ H _ I h) fun v s1 hzq => ?_) hs hw
  obtain ⟨x, H1, I1, r1, q1⟩ := hzq
  rw [h1]
  exact thn (hg pins s1 σ H1 x v _ I1 r1 q1) fun _ s2 q => q
theorem ps_set {i : Nat} {x : Str} {e : Expr} {te : TE} {pos' : Pos} (hN : X.N.Nodup) (hi : X.N[i]? = some x) (hx : Loc X.env.scope x) (he : PE X e te) (hs : swapsWith e (some (.Name x pos')) pos.line X.env = pure false := by rfl) (hf : X.fn x = true ∨ X.env.scope.names.lookup x = some .local := by first | exact .inl rfl | exact .inr rfl | assumption) :
    PS X (.Assign [.Name x pos'] e pos) (tAsg te (gName i)) := by
  intro pins s σ H D I h
  refine wpAny_Assign_Name (thn (he pins s σ H _ I h) fun v s1 hzq => ?_) hs
  obtain ⟨y, H1, I1, r1, q1⟩ := hzq
  exact store_ok I1 hN hi hx r1 (fun s2 I2 => ⟨_, H1, I2, q1⟩) hf
end

section
variable {X : Cx} {pos : Pos}
noncomputable def tWhile (c : TT) (tb : TS) : TS := fun D σ H => ∃ W : Nat → St → Hp → Prop, (∃ m, W m σ H) ∧ ∀ m σ H, W m σ H →
  c σ H fun b H1 => if b = true then ∃ N : St → Hp → Prop, (∀ σ' H', N σ' H' → ∃ m', m' < m ∧ W m' σ' H') ∧ tb { D with nx := N, ct := N, bk := D.nx } σ H1 else D.nx σ H1
theorem ps_while {c : Expr} {body : List Stmt} {tc : TT} {tb : TS} (hp : PassesOwn (model X.prog X.w) X.A X.env X.xe) (hc : PT X c tc) (hb : PSs X body tb) : PS X (.While c body [] pos) (tWhile tc tb) := by
  intro pins s σ H D I h
  obtain ⟨W, ⟨m0, w0⟩, turn⟩ := h
  refine wpAny_While (codeAny_whileLoop (fun n s' => ∃ σ' H', Inv X pins σ' H' s' ∧ W n σ' H') ?_ m0 ⟨σ, H, I, w0⟩)
  rintro n s1 ⟨σ1, H1, I1, w1⟩
  refine wpAny_passesOwn hp (thn (hc pins s1 σ1 H1 _ I1 (turn n σ1 H1 w1)) fun b s2 hzq => ?_)
  obtain ⟨H2, I2, q2⟩ := hzq
  cases b with
  | true =>
    obtain ⟨N, hN, q2⟩ := q2
    rw [if_pos rfl]
    refine wpAny_passesOwn hp (thn (hb pins s2 σ1 H2 _ I2 q2) fun f s3 q3 => ?_)
    cases f with
    | next =>
      obtain ⟨σ3, H3, I3, n3⟩ := q3
      obtain ⟨m', hm, w3⟩ := hN σ3 H3 n3
      exact ⟨m', hm, σ3, H3, I3, w3⟩
    | cont =>
      obtain ⟨σ3, H3, I3, n3⟩ := q3
      obtain ⟨m', hm, w3⟩ := hN σ3 H3 n3
      exact ⟨m', hm, σ3, H3, I3, w3⟩
    | brk => exact q3
    | ret v => exact q3
  | false =>
    rw [if_neg Bool.false_ne_true]
    exact wpAny_execs_nil ⟨σ1, H2, I2, q2⟩
end

structure It where
  go : Nat → Hp → Prop
  yld : Nat → Hp → V → Hp → Prop
  stop : Nat → Hp → Prop
noncomputable def FpOk (X : Cx) (pins : List (Addr × Obj)) (H : Hp) (b : Addr) : Prop :=
  H b = none ∧ b ≠ X.env.locals ∧ b ∉ X.fs ∧ (b ∈ X.ex ∨ X.s₀.heap.objs.size ≤ b) ∧ (∀ x c, X.env.cells.lookup x = some c → c ≠ b) ∧ ∀ p ∈ X.pn ++ pins, p.1 ≠ b
theorem Inv.fpOk {X : Cx} {pins : List (Addr × Obj)} {σ : St} {H H' : Hp} {s : Shared} {b : Addr} (I : Inv X pins σ H s) (hb : s.heap.objs.size ≤ b) (hn : H' b = none) : FpOk X pins H' b := by
  refine ⟨hn, Nat.ne_of_gt (Nat.lt_of_lt_of_le I.lt hb), I.nofs hb, .inr (Nat.le_trans I.sz hb), fun x c e z => ?_, fun p hp z => ?_⟩
  · obtain ⟨v, q⟩ := I.cell x c e
    exact absurd (Nat.lt_of_lt_of_le q.lt (by rw [z]; exact hb)) (Nat.lt_irrefl _)
  · exact absurd (Nat.lt_of_lt_of_le (Heap.lt_size (I.pin p hp).1) (by rw [z]; exact hb)) (Nat.lt_irrefl _)
structure Turn (P : Program) (w : World) (K : PySem.W.Frag) (tg : Expr) (J : It) (fp : List Addr) (it : Addr) (tn : Nat → Heap → Prop) : Prop where
  mem : it ∈ fp
  obj : ∀ i h, tn i h → ∀ b ∈ fp, ∃ o, h.get? b = some o ∧ ∀ v, o.data ≠ .cell v
  keep : ∀ i h h', tn i h → (∀ b ∈ fp, ∀ o, h.get? b = some o → h'.get? b = some o) → tn i h'
  item : ∀ (X : Cx), X.prog = P → X.w = w → X.K = K → X.calm = true → ∀ (i : Nat) (pins : List (Addr × Obj)) (s : Shared) (σ : St) (H : Hp) (E : Value → Shared → Prop), Inv X pins σ H s → (∀ b ∈ fp, FpOk X pins H b) → tn i s.heap → J.go i H →
    wpAny (model P w) X.A (pyNext (.ref it)) (fun r s1 => ∃ u, r = some u ∧
      wpAny (model P w) X.A (letOwnedTupleGo tg (.ref it) u) (fun _ s2 => ∃ x H', Inv X pins σ H' s2 ∧ RelV x u ∧ J.yld i H x H' ∧ tn (i + 1) s2.heap ∧ ∀ b ∈ fp, H' b = none) E s1) E s
  done : ∀ (X : Cx), X.prog = P → X.w = w → X.K = K → X.calm = true → ∀ (i : Nat) (pins : List (Addr × Obj)) (s : Shared) (σ : St) (H : Hp) (E : Value → Shared → Prop), Inv X pins σ H s → (∀ b ∈ fp, FpOk X pins H b) → tn i s.heap → J.stop i H →
    wpAny (model P w) X.A (pyNext (.ref it)) (fun r s1 => r = none ∧ Inv X pins σ H s1) E s
  self : ∀ (A : Around) (i : Nat) (s : Shared) (Q : Value → Shared → Prop) (E : Value → Shared → Prop), tn i s.heap → Q (.ref it) s → wpAny (model P w) A (pyIter (.ref it)) Q E s
noncomputable abbrev TI := St → Hp → (It → Hp → Prop) → Prop
noncomputable def PIE (X : Cx) (pins : List (Addr × Obj)) (σ : St) (tg : Expr) (R : It → Hp → Prop) (itv : Value) (s2 : Shared) : Prop :=
  ∃ (it : Addr) (fp : List Addr) (tn : Nat → Heap → Prop) (J : It) (H' : Hp), itv = .ref it ∧ Inv X pins σ H' s2 ∧ Turn X.prog X.w X.K tg J fp it tn ∧ tn 0 s2.heap ∧ (∀ b ∈ fp, FpOk X pins H' b) ∧ R J H'
noncomputable def PI (X : Cx) (tg iter : Expr) (wi : TI) : Prop :=
  ∀ (pins : List (Addr × Obj)) (s : Shared) (σ : St) (H : Hp) (R : It → Hp → Prop), Inv X pins σ H s → wi σ H R →
    wpAny (model X.prog X.w) X.A (eval iter X.env) (fun v s1 => wpAny (model X.prog X.w) X.A (pyIter v) (PIE X pins σ tg R) X.xe s1) X.xe s

theorem go_of {M : Model} {A : Around} {E : Value → Shared → Prop} {s : Shared} {tg : Expr} {it : Addr} {u : Value} {o : Obj} {n : String} {vs : Array Value} {Q : Unit → Shared → Prop} (ho : s.heap.get? it = some o) (hc : o.cls = .type n) (hd : o.data = .fields vs)
    (hn : ["enumerate", "zip", "dict_itemiterator", "dict_reverseitemiterator", "odict_iterator", "itertools.zip_longest", "itertools.pairwise"].contains n = false) (hQ : Q () s) : wpAny M A (letOwnedTupleGo tg (.ref it) u) Q E s := by
  unfold letOwnedTupleGo
  cases tg <;> first
    | exact wpAny_pure hQ
    | (cases u <;> first
        | exact wpAny_pure hQ
        | (refine wpAny_bind (wpAny_load ho ?_)
           rw [hc, hd]
           show wpAny M A (if (["enumerate", "zip", "dict_itemiterator", "dict_reverseitemiterator", "odict_iterator", "itertools.zip_longest", "itertools.pairwise"].contains n && vs[0]? == some (rawInt _)) = true then _ else _) Q E s
           rw [if_neg (by intro h; rw [hn, Bool.false_and] at h; cases h)]
           exact wpAny_pure hQ))

noncomputable def Itl (K : PySem.W.Frag) (a : Addr) : It :=
  ⟨fun i H => ∃ xs x, SqL K H a xs ∧ xs[i]? = some x, fun i H x H' => H' = H ∧ ∀ xs, SqL K H a xs → xs[i]? = some x, fun i H => ∃ xs, SqL K H a xs ∧ xs.length ≤ i⟩
noncomputable def Itr (lo : Int) (n : Nat) : It := ⟨fun i _ => i < n, fun i H x H' => H' = H ∧ x = .int (lo + i), fun i _ => n ≤ i⟩
theorem turn_list {P : Program} {w : World} {K : PySem.W.Frag} {tg : Expr} (a it : Addr) : Turn P w K tg (Itl K a) [it] it (fun i h => h.IsListIter it a i) where
  mem := by simp
  obj := fun i h st b hb => by
    have e : b = it := by simpa using hb
    subst e
    obtain ⟨o, e, c, d⟩ := st
    exact ⟨o, e, fun v z => by rw [d] at z; cases z⟩
  keep := fun i h h' st k => st.at fun o e => k it (by simp) o e
  item := by
    intro X hP hw hK hc i pins s σ H E I hf st hg
    subst hP hw hK
    obtain ⟨xs, x, hq, hx⟩ := hg
    obtain ⟨its, rv, p, hz⟩ := I.list hq
    obtain ⟨u, hu, ru⟩ := rv.get hx
    obtain ⟨f0, f1, f2, f3, f4, f5⟩ := hf it (by simp)
    refine wpAny_pyNext_list_item st p.isList (x := u) (by simpa using hu) fun h' st' sb => ?_
    have I1 : Inv X pins σ H { s with heap := h' } := I.turned (t' := s.toks) (fun b o hb e => (sb.2 b hb).trans e) f0 f1 f3 f4 f5
    obtain ⟨o, e, c, d⟩ := id st'
    exact ⟨u, rfl, go_of (s := { s with heap := h' }) e c d (by decide) ⟨x, H, I1, ru, ⟨rfl, fun ys hy => by rw [I.list_inj hy hq]; exact hx⟩, st', fun b hb => (hf b hb).1⟩⟩
  done := by
    intro X hP hw hK hc i pins s σ H E I hf st hg
    subst hP hw hK
    obtain ⟨xs, hq, hx⟩ := hg
    obtain ⟨its, rv, p, hz⟩ := I.list hq
    obtain ⟨f0, f1, f2, f3, f4, f5⟩ := hf it (by simp)
    have hl := rv.length
    exact wpAny_pyNext_list_end (I.ok.hd hc) st p.isList (by simp; omega) fun h' eb => ⟨rfl, I.turned (t' := s.toks) (fun b o hb e => eb b o hb e) f0 f1 f3 f4 f5⟩
  self := fun _ _ _ _ _ st h => wpAny_pyIter_listiter st h
theorem turn_range {P : Program} {w : World} {K : PySem.W.Frag} {tg : Expr} (it : Addr) (lo : Int) (n : Nat) : Turn P w K tg (Itr lo n) [it] it (fun i h => IsRangeIter h it (lo + (i : Nat) * 1) ((n : Int) - (i : Nat)) 1) where
  mem := by simp
  obj := fun i h st b hb => by
    have e : b = it := by simpa using hb
    subst e
    exact ⟨_, st, fun v z => by
      have z' : Data.fields _ = Data.cell v := z
      cases z'⟩
  keep := fun i h h' st k => k it (by simp) _ st
  item := by
    intro X hP hw hK hc i pins s σ H E I hf st hg
    subst hP hw hK
    obtain ⟨f0, f1, f2, f3, f4, f5⟩ := hf it (by simp)
    have W := Walks.range (prog := X.prog) (w := X.w) (I.ok.hd hc) it lo 1 n
    refine W.item i s _ _ hg st fun v h' tk hv st' kk => ?_
    obtain ⟨t, rfl⟩ := hv
    have I1 : Inv X pins σ H { s with heap := h', toks := tk } := I.turned (fun b o hb e => kk b o (by simpa using hb) e) f0 f1 f3 f4 f5
    refine ⟨_, rfl, go_of (s := { s with heap := h', toks := tk }) (n := "range_iterator") st' rfl rfl (by decide) ⟨.int (lo + i), H, I1, ⟨t, ?_⟩, ⟨rfl, rfl⟩, st', fun b hb => (hf b hb).1⟩⟩
    rw [Int.mul_one]
  done := by
    intro X hP hw hK hc i pins s σ H E I hf st hg
    subst hP hw hK
    obtain ⟨f0, f1, f2, f3, f4, f5⟩ := hf it (by simp)
    exact wpAny_pyNext_range_end (I.ok.hd hc) st (by have : n ≤ i := hg; omega) fun h' eb => ⟨rfl, I.turned (t' := s.toks) (fun b o hb e => eb b o hb e) f0 f1 f3 f4 f5⟩
  self := fun _ _ _ _ _ st h => wpAny_pyIter_rangeiter st h
end L2

namespace L2
open PySem PySem.Spec PyProof.Rows
section
variable {X : Cx} {tg : Expr}
noncomputable def iList (K : PySem.W.Frag) (tl : TE) : TI := fun σ H R => tl σ H fun x H1 => ∃ a, x = .ref a ∧ (∃ xs, SqL K H1 a xs) ∧ R (Itl K a) H1
theorem pi_list {l : Expr} {tl : TE} (hl : PE X l tl) : PI X tg l (iList X.K tl) := by
  intro pins s σ H R I h
  refine thn (hl pins s σ H _ I h) fun v s1 ⟨x, H1, I1, r1, q1⟩ => ?_
  obtain ⟨a, e, ⟨xs, hq⟩, q⟩ := q1
  subst e
  cases r1
  obtain ⟨its, rv, p, hz⟩ := I1.list hq
  refine wpAny_pyIter_list p.isList ?_
  refine ⟨s1.heap.objs.size, [s1.heap.objs.size], _, _, H1, rfl, I1.kept (t' := s1.toks) fun b o e => Heap.get?_push_of_some _ e, turn_list a _, ⟨_, Heap.get?_push_size _ rfl, rfl, rfl⟩, fun b hb => ?_, q⟩
  have e : b = s1.heap.objs.size := by simpa using hb
  subst e
  exact I1.fpOk (Nat.le_refl _) (I1.hok.fresh (Nat.le_refl _))
theorem range_it {pins : List (Addr × Obj)} {σ : St} {H : Hp} {s : Shared} {R : It → Hp → Prop} {E : Value → Shared → Prop} {lo hi : Int} {t u v : Tok} {tk : Nat} (I : Inv X pins σ H s) (h1 : -(2 ^ 62) ≤ lo) (h2 : lo < 2 ^ 62) (h3 : -(2 ^ 62) ≤ hi) (h4 : hi < 2 ^ 62)
    (q : R (Itr lo (hi - lo).toNat) H) : wpAny (model X.prog X.w) X.A (pyIter (.ref s.heap.objs.size)) (PIE X pins σ tg R) E { s with heap := s.heap.push { cls := .type "range", data := .fields #[.int lo t, .int hi u, .int 1 v] }, toks := tk } := by
  refine wpAny_pyIter_range (IsRange.new ..) (small_one h1 h2 h3 h4) ?_
  have I1 : Inv X pins σ H { s with heap := s.heap.push { cls := .type "range", data := .fields #[.int lo t, .int hi u, .int 1 v] }, toks := tk } := I.kept fun b o e => Heap.get?_push_of_some _ e
  refine ⟨(s.heap.push { cls := .type "range", data := .fields #[.int lo t, .int hi u, .int 1 v] }).objs.size, [(s.heap.push { cls := .type "range", data := .fields #[.int lo t, .int hi u, .int 1 v] }).objs.size], _, _, H, rfl,
    I1.kept (t' := tk) fun b o e => Heap.get?_push_of_some _ e, turn_range _ lo (hi - lo).toNat, ?_, fun b hb => ?_, q⟩
  · have e1 : lo + ((0 : Nat) : Int) * 1 = lo := by simp
    have e2 : (((hi - lo).toNat : Nat) : Int) - ((0 : Nat) : Int) = Builtin.Range.rangeSize lo hi 1 := by rw [rangeSize_one]; split <;> omega
    show IsRangeIter _ _ (lo + ((0 : Nat) : Int) * 1) ((((hi - lo).toNat : Nat) : Int) - ((0 : Nat) : Int)) 1
    rw [e1, e2]
    exact Heap.get?_push_size _ rfl
  · have e : b = (s.heap.push { cls := .type "range", data := .fields #[.int lo t, .int hi u, .int 1 v] }).objs.size := by simpa using hb
    subst e
    exact I1.fpOk (Nat.le_refl _) (I1.hok.fresh (Nat.le_refl _))
noncomputable def iRng1 (ta : TA) : TI := fun σ H R => ta σ H fun vs H1 => ∃ j : Int, vs = [.int j] ∧ -(2 ^ 62) ≤ j ∧ j < 2 ^ 62 ∧ R (Itr 0 j.toNat) H1
theorem pi_range1 {a : Expr} {ta : TA} {p pos : Pos} (hg : Gl X "range") (hm : X.mg "range" = none) (ha : PA X [a] ta) (hs : starEach [a] X.env = [(false, eval a X.env)] := by rfl) : PI X tg (.Call (.Name "range" p) [a] [] pos) (iRng1 ta) := by
  intro pins s σ H R I h
  refine Call_ (ld_blt I hg hm boot_range (PyProof.Rows.callWith_type1 (thn (ha pos pins s σ H _ I h) fun us s1 hzq => ?_) hs rfl))
  obtain ⟨vs, H1, I1, r1, q1⟩ := hzq
  obtain ⟨j, e, q1, q2, q⟩ := q1
  subst e
  cases r1 with
  | cons r rr =>
    cases rr
    obtain ⟨t, rfl⟩ := r
    exact call_range_1 (range_it I1 (by omega) (by omega) q1 q2 (by simpa using q))
noncomputable def tFor (wi : TI) (g : TG) (tb : TS) : TS := fun D σ H => wi σ H fun J H1 => ∃ W : Nat → Nat → St → Hp → Prop, (∃ m, W 0 m σ H1) ∧ ∀ i m σ H, W i m σ H →
  (J.stop i H ∧ D.nx σ H) ∨ (J.go i H ∧ ∃ N : St → Hp → Prop, (∀ σ' H', N σ' H' → ∃ m', m' < m ∧ W (i + 1) m' σ' H') ∧ ∀ x H', J.yld i H x H' → g x σ H' fun σ2 H2 => tb { D with nx := N, ct := N, bk := D.nx } σ2 H2)
noncomputable def pinsAt (fp : List Addr) (h : Heap) : List (Addr × Obj) := fp.filterMap fun b => (h.get? b).map fun o => (b, o)
theorem mem_pinsAt {fp : List Addr} {h : Heap} {b : Addr} {o : Obj} (hb : b ∈ fp) (e : h.get? b = some o) : (b, o) ∈ pinsAt fp h := List.mem_filterMap.mpr ⟨b, hb, by rw [e]; rfl⟩
theorem of_pinsAt {fp : List Addr} {h : Heap} {p : Addr × Obj} (hp : p ∈ pinsAt fp h) : p.1 ∈ fp ∧ h.get? p.1 = some p.2 := by
  obtain ⟨b, hb, e⟩ := List.mem_filterMap.mp hp
  cases q : h.get? b with
  | none => rw [q] at e; cases e
  | some o =>
    rw [q] at e
    have e' : (b, o) = p := Option.some.inj e
    subst e'
    exact ⟨hb, q⟩
theorem Inv.pinned {pins : List (Addr × Obj)} {σ : St} {H : Hp} {s : Shared} {fp : List Addr} (I : Inv X pins σ H s) (hf : ∀ b ∈ fp, FpOk X pins H b) (ho : ∀ b ∈ fp, ∃ o, s.heap.get? b = some o ∧ ∀ v, o.data ≠ .cell v) : Inv X (pins ++ pinsAt fp s.heap) σ H s :=
  I.pins_of fun p hp => (List.mem_append.mp hp).elim (fun z => I.pin p (List.mem_append_right _ z)) fun z => by
    obtain ⟨hb, e⟩ := of_pinsAt z
    obtain ⟨f0, f1, f2, _⟩ := hf p.1 hb
    obtain ⟨o, e', d⟩ := ho p.1 hb
    rw [e] at e'; cases e'
    exact ⟨e, f0, f1, f2, d⟩
theorem Inv.unpinned {pins pl : List (Addr × Obj)} {σ : St} {H : Hp} {s : Shared} (I : Inv X (pins ++ pl) σ H s) : Inv X pins σ H s := I.pins_of fun p hp => I.pin p (List.mem_append_right _ (List.mem_append_left _ hp))
theorem ps_for {iter : Expr} {body : List Stmt} {wi : TI} {g : TG} {tb : TS} {pos : Pos} (hp : PassesOwn (model X.prog X.w) X.A X.env X.xe) (hc : X.calm = true) (hi : PI X tg iter wi) (hg : PG X tg g) (hb : PSs X body tb)
    (hs : ∀ x, foldedSetIterable iter X.env x = pure x := by intro _; rfl) : PS X (.For tg iter body [] pos) (tFor wi g tb) := by
  intro pins s σ H D I h
  refine wpAny_For (thn (hi pins s σ H _ I h) fun v s1 h1 => thn h1 fun itv s2 h2 => ?_) hs
  obtain ⟨it, fp, tn, J, H2, e, I2, T, st2, f2, W, ⟨m0, w0⟩, turn⟩ := h2
  subst e
  -- what stays true of the iterator's objects through the loop
  have stat : ∀ {H' : Hp}, (∀ b ∈ fp, H' b = none) → ∀ b ∈ fp, FpOk X pins H' b := fun hn b hb => ⟨hn b hb, (f2 b hb).2⟩
  refine codeAny_forLoop_any (fun n s' => ∃ i σ' H', Inv X pins σ' H' s' ∧ tn i s'.heap ∧ (∀ b ∈ fp, H' b = none) ∧ W i n σ' H') ?_ m0 ⟨0, σ, H2, I2, st2, fun b hb => (f2 b hb).1, w0⟩
  rintro n s3 ⟨i, σ3, H3, I3, st3, fr3, w3⟩
  rcases turn i n σ3 H3 w3 with ⟨stop, qn⟩ | ⟨go, N, hN, step⟩
  · refine wpAny_passesOwn hp (thn (T.done X rfl rfl rfl hc i pins s3 σ3 H3 X.xe I3 (stat fr3) st3 stop) fun r s4 hzq => ?_)
    obtain ⟨hr, I4⟩ := hzq
    subst hr
    exact wpAny_execs_nil ⟨σ3, H3, I4, qn⟩
  · refine wpAny_passesOwn hp (thn (T.item X rfl rfl rfl hc i pins s3 σ3 H3 X.xe I3 (stat fr3) st3 go) fun r s4 hzq => ?_)
    obtain ⟨u, hr, h4⟩ := hzq
    subst hr
    refine wpAny_passesOwn hp (thn h4 fun _ s5 hzq => ?_)
    obtain ⟨x, H5, I5, r5, y5, st5, fr5⟩ := hzq
    have I5' := I5.pinned (stat fr5) (T.obj _ _ st5)
    refine wpAny_passesOwn hp (thn (hg _ s5 σ3 H5 x u _ I5' r5 (step x H5 y5)) fun _ s6 hzq => ?_)
    obtain ⟨σ6, H6, I6, q6⟩ := hzq
    refine wpAny_passesOwn hp (thn (hb _ s6 σ6 H6 _ I6 q6) fun f s7 q7 => ?_)
    have again : ∀ {σ7 : St} {H7 : Hp}, Inv X (pins ++ pinsAt fp s5.heap) σ7 H7 s7 → N σ7 H7 → ∃ m, m < n ∧ ∃ i σ' H', Inv X pins σ' H' s7 ∧ tn i s7.heap ∧ (∀ b ∈ fp, H' b = none) ∧ W i m σ' H' := fun {σ7 H7} I7 n7 => by
      obtain ⟨m', hm, w7⟩ := hN σ7 H7 n7
      refine ⟨m', hm, i + 1, σ7, H7, I7.unpinned, T.keep _ _ _ st5 fun b hb o e => (I7.pin (b, o) (List.mem_append_right _ (List.mem_append_right _ (mem_pinsAt hb e)))).1, fun b hb => ?_, w7⟩
      obtain ⟨o, e, d⟩ := T.obj _ _ st5 b hb
      exact (I7.pin (b, o) (List.mem_append_right _ (List.mem_append_right _ (mem_pinsAt hb e)))).2.1
    cases f with
    | next => obtain ⟨σ7, H7, I7, n7⟩ := q7; exact again I7 n7
    | cont => obtain ⟨σ7, H7, I7, n7⟩ := q7; exact again I7 n7
    | brk => obtain ⟨σ7, H7, I7, q7⟩ := q7; exact ⟨σ7, H7, I7.unpinned, q7⟩
    | ret v => obtain ⟨x7, σ7, H7, I7, r7, q7⟩ := q7; exact ⟨x7, σ7, H7, I7.unpinned, r7, q7⟩
end

theorem for_list {K : PySem.W.Frag} {a : Addr} {xs : List V} {g : TG} {tb : TS} {D : Ends} {σ : St} {H : Hp} (Pv : Nat → St → Hp → Prop) (h0 : Pv 0 σ H) (hl : ∀ i σ H, i ≤ xs.length → Pv i σ H → SqL K H a xs)
    (hs : ∀ i x σ H, xs[i]? = some x → Pv i σ H → g x σ H fun σ2 H2 => tb { D with nx := Pv (i + 1), ct := Pv (i + 1), bk := D.nx } σ2 H2) (hd : ∀ σ H, Pv xs.length σ H → D.nx σ H) :
    ∃ W : Nat → Nat → St → Hp → Prop, (∃ m, W 0 m σ H) ∧ ∀ i m σ H, W i m σ H →
      ((Itl K a).stop i H ∧ D.nx σ H) ∨ ((Itl K a).go i H ∧ ∃ N : St → Hp → Prop, (∀ σ' H', N σ' H' → ∃ m', m' < m ∧ W (i + 1) m' σ' H') ∧ ∀ x H', (Itl K a).yld i H x H' → g x σ H' fun σ2 H2 => tb { D with nx := N, ct := N, bk := D.nx } σ2 H2) := by
  refine ⟨fun i m σ H => m = xs.length - i ∧ i ≤ xs.length ∧ Pv i σ H, ⟨xs.length, by simp, Nat.zero_le _, h0⟩, ?_⟩
  rintro i m σ H ⟨rfl, hi, p⟩
  have q := hl i σ H hi p
  by_cases hlt : i < xs.length
  · refine .inr ⟨⟨xs, xs[i], q, by simp [hlt]⟩, Pv (i + 1), fun σ' H' p' => ⟨xs.length - (i + 1), by omega, rfl, hlt, p'⟩, fun x H' y => ?_⟩
    obtain ⟨e, y⟩ := y
    subst e
    exact hs i x σ _ (y xs q) p
  · have e : i = xs.length := by omega
    subst e
    exact .inl ⟨⟨xs, q, Nat.le_refl _⟩, hd σ H p⟩
theorem for_range {lo : Int} {n : Nat} {g : TG} {tb : TS} {D : Ends} {σ : St} {H : Hp} (Pv : Nat → St → Hp → Prop) (h0 : Pv 0 σ H)
    (hs : ∀ i σ H, i < n → Pv i σ H → g (.int (lo + i)) σ H fun σ2 H2 => tb { D with nx := Pv (i + 1), ct := Pv (i + 1), bk := D.nx } σ2 H2) (hd : ∀ σ H, Pv n σ H → D.nx σ H) :
    ∃ W : Nat → Nat → St → Hp → Prop, (∃ m, W 0 m σ H) ∧ ∀ i m σ H, W i m σ H →
      ((Itr lo n).stop i H ∧ D.nx σ H) ∨ ((Itr lo n).go i H ∧ ∃ N : St → Hp → Prop, (∀ σ' H', N σ' H' → ∃ m', m' < m ∧ W (i + 1) m' σ' H') ∧ ∀ x H', (Itr lo n).yld i H x H' → g x σ H' fun σ2 H2 => tb { D with nx := N, ct := N, bk := D.nx } σ2 H2) := by
  refine ⟨fun i m σ H => m = n - i ∧ i ≤ n ∧ Pv i σ H, ⟨n, by simp, Nat.zero_le _, h0⟩, ?_⟩
  rintro i m σ H ⟨rfl, hi, p⟩
  by_cases hlt : i < n
  · refine .inr ⟨hlt, Pv (i + 1), fun σ' H' p' => ⟨n - (i + 1), by omega, rfl, hlt, p'⟩, fun x H' y => ?_⟩
    obtain ⟨e, y⟩ := y
    subst e y
    exact hs i σ _ hlt p
  · have e : i = n := by omega
    subst e
    exact .inl ⟨Nat.le_refl _, hd σ H p⟩
end L2

namespace L2
open PySem PySem.Spec PyProof.Rows

noncomputable abbrev R2 := V → V → Hp → VK → Prop
noncomputable def OpR (X : Cx) (f : Value → Value → Sem Value) (r : R2) : Prop :=
  ∀ (pins : List (Addr × Obj)) (s : Shared) (σ : St) (H : Hp) (x y : V) (v u : Value) (Q : VK), Inv X pins σ H s → RelV x v → RelV y u → r x y H Q →
    wpAny (model X.prog X.w) X.A (f v u) (EP X pins σ Q) X.xe s
noncomputable def UnR (X : Cx) (f : Value → Sem Value) (r : V → Hp → VK → Prop) : Prop :=
  ∀ (pins : List (Addr × Obj)) (s : Shared) (σ : St) (H : Hp) (x : V) (v : Value) (Q : VK), Inv X pins σ H s → RelV x v → r x H Q →
    wpAny (model X.prog X.w) X.A (f v) (EP X pins σ Q) X.xe s
noncomputable def CallR (X : Cx) (f : Value) (r : List V → Hp → VK → Prop) : Prop :=
  ∀ (pins : List (Addr × Obj)) (s : Shared) (σ : St) (H : Hp) (xs : List V) (us : List Value) (Q : VK), Inv X pins σ H s → Vals xs us → r xs H Q →
    wpAny (model X.prog X.w) X.A (call f us) (EP X pins σ Q) X.xe s
noncomputable def tOp (r : R2) (ta tb : TE) : TE := fun σ H Q => ta σ H fun x H1 => tb σ H1 fun y H2 => r x y H2 Q
noncomputable def tUn (r : V → Hp → VK → Prop) (ta : TE) : TE := fun σ H Q => ta σ H fun x H1 => r x H1 Q
noncomputable def rI (C : Int → Int → Prop) (g : Int → Int → V) : R2 := fun x y H Q => ∃ i j, x = .int i ∧ y = .int j ∧ C i j ∧ Q (g i j) H
noncomputable def rI0 (g : Int → Int → V) : R2 := fun x y H Q => ∃ i j, x = .int i ∧ y = .int j ∧ Q (g i j) H
noncomputable def rU (g : Int → V) : V → Hp → VK → Prop := fun x H Q => ∃ i, x = .int i ∧ Q (g i) H

section
variable {X : Cx} {a b c : Expr} {ta tb tc : TE} {pos : Pos}

theorem binT (ha : PE X a ta) (hb : PE X b tb) {pins : List (Addr × Obj)} {s : Shared} {σ : St} {H : Hp} {R : V → V → Hp → Prop} (I : Inv X pins σ H s)
    (h : ta σ H fun x H1 => tb σ H1 fun y H2 => R x y H2) {Q : Value → Shared → Prop} {f : Value → Value → Sem Value}
    (hf : ∀ v u s2 x y H2, Inv X pins σ H2 s2 → RelV x v → RelV y u → R x y H2 → wpAny (model X.prog X.w) X.A (f v u) Q X.xe s2) :
    wpAny (model X.prog X.w) X.A (eval a X.env) (fun v s₁ => wpAny (model X.prog X.w) X.A (eval b X.env) (fun u s₂ => wpAny (model X.prog X.w) X.A (f v u) Q X.xe s₂) X.xe s₁) X.xe s := by
  refine thn (ha pins s σ H _ I h) fun v s1 ⟨x, H1, I1, r1, q1⟩ => ?_
  refine thn (hb pins s1 σ H1 _ I1 q1) fun u s2 ⟨y, H2, I2, r2, q2⟩ => ?_
  exact hf v u s2 x y H2 I2 r1 r2 q2

theorem pe_op {op : Operator} {r : R2} (ho : OpR X (binaryOp op) r) (ha : PE X a ta) (hb : PE X b tb) : PE X (.BinOp a op b pos) (tOp r ta tb) := by
  intro pins s σ H Q I h
  exact wpAny_BinOp (binT ha hb I h fun v u s2 x y H2 I2 rx ry q => ho pins s2 σ H2 x y v u Q I2 rx ry q)
theorem pe_un {op : UnaryOp} {r : V → Hp → VK → Prop} (ho : UnR X (unaryOp op) r) (ha : PE X a ta) : PE X (.UnaryOp op a pos) (tUn r ta) := by
  intro pins s σ H Q I h
  exact UnaryOp_ (thn (ha pins s σ H _ I h) fun v s1 ⟨x, H1, I1, r1, q1⟩ => ho pins s1 σ H1 x v Q I1 r1 q1)
theorem opI {f : Value → Value → Sem Value} {C : Int → Int → Prop} {g : Int → Int → Int}
    (rule : ∀ (i j : Int) (t u : Tok) (s : Shared) (Q : Value → Shared → Prop) (E : Value → Shared → Prop), C i j → Q (.int (g i j) s.toks) { s with toks := s.toks + 1 } → wpAny (model X.prog X.w) X.A (f (.int i t) (.int j u)) Q E s) :
    OpR X f (rI C fun i j => .int (g i j)) := by
  intro pins s σ H x y v u Q I rx ry h
  obtain ⟨i, j, rfl, rfl, hc, q⟩ := h
  obtain ⟨t, rfl⟩ := rx
  obtain ⟨t', rfl⟩ := ry
  exact rule i j t t' s _ _ hc ⟨.int (g i j), H, I.tok _, ⟨_, rfl⟩, q⟩
theorem opI0 {f : Value → Value → Sem Value} {g : Int → Int → Int}
    (rule : ∀ (i j : Int) (t u : Tok) (s : Shared) (Q : Value → Shared → Prop) (E : Value → Shared → Prop), Q (.int (g i j) s.toks) { s with toks := s.toks + 1 } → wpAny (model X.prog X.w) X.A (f (.int i t) (.int j u)) Q E s) :
    OpR X f (rI0 fun i j => .int (g i j)) := by
  intro pins s σ H x y v u Q I rx ry h
  obtain ⟨i, j, rfl, rfl, q⟩ := h
  obtain ⟨t, rfl⟩ := rx
  obtain ⟨t', rfl⟩ := ry
  exact rule i j t t' s _ _ ⟨.int (g i j), H, I.tok _, ⟨_, rfl⟩, q⟩
theorem opB0 {f : Value → Value → Sem Value} {g : Int → Int → Bool}
    (rule : ∀ (i j : Int) (t u : Tok) (s : Shared) (Q : Value → Shared → Prop) (E : Value → Shared → Prop), Q (.bool (g i j)) s → wpAny (model X.prog X.w) X.A (f (.int i t) (.int j u)) Q E s) :
    OpR X f (rI0 fun i j => .bl (g i j)) := by
  intro pins s σ H x y v u Q I rx ry h
  obtain ⟨i, j, rfl, rfl, q⟩ := h
  obtain ⟨t, rfl⟩ := rx
  obtain ⟨t', rfl⟩ := ry
  exact rule i j t t' s _ _ ⟨.bl (g i j), H, I, rfl, q⟩

noncomputable def CPow (i j : Int) : Prop := 0 ≤ j ∧ j ≤ 1000000 ∧ i.natAbs < 2 ^ 64
noncomputable def CMul (i j : Int) : Prop := (-(2 ^ 64) < i ∧ i < 2 ^ 64) ∨ (-(2 ^ 64) < j ∧ j < 2 ^ 64)
theorem CMul.ok {i j : Int} (h : CMul i j) : IntMulOk i j := by
  rcases h with ⟨h1, h2⟩ | ⟨h1, h2⟩
  · exact .of_left (intBits_le_64 h1 h2)
  · exact .of_right (intBits_le_64 h1 h2)
theorem op_add : OpR X (binaryOp .Add) (rI0 fun i j => .int (i + j)) := opI0 fun _ _ _ _ _ _ _ q => add_int q
theorem op_sub : OpR X (binaryOp .Sub) (rI0 fun i j => .int (i - j)) := opI0 fun _ _ _ _ _ _ _ q => sub_int q
theorem op_mul : OpR X (binaryOp .Mult) (rI CMul fun i j => .int (i * j)) := opI fun _ _ _ _ _ _ _ hc q => mul_int q hc.ok
theorem op_mod : OpR X (binaryOp .Mod) (rI (fun _ j => 0 < j) fun i j => .int (i % j)) := opI fun i j _ _ _ _ _ hc q => by
  have h1 : (0 : Int) < j := hc
  exact mod_int' (by omega) (by rw [Int.fmod_eq_emod_of_nonneg i (by omega)]; exact q)
theorem op_pow : OpR X (binaryOp .Pow) (rI CPow fun i j => .int (i ^ j.toNat)) := opI fun _ _ _ _ _ _ _ hc q => pow_int_small hc.1 hc.2.1 hc.2.2 q
theorem unI {f : Value → Sem Value} {g : Int → Int}
    (rule : ∀ (i : Int) (t : Tok) (s : Shared) (Q : Value → Shared → Prop) (E : Value → Shared → Prop), Q (.int (g i) s.toks) { s with toks := s.toks + 1 } → wpAny (model X.prog X.w) X.A (f (.int i t)) Q E s) :
    UnR X f (rU fun i => .int (g i)) := by
  intro pins s σ H x v Q I rx h
  obtain ⟨i, rfl, q⟩ := h
  obtain ⟨t, rfl⟩ := rx
  exact rule i t s _ _ ⟨.int (g i), H, I.tok _, ⟨_, rfl⟩, q⟩
theorem un_neg : UnR X (unaryOp .USub) (rU fun i => .int (-i)) := unI fun _ _ _ _ _ q => neg_int q
end

noncomputable def scal : V → V → Bool
  | .non, .non => true | .non, .int _ => true | .int _, .non => true | .non, .bl _ => true | .bl _, .non => true | .non, .str _ => true | .str _, .non => true
  | .int _, .int _ => true | .bl _, .bl _ => true | .str _, .str _ => true | .byt _, .byt _ => true
  | .int _, .str _ => true | .str _, .int _ => true | .bl _, .str _ => true | .str _, .bl _ => true
  | _, _ => false
noncomputable def rEq : R2 := fun x y H Q => scal x y = true ∧ Q (.bl (decide (x = y))) H
noncomputable def rNe : R2 := fun x y H Q => scal x y = true ∧ Q (.bl (!decide (x = y))) H

theorem dec_int {i j : Int} : decide (V.int i = V.int j) = (i == j) := by
  rw [Bool.eq_iff_iff]
  simp
theorem dec_bl {i j : Bool} : decide (V.bl i = V.bl j) = (i == j) := by
  rw [Bool.eq_iff_iff]
  simp
theorem dec_str {i j : Str} : decide (V.str i = V.str j) = (i == j) := by
  rw [Bool.eq_iff_iff]
  simp
theorem dec_byt {i j : Array UInt8} : decide (V.byt i = V.byt j) = (i.toList == j.toList) := by
  rw [Bool.eq_iff_iff]
  cases i
  cases j
  simp

section
variable {X : Cx} {a b c : Expr} {ta tb tc : TE} {pos : Pos}
theorem fin_bl {pins : List (Addr × Obj)} {σ : St} {H : Hp} {s : Shared} {Q : VK} {k k' : Bool} (I : Inv X pins σ H s) (q : Q (.bl k) H) (e : k = k') : EP X pins σ Q (.bool k') s := by
  subst e
  exact ⟨.bl k, H, I, rfl, q⟩
theorem op_eq : OpR X (compareOp .Eq) rEq := by
  intro pins s σ H x y v u Q I rx ry h
  obtain ⟨hs, q⟩ := h
  cases x with
  | non =>
    cases rx
    cases y with
    | non => cases ry; exact PySem.EqNone.eq_none_none (fin_bl I q (by simp))
    | bl j => cases ry; exact PySem.EqNone.eq_none_bool (fin_bl I q (by simp))
    | int j => obtain ⟨t', rfl⟩ := ry; exact PySem.EqNone.eq_none_int (fin_bl I q (by simp))
    | str j => obtain ⟨t', rfl⟩ := ry; exact PySem.EqNone.eq_none_str (fin_bl I q (by simp))
    | _ => exact absurd (show false = true from hs) Bool.false_ne_true
  | bl i =>
    cases rx
    cases y with
    | non => cases ry; exact PySem.EqNone.eq_bool_none (fin_bl I q (by simp))
    | bl j => cases ry; exact eq_bool (fin_bl I q dec_bl)
    | str j => obtain ⟨t', rfl⟩ := ry; exact PySem.EqMixed.eq_bool_str (fin_bl I q (by simp))
    | _ => exact absurd (show false = true from hs) Bool.false_ne_true
  | int i =>
    obtain ⟨t, rfl⟩ := rx
    cases y with
    | non => cases ry; exact PySem.EqNone.eq_int_none (fin_bl I q (by simp))
    | int j => obtain ⟨t', rfl⟩ := ry; exact eq_int (fin_bl I q dec_int)
    | str j => obtain ⟨t', rfl⟩ := ry; exact PySem.EqMixed.eq_int_str (fin_bl I q (by simp))
    | _ => exact absurd (show false = true from hs) Bool.false_ne_true
  | str i =>
    obtain ⟨t, rfl⟩ := rx
    cases y with
    | non => cases ry; exact PySem.EqNone.eq_str_none (fin_bl I q (by simp))
    | bl j => cases ry; exact PySem.EqMixed.eq_str_bool (fin_bl I q (by simp))
    | int j => obtain ⟨t', rfl⟩ := ry; exact PySem.EqMixed.eq_str_int (fin_bl I q (by simp))
    | str j => obtain ⟨t', rfl⟩ := ry; exact eq_str (fin_bl I q dec_str)
    | _ => exact absurd (show false = true from hs) Bool.false_ne_true
  | byt i =>
    obtain ⟨t, rfl⟩ := rx
    cases y with
    | byt j => obtain ⟨t', rfl⟩ := ry; exact PySem.W.eq_bytes (fin_bl I q dec_byt)
    | _ => exact absurd (show false = true from hs) Bool.false_ne_true
  | _ => cases y <;> exact absurd (show false = true from hs) Bool.false_ne_true
theorem op_ne : OpR X (compareOp .NotEq) rNe := by
  intro pins s σ H x y v u Q I rx ry h
  obtain ⟨hs, q⟩ := h
  cases x with
  | non =>
    cases rx
    cases y with
    | non => cases ry; exact PySem.EqNone.ne_none_none (fin_bl I q (by simp))
    | bl j => cases ry; exact PySem.EqNone.ne_none_bool (fin_bl I q (by simp))
    | int j => obtain ⟨t', rfl⟩ := ry; exact PySem.EqNone.ne_none_int (fin_bl I q (by simp))
    | str j => obtain ⟨t', rfl⟩ := ry; exact PySem.EqNone.ne_none_str (fin_bl I q (by simp))
    | _ => exact absurd (show false = true from hs) Bool.false_ne_true
  | bl i =>
    cases rx
    cases y with
    | non => cases ry; exact PySem.EqNone.ne_bool_none (fin_bl I q (by simp))
    | bl j => cases ry; exact ne_bool (fin_bl I q (congrArg not dec_bl))
    | str j => obtain ⟨t', rfl⟩ := ry; exact PySem.EqMixed.ne_bool_str (fin_bl I q (by simp))
    | _ => exact absurd (show false = true from hs) Bool.false_ne_true
  | int i =>
    obtain ⟨t, rfl⟩ := rx
    cases y with
    | non => cases ry; exact PySem.EqNone.ne_int_none (fin_bl I q (by simp))
    | int j => obtain ⟨t', rfl⟩ := ry; exact ne_int (fin_bl I q (congrArg not dec_int))
    | str j => obtain ⟨t', rfl⟩ := ry; exact PySem.EqMixed.ne_int_str (fin_bl I q (by simp))
    | _ => exact absurd (show false = true from hs) Bool.false_ne_true
  | str i =>
    obtain ⟨t, rfl⟩ := rx
    cases y with
    | non => cases ry; exact PySem.EqNone.ne_str_none (fin_bl I q (by simp))
    | bl j => cases ry; exact PySem.EqMixed.ne_str_bool (fin_bl I q (by simp))
    | int j => obtain ⟨t', rfl⟩ := ry; exact PySem.EqMixed.ne_str_int (fin_bl I q (by simp))
    | str j => obtain ⟨t', rfl⟩ := ry; exact ne_str (fin_bl I q (congrArg not dec_str))
    | _ => exact absurd (show false = true from hs) Bool.false_ne_true
  | byt i =>
    obtain ⟨t, rfl⟩ := rx
    cases y with
    | byt j => obtain ⟨t', rfl⟩ := ry; exact PySem.W.ne_bytes (fin_bl I q (congrArg not dec_byt))
    | _ => exact absurd (show false = true from hs) Bool.false_ne_true
  | _ => cases y <;> exact absurd (show false = true from hs) Bool.false_ne_true

theorem op_lt : OpR X (compareOp .Lt) (rI0 fun i j => .bl (decide (i < j))) := opB0 fun _ _ _ _ _ _ _ q => lt_int q
theorem op_gt : OpR X (compareOp .Gt) (rI0 fun i j => .bl (decide (j < i))) := opB0 fun _ _ _ _ _ _ _ q => gt_int q
theorem op_isN : OpR X (compareOp .Is) (fun x y H Q => y = .non ∧ Q (.bl (decide (x = .non))) H) := by
  intro pins s σ H x y v u Q I rx ry h
  obtain ⟨rfl, q⟩ := h
  cases ry
  refine is_none_gen (fin_bl I q ?_)
  cases x <;> first
    | (cases rx; rfl)
    | (obtain ⟨t, rfl⟩ := rx; rfl)
theorem OpR.or {f : Value → Value → Sem Value} {r r' : R2} (h : OpR X f r) (h' : OpR X f r') : OpR X f (fun x y H Q => r x y H Q ∨ r' x y H Q) := by
  intro pins s σ H x y v u Q I rx ry q
  rcases q with q | q
  · exact h pins s σ H x y v u Q I rx ry q
  · exact h' pins s σ H x y v u Q I rx ry q

theorem nomark (b : Expr) {op : CmpOp} (h : op ≠ .In := by decide) (h2 : op ≠ .NotIn := by decide) : behindInMarks op b = false := by
  have e1 : (op == CmpOp.In) = false := by cases op <;> first | rfl | exact absurd rfl h
  have e2 : (op == CmpOp.NotIn) = false := by cases op <;> first | rfl | exact absurd rfl h2
  cases b <;> simp [behindInMarks, e1, e2]
theorem pe_cmpR {op : CmpOp} {r : R2} (ho : OpR X (compareOp op) r) (ha : PE X a ta) (hb : PE X b tb) (hm : behindInMarks op b = false) : PE X (.Compare a [op] [b] pos) (tOp r ta tb) := by
  intro pins s σ H Q I h
  exact wpAny_Compare1 (binT ha hb I h fun v u s2 x y H2 I2 rx ry q => ho pins s2 σ H2 x y v u Q I2 rx ry q) hm
noncomputable def tTest (t : TE) : TT := fun σ H Q => t σ H fun x H' => ∃ k, x = .bl k ∧ Q k H'
theorem pt_cmpR {op : CmpOp} {r : R2} (ho : OpR X (compareOp op) r) (ha : PE X a ta) (hb : PE X b tb) (hm : behindInMarks op b = false) : PT X (.Compare a [op] [b] pos) (tTest (tOp r ta tb)) := by
  intro pins s σ H Q I h
  refine wpAny_isTrue_Compare1 (thn (ha pins s σ H _ I h) fun v s1 ⟨x, H1, I1, r1, q1⟩ => thn (hb pins s1 σ H1 _ I1 q1) fun u s2 ⟨y, H2, I2, r2, q2⟩ =>
    thn (ho pins s2 σ H2 x y v u _ I2 r1 r2 q2) fun c s3 ⟨z, H3, I3, r3, k, e, q3⟩ => ?_) hm
  subst e
  cases r3
  exact wpAny_truthy_bool ⟨H3, I3, q3⟩
theorem line63 : (sizeLine : Nat) < 2 ^ 63 := by rw [sizeLine_eq]; decide
theorem vals1 {x : V} {us : List Value} (r : Vals [x] us) : ∃ u, us = [u] ∧ RelV x u := by
  cases r with
  | cons r1 r2 => cases r2; exact ⟨_, rfl, r1⟩
theorem vals2 {x y : V} {us : List Value} (r : Vals [x, y] us) : ∃ u w', us = [u, w'] ∧ RelV x u ∧ RelV y w' := by
  cases r with
  | cons r1 r2 =>
    cases r2 with
    | cons r3 r4 => cases r4; exact ⟨_, _, rfl, r1, r3⟩
theorem call_max2 (hc : X.calm = true) : CallR X (.builtin "max") (fun xs H Q => ∃ i j, xs = [.int i, .int j] ∧ Q (.int (if j > i then j else i)) H) := by
  intro pins s σ H xs us Q I r h
  obtain ⟨i, j, rfl, q⟩ := h
  obtain ⟨u, w', rfl, ⟨t, rfl⟩, ⟨t', rfl⟩⟩ := vals2 r
  refine max_two_ints (I.ok.hd hc) fun h' tk k => ⟨_, H, I.kept k, ?_, q⟩
  by_cases hj : j > i
  · rw [if_pos hj, if_pos hj]; exact ⟨_, rfl⟩
  · rw [if_neg hj, if_neg hj]; exact ⟨_, rfl⟩
end
end L2

namespace L2
open PySem PySem.Spec PyProof.Rows

structure ObjM (h : Heap) (x dx C : Addr) (mA : Str → Option Value) : Prop where
  obj : h.get? x = some (PySem.W.instObj C dx)
  ns : h.Ns1 dx mA
  ne : dx ≠ x

theorem lookIn_ns {h : Heap} {dx : Addr} {mA : Str → Option Value} (n : h.Ns1 dx mA) : ∃ od, h.get? dx = some od ∧ ∀ name, PySem.W.lookIn name od = some (mA name) := by
  obtain ⟨o, es, ep, ho, hd, hk, _, hm⟩ := n
  refine ⟨o, ho, fun name => ?_⟩
  have e := hm name
  unfold nsFind findBy at e
  rw [← Array.find?_toList] at e
  unfold PySem.W.lookIn
  rw [hd]
  dsimp only
  split
  · rename_i y q
    rw [q] at e
    exact congrArg some e
  · rename_i q
    rw [q] at e
    have a : es.toList.any (·.refKey) = false := by
      rw [List.any_eq_false]
      intro y hy
      obtain ⟨z, t, hkey⟩ := hk y (Array.mem_toList_iff.mp hy)
      simp [DictEntry.refKey, hkey]
    have a' : ¬ es.toList.any (·.refKey) = true := by rw [a]; exact Bool.false_ne_true
    rw [if_neg a']
    exact congrArg some e

theorem ObjM.look {h : Heap} {x dx C : Addr} {mA : Str → Option Value} (I : ObjM h x dx C mA) : ∃ od, PySem.W.InstAt h x (PySem.W.instObj C dx) C (some od) ∧ ∀ name, PySem.W.lookIn name od = some (mA name) :=
  let ⟨od, ho, hl⟩ := lookIn_ns I.ns
  ⟨od, ⟨I.obj, rfl, rfl, ho⟩, hl⟩

section
variable {prog : Program} {w : World} {A : Around} {E : Value → Shared → Prop} {s : Shared} {K : PySem.W.Frag} {x dx C f : Addr} {mA : Str → Option Value} {name : Str} {v : Value}

theorem get_map {expr : Bool} {Q : Value → Shared → Prop} (X : K.In s.heap) (I : ObjM s.heap x dx C mA) (hg : PySem.W.plainGet K C name = true) (hh : PySem.W.hasDictIn K C = true)
    (ha : PySem.W.findIn K (.ref C) name = some none) (hv : mA name = some v) (hv' : PySem.W.handedIn v = true) (h : Q v { s with toks := s.toks + 1 }) :
    wpAny (model prog w) A (getAttr (.ref x) name expr) Q E s := by
  obtain ⟨od, J, hl⟩ := I.look
  exact PySem.W.get_value X J (PySem.W.plainGet_of hg).1 (PySem.W.findObj_own hh ha rfl (by rw [hl, hv])) hv' h

theorem get_meth {pl : Sem Bool} {Q : Value × List Value → Shared → Prop} (X : K.In s.heap) (I : ObjM s.heap x dx C mA) (hg : PySem.W.plainGet K C name = true)
    (hf : PySem.W.findIn K (.ref C) name = some (some (.ref f))) (ht : PySem.W.isFn K (.ref f) = true) (hv : mA name = none) (h : Q (.ref f, [.ref x]) s) :
    wpAny (model prog w) A (getMethod (.ref x) name pl) Q E s := by
  obtain ⟨od, J, hl⟩ := I.look
  exact PySem.W.method_fn X J (PySem.W.plainGet_of hg).1 (PySem.W.plainGet_of hg).2 hf (beq_iff_eq.mp ht) (by show (PySem.W.lookIn name od).map (·.isSome) = some false; rw [hl, hv]; rfl) h

theorem set_map {ns : List Str} {Q : Unit → Shared → Prop} (X : K.In s.heap) (I : ObjM s.heap x dx C mA)
    (hs : PySem.W.findIn K (.ref C) "__setattr__" = some (some (.builtin "object.__setattr__"))) (hp : PySem.W.plainOver K C = true) (ht : PySem.W.takerIn K C name = some none) (hh : PySem.W.hasDictIn K C = true)
    (hw : PySem.Within mA ns) (hsz : ns.length ≤ sizeLine)
    (h : ∀ h', ObjM h' x dx C (fun y => if y = name then some v else mA y) → Heap.SameBut dx s.heap h' → Q () { s with heap := h', toks := s.toks + 2 }) :
    wpAny (model prog w) A (setAttr (.ref x) name v) Q E s := by
  obtain ⟨od, J, hl⟩ := I.look
  refine PySem.W.set_plain X J hs (PySem.W.osa_open (s := { s with toks := s.toks + 1 }) (r := none) X J hp ht fun b => ?_)
  obtain ⟨cd, hc, hd'⟩ := PySem.W.any_some hh
  have hx : s.heap.get? x = some ⟨.ref C, some dx, .plain, #[]⟩ := I.obj
  refine wpAny_bind (wpAny_pure (wpAny_bind (wpAny_bind (wpAny_loadPart hx (wpAny_bind (PySem.W.Looks.here (s := { s with toks := s.toks + 1 }) (PySem.W.looks_clsIn X hc) ?_))))))
  rw [hd']
  refine wpAny_pure (a := some dx) (wpAny_bind (wpAny_pure (wpAny_bind ?_)))
  refine wpAny_nsSet1 (s := { s with toks := s.toks + 1 }) I.ns fun h' hn2 hs2 => ?_
  obtain ⟨oD, esD, epD, hoD, hdD, hcD⟩ := hn2.count (PySem.Within.cons name v hw)
  refine wpAny_bind (wpAny_lookBehind hoD (by rw [hdD]; exact pastItsLine_dict (Nat.le_trans hcD (by rw [List.length_cons]; omega))) ?_)
  exact wpAny_pure (h _ ⟨(hs2.2 _ (Ne.symm I.ne)).trans I.obj, hn2, I.ne⟩ hs2)

theorem make_map {R : Result → Shared → Prop} {vs : List Value} {kw : List (Str × Value)} (X : K.In s.heap) (hm : PySem.W.makesIn K C = true)
    (hi : PySem.W.findIn K (.ref C) "__init__" = some (some (.ref f))) (hf : PySem.W.typeIn K (.ref f) = some (.type "function"))
    (h : codeAny (model prog w) (A.under (.builtin "type.__call__" ⟨.ref C :: vs, kw⟩)) (.call (.ref f) ⟨.ref (s.heap.objs.size + 1) :: vs, kw⟩) (PySem.W.InitBack (s.heap.objs.size + 1) R)
      { s with heap := (s.heap.push PySem.W.emptyDict).push (PySem.W.instObj C s.heap.objs.size) }) :
    codeAny (model prog w) A (.call (.ref C) ⟨vs, kw⟩) R s := by
  obtain ⟨hh, g, d, t, os⟩ := s
  exact PySem.W.make_core (PySem.W.makes_of X hm) (PySem.W.looks_findIn X hi) (fun self => PySem.W.bind_fn X self hf) (.inl rfl) h
end

noncomputable def putF (f : Str) (v : V) : List (Str × V) → List (Str × V)
  | [] => [(f, v)]
  | (g, x) :: r => if g = f then (g, v) :: r else (g, x) :: putF f v r
theorem lookup_putF (f g : Str) (v : V) : ∀ fs : List (Str × V), (putF f v fs).lookup g = if g = f then some v else fs.lookup g
  | [] => by
    show List.lookup g [(f, v)] = _
    by_cases h : g = f
    · have hb : (g == f) = true := beq_iff_eq.mpr h
      simp only [List.lookup, hb, if_pos h]
    · have hb : (g == f) = false := beq_eq_false_iff_ne.mpr h
      simp only [List.lookup, hb, if_neg h]
  | (k, x) :: r => by
    have ih := lookup_putF f g v r
    rw [show putF f v ((k, x) :: r) = (if k = f then (k, v) :: r else (k, x) :: putF f v r) from rfl]
    by_cases hk : k = f
    · rw [if_pos hk]
      by_cases h : g = k
      · have hb : (g == k) = true := beq_iff_eq.mpr h
        simp only [List.lookup, hb, if_pos (h.trans hk)]
      · have hb : (g == k) = false := beq_eq_false_iff_ne.mpr h
        simp only [List.lookup, hb, if_neg (fun e : g = f => h (e.trans hk.symm))]
    · rw [if_neg hk]
      by_cases h : g = k
      · have hb : (g == k) = true := beq_iff_eq.mpr h
        simp only [List.lookup, hb, if_neg (fun e : g = f => hk (h.symm.trans e))]
      · have hb : (g == k) = false := beq_eq_false_iff_ne.mpr h
        simp only [List.lookup, hb]
        exact ih
theorem keys_putF (f : Str) (v : V) : ∀ fs : List (Str × V), f ∈ (putF f v fs).map (·.1) ∧ ∀ g, g ∈ fs.map (·.1) → g ∈ (putF f v fs).map (·.1)
  | [] => ⟨by simp [putF], fun g h => by simp at h⟩
  | (k, x) :: r => by
    obtain ⟨i1, i2⟩ := keys_putF f v r
    rw [show putF f v ((k, x) :: r) = (if k = f then (k, v) :: r else (k, x) :: putF f v r) from rfl]
    by_cases hk : k = f
    · rw [if_pos hk]
      subst hk
      exact ⟨by simp, fun g h => by simpa using h⟩
    · rw [if_neg hk]
      refine ⟨?_, fun g h => ?_⟩
      · rw [List.map_cons]
        exact List.mem_cons_of_mem _ i1
      · rw [List.map_cons] at h ⊢
        rcases List.mem_cons.mp h with e | e
        · exact List.mem_cons.mpr (.inl e)
        · exact List.mem_cons_of_mem _ (i2 g e)
theorem length_putF (f : Str) (v : V) : ∀ fs : List (Str × V), (putF f v fs).length ≤ fs.length + 1
  | [] => by simp [putF]
  | (k, x) :: r => by
    have ih := length_putF f v r
    rw [show putF f v ((k, x) :: r) = (if k = f then (k, v) :: r else (k, x) :: putF f v r) from rfl]
    by_cases hk : k = f
    · rw [if_pos hk, List.length_cons, List.length_cons]; omega
    · rw [if_neg hk, List.length_cons, List.length_cons]; omega

theorem RelO.some_of {v : V} {o : Option Value} (r : RelO (some v) o) : ∃ u, o = some u ∧ RelV v u := by
  cases o with
  | none => exact (show False from r).elim
  | some u => exact ⟨u, rfl, r⟩
theorem RelO.none_of {o : Option Value} (r : RelO none o) : o = none := by
  cases o with
  | none => rfl
  | some u => exact (show False from r).elim
theorem handed_of {v : V} {u : Value} (r : RelV v u) : PySem.W.handedIn u = true := by
  cases v with
  | non => cases (show u = Value.none from r); rfl
  | bl b => cases (show u = Value.bool b from r); rfl
  | int i => obtain ⟨t, e⟩ := (show ∃ t, u = Value.int i t from r); cases e; rfl
  | str x => obtain ⟨t, e⟩ := (show ∃ t, u = Value.str x t from r); cases e; rfl
  | byt b => obtain ⟨t, e⟩ := (show ∃ t, u = Value.bytes b t from r); cases e; rfl
  | flt b => obtain ⟨t, e⟩ := (show ∃ t, u = Value.float b t from r); cases e; rfl
  | ref a => cases (show u = Value.ref a from r); rfl
  | ty n => cases (show u = Value.type n from r); rfl

section
variable {P : Program} {w : World} {H H' : Hp} {h h' : Heap} {a C dx : Addr} {fs fs' : List (Str × V)}
theorem ins_get (hok : HOk P w H h) (e : H a = some (.ins C dx fs)) : ∃ mA, ObjM h a dx C mA ∧ (∀ f, RelO (fs.lookup f) (mA f)) ∧ PySem.Within mA (fs.map (·.1)) ∧ fs.length ≤ 1000 ∧ H dx = some (.own a) := by
  obtain ⟨d, z, ne, ob, mA, n, r, q⟩ := (show ObjOk P w H h a (.ins C dx fs) from hok a _ e)
  exact ⟨mA, ⟨ob, n, ne⟩, r, q, z, d⟩
end

structure Cls (K : PySem.W.Frag) (C : Addr) : Prop where
  pg : PySem.W.plainGet K C Str.empty = true
  hd : PySem.W.hasDictIn K C = true
  po : PySem.W.plainOver K C = true
  sa : PySem.W.findIn K (.ref C) "__setattr__" = some (some (.builtin "object.__setattr__"))
theorem Cls.get {K : PySem.W.Frag} {C : Addr} (c : Cls K C) (f : Str) : PySem.W.plainGet K C f = true := c.pg
noncomputable def NoAttr (K : PySem.W.Frag) (C : Addr) (f : Str) : Prop := PySem.W.findIn K (.ref C) f = some none
theorem NoAttr.taker {K : PySem.W.Frag} {C : Addr} {f : Str} (n : NoAttr K C f) : PySem.W.takerIn K C f = some none := by
  unfold PySem.W.takerIn
  rw [show PySem.W.findIn K (.ref C) f = some none from n]
  rfl
structure Con (K : PySem.W.Frag) (C : Addr) (f : Str) (v : V) (u : Value) : Prop where
  at_ : PySem.W.findIn K (.ref C) f = some (some u)
  rel : RelV v u
  get : PySem.W.specialIn K u "__get__" = some none
  cp : PySem.W.copiedNames.contains f = false
structure Meth (K : PySem.W.Frag) (C : Addr) (m : Str) (f : Addr) : Prop where
  at_ : PySem.W.findIn K (.ref C) m = some (some (.ref f))
  fn : PySem.W.isFn K (.ref f) = true
  kp : PySem.W.keepIn K (.ref f) = true

section
variable {X : Cx} {pins : List (Addr × Obj)} {σ : St} {H : Hp} {s : Shared} {a C dx : Addr} {fs : List (Str × V)} {f : Str} {v : V} {A : Around} {E : Value → Shared → Prop}

theorem getattr_ok {b : Bool} {Q : Value → Shared → Prop} (I : Inv X pins σ H s) (e : H a = some (.ins C dx fs)) (c : Cls X.K C) (n : NoAttr X.K C f) (l : fs.lookup f = some v)
    (h : ∀ u s', Inv X pins σ H s' → RelV v u → Q u s') : wpAny (model X.prog X.w) A (getAttr (.ref a) f b) Q E s := by
  obtain ⟨mA, O, r, _, _, _⟩ := ins_get I.hok e
  obtain ⟨u, hu, ru⟩ := RelO.some_of (v := v) (o := mA f) (by rw [← l]; exact r f)
  exact get_map I.kIn O (c.get f) c.hd n hu (handed_of ru) (h u _ (I.tok _) ru)

theorem getmeth_ok {m : Str} {g : Addr} {pl : Sem Bool} {Q : Value × List Value → Shared → Prop} (I : Inv X pins σ H s) (e : H a = some (.ins C dx fs)) (c : Cls X.K C) (k : Meth X.K C m g) (l : fs.lookup m = none)
    (h : Q (.ref g, [.ref a]) s) : wpAny (model X.prog X.w) A (getMethod (.ref a) m pl) Q E s := by
  obtain ⟨mA, O, r, _, _, _⟩ := ins_get I.hok e
  have hn : mA m = none := RelO.none_of (by rw [← l]; exact r m)
  exact get_meth I.kIn O (c.get m) k.at_ k.fn hn h

theorem setattr_ok {y : V} {u : Value} {Q : Unit → Shared → Prop} (I : Inv X pins σ H s) (e : H a = some (.ins C dx fs)) (c : Cls X.K C) (n : NoAttr X.K C f) (hl : fs.length < 1000) (ry : RelV y u)
    (h : ∀ s', Inv X pins σ (upd H a (.ins C dx (putF f y fs))) s' → Q () s') : wpAny (model X.prog X.w) A (setAttr (.ref a) f u) Q E s := by
  obtain ⟨mA, O, r, wi, _, ho⟩ := ins_get I.hok e
  have hz : (fs.map (·.1)).length ≤ sizeLine := by rw [List.length_map, sizeLine_eq]; omega
  refine set_map I.kIn O c.sa c.po n.taker c.hd wi hz fun h' O' sb => h _ ?_
  have hd : ∃ o, h'.get? dx = some o := let ⟨o, _, _, e', _⟩ := O'.ns; ⟨o, e'⟩
  refine I.write (x := a) (e := dx) (by rw [e]; exact True.intro) (.inr ho) (fun b q hb z => (sb.2 b hb).trans z) hd ?_
  refine ⟨by rw [upd_ne O.ne]; exact ho, ?_, O.ne, O'.obj, _, O'.ns, fun g => ?_, fun g hg => ?_⟩
  · have := length_putF f y fs; omega
  · show RelO ((putF f y fs).lookup g) (if g = f then some u else mA g)
    rw [lookup_putF]
    by_cases q : g = f
    · rw [if_pos q, if_pos q]; exact ry
    · rw [if_neg q, if_neg q]; exact r g
  · by_cases q : g = f
    · rw [q]; exact (keys_putF f y fs).1
    · refine (keys_putF f y fs).2 g (wi g fun z => hg ?_)
      show (if g = f then some u else mA g) = none
      rw [if_neg q]; exact z

theorem Inv.made (I : Inv X pins σ H s) : Inv X pins σ (upd (upd H s.heap.objs.size (.own (s.heap.objs.size + 1))) (s.heap.objs.size + 1) (.ins C s.heap.objs.size []))
    { s with heap := (s.heap.push PySem.W.emptyDict).push (PySem.W.instObj C s.heap.objs.size) } := by
  have e1 : (s.heap.push PySem.W.emptyDict).get? s.heap.objs.size = some PySem.W.emptyDict := Heap.get?_push_size s.heap rfl
  have e2 : ((s.heap.push PySem.W.emptyDict).push (PySem.W.instObj C s.heap.objs.size)).get? (s.heap.objs.size + 1) = some (PySem.W.instObj C s.heap.objs.size) := by
    have := Heap.get?_push_size (s.heap.push PySem.W.emptyDict) (o := PySem.W.instObj C s.heap.objs.size) rfl
    rwa [Heap.size_push] at this
  have e3 : (s.heap.push PySem.W.emptyDict).Ns s.heap.objs.size (fun _ => none) := ⟨PySem.W.emptyDict, #[], _, e1, rfl, (fun e he => absurd he (by simp)), fun _ => rfl⟩
  have I1 := I.laid (a := s.heap.objs.size) (o := .own (s.heap.objs.size + 1)) (h' := s.heap.push PySem.W.emptyDict) (t' := s.toks) (fun b u q => Heap.get?_push_of_some _ q) (Nat.le_refl _) ⟨_, e1⟩
  refine I1.laid (a := s.heap.objs.size + 1) (o := .ins C s.heap.objs.size []) (t' := s.toks) (fun b u q => Heap.get?_push_of_some _ q) (Nat.le_of_eq (Heap.size_push _ _)) ?_
  have ne : s.heap.objs.size ≠ s.heap.objs.size + 1 := Nat.ne_of_lt (Nat.lt_succ_self _)
  refine ⟨by rw [upd_ne ne, upd_same], Nat.zero_le _, ne, e2, fun _ => none, (Heap.Ns1.of_empty e3).at fun o q => Heap.get?_push_of_some _ q, fun _ => True.intro, fun y hy => absurd rfl hy⟩

theorem attr_of {prog : Program} {w : World} {env : Env} {e : Expr} {f : Str} {pos : Pos} {s : Shared} {Q : Value → Shared → Prop} (hb : attributeBase e f env (eval e env) = eval e env)
    (h : wpAny (model prog w) A (eval e env) (fun o s₁ => wpAny (model prog w) A (getAttr o f true) Q E s₁) E s) : wpAny (model prog w) A (eval (.Attribute e f pos) env) Q E s :=
  Attribute_any_ h (by rw [arm_eval_Attribute, hb])
end

noncomputable def tFld (K : PySem.W.Frag) (ta : TE) (f : Str) : TE := fun σ H Q => ta σ H fun x H1 => ∃ a C dx fs v, x = .ref a ∧ H1 a = some (.ins C dx fs) ∧ Cls K C ∧ NoAttr K C f ∧ fs.lookup f = some v ∧ Q v H1
noncomputable def sFld (K : PySem.W.Frag) (ta tv : TE) (f : Str) : TS := fun D σ H => tv σ H fun y H1 => ta σ H1 fun x H2 => ∃ a C dx fs, x = .ref a ∧ H2 a = some (.ins C dx fs) ∧ Cls K C ∧ NoAttr K C f ∧ fs.length < 1000 ∧
  D.nx σ (upd H2 a (.ins C dx (putF f y fs)))
noncomputable def InOp (X : Cx) (op : Operator) (rd : V → V → Hp → VK → Prop) : Prop :=
  ∀ (pins : List (Addr × Obj)) (s : Shared) (σ : St) (H : Hp) (x y : V) (u v : Value) (Q : VK), Inv X pins σ H s → RelV x u → RelV y v → rd x y H Q → wpAny (model X.prog X.w) X.A (inplaceOp op u v) (EP X pins σ Q) X.xe s
noncomputable def sFldAug (K : PySem.W.Frag) (ta tv : TE) (rd : V → V → Hp → VK → Prop) (f : Str) : TS := fun D σ H => ta σ H fun x H1 => ∃ a C dx fs v, x = .ref a ∧ H1 a = some (.ins C dx fs) ∧ Cls K C ∧ NoAttr K C f ∧ fs.lookup f = some v ∧
  tv σ H1 fun y H2 => rd v y H2 fun z H3 => ∃ dx' fs', H3 a = some (.ins C dx' fs') ∧ fs'.length < 1000 ∧ D.nx σ (upd H3 a (.ins C dx' (putF f z fs')))

section
variable {X : Cx} {o e value : Expr} {f : Str} {pos pos' tpos : Pos} {ta tv : TE}
theorem pe_fld (he : PE X e ta) (hb : attributeBase e f X.env (eval e X.env) = eval e X.env) : PE X (.Attribute e f pos) (tFld X.K ta f) := by
  intro pins s σ H Q I h
  refine attr_of hb (thn (he pins s σ H _ I h) fun u s1 hzq => ?_)
  obtain ⟨x, H1, I1, rx, a, C, dx, fs, v, ex, ea, c, n, l, q⟩ := hzq
  subst ex
  obtain rfl : u = Value.ref a := rx
  exact getattr_ok I1 ea c n l fun u' s2 I2 ru => ⟨v, H1, I2, ru, q⟩
theorem ps_fld (ha : PE X o ta) (hv : PE X value tv) (hs : swapsWith value (some (.Attribute o f pos')) pos.line X.env = pure false) : PS X (.Assign [.Attribute o f pos'] value pos) (sFld X.K ta tv f) := by
  intro pins s σ H D I h
  refine plainObj_wpAny_Assign_Attribute (thn (hv pins s σ H _ I h) fun u s1 ⟨y, H1, I1, ry, q⟩ => thn (ha pins s1 σ H1 _ I1 q) fun ov s2 hzq => ?_) hs
  obtain ⟨x, H2, I2, rx, a, C, dx, fs, ex, ea, c, n, l, q2⟩ := hzq
  subst ex
  obtain rfl : ov = Value.ref a := rx
  exact setattr_ok I2 ea c n l ry fun s3 I3 => ⟨σ, _, I3, q2⟩
theorem ps_fldaug {op : Operator} {rd : V → V → Hp → VK → Prop} (ha : PE X o ta) (hv : PE X value tv) (hop : InOp X op rd) : PS X (.AugAssign (.Attribute o f tpos) op value pos) (sFldAug X.K ta tv rd f) := by
  intro pins s σ H D I h
  refine wpAny_AugAssign_AttributeAny (thn (ha pins s σ H _ I h) fun ov s1 hzq => ?_)
  obtain ⟨x, H1, I1, rx, a, C, dx, fs, v, ex, ea, c, n, l, q⟩ := hzq
  subst ex
  obtain rfl : ov = Value.ref a := rx
  refine getattr_ok I1 ea c n l fun u s2 I2 ru => thn (hv pins s2 σ H1 _ I2 q) fun w3 s3 ⟨y, H2, I3, ry, q3⟩ => thn (hop pins s3 σ H2 v y u w3 _ I3 ru ry q3) fun w4 s4 ⟨z, H3, I4, rz, dx', fs', ea', l', q4⟩ => ?_
  exact setattr_ok I4 ea' c n l' rz fun s5 I5 => ⟨σ, _, I5, q4⟩
noncomputable def rAdd : V → V → Hp → VK → Prop := fun x y H Q => ∃ i j, x = .int i ∧ y = .int j ∧ Q (.int (i + j)) H
noncomputable def rSub : V → V → Hp → VK → Prop := fun x y H Q => ∃ i j, x = .int i ∧ y = .int j ∧ Q (.int (i - j)) H
theorem in_add : InOp X .Add rAdd := by
  rintro pins s σ H x y u v Q I rx ry ⟨i, j, rfl, rfl, q⟩
  obtain ⟨t, rfl⟩ := (show ∃ t, u = Value.int i t from rx)
  obtain ⟨t', rfl⟩ := (show ∃ t', v = Value.int j t' from ry)
  exact PyProof.Rows.iadd_int ⟨.int (i + j), H, I.tok _, ⟨_, rfl⟩, q⟩
theorem in_sub : InOp X .Sub rSub := by
  rintro pins s σ H x y u v Q I rx ry ⟨i, j, rfl, rfl, q⟩
  obtain ⟨t, rfl⟩ := (show ∃ t, u = Value.int i t from rx)
  obtain ⟨t', rfl⟩ := (show ∃ t', v = Value.int j t' from ry)
  exact PyProof.Rows.isub_int ⟨.int (i - j), H, I.tok _, ⟨_, rfl⟩, q⟩

theorem methcall_of {pl : Sem Bool} {m : Str} {apos : Pos} {args : List Expr} {pins : List (Addr × Obj)} {s : Shared} {σ : St} {H : Hp} {Q : Value → Shared → Prop} {te : TE} (he : PE X e te) (I : Inv X pins σ H s)
    (h : te σ H fun x H1 => ∃ a C dx fs g, x = .ref a ∧ H1 a = some (.ins C dx fs) ∧ Cls X.K C ∧ Meth X.K C m g ∧ fs.lookup m = none ∧
      ∀ s1, Inv X pins σ H1 s1 → wpAny (model X.prog X.w) X.A (callWith pos (.ref g) [.ref a] (backTo pos (starEach args X.env)) (backToKw pos (keywordEach [] X.env))) Q X.xe s1)
    (ht : eval (.Call (.Attribute e m apos) args [] pos) X.env = (do
      let ov ← eval e X.env
      standAt apos.atName
      let (f, first) ← holding [ov] (getMethod ov m pl)
      callWith pos f first (backTo pos (starEach args X.env)) (backToKw pos (keywordEach [] X.env)))) :
    wpAny (model X.prog X.w) X.A (eval (.Call (.Attribute e m apos) args [] pos) X.env) Q X.xe s := by
  refine PySem.W.methodCall_KW (pl := pl) (thn (he pins s σ H _ I h) fun u s1 hzq => ?_) ht
  obtain ⟨x, H1, I1, rx, a, C, dx, fs, g, ex, ea, c, k, l, q⟩ := hzq
  subst ex
  obtain rfl : u = Value.ref a := rx
  exact getmeth_ok I1 ea c k l (q s1 I1)
end

section
variable {X : Cx} {pins : List (Addr × Obj)} {σ : St} {H : Hp} {s : Shared} {A : Around} {E : Value → Shared → Prop} {Q : Value → Shared → Prop} {c : Value} {b : Bool}
inductive TyOf (K : PySem.W.Frag) (H : Hp) : V → Value → Prop where
  | non : TyOf K H .non (.type "NoneType")
  | bl (x : Bool) : TyOf K H (.bl x) (.type "bool")
  | int (i : Int) : TyOf K H (.int i) (.type "int")
  | str (x : Str) : TyOf K H (.str x) (.type "str")
  | flt (x : UInt64) : TyOf K H (.flt x) (.type "float")
  | lst {a : Addr} {xs : List V} (e : H a = some (.lst xs)) : TyOf K H (.ref a) (.type "list")
  | frz {a : Addr} {o : Obj} {xs : List V} (e : H a = some (.frz o (.lst xs))) : TyOf K H (.ref a) (.type "list")
  | tup {a : Addr} {xs : List V} (e : H a = some (.tup xs)) : TyOf K H (.ref a) (.type "tuple")
  | dK {a : Addr} {kvs : List (Key × V)} (e : H a = some (.dK kvs)) : TyOf K H (.ref a) (.type "dict")
  | dT {a : Addr} {kvs : List (List Key × V)} (e : H a = some (.dT kvs)) : TyOf K H (.ref a) (.type "dict")
  | ins {a C dx : Addr} {fs : List (Str × V)} (e : H a = some (.ins C dx fs)) (cl : Cls K C) (ha : PySem.W.findIn K (.ref C) "__class__" = some (some (.builtin "object.__class__")))
      (hn : PySem.W.specialIn K (.builtin "object.__class__") "__get__" = some (some (.builtin "getset_descriptor.__get__"))) (htk : PySem.W.takesIn K (.builtin "object.__class__") = some true)
      (hm : PySem.W.mroIn K C (.type "object") = some true) : TyOf K H (.ref a) (.ref C)
end
end L2

namespace L2
open PySem PySem.Spec PyProof.Rows

structure Room (k : Nat) (A : Around) : Prop where
  hd : A.handled = none
  dp : A.depth + 3 * k + 5 < recursionLimit
  un : A.units + 16 * k + 200 < cLine
theorem Room.mono {j k : Nat} {A : Around} (r : Room k A) (h : j ≤ k) : Room j A := ⟨r.hd, by have := r.dp; omega, by have := r.un; omega⟩
theorem Room.deeper {k : Nat} {A : Around} (r : Room (k + 1) A) (env : Env) : Room k (A.deeper env) :=
  ⟨r.hd, by have := r.dp; show A.depth + 1 + 3 * k + 5 < _; omega, by have := r.un; show A.units + 3 + 16 * k + 200 < _; omega⟩
theorem Room.in1 {k : Nat} {A : Around} (r : Room (k + 1) A) : Room k A.in1 :=
  ⟨r.hd, by have := r.dp; show A.depth + 3 * k + 5 < _; omega, by have := r.un; show A.units + 1 + 16 * k + 200 < _; omega⟩
theorem make_depth {A : Around} {C : Addr} {us : List Value} {kw : List (Str × Value)} : (A.under (.builtin "type.__call__" ⟨.ref C :: us, kw⟩)).depth = A.depth + 1 := by
  first | rfl | simp [Around.under, Code.weight, Code.isCreation, Code.isGuard, Code.isCaller, Code.frames, Code.isFrame, guardIds]
theorem make_units {A : Around} {C : Addr} {us : List Value} {kw : List (Str × Value)} : (A.under (.builtin "type.__call__" ⟨.ref C :: us, kw⟩)).units = A.units + 1 := by
  first | rfl | simp [Around.under, Code.cUnits, Code.frames, Code.isFrame]
theorem Room.make {k : Nat} {A : Around} (r : Room (k + 1) A) (C : Addr) (us : List Value) (kw : List (Str × Value)) : Room k (A.under (.builtin "type.__call__" ⟨.ref C :: us, kw⟩)) :=
  ⟨r.hd, by have := r.dp; rw [make_depth]; omega, by have := r.un; rw [make_units]; omega⟩
theorem Room.depth {k : Nat} {A : Around} (r : Room k A) : A.depth < recursionLimit := by have := r.dp; omega
theorem Room.units {k : Nat} {A : Around} (r : Room k A) : A.units + 64 < cLine := by have := r.un; omega
noncomputable def tNil : TA := fun _ H Q => Q [] H
noncomputable def tCons (ta : TE) (tr : TA) : TA := fun σ H Q => ta σ H fun x H1 => tr σ H1 fun xs H2 => Q (x :: xs) H2
section
variable {X : Cx} {e : Expr} {es : List Expr} {te : TE} {t : TA} {pos : Pos}
theorem pa_nil : PA X [] tNil := fun _ _ _ _ H Q I h => Calls.spliced_nil ⟨[], H, I, .nil, h⟩
theorem pa_cons (ha : PE X e te) (hr : PA X es t) (hs : starEach (e :: es) X.env = (false, eval e X.env) :: starEach es X.env := by rfl) : PA X (e :: es) (tCons te t) := by
  intro pos pins s σ H Q I h
  rw [hs]
  show wpAny _ _ (spliced ((false, eval e X.env) :: backTo pos (starEach es X.env))) _ _ s
  refine Calls.spliced_cons (thn (ha pins s σ H _ I h) fun u s1 hzq => ?_)
  obtain ⟨x, H1, I1, r1, q1⟩ := hzq
  exact thn (hr pos pins s1 σ H1 _ I1 q1) fun us s2 ⟨xs, H2, I2, r2, q2⟩ => ⟨x :: xs, H2, I2, .cons r1 r2, q2⟩

noncomputable def tTup (t : TA) : TE := fun σ H Q => t σ H fun xs H1 => xs.length ≤ sizeLine ∧ ∀ p, H1 p = none → Q (.ref p) (upd H1 p (.tup xs))
noncomputable def tLst (t : TA) : TE := fun σ H Q => t σ H fun xs H1 => xs.length ≤ sizeLine ∧ ∀ p, H1 p = none → Q (.ref p) (upd H1 p (.lst xs))
theorem pe_tup {x1} (h : PA X es t) : PE X (.Tuple es x1 pos) (tTup t) := by
  intro pins s σ H Q I hq
  refine wpAny_Tuple_spliced (thn (h pos pins s σ H _ I hq) fun us s1 ⟨xs, H1, I1, r, z, q⟩ => ⟨by rw [← r.length]; exact z, ?_⟩)
  have hf : H1 s1.heap.objs.size = none := I1.hok.fresh (Nat.le_refl _)
  refine ⟨.ref s1.heap.objs.size, upd H1 s1.heap.objs.size (.tup xs), I1.laid (t' := s1.toks) (fun b u e => Heap.get?_push_of_some _ e) (Nat.le_refl _) ?_, rfl, q _ hf⟩
  exact ⟨z, us, r, ⟨_, Heap.get?_push_size _ rfl, rfl, _, rfl⟩⟩
theorem pe_lst (h : PA X es t) : PE X (.List es pos) (tLst t) := by
  intro pins s σ H Q I hq
  refine wpAny_List_spliced (thn (h pos pins s σ H _ I hq) fun us s1 ⟨xs, H1, I1, r, z, q⟩ => ⟨by rw [← r.length]; exact z, ?_⟩)
  have hf : H1 s1.heap.objs.size = none := I1.hok.fresh (Nat.le_refl _)
  refine ⟨.ref s1.heap.objs.size, upd H1 s1.heap.objs.size (.lst xs), I1.laid (t' := s1.toks) (fun b u e => Heap.get?_push_of_some _ e) (Nat.le_refl _) ?_, rfl, q _ hf⟩
  exact ⟨z, us, 0, r, Heap.get?_push_size _ rfl⟩
end

noncomputable abbrev Sp := List V → Hp → VK → XK → Prop
noncomputable abbrev CXT := List Env → Hp → Shared → XK → Value → Shared → Prop

structure Env0 (P : Program) (w : World) (K : PySem.W.Frag) (mg : Str → Option Value) (base : Heap) (A : Around) (outer : List Env) (s : Shared) (H : Hp) : Prop where
  frames : A.frames = some outer
  mod : Mod K mg base
  bs : ∀ b o, base.get? b = some o → s.heap.get? b = some o ∧ H b = none
  bsz : base.objs.size ≤ s.heap.objs.size
  funs : s.heap.FunFrames base outer
  frf : ∀ b ∈ frs outer, H b = none
  hok : HOk P w H s.heap
  bare : AllBare s.gens
noncomputable def CE (outer : List Env) (P : Program) (w : World) (H : Hp) (s : Shared) (Q : VK) (u : Value) (s' : Shared) : Prop :=
  ∃ v H', s'.os = s.os ∧ AllBare s'.gens ∧ Un (frs outer) [] H H' s.heap s'.heap ∧ HOk P w H' s'.heap ∧ RelV v u ∧ Q v H'
noncomputable def CR (CX : CXT) (outer : List Env) (P : Program) (w : World) (H : Hp) (s : Shared) (Q : VK) (E : XK) (r : Result) (s' : Shared) : Prop :=
  match r with
  | .ok (.ret u) => CE outer P w H s Q u s'
  | .ok _ => False
  | .error e => CX outer H s E e s'
structure FnOk (P : Program) (w : World) (K : PySem.W.Frag) (mg : Str → Option Value) (base : Heap) (CX : CXT) (k : Nat) (f : Addr) (fd : FuncData) (ps : List Str) (sp : Sp) : Prop where
  len : ∀ vs H Q E, sp vs H Q E → vs.length = ps.length
  run : ∀ (A : Around) (outer : List Env) (s : Shared) (H : Hp) (args : Args) (us : List Value) (vs : List V) (Q : VK) (E : XK), Room k A → Env0 P w K mg base A outer s H → BindsTo s fd args (ps.zip us) → Vals vs us → sp vs H Q E →
    codeAny (model P w) A (.call (.ref f) args) (CR CX outer P w H s Q E) s
theorem FnOk.mono {P : Program} {w : World} {K : PySem.W.Frag} {mg : Str → Option Value} {base : Heap} {CX : CXT} {j k : Nat} {f : Addr} {fd : FuncData} {ps : List Str} {sp : Sp} (F : FnOk P w K mg base CX j f fd ps sp) (h : j ≤ k) :
    FnOk P w K mg base CX k f fd ps sp := ⟨F.len, fun A outer s H args us vs Q E hr => F.run A outer s H args us vs Q E (hr.mono h)⟩
theorem FnOk.imp {P : Program} {w : World} {K : PySem.W.Frag} {mg : Str → Option Value} {base : Heap} {CX : CXT} {k : Nat} {f : Addr} {fd : FuncData} {ps : List Str} {sp sp' : Sp} (F : FnOk P w K mg base CX k f fd ps sp)
    (h : ∀ vs H Q E, sp' vs H Q E → sp vs H Q E) : FnOk P w K mg base CX k f fd ps sp' :=
  ⟨fun vs H Q E q => F.len vs H Q E (h _ _ _ _ q), fun A outer s H args us vs Q E hr he hb hv hs => F.run A outer s H args us vs Q E hr he hb hv (h _ _ _ _ hs)⟩

theorem Env0.make {P : Program} {w : World} {K : PySem.W.Frag} {mg : Str → Option Value} {base : Heap} {A : Around} {outer : List Env} {s : Shared} {H : Hp} (e : Env0 P w K mg base A outer s H) (C : Addr) (us : List Value) (kw : List (Str × Value)) :
    Env0 P w K mg base (A.under (.builtin "type.__call__" ⟨.ref C :: us, kw⟩)) outer s H := ⟨by first | exact e.frames | (simpa [Around.under, Code.envs, Code.isFrame, pushEnvs] using e.frames), e.mod, e.bs, e.bsz, e.funs, e.frf, e.hok, e.bare⟩
theorem Env0.in1 {P : Program} {w : World} {K : PySem.W.Frag} {mg : Str → Option Value} {base : Heap} {A : Around} {outer : List Env} {s : Shared} {H : Hp} (e : Env0 P w K mg base A outer s H) :
    Env0 P w K mg base A.in1 outer s H := ⟨e.frames, e.mod, e.bs, e.bsz, e.funs, e.frf, e.hok, e.bare⟩

section
variable {X : Cx} {pins : List (Addr × Obj)} {σ : St} {H : Hp} {s s' : Shared}
theorem Inv.env0 (I : Inv X pins σ H s) : Env0 X.prog X.w X.K X.mg X.base X.A X.stack s H :=
  ⟨I.ok.frames, I.ok.mod, I.bs, Nat.le_trans I.ok.bsz I.sz, I.stack, I.stkFree, I.hok, I.bare⟩
theorem Inv.after {Q : VK} {u : Value} (I : Inv X pins σ H s) (h : CE X.stack X.prog X.w H s Q u s') : EP X pins σ Q u s' := by
  obtain ⟨v, H', os, bare, un, hok, r, q⟩ := h
  obtain ⟨hh, g, d, t, os'⟩ := s'
  obtain rfl : os' = s.os := os
  exact ⟨v, H', I.call (h' := hh) (g' := g) (d' := d) (t' := t) (ch := []) un hok bare (fun b z => absurd z (by simp)), r, q⟩
end

noncomputable def tCall (sp : Sp) (dvs : List V) (E : XK) (t : TA) : TE := fun σ H Q => t σ H fun vs H1 => sp (vs ++ dvs) H1 Q E
noncomputable def tMeth (C : Addr) (m : Str) (sp : Sp) (dvs : List V) (E : XK) (ta : TE) (t : TA) : TE := fun σ H Q => ta σ H fun x H1 => ∃ a dx fs, x = .ref a ∧ H1 a = some (.ins C dx fs) ∧ fs.lookup m = none ∧
  t σ H1 fun vs H2 => sp (x :: (vs ++ dvs)) H2 Q E
noncomputable def tMake (C : Addr) (sp : Sp) (dvs : List V) (E : XK) (t : TA) : TE := fun σ H Q => t σ H fun vs H1 => ∀ x dx, H1 x = none → H1 dx = none → dx ≠ x →
  sp (.ref x :: (vs ++ dvs)) (upd (upd H1 dx (.own x)) x (.ins C dx [])) (fun v H2 => v = .non ∧ Q (.ref x) H2) E

noncomputable def Binds (K : PySem.W.Frag) (fd : FuncData) (ps : List Str) (ds : List Value) : Prop :=
  ∀ (s : Shared) (us : List Value), K.In s.heap → (us ++ ds).length = ps.length → BindsTo s fd ⟨us, []⟩ (ps.zip (us ++ ds))
theorem Binds.all {K : PySem.W.Frag} {fd : FuncData} {ps : List Str} (h : ∀ us : List Value, us.length = ps.length → bindArgs fd ⟨us, []⟩ = pure (ps.zip us)) : Binds K fd ps [] := fun s us _ hl => by
  rw [List.append_nil] at hl ⊢
  exact .of_eq (h us hl)

noncomputable def Passes (CX : CXT) (X : Cx) (E : XK) : Prop := ∀ (pins : List (Addr × Obj)) (σ : St) (H : Hp) (s : Shared) (e : Value) (s' : Shared), Inv X pins σ H s → CX X.stack H s E e s' → X.xe e s'

section
variable {X : Cx} {CX : CXT} {k : Nat} {f C : Addr} {fd : FuncData} {ps : List Str} {sp : Sp} {dvs : List V} {ds : List Value} {E : XK} {x m : Str} {p pos apos : Pos} {e o : Expr} {es : List Expr} {ta : TE} {t : TA}

theorem run_fn {pins : List (Addr × Obj)} {σ : St} {H : Hp} {s : Shared} {Q : VK} {us : List Value} {vs : List V} (F : FnOk X.prog X.w X.K X.mg X.base CX k f fd ps sp) (hr : Room k X.A) (hb : Binds X.K fd ps ds) (hd : Vals dvs ds) (hx : Passes CX X E)
    (I : Inv X pins σ H s) (r : Vals vs us) (h : sp (vs ++ dvs) H Q E) : wpAny (model X.prog X.w) X.A (call (.ref f) us) (EP X pins σ Q) X.xe s := by
  have r2 : Vals (vs ++ dvs) (us ++ ds) := r.append hd
  have hl : (us ++ ds).length = ps.length := by rw [← r2.length]; exact F.len _ _ _ _ h
  refine wpAny_call (codeAny_mono (F.run X.A X.stack s H ⟨us, []⟩ (us ++ ds) (vs ++ dvs) Q E hr I.env0 (hb s us I.kIn hl) r2 h) fun r s' hq => ?_)
  cases r with
  | error e => exact hx pins σ H s e s' I hq
  | ok fl =>
    cases fl with
    | ret u => exact I.after hq
    | next => exact False.elim hq
    | brk => exact False.elim hq
    | cont => exact False.elim hq

theorem pe_call (F : FnOk X.prog X.w X.K X.mg X.base CX k f fd ps sp) (hr : Room k X.A) (hg : Gl X x) (hm : X.mg x = some (.ref f)) (hk : PySem.W.keepIn X.K (.ref f) = true) (hb : Binds X.K fd ps ds) (hd : Vals dvs ds) (hx : Passes CX X E)
    (ha : PA X (e :: es) t) (hdb : (x == ("__debug__" : Str)) = false := by decide) (he : starEach (e :: es) X.env = (false, eval e X.env) :: starEach es X.env := by rfl) (hpl : (backTo pos (starEach es X.env)).any (·.1) = false := by rfl) :
    PE X (.Call (.Name x p) (e :: es) [] pos) (tCall sp dvs E t) := by
  intro pins s σ H Q I h
  refine wpAny_Call_Name_kw (ld_glob I hg hm ?_ hdb)
  refine PySem.W.callWith_K (h₀ := X.base) I.ok.mod.kin hk (thn (ha pos pins s σ H _ I h) fun us s1 ⟨vs, H1, I1, r, q⟩ => ⟨I1.kIn, ?_⟩) he hpl
  exact run_fn F hr hb hd hx I1 r q
theorem pe_meth {pl : Sem Bool} (he : PE X o ta) (c : Cls X.K C) (hm : Meth X.K C m f) (F : FnOk X.prog X.w X.K X.mg X.base CX k f fd ps sp) (hr : Room k X.A) (hb : Binds X.K fd ps ds) (hd : Vals dvs ds) (hx : Passes CX X E) (ha : PA X (e :: es) t)
    (hst : starEach (e :: es) X.env = (false, eval e X.env) :: starEach es X.env := by rfl) (hpl : (backTo pos (starEach es X.env)).any (·.1) = false := by rfl)
    (ht : eval (.Call (.Attribute o m apos) (e :: es) [] pos) X.env = (do
      let ov ← eval o X.env
      standAt apos.atName
      let (f, first) ← holding [ov] (getMethod ov m pl)
      callWith pos f first (backTo pos (starEach (e :: es) X.env)) (backToKw pos (keywordEach [] X.env))) := by rfl) :
    PE X (.Call (.Attribute o m apos) (e :: es) [] pos) (tMeth C m sp dvs E ta t) := by
  intro pins s σ H Q I h
  refine PySem.W.methodCall_KW (pl := pl) (thn (he pins s σ H _ I h) fun u s1 hzq => ?_) ht
  obtain ⟨x, H1, I1, rx, a, dx, fs, ex, ea, l, q⟩ := hzq
  subst ex
  obtain rfl : u = Value.ref a := rx
  refine getmeth_ok I1 ea c hm l ?_
  refine PySem.W.callWith_K (first := [.ref a]) (h₀ := X.base) I.ok.mod.kin hm.kp (thn (ha pos pins s1 σ H1 _ I1 q) fun us s2 ⟨vs, H2, I2, r, q2⟩ => ⟨I2.kIn, ?_⟩) hst hpl
  exact run_fn (us := .ref a :: us) (vs := .ref a :: vs) F hr hb hd hx I2 (.cons rfl r) q2
theorem pe_meth0 {pl : Sem Bool} (he : PE X o ta) (c : Cls X.K C) (hm : Meth X.K C m f) (F : FnOk X.prog X.w X.K X.mg X.base CX k f fd ps sp) (hr : Room k X.A) (hb : Binds X.K fd ps ds) (hd : Vals dvs ds) (hx : Passes CX X E)
    (ht : eval (.Call (.Attribute o m apos) [] [] pos) X.env = (do
      let ov ← eval o X.env
      standAt apos.atName
      let (f, first) ← holding [ov] (getMethod ov m pl)
      callWith pos f first (backTo pos (starEach [] X.env)) (backToKw pos (keywordEach [] X.env))) := by rfl) :
    PE X (.Call (.Attribute o m apos) [] [] pos) (tMeth C m sp dvs E ta tNil) := by
  intro pins s σ H Q I h
  refine PySem.W.methodCall_KW (pl := pl) (thn (he pins s σ H _ I h) fun u s1 hzq => ?_) ht
  obtain ⟨x, H1, I1, rx, a, dx, fs, ex, ea, l, q⟩ := hzq
  subst ex
  obtain rfl : u = Value.ref a := rx
  refine getmeth_ok I1 ea c hm l ?_
  exact PySem.W.callWith_K0 (first := [.ref a]) I1.kIn hm.kp (run_fn (us := [.ref a]) (vs := [.ref a]) F hr hb hd hx I1 (.cons rfl .nil) q)

structure Mk (K : PySem.W.Frag) (C f : Addr) : Prop where
  makes : PySem.W.makesIn K C = true
  init : PySem.W.findIn K (.ref C) "__init__" = some (some (.ref f))
  fn : PySem.W.isFn K (.ref f) = true
  kp : PySem.W.keepIn K (.ref C) = true

theorem run_make {pins : List (Addr × Obj)} {σ : St} {H : Hp} {s : Shared} {Q : VK} {us : List Value} {vs : List V} (M : Mk X.K C f) (F : FnOk X.prog X.w X.K X.mg X.base CX k f fd ps sp) (hr : Room (k + 1) X.A) (hb : Binds X.K fd ps ds) (hd : Vals dvs ds)
    (hx : Passes CX X E) (I : Inv X pins σ H s) (r : Vals vs us)
    (h : ∀ x dx, H x = none → H dx = none → dx ≠ x → sp (.ref x :: (vs ++ dvs)) (upd (upd H dx (.own x)) x (.ins C dx [])) (fun v H2 => v = .non ∧ Q (.ref x) H2) E) :
    wpAny (model X.prog X.w) X.A (call (.ref C) us) (EP X pins σ Q) X.xe s := by
  have hq := h (s.heap.objs.size + 1) s.heap.objs.size (I.hok.fresh (Nat.le_succ _)) (I.hok.fresh (Nat.le_refl _)) (Nat.ne_of_lt (Nat.lt_succ_self _))
  have I2 := Inv.made (C := C) I
  have r2 : Vals (V.ref (s.heap.objs.size + 1) :: (vs ++ dvs)) (Value.ref (s.heap.objs.size + 1) :: (us ++ ds)) := .cons rfl (r.append hd)
  have hl : (Value.ref (s.heap.objs.size + 1) :: us ++ ds).length = ps.length := by
    have e := r2.length
    rw [F.len _ _ _ _ hq] at e
    exact e.symm
  refine wpAny_call (make_map (f := f) I.kIn M.makes M.init (beq_iff_eq.mp M.fn) (codeAny_mono (F.run _ X.stack _ _ ⟨Value.ref (s.heap.objs.size + 1) :: us, []⟩ (Value.ref (s.heap.objs.size + 1) :: (us ++ ds)) _ _ E (hr.make C us [])
    (I2.env0.make C us []) (hb _ (Value.ref (s.heap.objs.size + 1) :: us) I2.kIn hl) r2 hq) fun r s' hq' => ?_))
  cases r with
  | error e => exact hx pins σ _ _ e s' I2 hq'
  | ok fl =>
    cases fl with
    | ret u =>
      obtain ⟨v, H', I3, rv, ev, q3⟩ := I2.after hq'
      subst ev
      exact ⟨rv, ⟨V.ref (s.heap.objs.size + 1), H', I3, rfl, q3⟩⟩
    | next => exact False.elim hq'
    | brk => exact False.elim hq'
    | cont => exact False.elim hq'
theorem pe_make (M : Mk X.K C f) (F : FnOk X.prog X.w X.K X.mg X.base CX k f fd ps sp) (hr : Room (k + 1) X.A) (hg : Gl X x) (hm : X.mg x = some (.ref C)) (hb : Binds X.K fd ps ds) (hd : Vals dvs ds) (hx : Passes CX X E)
    (ha : PA X (e :: es) t) (hdb : (x == ("__debug__" : Str)) = false := by decide) (he : starEach (e :: es) X.env = (false, eval e X.env) :: starEach es X.env := by rfl) (hpl : (backTo pos (starEach es X.env)).any (·.1) = false := by rfl) :
    PE X (.Call (.Name x p) (e :: es) [] pos) (tMake C sp dvs E t) := by
  intro pins s σ H Q I h
  refine wpAny_Call_Name_kw (ld_glob I hg hm ?_ hdb)
  refine PySem.W.callWith_K (h₀ := X.base) I.ok.mod.kin M.kp (thn (ha pos pins s σ H _ I h) fun us s1 ⟨vs, H1, I1, r, q⟩ => ⟨I1.kIn, ?_⟩) he hpl
  exact run_make M F hr hb hd hx I1 r q
end

section
variable {X : Cx} {CX : CXT} {k : Nat} {f C : Addr} {fd : FuncData} {ps ks : List Str} {sp : Sp} {E : XK} {x m : Str} {p pos apos kpos : Pos} {e o : Expr} {es : List Expr} {kws : List Keyword} {te ta : TE} {t tk : TA} {nm : Option Str}
structure KBinds (K : PySem.W.Frag) (fd : FuncData) (ps ks : List Str) (g : List Value → List Value → List Value) (gV : List V → List V → List V) : Prop where
  to : ∀ (s : Shared) (us ws : List Value), K.In s.heap → (g us ws).length = ps.length → BindsTo s fd ⟨us, ks.zip ws⟩ (ps.zip (g us ws))
  rel : ∀ {vs : List V} {us : List Value} {zs : List V} {ws : List Value}, Vals vs us → Vals zs ws → Vals (gV vs zs) (g us ws)
variable {g : List Value → List Value → List Value} {gV : List V → List V → List V}
end

structure FnScope (N P : List Str) (sc : Scope) : Prop where
  kind : sc.kind = .function
  co : sc.isCoroutine = false
  gen : sc.isGenerator = false
  nd : N.Nodup
  pre : N.take P.length = P
  par : ∀ x ∈ P, sc.names.lookup x = some .local ∨ sc.names.lookup x = some .cell
  nofree : ∀ y ∈ sc.names, y.2 ≠ .free

theorem bindL_out {kindOf : Str → Option NameKind} {x : Str} : ∀ {binds : List (Str × Value)} {m : Str → Option Value}, (∀ v, (x, v) ∉ binds) → bindL kindOf binds m x = m x
  | [], _, _ => rfl
  | (n, v) :: r, m, h => by
    unfold bindL
    rw [bindL_out fun w hw => h w (List.mem_cons_of_mem _ hw)]
    split
    · have : x ≠ n := by rintro rfl; exact h v List.mem_cons_self
      simp [this]
    · rfl
theorem bindC_out {kindOf : Str → Option NameKind} {x : Str} : ∀ {binds : List (Str × Value)} {m : Str → Option Value}, (∀ v, (x, v) ∉ binds) → bindC kindOf binds m x = m x
  | [], _, _ => rfl
  | (n, v) :: r, m, h => by
    unfold bindC
    rw [bindC_out fun w hw => h w (List.mem_cons_of_mem _ hw)]
    split
    · rfl
    · have : x ≠ n := by rintro rfl; exact h v List.mem_cons_self
      simp [this]
theorem bindL_get {kindOf : Str → Option NameKind} {x : Str} {v : Value} : ∀ {P : List Str} {vs : List Value} {i : Nat} {m : Str → Option Value}, P.Nodup → P[i]? = some x → vs[i]? = some v → kindOf x = some .local →
    bindL kindOf (P.zip vs) m x = some v
  | [], _, _, _, _, h, _, _ => by simp at h
  | _ :: _, [], _, _, _, _, h, _ => by simp at h
  | p :: P, w :: vs, 0, m, nd, h1, h2, hk => by
    simp at h1 h2; subst h1; subst h2
    show bindL kindOf ((p, w) :: P.zip vs) m p = _
    unfold bindL
    rw [bindL_out fun v hv => (List.nodup_cons.mp nd).1 (List.of_mem_zip hv).1, if_pos hk]
    simp
  | p :: P, w :: vs, i + 1, m, nd, h1, h2, hk => by
    show bindL kindOf ((p, w) :: P.zip vs) m x = _
    unfold bindL
    exact bindL_get (i := i) (List.nodup_cons.mp nd).2 (by simpa using h1) (by simpa using h2) hk
theorem bindC_get {kindOf : Str → Option NameKind} {x : Str} {v : Value} : ∀ {P : List Str} {vs : List Value} {i : Nat} {m : Str → Option Value}, P.Nodup → P[i]? = some x → vs[i]? = some v → kindOf x ≠ some .local →
    bindC kindOf (P.zip vs) m x = some v
  | [], _, _, _, _, h, _, _ => by simp at h
  | _ :: _, [], _, _, _, _, h, _ => by simp at h
  | p :: P, w :: vs, 0, m, nd, h1, h2, hk => by
    simp at h1 h2; subst h1; subst h2
    show bindC kindOf ((p, w) :: P.zip vs) m p = _
    unfold bindC
    rw [bindC_out fun v hv => (List.nodup_cons.mp nd).1 (List.of_mem_zip hv).1, if_neg hk]
    simp
  | p :: P, w :: vs, i + 1, m, nd, h1, h2, hk => by
    show bindC kindOf ((p, w) :: P.zip vs) m x = _
    unfold bindC
    exact bindC_get (i := i) (List.nodup_cons.mp nd).2 (by simpa using h1) (by simpa using h2) hk

noncomputable def start (N : List Str) (vs : List V) : St := vs.map some ++ List.replicate (N.length - vs.length) none

noncomputable def cxOf (CX : CXT) (P : Program) (w : World) (K : PySem.W.Frag) (mg : Str → Option Value) (base : Heap) (N : List Str) (qual : Str) (scope : Scope) (f : Addr) (cd : Value) (A : Around) (outer : List Env) (s : Shared) (H : Hp) (E : XK) : Cx where
  prog := P
  w := w
  K := K
  mg := mg
  base := base
  A := A.deeper (envOfC qual scope s.heap.objs.size f cd)
  N := N
  s₀ := s
  H₀ := H
  env := envOfC qual scope s.heap.objs.size f cd
  outer := outer
  stack := envOfC qual scope s.heap.objs.size f cd :: outer
  ex := []
  calm := true
  fn := fun _ => true
  pn := []
  xe := fun e s' => wpAny (model P w) (A.deeper (envOfC qual scope s.heap.objs.size f cd)) (leaving (envOfC qual scope s.heap.objs.size f cd) e) (fun _ s'' => CX outer H s E e s'') (fun e' s'' => CX outer H s E e' s'') s'

theorem cell_has {sc : Scope} {n : Nat} {x : Str} (h : sc.names.lookup x = some .cell) : ∃ c, (cellsFrom n sc.names []).lookup x = some c := by
  have q := PySem.W.cellsFrom_some sc.names n [] (.inl h)
  exact Option.isSome_iff_exists.mp q

theorem inv_start {CX : CXT} {P : Program} {w : World} {K : PySem.W.Frag} {mg : Str → Option Value} {base : Heap} {N ps : List Str} {qual : Str} {scope : Scope} {f : Addr} {cd : Value} {A : Around} {outer : List Env} {s s1 : Shared} {H : Hp} {E : XK} {us : List Value} {vs : List V}
    (S : FnScope N ps scope) (hd : A.handled = none) (e0 : Env0 P w K mg base A outer s H) (hl : vs.length = ps.length) (r : Vals vs us)
    (x : InCallC s s.heap.objs.size (bindL (envOfC qual scope s.heap.objs.size f cd).kindOf (ps.zip us) fun _ => none) (cellsFrom (s.heap.objs.size + 1) scope.names []) (bindC (envOfC qual scope s.heap.objs.size f cd).kindOf (ps.zip us) fun _ => none) s1) :
    Inv (cxOf CX P w K mg base N qual scope f cd A outer s H E) [] (start N vs) H s1 := by
  have hpl : ps.length ≤ N.length := by have := congrArg List.length S.pre; rw [List.length_take] at this; omega
  obtain ⟨h1, tk, rfl, hk⟩ := x.done
  have noA : ∀ b : Addr, b ∉ (cxOf CX P w K mg base N qual scope f cd A outer s H E).ex := fun b z => absurd (show b ∈ ([] : List Addr) from z) (by simp)
  refine ⟨⟨e0.mod, S.kind, rfl, rfl, Nat.le_refl _, fun y z c h1 h2 => ?_, fun y hy => ?_, fun y c _ h => ?_, fun _ => hd, Around.frames_deeper e0.frames, .inr ⟨rfl, rfl⟩, fun b z => absurd z (noA b), e0.bs, e0.bsz, fun b _ _ => noA b, fun b z => absurd z (noA b), e0.funs, e0.frf⟩,
    rfl, e0.bare, Un.kept hk, ⟨_, x.toInCall.ns, fun i y v h1 h2 h3 => ?_⟩, fun y c h => ⟨_, x.cell y c h⟩, e0.hok.fresh (Nat.le_refl _), fun y c h => ?_, fun p hp => absurd (show p ∈ ([] : List (Addr × Obj)) from hp) (by simp), e0.hok.kept hk, ?_⟩
  · exact name_of_addr x.apart (PySem.mem_of_lookup h1) (PySem.mem_of_lookup h2)
  · have hy : scope.names.lookup y = some .cell ∨ scope.names.lookup y = some .free := hy
    rcases hy with hy | hy
    · exact cell_has hy
    · exact absurd rfl (S.nofree _ (PySem.mem_of_lookup hy))
  · exact Nat.le_of_lt (x.above y c (PySem.mem_of_lookup h))
  · have hi : i < vs.length := by
      unfold start at h2
      by_cases hi : i < vs.length
      · exact hi
      · rw [List.getElem?_append_right (by simpa using hi)] at h2
        rw [List.getElem?_replicate] at h2
        split at h2 <;> cases h2
    have ha : vs[i]? = some v := by
      unfold start at h2
      rw [List.getElem?_append_left (by simpa using hi), List.getElem?_map] at h2
      cases e : vs[i]? with
      | none => rw [e] at h2; cases h2
      | some a => rw [e] at h2; cases h2; rfl
    obtain ⟨u, hu, rv⟩ := r.get ha
    have hp : ps[i]? = some y := by
      rw [← S.pre, List.getElem?_take_of_lt (by omega)]; exact h1
    have ndP : ps.Nodup := by rw [← S.pre]; exact S.nd.sublist (List.take_sublist _ _)
    refine ⟨u, rv, ?_⟩
    rcases S.par y (List.mem_of_getElem? hp) with k | k
    · exact .inl ⟨k, bindL_get ndP hp hu k⟩
    · obtain ⟨c, e⟩ := cell_has (n := s.heap.objs.size + 1) k
      refine .inr ⟨.inl k, c, e, ?_⟩
      have q := x.cell y c e
      rw [bindC_get ndP hp hu (by show scope.names.lookup y ≠ _; rw [k]; decide)] at q
      exact q
  · exact e0.hok.fresh (Nat.le_of_lt (x.above y c (PySem.mem_of_lookup h)))
  · unfold start
    show _ = N.length
    rw [List.length_append, List.length_map, List.length_replicate]
    omega

theorem fn_of {CX : CXT} {P : Program} {w : World} {K : PySem.W.Frag} {mg : Str → Option Value} {base : Heap} {k : Nat} {f : Addr} {name qual : Str} {params : Arguments} {body : List Stmt} {scope : Scope} {dV kV doc pm cdv ct oc : Value} {an od : Option Addr}
    {osl : Array (Option Value)} {N ps : List Str} {sp : Sp} (lk : K.lookup f = some ⟨oc, od, .func (PySem.W.fnOf name qual params body scope dV kV doc pm an cdv ct), osl⟩) (hcd : PySem.W.codeIn K cdv qual = true) (S : FnScope N ps scope)
    (len : ∀ vs H Q E, sp vs H Q E → vs.length = ps.length)
    (hbody : ∀ (A : Around) (outer : List Env) (s : Shared) (H : Hp) (vs : List V) (Q : VK) (E : XK), Room k (A.deeper (envOfC qual scope s.heap.objs.size f cdv)) → sp vs H Q E →
      ∃ t, PSs (cxOf CX P w K mg base N qual scope f cdv A outer s H E) body t ∧ t { nx := fun _ H' => Q .non H', rt := Q } (start N vs) H) :
    FnOk P w K mg base CX (k + 1) f (PySem.W.fnOf name qual params body scope dV kV doc pm an cdv ct) ps sp := by
  refine ⟨len, fun A outer s H args us vs Q E hr e0 hb r hsp => ?_⟩
  have hl := len _ _ _ _ hsp
  have KX : K.In s.heap := e0.mod.kin.keeps fun b o e => (e0.bs b o e).1
  have lim : s.heap.NoLimit := e0.mod.nolimit.keeps fun b o e => (e0.bs b o e).1
  have hkind : ∀ y ∈ ps.zip us, scope.names.lookup y.1 = some .local ∨ (scope.names.lookup y.1 = some .cell ∧ ((cellsFrom (s.heap.objs.size + 1) scope.names []).lookup y.1).isSome = true) := fun ⟨n, v⟩ hy => by
    rcases S.par n (List.of_mem_zip hy).1 with q | q
    · exact .inl q
    · exact .inr ⟨q, PySem.W.cellsFrom_some _ _ _ (.inl q)⟩
  refine codeAny_call_function hr.depth (KX _ _ lk) rfl S.co S.gen rfl (PySem.W.codeRec_of KX hcd) (hb _ _ _ _ ?_)
  refine wpAny_newFunctionEnv_cells S.kind hkind fun env he s1 x => ?_
  subst he
  refine ⟨lim.keeps x.toInCall.keep, codeAny_func ?_⟩
  obtain ⟨t, ht, hq⟩ := hbody A outer s H vs Q E (hr.deeper _) hsp
  have I : Inv (cxOf CX P w K mg base N qual scope f cdv A outer s H E) [] (start N vs) H s1 := inv_start S hr.hd e0 hl r x
  refine wpAny_mono (ht [] s1 (start N vs) H _ I hq) (fun fl s' hs => ?_) fun e s' hs => hs
  have fin : ∀ {σ' : St} {H' : Hp} {v : V} {u : Value}, Inv (cxOf CX P w K mg base N qual scope f cdv A outer s H E) [] σ' H' s' → RelV v u → Q v H' → CE outer P w H s Q u s' :=
    fun {σ' H' v u} J rv q => ⟨v, H', J.os, J.bare, J.base, J.hok, rv, q⟩
  cases fl with
  | ret u =>
    obtain ⟨v, σ', H', J, rv, q⟩ := hs
    exact fin J rv q
  | next =>
    obtain ⟨σ', H', J, q⟩ := hs
    exact fin (v := V.non) (u := Value.none) J rfl q
  | brk =>
    obtain ⟨_, _, _, q⟩ := hs
    exact False.elim q
  | cont =>
    obtain ⟨_, _, _, q⟩ := hs
    exact False.elim q
end L2

namespace L2
open PySem PySem.Spec PyProof.Rows
section
variable {X : Cx} {x : Str} {p pos : Pos} {e : Expr} {es : List Expr} {t : TA} {id T : String} {r : List V → Hp → VK → Prop}

noncomputable def tCB (r : List V → Hp → VK → Prop) (t : TA) : TE := fun σ H Q => t σ H fun vs H1 => r vs H1 Q
theorem pe_callB (hc : CallR X (.builtin id) r) (hg : Gl X x) (hm : X.mg x = none) (hv : bootBuiltins x = some (.builtin id)) (ha : PA X (e :: es) t) (hn : x ≠ "__name__" := by decide) (hdb : (x == ("__debug__" : Str)) = false := by decide)
    (he : starEach (e :: es) X.env = (false, eval e X.env) :: starEach es X.env := by rfl) (hpl : (backTo pos (starEach es X.env)).any (·.1) = false := by rfl) : PE X (.Call (.Name x p) (e :: es) [] pos) (tCB r t) := by
  intro pins s σ H Q I h
  refine wpAny_Call_Name_kw (ld_blt I hg hm hv ?_ hn hdb)
  exact PyProof.Rows.callWith_builtin1 (thn (ha pos pins s σ H _ I h) fun us s1 ⟨vs, H1, I1, r1, q1⟩ => hc pins s1 σ H1 vs us Q I1 r1 q1) he hpl
theorem pe_callTy (hc : CallR X (.type T) r) (hg : Gl X x) (hm : X.mg x = none) (hv : bootBuiltins x = some (.type T)) (ha : PA X (e :: es) t) (hn : x ≠ "__name__" := by decide) (hdb : (x == ("__debug__" : Str)) = false := by decide)
    (he : starEach (e :: es) X.env = (false, eval e X.env) :: starEach es X.env := by rfl) (hpl : (backTo pos (starEach es X.env)).any (·.1) = false := by rfl) : PE X (.Call (.Name x p) (e :: es) [] pos) (tCB r t) := by
  intro pins s σ H Q I h
  refine wpAny_Call_Name_kw (ld_blt I hg hm hv ?_ hn hdb)
  exact PyProof.Rows.callWith_type1 (thn (ha pos pins s σ H _ I h) fun us s1 ⟨vs, H1, I1, r1, q1⟩ => hc pins s1 σ H1 vs us Q I1 r1 q1) he hpl
end
end L2

namespace HT
open PySem PyProof.Rows

section
open PySem.SeqAt
open PySem.AutoSeq1 (wpAny_loadPart')
open PySem.MeetsSeq PySem.MeetsSeq2 PySem.MeetsSeq3

end

section
variable {prog : Program} {w : World} {A : Around} {E : Value → Shared → Prop} {s : Shared}

noncomputable def sIx (n d : Nat) : Option Int → Nat
  | none => d
  | some v => if v < 0 then (v + (n : Int)).toNat else min v.toNat n
end
end HT

namespace L2
open PySem PySem.Spec PyProof.Rows

noncomputable abbrev TO := St → Hp → (Option Int → Hp → Prop) → Prop
noncomputable def PO (X : Cx) (e : Option Expr) (t : TO) : Prop :=
  ∀ (pins : List (Addr × Obj)) (s : Shared) (σ : St) (H : Hp) (Q : Option Int → Hp → Prop), Inv X pins σ H s → t σ H Q →
    wpAny (model X.prog X.w) X.A (evalPart e X.env) (fun u s' => ∃ o H', Inv X pins σ H' s' ∧ IsPart u o ∧ Q o H') X.xe s
noncomputable def tNoPart : TO := fun _ H Q => Q none H
noncomputable def tPart (t : TE) : TO := fun σ H Q => t σ H fun x H1 => ∃ i, x = .int i ∧ Q (some i) H1

section
variable {X : Cx} {e : Expr} {te : TE} {lo hi : Option Expr} {tl th : TO} {pos p2 : Pos}

theorem po_none : PO X none tNoPart := by
  intro pins s σ H Q I h
  rw [evalPart_none]
  exact wpAny_pure ⟨none, H, I, .none, h⟩
theorem po_some (h : PE X e te) : PO X (some e) (tPart te) := by
  intro pins s σ H Q I hw
  rw [evalPart_some]
  refine thn (h pins s σ H _ I hw) fun u s1 ⟨x, H1, I1, r1, q1⟩ => ?_
  obtain ⟨i, rfl, q⟩ := q1
  obtain ⟨t, rfl⟩ := r1
  exact ⟨some i, H1, I1, .int i t, q⟩

noncomputable def SlR (X : Cx) (r : V → Option Int → Option Int → Hp → VK → Prop) : Prop :=
  ∀ (pins : List (Addr × Obj)) (s : Shared) (σ : St) (H : Hp) (x : V) (v vl vu : Value) (lo hi : Option Int) (sl : Addr) (Q : VK), Inv X pins σ H s → RelV x v → s.heap.IsSliceOf sl vl vu .none → IsPart vl lo → IsPart vu hi → r x lo hi H Q →
    ∃ T id, typeLookup (.type T) "__getitem__" = pure (some (.builtin id)) ∧ s.TypeIs v T ∧ wpAny (model X.prog X.w) X.A (getItem v (.ref sl)) (EP X pins σ Q) X.xe s
theorem SlR.or {r r' : V → Option Int → Option Int → Hp → VK → Prop} (h : SlR X r) (h' : SlR X r') : SlR X (fun x lo hi H Q => r x lo hi H Q ∨ r' x lo hi H Q) := by
  intro pins s σ H x v vl vu lo hi sl Q I rx hs pl pu q
  rcases q with q | q
  · exact h pins s σ H x v vl vu lo hi sl Q I rx hs pl pu q
  · exact h' pins s σ H x v vl vu lo hi sl Q I rx hs pl pu q
noncomputable def tSl (r : V → Option Int → Option Int → Hp → VK → Prop) (te : TE) (tl th : TO) : TE := fun σ H Q => te σ H fun x H1 => tl σ H1 fun l H2 => th σ H2 fun u H3 => r x l u H3 Q
theorem pe_slice {r : V → Option Int → Option Int → Hp → VK → Prop} (hr : SlR X r) (he : PE X e te) (hl : PO X lo tl) (hu : PO X hi th) : PE X (.Subscript e (.Slice lo hi none p2) pos) (tSl r te tl th) := by
  intro pins s σ H Q I h
  refine Subscript_ (thn (he pins s σ H _ I h) fun v s1 hzq => ?_)
  obtain ⟨x, H1, I1, r1, q1⟩ := hzq
  refine wpAny_Slice (thn (hl pins s1 σ H1 _ I1 q1) fun vl s2 ⟨l, H2, I2, pl, q2⟩ => thn (hu pins s2 σ H2 _ I2 q2) fun vu s3 hzq => ?_)
  obtain ⟨u, H3, I3, pu, q3⟩ := hzq
  rw [evalPart_none]
  refine wpAny_pure ?_
  have I4 : Inv X pins σ H3 { s3 with heap := s3.heap.push { cls := .type "slice", data := .fields #[vl, vu, .none] } } := I3.kept (t' := s3.toks) fun b ob q => Heap.get?_push_of_some _ q
  obtain ⟨T, id, hT, ht, hg⟩ := hr pins { s3 with heap := s3.heap.push { cls := .type "slice", data := .fields #[vl, vu, .none] } } σ H3 x v vl vu l u s3.heap.objs.size Q I4 r1 (Heap.IsSliceOf.new ..) pl pu q3
  show wpAny (model X.prog X.w) X.A (subscriptTail e (.Slice lo hi none p2) v (.ref s3.heap.objs.size)) (EP X pins σ Q) X.xe { s3 with heap := s3.heap.push { cls := .type "slice", data := .fields #[vl, vu, .none] } }
  exact tail_any (ops := [.ref s3.heap.objs.size, v]) ht hT hg (by with_unfolding_all rfl)

noncomputable def cutV (xs : List V) (lo hi : Option Int) : List V := (xs.drop (HT.sIx xs.length 0 lo)).take (HT.sIx xs.length xs.length hi - HT.sIx xs.length 0 lo)
theorem cutV_length (xs : List V) (lo hi : Option Int) : (cutV xs lo hi).length ≤ xs.length := by
  unfold cutV
  rw [List.length_take, List.length_drop]
  omega
end
end L2

namespace L2
open PySem PySem.Spec PyProof.Rows

noncomputable def ixN (n : Nat) (i : Int) : Option Nat := if 0 ≤ i then (if i < n then some i.toNat else none) else if -(n : Int) ≤ i then some (i + n).toNat else none
noncomputable def atI {α : Type} (xs : List α) (i : Int) : Option α := (ixN xs.length i).bind fun j => xs[j]?
theorem ixN_seq {n : Nat} {i : Int} {j : Nat} (h : ixN n i = some j) : seqIndex? i n = some j ∧ j < n ∧ -(n : Int) ≤ i ∧ i < n := by
  unfold ixN at h
  by_cases h0 : 0 ≤ i
  · rw [if_pos h0] at h
    by_cases h1 : i < n
    · rw [if_pos h1] at h
      have e : i.toNat = j := Option.some.inj h
      exact ⟨by rw [seqIndex_of h0 h1, e], by omega, by omega, h1⟩
    · rw [if_neg h1] at h; cases h
  · rw [if_neg h0] at h
    by_cases h1 : -(n : Int) ≤ i
    · rw [if_pos h1] at h
      have e : (i + n).toNat = j := Option.some.inj h
      exact ⟨by rw [seqIndex_neg (by omega) h1, e], by omega, h1, by omega⟩
    · rw [if_neg h1] at h; cases h
theorem atI_get {α : Type} {xs : List α} {i : Int} {v : α} (h : atI xs i = some v) : ∃ j, seqIndex? i xs.length = some j ∧ xs[j]? = some v ∧ j < xs.length ∧ -(xs.length : Int) ≤ i ∧ i < xs.length := by
  unfold atI at h
  cases e : ixN xs.length i with
  | none => rw [e] at h; cases h
  | some j =>
    rw [e] at h
    obtain ⟨h1, h2, h3, h4⟩ := ixN_seq e
    exact ⟨j, h1, h, h2, h3, h4⟩
theorem atI_nat {α : Type} {xs : List α} {j : Nat} {v : α} (h : xs[j]? = some v) : atI xs (j : Int) = some v := by
  have hj : j < xs.length := (List.getElem?_eq_some_iff.mp h).1
  have e : ixN xs.length (j : Int) = some j := by
    unfold ixN
    rw [if_pos (by omega), if_pos (by omega)]; simp
  unfold atI; rw [e]; exact h
theorem atI_last {α : Type} (xs : List α) (v : α) : atI (xs ++ [v]) (-1) = some v := by
  have hl : (xs ++ [v]).length = xs.length + 1 := by simp
  have e : ixN (xs ++ [v]).length (-1) = some xs.length := by
    unfold ixN
    rw [hl, if_neg (by decide), if_pos (by omega)]
    congr 1
    omega
  unfold atI
  rw [e]
  show (xs ++ [v])[xs.length]? = some v
  simp

noncomputable def PlainIx (b : Expr) : Prop := ∀ o i, subscripted b false o i = operate [o, i] (getItem o i)
noncomputable def IxR (X : Cx) (r : R2) : Prop :=
  ∀ (value slice : Expr) (pins : List (Addr × Obj)) (s : Shared) (σ : St) (H : Hp) (x y : V) (v u : Value) (Q : VK), Inv X pins σ H s → RelV x v → RelV y u → r x y H Q →
    subscripted slice false v u = operate [v, u] (getItem v u) → wpAny (model X.prog X.w) X.A (subscriptTail value slice v u) (EP X pins σ Q) X.xe s
noncomputable def MtR (X : Cx) (id : String) (r : V → List V → Hp → VK → Prop) : Prop :=
  ∀ (pins : List (Addr × Obj)) (s : Shared) (σ : St) (H : Hp) (x : V) (xs : List V) (v : Value) (us : List Value) (Q : VK), Inv X pins σ H s → RelV x v → Vals xs us → r x xs H Q →
    wpAny (model X.prog X.w) X.A (call (.builtin id) (v :: us)) (EP X pins σ Q) X.xe s
section
variable {X : Cx} {a b : Expr} {ta tb : TE} {pos : Pos}
theorem IxR.or {r r' : R2} (h : IxR X r) (h' : IxR X r') : IxR X (fun x y H Q => r x y H Q ∨ r' x y H Q) := by
  intro value slice pins s σ H x y v u Q I rx ry q hs
  rcases q with q | q
  · exact h value slice pins s σ H x y v u Q I rx ry q hs
  · exact h' value slice pins s σ H x y v u Q I rx ry q hs
theorem MtR.or {id : String} {r r' : V → List V → Hp → VK → Prop} (h : MtR X id r) (h' : MtR X id r') : MtR X id (fun x xs H Q => r x xs H Q ∨ r' x xs H Q) := by
  intro pins s σ H x xs v us Q I rx rs q
  rcases q with q | q
  · exact h pins s σ H x xs v us Q I rx rs q
  · exact h' pins s σ H x xs v us Q I rx rs q
theorem pe_ix {r : R2} (hr : IxR X r) (ha : PE X a ta) (hb : PE X b tb) (hs : PlainIx b) : PE X (.Subscript a b pos) (tOp r ta tb) := by
  intro pins s σ H Q I h
  exact Subscript_ (binT ha hb I h fun v u s2 x y H2 I2 rx ry q => hr a b pins s2 σ H2 x y v u Q I2 rx ry q (hs _ _))

noncomputable def rIxL (K : PySem.W.Frag) : R2 := fun x y H Q => ∃ p xs i v, x = .ref p ∧ y = .int i ∧ SqL K H p xs ∧ atI xs i = some v ∧ Q v H
noncomputable def rIxT (K : PySem.W.Frag) : R2 := fun x y H Q => ∃ p xs i v, x = .ref p ∧ y = .int i ∧ SqT K H p xs ∧ atI xs i = some v ∧ Q v H
theorem ix_list : IxR X (rIxL X.K) := by
  intro value slice pins s σ H x y v u Q I rx ry h hs
  obtain ⟨p, xs, i, z, rfl, rfl, hq, he, q⟩ := h
  cases rx
  obtain ⟨t, rfl⟩ := ry
  obtain ⟨its, r, pl, hz⟩ := I.list hq
  obtain ⟨j, h1, h2, h3, h4, h5⟩ := atI_get he
  obtain ⟨w, ew, rw'⟩ := r.get h2
  have hl := r.length
  have hn := line63
  have fin : EP X pins σ Q w s := ⟨z, H, I, rw', q⟩
  by_cases h0 : 0 ≤ i
  · have hj : i.toNat = j := by
      rw [seqIndex_of h0 h5] at h1
      exact Option.some.inj h1
    exact item_listR pl.isList h0 (by omega) (by rw [hj]; simpa using ew) fin hs
  · have hj : (i + (its.toArray.size : Int)).toNat = j := by
      rw [seqIndex_neg (by omega) h4] at h1
      rw [List.size_toArray, ← hl]
      exact Option.some.inj h1
    exact subscriptTail_builtinR (x := w) pl.isList.typeIs slot_list_getitem.lookup
      (wpAny_getItem_list_neg (Q := fun r s' => r = w ∧ EP X pins σ Q r s') pl.isList (by omega) (by rw [List.size_toArray] <;> omega) (by omega) (by rw [hj]; simpa using ew) ⟨rfl, fin⟩) hs
theorem ix_tup : IxR X (rIxT X.K) := by
  intro value slice pins s σ H x y v u Q I rx ry h hs
  obtain ⟨p, xs, i, z, rfl, rfl, hq, he, q⟩ := h
  cases rx
  obtain ⟨t, rfl⟩ := ry
  obtain ⟨its, r, pl, hz⟩ := I.tuple hq
  obtain ⟨j, h1, h2, h3, h4, h5⟩ := atI_get he
  obtain ⟨w, ew, rw'⟩ := r.get h2
  have hl := r.length
  have hn := line63
  have fin : EP X pins σ Q w s := ⟨z, H, I, rw', q⟩
  exact subscriptTail_builtinR (x := w) pl.typeIs slot_tuple_getitem.lookup
    (getItem_tuple (j := j) (Q := fun r s' => r = w ∧ EP X pins σ Q r s') pl (by omega) (by omega) (by rw [List.size_toArray, ← hl]; exact h1) (by simpa using ew) ⟨rfl, fin⟩) hs
theorem mapSeq_set (its : List Value) (n j : Nat) (u : Value) : Obj.mapSeq (·.setIfInBounds j u) { cls := .type "list", data := .seq its.toArray n } = { cls := .type "list", data := .seq (its.set j u).toArray n } := by
  simp [Obj.mapSeq]
theorem Inv.lst {pins : List (Addr × Obj)} {σ : St} {H : Hp} {s : Shared} {p : Addr} {xs : List V} (I : Inv X pins σ H s) (h : H p = some (.lst xs)) :
    ∃ (its : List Value) (n : Nat), Vals xs its ∧ s.heap.get? p = some { cls := .type "list", data := .seq its.toArray n } ∧ xs.length ≤ sizeLine := by
  obtain ⟨z, its, n, r, e⟩ := I.hok p _ h
  exact ⟨its, n, r, e, z⟩
theorem Inv.lstUpd {pins : List (Addr × Obj)} {σ : St} {H : Hp} {s : Shared} {p : Addr} {xs ys : List V} {its its' : List Value} {n n' : Nat} {f : Obj → Obj} (I : Inv X pins σ H s) (h : H p = some (.lst xs))
    (ho : s.heap.get? p = some { cls := .type "list", data := .seq its.toArray n }) (hf : f { cls := .type "list", data := .seq its.toArray n } = { cls := .type "list", data := .seq its'.toArray n' }) (r : Vals ys its') (hz : ys.length ≤ sizeLine) (t : Nat) :
    Inv X pins σ (upd H p (.lst ys)) { s with heap := s.heap.update p f, toks := t } := by
  have e : (s.heap.update p f).get? p = some { cls := .type "list", data := .seq its'.toArray n' } := by
    rw [Heap.get?_update_self f ho (by rw [hf] <;> rfl), hf]
  refine I.write (x := p) (e := p) (by rw [h]; trivial) (.inl rfl) (fun b u hb q => (Heap.get?_update_other _ _ (Ne.symm hb)).trans q) ⟨_, e⟩ ?_
  exact ⟨hz, its', n', r, e⟩
noncomputable def rSetL : V → V → V → Hp → (Hp → Prop) → Prop := fun o i v H Q => ∃ p xs k j, o = .ref p ∧ i = .int k ∧ H p = some (.lst xs) ∧ ixN xs.length k = some j ∧ Q (upd H p (.lst (xs.set j v)))
theorem set_list : PSet X rSetL := by
  intro pins s σ H o i v ov iv u Q I ro ri rv h
  obtain ⟨p, xs, k, j, rfl, rfl, hp, hj, q⟩ := h
  cases ro
  obtain ⟨t, rfl⟩ := ri
  obtain ⟨its, n, r, ho, hz⟩ := I.lst hp
  obtain ⟨h1, h2, h3, h4⟩ := ixN_seq hj
  have hl := r.length
  have hn := line63
  have I' : Inv X pins σ (upd H p (.lst (xs.set j v))) { s with heap := s.heap.update p (Obj.mapSeq (·.setIfInBounds j u)) } :=
    I.lstUpd hp ho (mapSeq_set its n j u) (r.set rv j) (by rw [List.length_set]; exact hz) s.toks
  by_cases h0 : 0 ≤ k
  · have hk : k.toNat = j := by
      rw [seqIndex_of h0 h4] at h1
      exact Option.some.inj h1
    exact PySem.W.ki_setAt ho h0 (by omega) (by rw [List.size_toArray, ← hl]; exact h4) (by rw [hk]; exact ⟨_, I', q⟩)
  · have hk : (k + (its.toArray.size : Int)).toNat = j := by
      rw [seqIndex_neg (by omega) h3] at h1
      rw [List.size_toArray, ← hl]
      exact Option.some.inj h1
    exact PySem.W.ki_setBack ho (by omega) (by rw [List.size_toArray, ← hl]; exact h3) (by omega) (by rw [hk]; exact ⟨_, I', q⟩)

theorem slice_bounds (lo hi : Option Int) (n : Nat) : (sliceBounds lo hi none n).1 = ((HT.sIx n 0 lo : Nat) : Int) ∧ (sliceBounds lo hi none n).2.1 = ((HT.sIx n n hi : Nat) : Int) ∧ (sliceBounds lo hi none n).2.2 = 1 := by
  refine ⟨?_, ?_, rfl⟩
  · cases lo with
    | none => simp [sliceBounds, HT.sIx]
    | some i =>
      simp only [sliceBounds, HT.sIx, Option.getD_none, show (1 : Int) > 0 by decide, if_true]
      by_cases h : i < 0
      · simp only [h, if_true] <;> omega
      · simp only [h, if_false] <;> omega
  · cases hi with
    | none => simp [sliceBounds, HT.sIx]
    | some i =>
      simp only [sliceBounds, HT.sIx, Option.getD_none, show (1 : Int) > 0 by decide, if_true]
      by_cases h : i < 0
      · simp only [h, if_true] <;> omega
      · simp only [h, if_false] <;> omega
theorem slicePick_cut (its : List Value) (lo hi : Option Int) : slicePick its.toArray lo hi none = ((its.drop (HT.sIx its.length 0 lo)).take (HT.sIx its.length its.length hi - HT.sIx its.length 0 lo)).toArray := by
  obtain ⟨h1, h2, h3⟩ := slice_bounds lo hi its.toArray.size
  unfold slicePick
  rw [h1, h2, h3]
  simp only [sliceRange_one, pick_run, List.size_toArray] <;> rfl
noncomputable def rSlL (K : PySem.W.Frag) : V → Option Int → Option Int → Hp → VK → Prop := fun x lo hi H Q => ∃ a xs, x = .ref a ∧ SqL K H a xs ∧ ∀ p, H p = none → Q (.ref p) (upd H p (.lst (cutV xs lo hi)))
theorem sl_list : SlR X (rSlL X.K) := by
  intro pins s σ H x v vl vu lo hi sl Q I rx hs pl pu h
  obtain ⟨a, xs, rfl, hx, q⟩ := h
  cases rx
  obtain ⟨its, r, ht, hz⟩ := I.list hx
  have hlen := r.length
  refine ⟨"list", _, slot_list_getitem.lookup, ht.isList.typeIs, ?_⟩
  refine wpAny_getItem_list_slice ht.isList hs pl pu .none (by simp) ?_ (by rw [List.size_toArray] <;> omega)
  rw [slicePick_cut, ← hlen]
  refine ⟨.ref s.heap.objs.size, _, I.laid (t' := s.toks) (o := .lst (cutV xs lo hi)) (fun b ob q => Heap.get?_push_of_some _ q) (Nat.le_refl _) ?_, rfl, q _ (I.hok.fresh (Nat.le_refl _))⟩
  exact ⟨Nat.le_trans (cutV_length xs lo hi) hz, _, 0, (r.drop (HT.sIx xs.length 0 lo)).take (HT.sIx xs.length xs.length hi - HT.sIx xs.length 0 lo), Heap.get?_push_size _ rfl⟩

theorem call_len_seq : CallR X (.builtin "len") (fun xs H Q => ∃ p ys, xs = [.ref p] ∧ (SqL X.K H p ys ∨ SqT X.K H p ys) ∧ Q (.int ys.length) H) := by
  intro pins s σ H xs us Q I r h
  obtain ⟨p, ys, rfl, hq, q⟩ := h
  obtain ⟨u, rfl, rx⟩ := vals1 r
  cases rx
  have hn := line63
  rcases hq with hq | hq
  · obtain ⟨its, r', pl, hz⟩ := I.list hq
    have hlen := r'.length
    exact Calls.call_len_list pl.isList (by simp only [List.size_toArray] <;> omega) ⟨.int ys.length, H, I.tok _, ⟨s.toks + 1, by rw [List.size_toArray, hlen]⟩, q⟩
  · obtain ⟨its, r', pl, hz⟩ := I.tuple hq
    have hlen := r'.length
    exact len_tuple pl (by simp only [List.size_toArray] <;> omega) ⟨.int ys.length, H, I.tok _, ⟨s.toks + 1, by rw [List.size_toArray, hlen]⟩, q⟩
theorem CallR.or {f : Value} {r r' : List V → Hp → VK → Prop} (h : CallR X f r) (h' : CallR X f r') : CallR X f (fun xs H Q => r xs H Q ∨ r' xs H Q) := by
  intro pins s σ H xs us Q I rs q
  rcases q with q | q
  · exact h pins s σ H xs us Q I rs q
  · exact h' pins s σ H xs us Q I rs q
theorem call_list_of : CallR X (.type "list") (fun xs H Q => ∃ p ys, xs = [.ref p] ∧ (SqL X.K H p ys ∨ SqT X.K H p ys) ∧ ∀ l, H l = none → Q (.ref l) (upd H l (.lst ys))) := by
  intro pins s σ H xs us Q I r h
  obtain ⟨p, ys, rfl, hq, q⟩ := h
  obtain ⟨u, rfl, rx⟩ := vals1 r
  cases rx
  have fin : ∀ (its : List Value), Vals ys its → ys.length ≤ sizeLine → ∀ (h' : Heap) (c' : Nat), (∀ b o', s.heap.get? b = some o' → h'.get? b = some o') →
      h'.get? s.heap.objs.size = some { cls := .type "list", dict := none, data := .seq its.toArray c', slots := #[] } → EP X pins σ Q (.ref s.heap.objs.size) { s with heap := h' } := fun its r' hz h' c' kp e =>
    ⟨.ref s.heap.objs.size, _, I.laid (t' := s.toks) kp (Nat.le_refl _) (show ObjOk X.prog X.w _ h' _ (.lst ys) from ⟨hz, its, c', r', e⟩), rfl, q _ (I.hok.fresh (Nat.le_refl _))⟩
  rcases hq with hq | hq
  · obtain ⟨its, r', pl, hz⟩ := I.list hq
    have hlen := r'.length
    obtain ⟨o, ho, hc, n, hd⟩ := pl.isList
    exact call_list_seq p (.inl rfl) ho hc hd (fun h' c' kp e => fin its r' hz h' c' kp e) (by simp only [List.size_toArray] <;> omega)
  · obtain ⟨its, r', pl, hz⟩ := I.tuple hq
    have hlen := r'.length
    obtain ⟨o, ho, hc, n, hd⟩ := pl
    exact call_list_seq p (.inr rfl) ho hc hd (fun h' c' kp e => fin its r' hz h' c' kp e) (by simp only [List.size_toArray] <;> omega)
noncomputable def tyV (K : PySem.W.Frag) (T : String) (x : V) (H : Hp) : Prop := match x with
  | .str _ => T = "str"
  | .int _ => T = "int"
  | .ref p => (T = "list" ∧ ∃ xs, SqL K H p xs) ∨ (T = "tuple" ∧ ∃ o, K.lookup p = some o ∧ o.cls = .type "tuple" ∧ o.dict = none) ∨
      (T = "dict" ∧ ((∃ kvs, H p = some (.dK kvs)) ∨ ∃ kvs, H p = some (.dT kvs))) ∨ (T = "set" ∧ ∃ S n, H p = some (.set S n))
  | _ => False
theorem tyV_is {pins : List (Addr × Obj)} {σ : St} {H : Hp} {s : Shared} {T : String} {x : V} {v : Value} (I : Inv X pins σ H s) (r : RelV x v) (ty : tyV X.K T x H) :
    s.TypeIs v T ∧ ∀ a, v = .ref a → ∃ ob, s.heap.get? a = some ob ∧ ob.dict = none := by
  cases x with
  | str z =>
    obtain ⟨t, rfl⟩ := r
    cases (show T = "str" from ty)
    exact ⟨typeIs_str s z t, fun _ e => nomatch e⟩
  | int i =>
    obtain ⟨t, rfl⟩ := r
    cases (show T = "int" from ty)
    exact ⟨typeIs_int s i t, fun _ e => nomatch e⟩
  | ref p =>
    cases r
    rcases ty with ⟨rfl, xs, hq⟩ | ⟨rfl, o, hk, hc, hd⟩ | ⟨rfl, hk⟩ | ⟨rfl, S, n, hk⟩
    · obtain ⟨its, _, pl, _⟩ := I.list hq
      refine ⟨pl.isList.typeIs, fun a e => ?_⟩
      cases e
      obtain ⟨o, n, e, c, hd, _⟩ := pl
      exact ⟨o, e, hd⟩
    · refine ⟨⟨o, I.kIn p o hk, hc⟩, fun a e => ?_⟩
      cases e
      exact ⟨o, I.kIn _ o hk, hd⟩
    · have z : ∃ o, s.heap.get? p = some o ∧ o.ExactDict := by
        rcases hk with ⟨kvs, hk⟩ | ⟨kvs, hk⟩
        · obtain ⟨_, _, _, _, o, _, _, e, ex, _⟩ := I.hok p _ hk
          exact ⟨o, e, ex⟩
        · obtain ⟨_, _, _, _, o, _, _, e, ex, _⟩ := I.hok p _ hk
          exact ⟨o, e, ex⟩
      obtain ⟨o, e, ex⟩ := z
      refine ⟨⟨o, e, ex.1⟩, fun a e2 => ?_⟩
      cases e2
      exact ⟨o, e, ex.2.1⟩
    · obtain ⟨o, _, _, _, e, ex, _⟩ := I.hok p _ hk
      refine ⟨⟨o, e, ex.1⟩, fun a e2 => ?_⟩
      cases e2
      exact ⟨o, e, ex.2.1⟩
  | _ => exact False.elim ty
noncomputable def tBM0 (K : PySem.W.Frag) (T : String) (r : V → List V → Hp → VK → Prop) (to : TE) : TE := fun σ H Q => to σ H fun x H1 => tyV K T x H1 ∧ r x [] H1 Q
noncomputable def tBM (K : PySem.W.Frag) (T : String) (r : V → List V → Hp → VK → Prop) (to : TE) (t : TA) : TE := fun σ H Q => to σ H fun x H1 => tyV K T x H1 ∧ t σ H1 fun xs H2 => r x xs H2 Q
variable {o e : Expr} {es : List Expr} {to : TE} {t : TA} {name : Str} {apos cpos : Pos} {T id : String} {r : V → List V → Hp → VK → Prop}
theorem pe_bm0 (pa : PlainAttrs T) (slot : Slot T name id) (hty : typeOf (.builtin id) = pure (.type "method_descriptor")) (hm : MtR X id r) (ho : PE X o to)
    (hbase : attributeBase o name X.env (eval o X.env) = eval o X.env := by rfl) (hline : (apos.endLine == cpos.line) = true := by rfl) : PE X (.Call (.Attribute o name apos) [] [] cpos) (tBM0 X.K T r to) := by
  intro pins s σ H Q I h
  refine wpAny_Call_method0_late hbase hline (thn (ho pins s σ H _ I h) fun v s1 hzq => ?_)
  obtain ⟨x, H1, I1, r1, ty, q1⟩ := hzq
  obtain ⟨h1, h2⟩ := tyV_is I1 r1 ty
  exact ⟨T, id, pa, slot, hty, h1, h2, Calls.callWith_builtin rfl (PySem.evalArgs_none (hm pins s1 σ H1 x [] v [] Q I1 r1 .nil q1))⟩
theorem pe_bm (pa : PlainAttrs T) (slot : Slot T name id) (hty : typeOf (.builtin id) = pure (.type "method_descriptor")) (hm : MtR X id r) (ho : PE X o to) (ha : PA X (e :: es) t)
    (hbase : attributeBase o name X.env (eval o X.env) = eval o X.env := by rfl)
    (hfew : ((backTo cpos (starEach (e :: es) X.env)).all (fun x => !x.1) && (backToKw cpos (keywordEach [] X.env)).all (fun x => x.1.isSome)
      && decide ((e :: es).length + ([] : List Keyword).length + (if ([] : List Keyword).isEmpty then 0 else 1) < 30)) = true := by rfl)
    (hline : (apos.endLine == cpos.line) = true := by rfl) (hs : starEach (e :: es) X.env = (false, eval e X.env) :: starEach es X.env := by rfl) (hplain : (backTo cpos (starEach es X.env)).any (·.1) = false := by rfl) :
    PE X (.Call (.Attribute o name apos) (e :: es) [] cpos) (tBM X.K T r to t) := by
  intro pins s σ H Q I h
  refine wpAny_Call_method_late hbase hfew hline rfl (thn (ho pins s σ H _ I h) fun v s1 hzq => ?_)
  obtain ⟨x, H1, I1, r1, ty, q1⟩ := hzq
  obtain ⟨h1, h2⟩ := tyV_is I1 r1 ty
  refine ⟨T, id, pa, slot, hty, h1, h2, ?_⟩
  have hA := ha cpos pins s1 σ H1 _ I1 q1
  rw [hs] at hA ⊢
  refine Calls.callWith_builtin (by show (false || (backTo cpos (starEach es X.env)).any (·.1)) = false; rw [hplain] <;> rfl) (Calls.evalArgs_plain ?_)
  exact thn hA fun us s2 ⟨vs, H2, I2, r2, q2⟩ => hm pins s2 σ H2 x vs v us Q I2 r1 r2 q2
end
end L2

namespace L2
open PySem PySem.Spec PyProof.Rows

noncomputable def MtM (X : Cx) (id : String) (r : V → List V → Hp → VK → Prop) : Prop :=
  ∀ (pins : List (Addr × Obj)) (s : Shared) (σ : St) (H : Hp) (x : V) (xs : List V) (v : Value) (us : List Value) (Q : VK), Inv X pins σ H s → RelV x v → Vals xs us → r x xs H Q →
    wpAny (model X.prog X.w) X.A (call (.builtin id) (v :: us)) (EP X pins σ Q) X.xe s

theorem Vals.one {x : V} {us : List Value} (h : Vals [x] us) : ∃ u, us = [u] ∧ RelV x u := by
  cases h with
  | cons r t => cases t; exact ⟨_, rfl, r⟩
theorem Vals.two {x y : V} {us : List Value} (h : Vals [x, y] us) : ∃ u v, us = [u, v] ∧ RelV x u ∧ RelV y v := by
  cases h with
  | cons r t =>
    cases t with
    | cons q z => cases z; exact ⟨_, _, rfl, r, q⟩
theorem Vals.zero : ∀ {us : List Value}, Vals [] us → us = []
  | _, .nil => rfl
theorem Vals.dropLast {xs : List V} {us : List Value} (h : Vals xs us) : Vals xs.dropLast us.dropLast := by
  induction h with
  | nil => exact .nil
  | cons r t ih =>
    cases t with
    | nil => exact .nil
    | cons q t' => exact .cons r ih
theorem Vals.eraseIdx : ∀ {xs : List V} {us : List Value} (i : Nat), Vals xs us → Vals (xs.eraseIdx i) (us.eraseIdx i)
  | _, _, _, .nil => .nil
  | _, _, 0, .cons _ t => t
  | _, _, i + 1, .cons r t => .cons r (Vals.eraseIdx i t)
theorem Vals.rep {xs : List V} {us : List Value} (h : Vals xs us) : ∀ k : Nat, Vals (List.replicate k xs).flatten (List.replicate k us).flatten
  | 0 => .nil
  | k + 1 => by
    rw [List.replicate_succ, List.replicate_succ, List.flatten_cons, List.flatten_cons]
    exact Vals.append h (Vals.rep h k)
theorem erase_last {α : Type} (l : List α) : l.eraseIdx (l.length - 1) = l.dropLast := by
  induction l with
  | nil => rfl
  | cons a r ih =>
    cases r with
    | nil => rfl
    | cons b r =>
      have e : (a :: b :: r).length - 1 = ((b :: r).length - 1) + 1 := by
        have h1 : (a :: b :: r).length = r.length + 2 := rfl
        have h2 : (b :: r).length = r.length + 1 := rfl
        omega
      rw [e, List.eraseIdx_cons_succ, ih]
      all_goals rfl
theorem foldl_rep (its : List Value) : ∀ (k : Nat) (acc : List Value),
    List.foldl (fun x1 x2 => x1 ++ x2) acc.toArray (List.replicate k its.toArray) = (acc ++ (List.replicate k its).flatten).toArray
  | 0, acc => by simp
  | k + 1, acc => by
    have e : acc.toArray ++ its.toArray = (acc ++ its).toArray := by simp
    have e2 : (acc ++ its) ++ (List.replicate k its).flatten = acc ++ (List.replicate (k + 1) its).flatten := by
      rw [List.replicate_succ, List.flatten_cons, List.append_assoc]
    rw [← e2, ← foldl_rep its k (acc ++ its), ← e, List.replicate_succ, List.foldl_cons]

section
variable {X : Cx} {pins : List (Addr × Obj)} {σ : St} {H : Hp} {s : Shared} {l b : Addr} {xs ys zs : List V}

theorem Inv.lset {its its' : List Value} {n : Nat} {f : Array Value → Array Value} {t' : Nat} (I : Inv X pins σ H s) (hH : H l = some (.lst xs))
    (e : s.heap.get? l = some { cls := .type "list", data := .seq its.toArray n }) (hf : f its.toArray = its'.toArray) (hv : Vals ys its') (hz : ys.length ≤ sizeLine) :
    Inv X pins σ (upd H l (.lst ys)) { s with heap := s.heap.update l (Obj.mapSeq f), toks := t' } := by
  have q := PySem.IsL.update e f
  rw [hf] at q
  refine I.write (x := l) (e := l) (by rw [hH]; exact trivial) (.inl rfl) (fun b' u hb hu => (Heap.get?_update_other s.heap (Obj.mapSeq f) (Ne.symm hb)).trans hu) ⟨_, q⟩ ?_
  exact ⟨hz, its', _, hv, q⟩
theorem Inv.lnew {its : List Value} {t' : Nat} (I : Inv X pins σ H s) (hv : Vals ys its) (hz : ys.length ≤ sizeLine) :
    Inv X pins σ (upd H s.heap.objs.size (.lst ys)) { s with heap := s.heap.push { cls := .type "list", data := .seq its.toArray }, toks := t' } :=
  I.laid (fun _ _ q => Heap.get?_push_of_some _ q) (Nat.le_refl _) ⟨hz, its, 0, hv, Heap.get?_push_size _ rfl⟩
theorem Inv.fresh (I : Inv X pins σ H s) : H s.heap.objs.size = none := I.hok.fresh (Nat.le_refl _)
theorem Inv.lstM (I : Inv X pins σ H s) (hH : H l = some (.lst xs)) : xs.length ≤ sizeLine ∧ ∃ (its : List Value) (n : Nat), Vals xs its ∧ xs.length = its.length ∧ s.heap.get? l = some { cls := .type "list", data := .seq its.toArray n } := by
  obtain ⟨z, its, n, r, e⟩ := I.hok l _ hH
  exact ⟨z, its, n, r, r.length, e⟩

theorem notLongL {n : Nat} (h : n ≤ sizeLine) : Builtin.List.listTooLong n = false := by
  unfold Builtin.List.listTooLong
  exact decide_eq_false (by omega)
end

section
variable {X : Cx}

noncomputable def rAppend : V → List V → Hp → VK → Prop := fun x vs H Q => ∃ l xs y, x = .ref l ∧ vs = [y] ∧ H l = some (.lst xs) ∧ xs.length < sizeLine ∧ Q .non (upd H l (.lst (xs ++ [y])))
theorem mt_append : MtM X "list.append" rAppend := by
  intro pins s σ H x vs v us Q I rx rv h
  obtain ⟨l, xs, y, rfl, rfl, hH, hz, q⟩ := h
  cases rx
  obtain ⟨u, rfl, ru⟩ := rv.one
  obtain ⟨z, its, n, r, hl, e⟩ := I.lstM hH
  refine call_meets F.slot_list_append ⟨_, e, rfl⟩ F.entry_list_append (F.args_list_append_2 _ _) (PySem.list_append l its.toArray n u (by rw [List.size_toArray]; omega)) ⟨e, ?_⟩
  refine ⟨.non, _, I.lset (its' := its ++ [u]) hH e (by simp) (r.append (.cons ru .nil)) ?_, rfl, q⟩
  rw [List.length_append, List.length_singleton]
  omega

noncomputable def rExtend : V → List V → Hp → VK → Prop := fun x vs H Q => ∃ l b xs zs, x = .ref l ∧ vs = [.ref b] ∧ H l = some (.lst xs) ∧ H b = some (.lst zs) ∧ xs.length + zs.length ≤ sizeLine ∧ Q .non (upd H l (.lst (xs ++ zs)))
theorem mt_extend : MtM X "list.extend" rExtend := by
  intro pins s σ H x vs v us Q I rx rv h
  obtain ⟨l, b, xs, zs, rfl, rfl, hH, hB, hz, q⟩ := h
  cases rx
  obtain ⟨u, rfl, ru⟩ := rv.one
  cases ru
  obtain ⟨z, its, n, r, hl, e⟩ := I.lstM hH
  obtain ⟨z2, its2, n2, r2, hl2, e2⟩ := I.lstM hB
  have hsz : its.toArray.size + its2.toArray.size ≤ sizeLine := by rw [List.size_toArray, List.size_toArray]; omega
  have hlong : ¬ (!its.toArray.isEmpty && Builtin.List.listTooLong (its.toArray.size + its2.toArray.size)) = true := by
    rw [notLongL hsz, Bool.and_false]
    exact Bool.false_ne_true
  refine call_meets F.slot_list_extend ⟨_, e, rfl⟩ F.entry_list_extend (F.args_list_extend_2 _ _)
    (AutoSeq1.list_extend_list_list_0 l its.toArray n b its2.toArray n2 hlong (by rw [List.size_toArray]; omega) (by omega)) ⟨e, e2, ?_⟩
  refine ⟨.non, _, I.lset (its' := its ++ its2) hH e (by simp) (r.append r2) ?_, rfl, q⟩
  rw [List.length_append]
  omega

noncomputable def rPop : V → List V → Hp → VK → Prop := fun x vs H Q => ∃ l xs y, x = .ref l ∧ vs = [] ∧ H l = some (.lst xs) ∧ xs[xs.length - 1]? = some y ∧ Q y (upd H l (.lst xs.dropLast))
theorem mt_pop : MtM X "list.pop" rPop := by
  intro pins s σ H x vs v us Q I rx rv h
  obtain ⟨l, xs, y, rfl, rfl, hH, hy, q⟩ := h
  cases rx
  have hus := rv.zero
  subst hus
  obtain ⟨z, its, n, r, hl, e⟩ := I.lstM hH
  obtain ⟨u, hu, ru⟩ := r.get hy
  have hy' : its.toArray[its.toArray.size - 1]? = some u := by
    show its.toArray[its.length - 1]? = some u
    rw [← Array.getElem?_toList, ← hl]
    exact hu
  refine call_meets F.slot_list_pop ⟨_, e, rfl⟩ F.entry_list_pop (F.args_list_pop_1 _) (MeetsSeq.list_pop_last l its.toArray n u hy' (by rw [List.size_toArray]; omega)) ⟨e, ?_⟩
  refine ⟨y, _, I.lset (its' := its.dropLast) hH e ?_ r.dropLast ?_, ru, q⟩
  · show its.toArray.eraseIdxIfInBounds (its.toArray.size - 1) = its.dropLast.toArray
    rw [List.size_toArray, List.eraseIdxIfInBounds_toArray, erase_last]
  · rw [List.length_dropLast]
    omega

noncomputable def rCat : R2 := fun x y H Q => ∃ l b xs zs, x = .ref l ∧ y = .ref b ∧ H l = some (.lst xs) ∧ H b = some (.lst zs) ∧ xs.length + zs.length ≤ sizeLine ∧ ∀ p, H p = none → Q (.ref p) (upd H p (.lst (xs ++ zs)))
theorem op_cat : OpR X (binaryOp .Add) rCat := by
  intro pins s σ H x y v u Q I rx ry h
  obtain ⟨l, b, xs, zs, rfl, rfl, hH, hB, hz, q⟩ := h
  cases rx
  cases ry
  obtain ⟨z, its, n, r, hl, e⟩ := I.lstM hH
  obtain ⟨z2, its2, n2, r2, hl2, e2⟩ := I.lstM hB
  refine PySem.P.add_list e e2 ?_ (by rw [List.size_toArray, List.size_toArray]; omega)
  have ea : its.toArray ++ its2.toArray = (its ++ its2).toArray := by simp
  rw [ea]
  exact ⟨.ref _, _, I.lnew (t' := s.toks) (r.append r2) (by rw [List.length_append]; omega), rfl, q _ I.fresh⟩
noncomputable def rRep : R2 := fun x y H Q => ∃ l k xs, x = .ref l ∧ y = .int k ∧ H l = some (.lst xs) ∧ -(2 ^ 63) ≤ k ∧ k < 2 ^ 63 ∧ xs.length * k.toNat ≤ sizeLine ∧
  ∀ p, H p = none → Q (.ref p) (upd H p (.lst (List.replicate k.toNat xs).flatten))
theorem len_rep {α : Type} (xs : List α) (k : Nat) : (List.replicate k xs).flatten.length = k * xs.length := by
  induction k with
  | zero => simp
  | succ k ih => rw [List.replicate_succ, List.flatten_cons, List.length_append, ih, Nat.succ_mul, Nat.add_comm]
theorem op_rep : OpR X (binaryOp .Mult) rRep := by
  intro pins s σ H x y v u Q I rx ry h
  obtain ⟨l, k, xs, rfl, rfl, hH, h1, h2, hz, q⟩ := h
  cases rx
  obtain ⟨t, rfl⟩ := ry
  obtain ⟨z, its, n, r, hl, e⟩ := I.lstM hH
  have hlen : its.toArray.size * k.toNat ≤ sizeLine := by rw [List.size_toArray, ← hl]; exact hz
  have hcap : ¬ its.toArray.size * k.toNat > (2 ^ 63 - 1) / 8 := by
    have : (sizeLine : Nat) ≤ (2 ^ 63 - 1) / 8 := by decide
    omega
  have hfit : ¬ (!Builtin.List.listFitsIndex k) = true := by
    rw [fitsIndex_both h1 h2]
    exact Bool.false_ne_true
  have hlong : ¬ Builtin.List.listTooLong (its.toArray.size * k.toNat) = true := by
    rw [notLongL hlen]
    exact Bool.false_ne_true
  have hnew : List.foldl (fun x1 x2 => x1 ++ x2) #[] (List.replicate (if its.toArray.isEmpty = true then 0 else k.toNat) its.toArray) = (List.replicate k.toNat its).flatten.toArray := by
    have f0 : ∀ m : Nat, List.foldl (fun x1 x2 => x1 ++ x2) #[] (List.replicate m its.toArray) = (List.replicate m its).flatten.toArray := fun m => by
      have := foldl_rep its m []
      rw [List.nil_append] at this
      exact this
    rw [f0]
    cases its with
    | nil => simp
    | cons a r' => rw [if_neg (by simp)]
  refine wpAny_binaryOp_repeat_ref (T := "list") (U := "int") (by decide) ⟨_, e, rfl⟩ (fun s' => typeIs_int s' k t) noFill_list_mul F.fills_int_mul F.slot_int_rmul repeat_list F.slot_int_index.lookup
    (call_meets F.slot_int_rmul (typeIs_int s k t) F.entry_int_rmul (F.args_int_rmul_2 _ _) (int___rmul___int_list k t l its.toArray n)
      ⟨e, rfl, ⟨_, e, rfl⟩, call_meets F.slot_list_mul ⟨_, e, rfl⟩ F.entry_list_mul (F.args_list_mul_2 _ _) (AutoListH.list___mul___list_int_3 l its.toArray n k t hfit hcap hlong) ⟨e, ?_⟩⟩)
  rw [hnew]
  exact ⟨.ref _, _, I.lnew (t' := s.toks) (r.rep k.toNat) (by rw [len_rep, Nat.mul_comm]; exact hz), rfl, q _ I.fresh⟩

end

section
variable {prog : Program} {w : World} {A : Around} {E : Value → Shared → Prop} {s : Shared}
end

section
variable {X : Cx}
end
end L2

namespace L2
open PySem PySem.Spec PyProof.Rows

section
variable {κ : Type} [DecidableEq κ]
noncomputable def valV (kvs : List (κ × V)) (k : κ) : Option V := (kvs.find? fun kv => decide (kv.1 = k)).map (·.2)
noncomputable def putK (kvs : List (κ × V)) (k : κ) (v : V) : List (κ × V) :=
  if (kvs.any fun kv => decide (kv.1 = k)) = true then kvs.map (fun kv => if kv.1 = k then (kv.1, v) else kv) else kvs ++ [(k, v)]
noncomputable def dropK (kvs : List (κ × V)) (k : κ) : List (κ × V) := kvs.filter fun kv => decide (kv.1 ≠ k)

theorem valV_nil {k : κ} : valV ([] : List (κ × V)) k = none := rfl
theorem valV_pos {p : κ × V} {r : List (κ × V)} {k : κ} (e : p.1 = k) : valV (p :: r) k = some p.2 := by simp [valV, List.find?_cons, e]
theorem valV_neg {p : κ × V} {r : List (κ × V)} {k : κ} (e : ¬ p.1 = k) : valV (p :: r) k = valV r k := by simp [valV, List.find?_cons, e]
theorem valV_any (k : κ) : ∀ kvs : List (κ × V), (kvs.any fun kv => decide (kv.1 = k)) = (valV kvs k).isSome
  | [] => rfl
  | p :: r => by
    rw [List.any_cons]
    by_cases e : p.1 = k
    · simp only [valV_pos e, decide_eq_true e, Bool.true_or, Option.isSome_some]
    · rw [valV_neg e, decide_eq_false e, Bool.false_or]; exact valV_any k r
theorem valV_map (k j : κ) (y : V) : ∀ kvs : List (κ × V), valV (kvs.map fun kv => if kv.1 = k then (kv.1, y) else kv) j = (valV kvs j).map fun x => if j = k then y else x
  | [] => rfl
  | p :: r => by
    have ih := valV_map k j y r
    rw [List.map_cons]
    by_cases h : p.1 = k
    · rw [if_pos h]
      by_cases e : p.1 = j
      · rw [valV_pos (p := (p.1, y)) e, valV_pos e, Option.map_some, if_pos (e.symm.trans h)]
      · rw [valV_neg (p := (p.1, y)) e, valV_neg e, ih]
    · rw [if_neg h]
      by_cases e : p.1 = j
      · rw [valV_pos (p := p) e, valV_pos e, Option.map_some, if_neg (fun z => h (e.trans z))]
      · rw [valV_neg (p := p) e, valV_neg e, ih]
theorem valV_snoc (k j : κ) (y : V) : ∀ kvs : List (κ × V), valV kvs k = none → valV (kvs ++ [(k, y)]) j = if j = k then some y else valV kvs j
  | [], _ => by
    by_cases e : k = j
    · rw [if_pos e.symm]; exact valV_pos (p := (k, y)) e
    · rw [if_neg (fun z => e z.symm)]; exact valV_neg (p := (k, y)) e
  | p :: r, hn => by
    rw [List.cons_append]
    have hk : ¬ p.1 = k := fun z => by rw [valV_pos z] at hn; cases hn
    rw [valV_neg hk] at hn
    have ih := valV_snoc k j y r hn
    by_cases e : p.1 = j
    · rw [valV_pos e, valV_pos e, if_neg (fun z => hk (e.trans z))]
    · rw [valV_neg e, valV_neg e, ih]
theorem valV_put (kvs : List (κ × V)) (k j : κ) (y : V) : valV (putK kvs k y) j = if j = k then some y else valV kvs j := by
  unfold putK
  by_cases a : (kvs.any fun kv => decide (kv.1 = k)) = true
  · rw [if_pos a, valV_map]
    rw [valV_any] at a
    by_cases e : j = k
    · obtain ⟨x, hx⟩ := Option.isSome_iff_exists.mp a
      rw [if_pos e, e, hx, Option.map_some, if_pos rfl]
    · rw [if_neg e]
      cases valV kvs j with
      | none => rfl
      | some x => rw [Option.map_some, if_neg e]
  · rw [if_neg a]
    refine valV_snoc k j y kvs ?_
    rw [valV_any] at a
    cases q : valV kvs k with
    | none => rfl
    | some x => rw [q] at a; exact (a rfl).elim
theorem length_putK (kvs : List (κ × V)) (k : κ) (v : V) : (putK kvs k v).length ≤ kvs.length + 1 := by
  unfold putK
  split
  · rw [List.length_map]; omega
  · rw [List.length_append, List.length_cons, List.length_nil]; omega
theorem putK_new {kvs : List (κ × V)} {k : κ} (v : V) (h : valV kvs k = none) : putK kvs k v = kvs ++ [(k, v)] := by
  unfold putK
  rw [valV_any, h]
  exact if_neg (by decide)

theorem RelO.isSome_eq {o : Option V} {u : Option Value} (r : RelO o u) : o.isSome = u.isSome := by
  cases o with
  | none => cases u with
    | none => rfl
    | some _ => exact (show False from r).elim
  | some _ => cases u with
    | none => exact (show False from r).elim
    | some _ => rfl
theorem RelO.getD {o : Option V} {u : Option Value} {d : V} {d' : Value} (r : RelO o u) (rd : RelV d d') : RelV (o.getD d) (u.getD d') := by
  cases o with
  | none => cases u with
    | none => exact rd
    | some _ => exact (show False from r).elim
  | some _ => cases u with
    | none => exact (show False from r).elim
    | some _ => exact r

theorem KV.val {kvs : List (κ × V)} {vs : List (κ × Value)} (r : KV kvs vs) (k : κ) : RelO (valV kvs k) (valueAt vs k) := by
  unfold KV at r
  induction r with
  | nil => exact True.intro
  | @cons p q ps qs h t ih =>
    obtain ⟨h1, h2⟩ := h
    by_cases e : p.1 = k
    · have e' : q.1 = k := h1.symm.trans e
      have b : valueAt (q :: qs) k = some q.2 := by simp [valueAt, List.find?_cons, e']
      rw [valV_pos e, b]; exact h2
    · have e' : ¬ q.1 = k := fun z => e (h1.trans z)
      have b : valueAt (q :: qs) k = valueAt qs k := by simp [valueAt, List.find?_cons, e']
      rw [valV_neg e, b]; exact ih
theorem KV.any {kvs : List (κ × V)} {vs : List (κ × Value)} (r : KV kvs vs) (k : κ) : (kvs.any fun kv => decide (kv.1 = k)) = vs.any fun kv => decide (kv.1 = k) := by
  unfold KV at r
  induction r with
  | nil => rfl
  | cons h t ih => rw [List.any_cons, List.any_cons, ih, h.1]
theorem KV.repl {kvs : List (κ × V)} {vs : List (κ × Value)} (r : KV kvs vs) (k : κ) {y : V} {u : Value} (ry : RelV y u) :
    KV (kvs.map fun kv => if kv.1 = k then (kv.1, y) else kv) (vs.map fun kv => if kv.1 = k then (kv.1, u) else kv) := by
  unfold KV at r ⊢
  induction r with
  | nil => exact .nil
  | @cons p q ps qs h t ih =>
    rw [List.map_cons, List.map_cons]
    refine .cons ?_ ih
    obtain ⟨h1, h2⟩ := h
    by_cases e : p.1 = k
    · rw [if_pos e, if_pos (h1.symm.trans e)]; exact ⟨h1, ry⟩
    · rw [if_neg e, if_neg (fun z => e (h1.trans z))]; exact ⟨h1, h2⟩
theorem KV.put {kvs : List (κ × V)} {vs : List (κ × Value)} (r : KV kvs vs) (k : κ) {y : V} {u : Value} (ry : RelV y u) : KV (putK kvs k y) (stored vs k u) := by
  unfold putK stored
  rw [r.any k]
  by_cases e : (vs.any fun kv => decide (kv.1 = k)) = true
  · rw [if_pos e, if_pos e]; exact r.repl k ry
  · rw [if_neg e, if_neg e]; exact Paired.snoc r ⟨rfl, ry⟩
theorem KV.drop {kvs : List (κ × V)} {vs : List (κ × Value)} (r : KV kvs vs) (k : κ) : KV (dropK kvs k) (without vs k) := by
  unfold KV at r ⊢
  unfold dropK without
  induction r with
  | nil => exact .nil
  | @cons p q ps qs h t ih =>
    obtain ⟨h1, h2⟩ := h
    rw [List.filter_cons, List.filter_cons]
    by_cases e : p.1 = k
    · have a : ¬ decide (p.1 ≠ k) = true := by simp [e]
      have b : ¬ decide (q.1 ≠ k) = true := by simp [h1.symm.trans e]
      rw [if_neg a, if_neg b]; exact ih
    · have e' : ¬ q.1 = k := fun z => e (h1.trans z)
      have a : decide (p.1 ≠ k) = true := by simp [e]
      have b : decide (q.1 ≠ k) = true := by simp [e']
      rw [if_pos a, if_pos b]; exact .cons ⟨h1, h2⟩ ih
theorem KV.keys {kvs : List (κ × V)} {vs : List (κ × Value)} (r : KV kvs vs) : kvs.map (·.1) = vs.map (·.1) := by
  unfold KV at r
  induction r with
  | nil => rfl
  | cons h t ih => rw [List.map_cons, List.map_cons, ih, h.1]
theorem KV.length {kvs : List (κ × V)} {vs : List (κ × Value)} (r : KV kvs vs) : kvs.length = vs.length := Paired.length r
theorem dropK_le (kvs : List (κ × V)) (k : κ) : (dropK kvs k).length ≤ kvs.length := List.length_filter_le _ _
end


theorem kV_is {P : Program} {w : World} {k : Key} {u : Value} (r : RelV (kV k) u) : (mixKind P w).is k u = true := by
  cases k with
  | inl i => obtain ⟨t, e⟩ := (show ∃ t, u = Value.int i t from r); subst e; exact mixKind_int P w i t
  | inr x => obtain ⟨t, e⟩ := (show ∃ t, u = Value.str x t from r); subst e; exact mixKind_str P w x t
theorem items_are {P : Program} {w : World} : ∀ {ks : List Key} {us : List Value}, Vals (ks.map kV) us → ItemsAre (mixKind P w) ks us
  | [], _, r => by rw [List.map_nil] at r; cases r; exact .nil
  | k :: ks, _, r => by
    rw [List.map_cons] at r
    cases r with
    | cons h t => exact .cons (kV_is h) (items_are t)

noncomputable abbrev KT (H : Hp) : List (List Key × V) → List (List Key × Addr × Value) → Prop := Paired fun p q => p.1 = q.1 ∧ H q.2.1 = some (.tup (p.1.map kV)) ∧ RelV p.2 q.2.2
theorem KT.val {H : Hp} {kvs : List (List Key × V)} {xs : List (List Key × Addr × Value)} (r : KT H kvs xs) (k : List Key) : RelO (valV kvs k) ((atKey xs k).map (·.2)) := by
  induction r with
  | nil => exact True.intro
  | @cons p q ps qs h t ih =>
    obtain ⟨h1, _, h2⟩ := h
    by_cases e : p.1 = k
    · have e' : q.1 = k := h1.symm.trans e
      have b : atKey (q :: qs) k = some q.2 := by simp [atKey, List.find?_cons, e']
      rw [valV_pos e, b]; exact h2
    · have e' : ¬ q.1 = k := fun z => e (h1.trans z)
      have b : atKey (q :: qs) k = atKey qs k := by simp [atKey, List.find?_cons, e']
      rw [valV_neg e, b]; exact ih
theorem KT.repl {H : Hp} {kvs : List (List Key × V)} {xs : List (List Key × Addr × Value)} (r : KT H kvs xs) (k : List Key) {y : V} {u : Value} (ry : RelV y u) :
    KT H (kvs.map fun kv => if kv.1 = k then (kv.1, y) else kv) (xs.map (putAt k u)) := by
  induction r with
  | nil => exact .nil
  | @cons p q ps qs h t ih =>
    rw [List.map_cons, List.map_cons]
    refine .cons ?_ ih
    obtain ⟨h1, h2, h3⟩ := h
    unfold putAt
    by_cases e : p.1 = k
    · rw [if_pos e, if_pos (h1.symm.trans e)]; exact ⟨h1, h2, ry⟩
    · rw [if_neg e, if_neg (fun z => e (h1.trans z))]; exact ⟨h1, h2, h3⟩
theorem KT.put {H : Hp} {kvs : List (List Key × V)} {xs : List (List Key × Addr × Value)} (r : KT H kvs xs) (k : List Key) {b : Addr} {y : V} {u : Value} (hb : H b = some (.tup (k.map kV))) (ry : RelV y u) :
    KT H (putK kvs k y) (storedH xs k b u) := by
  have e : (kvs.any fun kv => decide (kv.1 = k)) = (atKey xs k).isSome := by
    rw [valV_any, (r.val k).isSome_eq, Option.isSome_map]
  unfold putK storedH
  rw [e]
  by_cases q : (atKey xs k).isSome = true
  · rw [if_pos q, if_pos q]; exact r.repl k ry
  · rw [if_neg q, if_neg q]; exact Paired.snoc r ⟨rfl, hb, ry⟩
theorem KT.keeps {H H' : Hp} {kvs : List (List Key × V)} {xs : List (List Key × Addr × Value)} (r : KT H kvs xs) (ht : ∀ b ys, H b = some (.tup ys) → H' b = some (.tup ys)) : KT H' kvs xs :=
  Paired.mapP r fun _ _ z => ⟨z.1, ht _ _ z.2.1, z.2.2⟩

section
variable {P : Program} {w : World} {H : Hp} {h : Heap} {a : Addr}
theorem rd_of {u : HO} (ok : HOk P w H h) (e : Rd H a u) : ObjOk P w H h a u := e.ok ok
theorem dk_rd {kvs : List (Key × V)} (ok : HOk P w H h) (e : Rd H a (.dK kvs)) : kvs.length ≤ sizeLine ∧ (a == sysModules) = false ∧ ∃ vs, KV kvs vs ∧ h.DictOf (mixKind P w) a vs :=
  show ObjOk P w H h a (.dK kvs) from rd_of ok e
theorem dk_of {kvs : List (Key × V)} (ok : HOk P w H h) (e : H a = some (.dK kvs)) : kvs.length ≤ sizeLine ∧ (a == sysModules) = false ∧ ∃ vs, KV kvs vs ∧ h.DictOf (mixKind P w) a vs := dk_rd ok (.inl e)
theorem key_of {ks : List Key} (ok : HOk P w H h) (e : H a = some (.tup (ks.map kV))) : (tupleKind (mixKind P w)).is h ks a := by
  obtain ⟨_, its, r, o, h1, h2, n, h3⟩ := (show ObjOk P w H h a (.tup (ks.map kV)) from ok a _ e)
  exact ⟨o, its.toArray, n, h1, h2, h3, by simpa using items_are r⟩
theorem dt_rd {kvs : List (List Key × V)} (ok : HOk P w H h) (e : Rd H a (.dT kvs)) : kvs.length ≤ sizeLine ∧ (a == sysModules) = false ∧
    ∃ xs, KT H kvs xs ∧ h.DictOfH (tupleKind (mixKind P w)) a xs := by
  obtain ⟨z, y, xs, r, o, es, ep, h1, h2, h3, h4, h5⟩ := (show ObjOk P w H h a (.dT kvs) from rd_of ok e)
  refine ⟨z, y, xs, r, o, es, ep, h1, h2, h3, h4, fun x hx => ?_, h5⟩
  have all : ∀ {l : List (List Key × V)} {m : List (List Key × Addr × Value)}, KT H l m → ∀ x ∈ m, (tupleKind (mixKind P w)).is h x.1 x.2.1 := by
    intro l m q
    induction q with
    | nil => intro x hx; exact nomatch hx
    | @cons p q ps qs hq t ih =>
      intro x hx
      rcases List.mem_cons.mp hx with e | hx
      · subst e
        exact key_of ok (by rw [← hq.1]; exact hq.2.1)
      · exact ih x hx
  exact all r x hx
theorem dt_of {kvs : List (List Key × V)} (ok : HOk P w H h) (e : H a = some (.dT kvs)) : kvs.length ≤ sizeLine ∧ (a == sysModules) = false ∧
    ∃ xs, KT H kvs xs ∧ h.DictOfH (tupleKind (mixKind P w)) a xs := dt_rd ok (.inl e)
end

noncomputable def DGet (H : Hp) (a : Addr) (y : V) (r : Option V) : Prop :=
  (∃ kvs k, Rd H a (.dK kvs) ∧ y = kV k ∧ r = valV kvs k) ∨ ∃ kvs k b, Rd H a (.dT kvs) ∧ y = .ref b ∧ H b = some (.tup (k.map kV)) ∧ r = valV kvs k
noncomputable def DPut (H : Hp) (a : Addr) (y v : V) (H' : Hp) : Prop :=
  (∃ kvs k, H a = some (.dK kvs) ∧ y = kV k ∧ kvs.length < sizeLine ∧ H' = upd H a (.dK (putK kvs k v))) ∨
  ∃ kvs k b, H a = some (.dT kvs) ∧ y = .ref b ∧ H b = some (.tup (k.map kV)) ∧ kvs.length < sizeLine ∧ H' = upd H a (.dT (putK kvs k v))
theorem DGet.k {H : Hp} {a : Addr} {kvs : List (Key × V)} {k : Key} (e : H a = some (.dK kvs)) : DGet H a (kV k) (valV kvs k) := .inl ⟨kvs, k, .inl e, rfl, rfl⟩
theorem DGet.t {H : Hp} {a b : Addr} {kvs : List (List Key × V)} {k : List Key} (e : H a = some (.dT kvs)) (eb : H b = some (.tup (k.map kV))) : DGet H a (.ref b) (valV kvs k) := .inr ⟨kvs, k, b, .inl e, rfl, eb, rfl⟩
theorem DPut.k {H : Hp} {a : Addr} {kvs : List (Key × V)} {k : Key} {v : V} (e : H a = some (.dK kvs)) (hl : kvs.length < sizeLine) : DPut H a (kV k) v (upd H a (.dK (putK kvs k v))) := .inl ⟨kvs, k, e, rfl, hl, rfl⟩
theorem DPut.t {H : Hp} {a b : Addr} {kvs : List (List Key × V)} {k : List Key} {v : V} (e : H a = some (.dT kvs)) (eb : H b = some (.tup (k.map kV))) (hl : kvs.length < sizeLine) :
    DPut H a (.ref b) v (upd H a (.dT (putK kvs k v))) := .inr ⟨kvs, k, b, e, rfl, eb, hl, rfl⟩


section
variable {X : Cx} {pins : List (Addr × Obj)} {σ : St} {H : Hp} {s : Shared} {a : Addr} {y v : V} {u r : Value} {o : Option V} {A : Around} {E : Value → Shared → Prop}

theorem Inv.big (I : Inv X pins σ H s) : sysModules < s.heap.objs.size := by
  have h : mainGlobals < s.heap.objs.size := (I.mod.glob.keeps I.bk).lt
  exact Nat.lt_trans (by decide) h

theorem d_getItem {Q : Value → Shared → Prop} (hu : A.units + 1 < cLine) (I : Inv X pins σ H s) (g : DGet H a y (some v)) (ry : RelV y u) (h : ∀ w' s', Inv X pins σ H s' → RelV v w' → Q w' s') :
    wpAny (model X.prog X.w) A (getItem (.ref a) u) Q E s := by
  rcases g with ⟨kvs, k, e, ey, l⟩ | ⟨kvs, k, b, e, ey, eb, l⟩
  · subst ey
    obtain ⟨z, hd, vs, rel, dd⟩ := dk_rd I.hok e
    obtain ⟨w', hw, rw'⟩ := RelO.some_of (v := v) (o := valueAt vs k) (by rw [l]; exact rel.val k)
    exact wpAny_getItem_of (kV_is ry) dd.mapOf hw (h w' _ (I.tok _) rw')
  · subst ey
    cases (show u = Value.ref b from ry)
    obtain ⟨z, hd, xs, rel, dd⟩ := dt_rd I.hok e
    obtain ⟨w', hw, rw'⟩ := RelO.some_of (v := v) (o := (atKey xs k).map (·.2)) (by rw [l]; exact rel.val k)
    obtain ⟨p, hp, hp2⟩ := Option.map_eq_some_iff.mp hw
    refine wpAny_getItem_heap (tupleKind_room_in1 hu) (key_of I.hok eb) dd hp ?_
    rw [hp2]
    exact h w' _ (I.tok _) rw'
theorem d_write {h' : Heap} {t' : Nat} {ob : HO} (I : Inv X pins σ H s) (mu : Mut (H a)) (hs : Heap.SameBut a s.heap h') (he : ∃ q, h'.get? a = some q) (new : ObjOk X.prog X.w (upd H a ob) h' a ob) :
    Inv X pins σ (upd H a ob) { s with heap := h', toks := t' } :=
  I.write (x := a) (e := a) mu (.inl rfl) (fun b q hb z => (hs.2 b hb).trans z) he new
theorem dk_new {P : Program} {w : World} {H' : Hp} {h' : Heap} {kvs : List (Key × V)} {vs : List (Key × Value)} (z : kvs.length ≤ sizeLine) (hd : (a == sysModules) = false) (rel : KV kvs vs) (dd : h'.DictOf (mixKind P w) a vs) :
    ObjOk P w H' h' a (.dK kvs) := ⟨z, hd, vs, rel, dd⟩
theorem d_setItem {H' : Hp} {Q : Unit → Shared → Prop} (hu : A.units + 1 < cLine) (I : Inv X pins σ H s) (g : DPut H a y v H') (ry : RelV y u) (rv : RelV v r) (h : ∀ s', Inv X pins σ H' s' → Q () s') :
    wpAny (model X.prog X.w) A (setItem (.ref a) u r) Q E s := by
  rcases g with ⟨kvs, k, e, ey, l, eH⟩ | ⟨kvs, k, b, e, ey, eb, l, eH⟩
  · subst ey eH
    obtain ⟨z, hd, vs, rel, dd⟩ := dk_of I.hok e
    have hz : vs.length ≤ sizeLine := by rw [← rel.length]; exact z
    have hl : (putK kvs k v).length ≤ sizeLine := by have := length_putK kvs k v; omega
    refine wpAny_setItem_pairs (hsz := hz) (kV_is ry) dd fun h' dd' hs => h _ ?_
    have he : ∃ q, h'.get? a = some q := let ⟨q, _, _, hq, _⟩ := dd'; ⟨q, hq⟩
    exact d_write I (by rw [e]; exact True.intro) hs he (dk_new hl hd (rel.put k rv) dd')
  · subst ey eH
    cases (show u = Value.ref b from ry)
    obtain ⟨z, hd, xs, rel, dd⟩ := dt_of I.hok e
    have hz : xs.length ≤ sizeLine := by rw [← Paired.length rel]; exact z
    have hl : (putK kvs k v).length ≤ sizeLine := by have := length_putK kvs k v; omega
    refine wpAny_setItem_heap (hsz := hz) (tupleKind_room_in1 hu) (key_of I.hok eb) dd fun h' dd' hs => h _ ?_
    obtain ⟨q, es, ep, hq, h2, h3, h4, _, h5⟩ := dd'
    refine d_write I (by rw [e]; exact True.intro) hs ⟨q, hq⟩ ⟨hl, hd, _, (rel.put k eb rv).keeps fun c ys ec => ?_, q, es, ep, hq, h2, h3, h4, h5⟩
    rw [upd_ne (ne_of ec e (fun z => nomatch z))]
    exact ec
end

section
variable {X : Cx} {pins : List (Addr × Obj)} {σ : St} {H : Hp} {s : Shared} {a : Addr} {kvs : List (Key × V)} {k : Key} {u : Value} {A : Around} {E : Value → Shared → Prop}
theorem d_delItem {Q : Unit → Shared → Prop} (I : Inv X pins σ H s) (e : H a = some (.dK kvs)) (ry : RelV (kV k) u) (l : (valV kvs k).isSome = true) (h : ∀ s', Inv X pins σ (upd H a (.dK (dropK kvs k))) s' → Q () s') :
    wpAny (model X.prog X.w) A (delItem (.ref a) u) Q E s := by
  obtain ⟨z, hd, vs, rel, dd⟩ := dk_of I.hok e
  refine wpAny_delItem_slot dd.typeIs (by decide) PySem.F.slot_dict_delitem
    (call_meetsIn PySem.F.slot_dict_delitem dd.typeIs PySem.F.entry_dict_delitem (PySem.F.args_dict_delitem_2 _ _) (meets_dict_delitem_pairs (mixKind X.prog X.w) a (kV_is ry)) ⟨vs, dd, by rw [← rel.length]; exact z, by rw [← (rel.val k).isSome_eq]; exact l, fun h' dd' hs => h _ ?_⟩)
  have he : ∃ q, h'.get? a = some q := let ⟨q, _, _, hq, _⟩ := dd'; ⟨q, hq⟩
  exact d_write I (by rw [e]; exact True.intro) hs he (dk_new (Nat.le_trans (dropK_le kvs k) z) hd (rel.drop k) dd')
theorem d_pop {v : V} {more : List Value} {Q : Value → Shared → Prop} (I : Inv X pins σ H s) (e : H a = some (.dK kvs)) (ry : RelV (kV k) u) (l : valV kvs k = some v) (hm : more = [] ∨ ∃ x, more = [x])
    (h : ∀ w' s', Inv X pins σ (upd H a (.dK (dropK kvs k))) s' → RelV v w' → Q w' s') : wpAny (model X.prog X.w) A (call (.builtin "dict.pop") (.ref a :: u :: more)) Q E s := by
  obtain ⟨z, hd, vs, rel, dd⟩ := dk_of I.hok e
  obtain ⟨w', hw, rw'⟩ := RelO.some_of (v := v) (o := valueAt vs k) (by rw [← l]; exact rel.val k)
  have hp : (keyPart u).isSome = true := by
    cases k with
    | inl i => obtain ⟨t, q⟩ := (show ∃ t, u = Value.int i t from ry); subst q; rfl
    | inr x => obtain ⟨t, q⟩ := (show ∃ t, u = Value.str x t from ry); subst q; rfl
  have ha : argsOk "dict.pop" ⟨.ref a :: u :: more, []⟩ := by
    rcases hm with q | ⟨x, q⟩
    · subst q; exact PySem.F.args_dict_pop_2 _ _
    · subst q; exact PySem.F.args_dict_pop_3 _ _ _
  refine call_meetsIn PySem.F.slot_dict_pop dd.typeIs PySem.F.entry_dict_pop ha (meets_dict_pop_there (mixKind X.prog X.w) a (kV_is ry) more hm hp)
    ⟨vs, w', dd, by rw [← rel.length]; exact z, hw, fun h' dd' hs => h w' _ ?_ rw'⟩
  have he : ∃ q, h'.get? a = some q := let ⟨q, _, _, hq, _⟩ := dd'; ⟨q, hq⟩
  exact d_write I (by rw [e]; exact True.intro) hs he (dk_new (Nat.le_trans (dropK_le kvs k) z) hd (rel.drop k) dd')
theorem d_popD {r : Value} {Q : Value → Shared → Prop} (I : Inv X pins σ H s) (e : H a = some (.dK kvs)) (ry : RelV (kV k) u) (l : valV kvs k = none) (h : ∀ s', Inv X pins σ H s' → Q r s') :
    wpAny (model X.prog X.w) A (call (.builtin "dict.pop") [.ref a, u, r]) Q E s := by
  obtain ⟨z, hd, vs, rel, dd⟩ := dk_of I.hok e
  have hn : valueAt vs k = none := RelO.none_of (by rw [← l]; exact rel.val k)
  have hp : (keyPart u).isSome = true := by
    cases k with
    | inl i => obtain ⟨t, q⟩ := (show ∃ t, u = Value.int i t from ry); subst q; rfl
    | inr x => obtain ⟨t, q⟩ := (show ∃ t, u = Value.str x t from ry); subst q; rfl
  exact call_meetsIn PySem.F.slot_dict_pop dd.typeIs PySem.F.entry_dict_pop (PySem.F.args_dict_pop_3 _ _ _) (meets_dict_pop_default (mixKind X.prog X.w) a (kV_is ry) hd hp r) ⟨vs, dd, hn, h _ (I.tok _)⟩
theorem d_len {Q : Value → Shared → Prop} (I : Inv X pins σ H s) (e : Rd H a (.dK kvs)) (h : ∀ t s', Inv X pins σ H s' → Q (.int kvs.length t) s') : wpAny (model X.prog X.w) A (call (.builtin "len") [.ref a]) Q E s := by
  obtain ⟨z, hd, vs, rel, dd⟩ := dk_rd I.hok e
  refine call_len_dict hd dd (by rw [← rel.length]; rw [sizeLine_eq] at z; omega) ?_
  rw [← rel.length]
  exact h _ _ (I.tok _)
end


noncomputable def NoSl (i : Expr) : Prop := ∀ ov iv, subscripted i false ov iv = operate [ov, iv] (getItem ov iv)
theorem subD_of {prog : Program} {w : World} {A : Around} {E : Value → Shared → Prop} {s : Shared} {env : Env} {value slice : Expr} {pos : Pos} {T id : String} {Q : Value → Shared → Prop}
    (hl : typeLookup (.type T) "__getitem__" = pure (some (.builtin id))) (hs : NoSl slice)
    (h : wpAny (model prog w) A (eval value env) (fun o s₁ => wpAny (model prog w) A (eval slice env) (fun i s₂ => s₂.TypeIs o T ∧ wpAny (model prog w) A (getItem o i) Q E s₂) E s₁) E s) :
    wpAny (model prog w) A (eval (.Subscript value slice pos) env) Q E s := by
  refine Subscript_ (wpAny_mono h (fun o s₁ h₁ => wpAny_mono h₁ (fun i s₂ h₂ => ?_) fun _ _ x => x) fun _ _ x => x)
  obtain ⟨hT, h₂⟩ := h₂
  unfold subscriptTail
  refine wpAny_bind ?_
  rw [getitemInPython_of_ne hT.not_modules]
  refine wpAny_bind (wpAny_specialOf hT hl ?_)
  have fin : wpAny (model prog w) A (subscripted slice false o i) (fun r s₃ => wpAny (model prog w) A (letTemporaryGo value o r >>= fun _ => pure r) Q E s₃) E s₂ := by
    rw [hs o i]
    exact wpAny_operating (wpAny_mono h₂ (fun r s₃ h₃ => wpAny_bind (wpAny_letTemporaryGo (wpAny_pure h₃))) fun _ _ x => x)
  first
    | exact wpAny_pure (wpAny_bind fin)
    | exact wpAny_bind (wpAny_pure (wpAny_bind fin))
    | exact wpAny_bind fin

theorem dict_typeIs {X : Cx} {pins : List (Addr × Obj)} {σ : St} {H : Hp} {s : Shared} {a : Addr} {y : V} {o : Option V} (I : Inv X pins σ H s) (g : DGet H a y o) : s.TypeIs (.ref a) "dict" := by
  rcases g with ⟨kvs, k, e, _, _⟩ | ⟨kvs, k, b, e, _, _, _⟩
  · obtain ⟨_, _, vs, _, dd⟩ := dk_rd I.hok e
    exact dd.typeIs
  · obtain ⟨_, _, xs, _, dd⟩ := dt_rd I.hok e
    exact dd.typeIs
noncomputable def tDGet (td ty : TE) : TE := fun σ H Q => td σ H fun x H1 => ty σ H1 fun y H2 => ∃ a v, x = .ref a ∧ DGet H2 a y (some v) ∧ Q v H2
noncomputable def sDPut (td ty tv : TE) : TS := fun D σ H => tv σ H fun v H1 => td σ H1 fun x H2 => ty σ H2 fun y H3 => ∃ a H4, x = .ref a ∧ DPut H3 a y v H4 ∧ D.nx σ H4
section
variable {X : Cx} {o i e value : Expr} {pos pos' tpos : Pos} {td ty tv : TE}
theorem pe_dget (hu : X.A.units + 1 < cLine) (ho : PE X o td) (hi : PE X i ty) (hs : NoSl i) : PE X (.Subscript o i pos) (tDGet td ty) := by
  intro pins s σ H Q I h
  refine subD_of PySem.F.slot_dict_getitem.lookup hs (thn (ho pins s σ H _ I h) fun u s1 ⟨x, H1, I1, rx, q1⟩ => thn (hi pins s1 σ H1 _ I1 q1) fun iv s2 hzq => ?_)
  obtain ⟨y, H2, I2, ry, a, v, ex, g, q2⟩ := hzq
  subst ex
  obtain rfl : u = Value.ref a := rx
  exact ⟨dict_typeIs I2 g, d_getItem hu I2 g ry fun w' s3 I3 rw' => ⟨v, H2, I3, rw', q2⟩⟩
theorem ps_dput (hu : X.A.units + 1 < cLine) (ho : PE X o td) (hi : PE X i ty) (hv : PE X value tv) (hs : swapsWith value (some (.Subscript o i pos')) pos.line X.env = pure false) :
    PS X (.Assign [.Subscript o i pos'] value pos) (sDPut td ty tv) := by
  intro pins s σ H D I h
  refine wpAny_Assign_Subscript (thn (hv pins s σ H _ I h) fun r s1 ⟨v, H1, I1, rv, q1⟩ => thn (ho pins s1 σ H1 _ I1 q1) fun u s2 ⟨x, H2, I2, rx, q2⟩ => thn (hi pins s2 σ H2 _ I2 q2) fun iv s3 hzq => ?_) hs
  obtain ⟨y, H3, I3, ry, a, H4, ex, g, q3⟩ := hzq
  subst ex
  obtain rfl : u = Value.ref a := rx
  exact d_setItem hu I3 g ry rv fun s4 I4 => ⟨σ, H4, I4, q3⟩
end


theorem dk_empty {P : Program} {w : World} {H : Hp} (h : Heap) (hb : sysModules < h.objs.size) : ObjOk P w H (h.push { cls := .type "dict", data := .dict #[] }) h.objs.size (.dK []) :=
  ⟨Nat.zero_le _, beq_eq_false_iff_ne.mpr (Ne.symm (Nat.ne_of_lt hb)), [], .nil, Heap.DictOf.new h⟩
noncomputable def tDNewK : TE := fun _ H Q => ∀ p, H p = none → Q (.ref p) (upd H p (.dK []))
section
variable {X : Cx} {pos : Pos}
theorem pe_dnewK : PE X (.Dict [] [] pos) tDNewK := fun pins s σ H Q I h =>
  wpAny_Dict_empty ⟨.ref s.heap.objs.size, _, I.laid (a := s.heap.objs.size) (o := .dK []) (t' := s.toks) (fun _ _ q => Heap.get?_push_of_some _ q) (Nat.le_refl _) (dk_empty s.heap I.big), rfl, h _ (I.hok.fresh (Nat.le_refl _))⟩
end

noncomputable abbrev VV : List (V × V) → List (Value × Value) → Prop := Paired fun p q => RelV p.1 q.1 ∧ RelV p.2 q.2
structure M1 (X : Cx) (o : Expr) (m : Str) (apos : Pos) (e : Expr) (cpos : Pos) : Prop where
  base : attributeBase o m X.env (eval o X.env) = eval o X.env
  few : ((backTo cpos (starEach [e] X.env)).all (fun x => !x.1) && (backToKw cpos (keywordEach [] X.env)).all (fun x => x.1.isSome)
    && decide (([e] : List Expr).length + ([] : List Keyword).length + (if ([] : List Keyword).isEmpty then 0 else 1) < 30)) = true
  line : (apos.endLine == cpos.line) = true
  trees : backTo cpos (starEach [e] X.env) = [(false, eval e X.env)]
structure M2 (X : Cx) (o : Expr) (m : Str) (apos : Pos) (e f : Expr) (cpos : Pos) : Prop where
  base : attributeBase o m X.env (eval o X.env) = eval o X.env
  few : ((backTo cpos (starEach [e, f] X.env)).all (fun x => !x.1) && (backToKw cpos (keywordEach [] X.env)).all (fun x => x.1.isSome)
    && decide (([e, f] : List Expr).length + ([] : List Keyword).length + (if ([] : List Keyword).isEmpty then 0 else 1) < 30)) = true
  line : (apos.endLine == cpos.line) = true
  trees : backTo cpos (starEach [e, f] X.env) = [(false, eval e X.env), (false, eval f X.env)]

noncomputable def IsD (H : Hp) (a : Addr) : Prop := (∃ kvs, Rd H a (.dK kvs)) ∨ ∃ kvs, Rd H a (.dT kvs)
theorem isD_at {X : Cx} {pins : List (Addr × Obj)} {σ : St} {H : Hp} {s : Shared} {a : Addr} (I : Inv X pins σ H s) (d : IsD H a) :
    s.TypeIs (.ref a) "dict" ∧ (∀ b, Value.ref a = .ref b → ∃ ob, s.heap.get? b = some ob ∧ ob.dict = none) ∧ (a == sysModules) = false := by
  rcases d with ⟨kvs, e⟩ | ⟨kvs, e⟩
  · obtain ⟨_, hd, vs, _, dd⟩ := dk_rd I.hok e
    refine ⟨dd.typeIs, fun b q => ?_, hd⟩
    cases q
    obtain ⟨ob, _, _, h1, h2, _⟩ := dd
    exact ⟨ob, h1, h2.2.1⟩
  · obtain ⟨_, hd, xs, _, dd⟩ := dt_rd I.hok e
    refine ⟨dd.typeIs, fun b q => ?_, hd⟩
    cases q
    obtain ⟨ob, _, _, h1, h2, _⟩ := dd
    exact ⟨ob, h1, h2.2.1⟩

section
variable {X : Cx} {pins : List (Addr × Obj)} {σ : St} {H : Hp} {s : Shared} {a : Addr} {y d : V} {u r : Value} {o : Option V} {A : Around} {E : Value → Shared → Prop}
theorem d_get2 {Q : Value → Shared → Prop} (hu : A.units + 1 < cLine) (I : Inv X pins σ H s) (g : DGet H a y o) (ry : RelV y u) (rd : RelV d r) (h : ∀ w' s', Inv X pins σ H s' → RelV (o.getD d) w' → Q w' s') :
    wpAny (model X.prog X.w) A (call (.builtin "dict.get") [.ref a, u, r]) Q E s := by
  rcases g with ⟨kvs, k, e, ey, l⟩ | ⟨kvs, k, b, e, ey, eb, l⟩
  · subst ey
    obtain ⟨z, hd, vs, rel, dd⟩ := dk_rd I.hok e
    refine call_meetsIn PySem.F.slot_dict_get dd.typeIs PySem.F.entry_dict_get (PySem.F.args_dict_get_3 _ _ _) (meets_dict_get_default (mixKind X.prog X.w) a (kV_is ry) hd r) ⟨_, dd.mapOf, h _ _ (I.tok _) ?_⟩
    rw [l]
    exact (rel.val k).getD rd
  · subst ey
    cases (show u = Value.ref b from ry)
    obtain ⟨z, hd, xs, rel, dd⟩ := dt_rd I.hok e
    refine call_meetsIn PySem.F.slot_dict_get dd.typeIs PySem.F.entry_dict_get (PySem.F.args_dict_get_3 _ _ _) (meetsH_dict_get_default (tupleKind (mixKind X.prog X.w)) a b hd r) ⟨tupleKind_room_in1 hu, k, xs, key_of I.hok eb, dd, h _ _ (I.tok _) ?_⟩
    rw [l]
    exact (rel.val k).getD rd
end

noncomputable def tDGet2 (td ty tx : TE) : TE := fun σ H Q => td σ H fun x H1 => ∃ a, x = .ref a ∧ IsD H1 a ∧ ty σ H1 fun y H2 => tx σ H2 fun z H3 => ∃ o, DGet H3 a y o ∧ Q (o.getD z) H3
noncomputable def tDPop2 (td ty tx : TE) : TE := fun σ H Q => td σ H fun x H1 => ∃ a, x = .ref a ∧ IsD H1 a ∧ ty σ H1 fun y H2 => tx σ H2 fun z H3 => ∃ kvs k, H3 a = some (.dK kvs) ∧ y = kV k ∧
  (∀ v, valV kvs k = some v → Q v (upd H3 a (.dK (dropK kvs k)))) ∧ (valV kvs k = none → Q z H3)
section
variable {X : Cx} {o e f : Expr} {apos cpos : Pos} {td ty tx : TE}
theorem pe_dget2 (hu : X.A.units + 1 < cLine) (ho : PE X o td) (he : PE X e ty) (hf : PE X f tx) (m : M2 X o "get" apos e f cpos) : PE X (.Call (.Attribute o "get" apos) [e, f] [] cpos) (tDGet2 td ty tx) := by
  intro pins s σ H Q I h
  refine wpAny_Call_method m.base m.few m.line PySem.F.plainAttrs_dict PySem.F.slot_dict_get PySem.F.type_dict_get (thn (ho pins s σ H _ I h) fun u s1 hzq => ?_)
  obtain ⟨x, H1, I1, rx, a, ex, d, q1⟩ := hzq
  subst ex
  obtain rfl : u = Value.ref a := rx
  obtain ⟨t1, t2, _⟩ := isD_at I1 d
  refine ⟨t1, t2, ?_⟩
  rw [m.trees]
  refine Calls.callWith_builtin rfl (Calls.evalArgs_plain (Calls.spliced_cons (thn (he pins s1 σ H1 _ I1 q1) fun iv s2 ⟨y, H2, I2, ry, q2⟩ =>
    Calls.spliced_cons (thn (hf pins s2 σ H2 _ I2 q2) fun fv s3 ⟨z, H3, I3, rz, ov, g, q3⟩ => Calls.spliced_nil ?_))))
  exact d_get2 hu I3 g ry rz fun w' s4 I4 rw' => ⟨_, H3, I4, rw', q3⟩
theorem pe_dpop2 (ho : PE X o td) (he : PE X e ty) (hf : PE X f tx) (m : M2 X o "pop" apos e f cpos) : PE X (.Call (.Attribute o "pop" apos) [e, f] [] cpos) (tDPop2 td ty tx) := by
  intro pins s σ H Q I h
  refine wpAny_Call_method m.base m.few m.line PySem.F.plainAttrs_dict PySem.F.slot_dict_pop PySem.F.type_dict_pop (thn (ho pins s σ H _ I h) fun u s1 hzq => ?_)
  obtain ⟨x, H1, I1, rx, a, ex, d, q1⟩ := hzq
  subst ex
  obtain rfl : u = Value.ref a := rx
  obtain ⟨t1, t2, _⟩ := isD_at I1 d
  refine ⟨t1, t2, ?_⟩
  rw [m.trees]
  refine Calls.callWith_builtin rfl (Calls.evalArgs_plain (Calls.spliced_cons (thn (he pins s1 σ H1 _ I1 q1) fun iv s2 ⟨y, H2, I2, ry, q2⟩ =>
    Calls.spliced_cons (thn (hf pins s2 σ H2 _ I2 q2) fun fv s3 ⟨z, H3, I3, rz, kvs, k, ea, ey, q3, q4⟩ => Calls.spliced_nil ?_))))
  subst ey
  cases l : valV kvs k with
  | some v => exact d_pop I3 ea ry l (.inr ⟨fv, rfl⟩) fun w' s4 I4 rw' => ⟨v, _, I4, rw', q3 v l⟩
  | none => exact d_popD I3 ea ry l fun s4 I4 => ⟨z, H3, I4, rz, q4 l⟩
end

section
variable {X : Cx} {pins : List (Addr × Obj)} {σ : St} {H : Hp} {s : Shared} {a : Addr} {kvs : List (Key × V)} {A : Around} {E : Value → Shared → Prop}
end


section
variable {X : Cx} {pins : List (Addr × Obj)} {σ : St} {H : Hp} {s : Shared} {a : Addr} {y : V} {u : Value} {A : Around} {E : Value → Shared → Prop}
end
end L2

namespace Att
open PySem PySem.W PySem.Calls PyProof.Rows

theorem ints_of_wellAll {P : Params} {h : Heap} : ∀ (ns : List Int) (vs : List Value), WellAll P h vs (ns.map WData.int) → IntsAre vs ns := by
  intro ns
  induction ns with
  | nil =>
    intro vs w
    rw [List.map_nil] at w
    cases w
    exact .nil
  | cons n ns ih =>
    intro vs w
    rw [List.map_cons] at w
    cases w with
    | cons a b =>
      cases a
      exact .cons _ _ (ih _ b)

theorem script_of {l : OpenLaw} {n : Nat} (hn : l.most = some n) {P : Params} {h : Heap} {args : List WData} {vals : List Value}
    (hpre : l.row.toRowW.claim.pre args = true) (hwl : WellAll P h vals args) :
    ∃ a vs ns, vals = [Value.ref a] ∧ args = [WData.list (ns.map WData.int)] ∧ h.get? a = some { cls := .type "list", data := .seq vs.toArray } ∧ IntsAre vs ns ∧ ns.length ≤ n := by
  have hsh : WShape.hasAll [] args [.list .int] = true := (pre_splitW hpre).1
  have hc : l.pre.holds [] { args := args } = true := (pre_splitW hpre).2
  obtain ⟨d, r, rfl, h1, h2⟩ := hasAllW_cons hsh
  obtain rfl := hasAllW_nil h2
  obtain ⟨xs, rfl, h3⟩ := hasW_list h1
  obtain ⟨ns, rfl⟩ := items_int h3
  have hlen : ns.length ≤ n := by
    unfold OpenLaw.pre at hc
    have h4 : (WTm.not (.lt (.lit (.int (n : Int))) (.len (.arg 0)))).holds [] { args := [.list (ns.map .int)] } = true := by
      have h4 := (holds_andW hc).1
      rw [hn] at h4
      exact h4
    have h5 := condW_of h4 (w_not (w_lt w_lit (w_len_list (w_arg rfl))))
    rw [List.length_map] at h5
    refine Nat.le_of_not_lt fun q => ?_
    have q' : (n : Int) < ((ns.length : Nat) : Int) := by omega
    first
      | (rw [decide_eq_true q'] at h5; exact absurd h5 (by decide))
      | (simp at h5; omega)
  cases hwl with
  | cons w1 w2 =>
    cases w2
    cases w1 with
    | list ho hall => exact ⟨_, _, ns, rfl, rfl, ho, ints_of_wellAll ns _ hall, hlen⟩

theorem post_true (l : OpenLaw) (args : List WData) : l.row.toRowW.claim.post args (.bool true) args = true :=
  postW_of (r := l.row.toRowW) (X := (true == true))
    (show WShape.has [] (.bool true) .bool = true by first | rfl | decide | simp [WShape.has, WShape.arms, WShape.armsAll])
    (show (WTm.eq .res (.lit (.bool true))).value [] { args := args, res := some (.bool true), after := args } = some (.bool (true == true)) from w_eq_bool (w_res rfl) w_lit) rfl

theorem attach {l : OpenLaw} {n : Nat} {q : Program} {loose : List Str} {XP : (Str → Option Value) → Heap → Prop} {YP : World → Heap → Prop} {d : DefRec} {x : Str}
    (hn : l.most = some n) (hdf : d.params.defaults = [])
    (hbind : ∀ pm cd doc v : Value, bindArgs (docDef d.name d.params d.body d.scope pm cd doc) ⟨[v], []⟩ = pure [(x, v)])
    (hx : d.scope.names.lookup x = some .local ∨ d.scope.names.lookup x = some .cell)
    (hk : d.scope.kind = .function) (hco : d.scope.isCoroutine = false) (hgen : d.scope.isGenerator = false)
    (body : ∀ (w : World) (s₀ s₁ s : Shared) (mg mb : Str → Option Value) (fa : Addr) (o : Obj) (pm cd doc : Value) (a : Addr) (vs : List Value) (ns : List Int),
      Ground q loose [] XP w s₀ mg mb s₁.heap → YP w s₁.heap →
      s₁.heap.get? fa = some o → o.data = .func (docDef d.name d.params d.body d.scope pm cd doc) → s₁.heap.CodeRec cd d.name → mg d.name = some (.ref fa) →
      s₁.heap.get? a = some { cls := .type "list", data := .seq vs.toArray } → IntsAre vs ns → ns.length ≤ n →
      s.gens = #[] → s.os = s₁.os →
      Fr s₁.heap s₁.heap.objs.size s.heap (bindL (envOfC d.name d.scope s₁.heap.objs.size fa cd).kindOf [(x, .ref a)] fun _ => none) →
      Cl s₁.heap.objs.size (cellsFrom (s₁.heap.objs.size + 1) d.scope.names []) s.heap (bindC (envOfC d.name d.scope s₁.heap.objs.size fa cd).kindOf [(x, .ref a)] fun _ => none) →
      wpAny (model l.prog w) (callerA.deeper (envOfC d.name d.scope s₁.heap.objs.size fa cd)) (execs d.body (envOfC d.name d.scope s₁.heap.objs.size fa cd))
        (fun f s' => f = .ret (.bool true) ∧ OldK s₁.heap s'.heap ∧ s'.os = s₁.os ∧ AllBare s'.gens) (fun _ _ => False) s) :
    WalkO q loose XP YP l.row.toRowW d [] (fun f vs => PySem.call f vs) := by
  intro w s₀ s₁ mg mb G Y fa o pm cd doc dV kV ho hd hcd hD hmg hg args vals as hpre hlay hrd hwl hlo
  obtain rfl : dV = .none := Dflts.none hD hdf
  obtain rfl : kV = .none := Dflts.noKw hD
  obtain ⟨a, vs, ns, rfl, rfl, hobj, hints, hlen⟩ := script_of hn hpre hwl
  refine enter_call ?_
  refine call_cells_ret (o := o) (by rw [depth_caller]; decide) ho (fd_plain hd) G.T.nolimit hcd (hbind pm cd doc (.ref a)) (fun y hy => ?_) (fun h₁ tk F X => ?_) hco hgen hk
  · obtain rfl : y = (x, Value.ref a) := List.mem_singleton.mp hy
    rcases hx with e | e
    · exact .inl e
    · exact .inr ⟨e, cellsFrom_some _ _ _ (.inl e)⟩
  · refine wpAny_mono (body w s₀ s₁ { s₁ with heap := h₁, toks := tk } mg mb fa o pm cd doc a vs ns G Y ho (fd_plain hd) hcd hmg hobj hints hlen hg rfl F X) (fun f s' hq => ?_) (fun _ _ hq => hq)
    obtain ⟨rfl, h2, h3, h4⟩ := hq
    exact ⟨.inl ⟨.bool true, .bool true, [], rfl, fun _ => rfl, .bool true, post_true l _, fun _ => ⟨List.Pairwise.nil, fun _ hm => (nomatch hm)⟩⟩, h2, h3, h4⟩

theorem attach_call {l : OpenLaw} {n : Nat} {q : Program} {loose : List Str} {XP : (Str → Option Value) → Heap → Prop} {YP : World → Heap → Prop} {d : DefRec}
    (hn : l.most = some n) (hdf : d.params.defaults = [])
    (call : ∀ (w : World) (s₀ s₁ : Shared) (mg mb : Str → Option Value) (fa : Addr) (o : Obj) (pm cd doc : Value) (a : Addr) (vs : List Value) (ns : List Int),
      Ground q loose [] XP w s₀ mg mb s₁.heap → YP w s₁.heap →
      s₁.heap.get? fa = some o → o.data = .func (docDef d.name d.params d.body d.scope pm cd doc) → s₁.heap.CodeRec cd d.name → mg d.name = some (.ref fa) →
      s₁.heap.get? a = some { cls := .type "list", data := .seq vs.toArray } → IntsAre vs ns → ns.length ≤ n → s₁.gens = #[] →
      codeAny (model l.prog w) callerA (.call (.ref fa) ⟨[.ref a], []⟩) (fun r s' => r = .ok (.ret (.bool true)) ∧ OldK s₁.heap s'.heap ∧ s'.os = s₁.os ∧ AllBare s'.gens) s₁) :
    WalkO q loose XP YP l.row.toRowW d [] (fun f vs => PySem.call f vs) := by
  intro w s₀ s₁ mg mb G Y fa o pm cd doc dV kV ho hd hcd hD hmg hg args vals as hpre hlay hrd hwl hlo
  obtain rfl : dV = .none := Dflts.none hD hdf
  obtain rfl : kV = .none := Dflts.noKw hD
  obtain ⟨a, vs, ns, rfl, rfl, hobj, hints, hlen⟩ := script_of hn hpre hwl
  refine enter_call (codeAny_mono (call w s₀ s₁ mg mb fa o pm cd doc a vs ns G Y ho (fd_plain hd) hcd hmg hobj hints hlen hg) fun r s' hq => ?_)
  obtain ⟨rfl, h2, h3, h4⟩ := hq
  exact ⟨.inl ⟨.bool true, .bool true, [], rfl, fun _ => rfl, .bool true, post_true l _, fun _ => ⟨List.Pairwise.nil, fun _ hm => (nomatch hm)⟩⟩, h2, h3, h4⟩

section
variable {prog : Program} {w : World} {A : Around} {E : Value → Shared → Prop} {s : Shared} {K : Frag}

end
end Att

namespace L2
open PySem PySem.Spec PyProof.Rows

theorem vals_ints : ∀ {vs : List Value} {ns : List Int}, IntsAre vs ns → Vals (ns.map V.int) vs
  | _, _, .nil => .nil
  | _, _, .cons n t h => .cons ⟨t, rfl⟩ (vals_ints h)

noncomputable def Only (H : Hp) : Prop := ∀ b, H b = none ∨ ∃ o xs, H b = some (.frz o (.lst xs))

theorem law_call {P : Program} {w : World} {K : PySem.W.Frag} {mg mb : Str → Option Value} {CX : CXT} {k : Nat} {fa a : Addr} {fd : FuncData} {x : Str} {sp : Sp} {s₁ : Shared} {vs : List Value} {ns : List Int}
    (KX : K.In s₁.heap) (hns : s₁.heap.Ns mainGlobals mg) (hb : s₁.heap.Ns builtinsNs mb) (hbb : ∀ x : Str, x ≠ "__name__" → mb x = bootBuiltins x) (hlim : s₁.heap.NoLimit) (hg : s₁.gens = #[])
    (ha : s₁.heap.get? a = some { cls := .type "list", data := .seq vs.toArray }) (hi : IntsAre vs ns) (hl : ns.length ≤ sizeLine) (hr : Room k callerA)
    (F : ∀ base : Heap, K.In base → base.Ns mainGlobals mg → FnOk P w K mg base CX k fa fd [x] sp) (hbind : ∀ (s : Shared) (u : Value), BindsTo s fd ⟨[u], []⟩ [(x, u)])
    (hsp : ∀ H : Hp, Only H → SqL K H a (ns.map V.int) → sp [.ref a] H (fun v _ => v = .bl true) fun _ _ _ => False)
    (hCX : ∀ H e s', CX [] H s₁ (fun _ _ _ => False) e s' → False) :
    codeAny (model P w) callerA (.call (.ref fa) ⟨[.ref a], []⟩) (fun r s' => r = .ok (.ret (.bool true)) ∧ OldK s₁.heap s'.heap ∧ s'.os = s₁.os ∧ AllBare s'.gens) s₁ := by
  have rv := vals_ints hi
  have lenV := hi.length
  -- from an abstract heap in which nothing but the script may be tracked
  have core : ∀ H : Hp, Only H → SqL K H a (ns.map V.int) → HOk P w H s₁.heap → (∀ b, H b ≠ none → b = a) → (H a ≠ none → K.lookup a = none) →
      codeAny (model P w) callerA (.call (.ref fa) ⟨[.ref a], []⟩) (fun r s' => r = .ok (.ret (.bool true)) ∧ OldK s₁.heap s'.heap ∧ s'.os = s₁.os ∧ AllBare s'.gens) s₁ := by
    intro H hO hS hok hA hK
    have base_of : ∀ {b : Addr} {o : Obj}, s₁.heap.get? b = some o → H b = none → (hidT s₁.heap H).get? b = some o := fun e n => hidT_get e n
    have noA : ∀ {b : Addr} {o : Obj} {es : Array DictEntry} {ep : Nat}, s₁.heap.get? b = some o → o.data = .dict es ep → H b = none := fun {b o es ep} e d => by
      cases q : H b with
      | none => rfl
      | some u =>
        have e' : b = a := hA b (by rw [q]; simp)
        subst e'
        rw [ha] at e; cases e
        have d' : Data.seq vs.toArray _ = Data.dict es ep := d
        cases d'
    have nsK : ∀ {b : Addr} {m : Str → Option Value}, s₁.heap.Ns b m → (hidT s₁.heap H).Ns b m := fun {b m} ⟨o, es, ep, e, d, r⟩ => ⟨o, es, ep, base_of e (noA e d), d, r⟩
    have hKb : K.In (hidT s₁.heap H) := fun b o e => base_of (KX b o e) (by
      cases q : H b with
      | none => rfl
      | some u =>
        have e' : b = a := hA b (by rw [q]; simp)
        subst e'
        rw [hK (by rw [q]; simp)] at e; cases e)
    have hM : Mod K mg (hidT s₁.heap H) := ⟨hKb, nsK hns, ⟨mb, nsK hb, hbb⟩, let ⟨mc, h1, h2⟩ := hlim; ⟨mc, nsK h1, h2⟩⟩
    have e0 : Env0 P w K mg (hidT s₁.heap H) callerA [] s₁ H := ⟨rfl, hM, fun b o e => of_hidT e, Nat.le_of_eq (hidT_size _ _), trivial, fun b hb => absurd (show b ∈ ([] : List Addr) from hb) (by simp), hok, .of_eq hg⟩
    refine codeAny_mono ((F _ hKb (nsK hns)).run callerA [] s₁ H ⟨[.ref a], []⟩ [.ref a] [.ref a] _ _ hr e0 (hbind s₁ (.ref a)) (.cons rfl .nil) (hsp H hO hS)) fun r s' h => ?_
    cases r with
    | error e => exact (hCX H e s' h).elim
    | ok fl =>
      cases fl with
      | next => exact False.elim h
      | brk => exact False.elim h
      | cont => exact False.elim h
      | ret u =>
        obtain ⟨v, H', os, bare, un, hok', r', q⟩ := h
        have q' : v = .bl true := q
        subst q'
        obtain rfl : u = Value.bool true := r'
        refine ⟨rfl, OldK.of_keep fun b o e => ?_, os, bare⟩
        cases q : H b with
        | none => exact un.keep b o e q (by intro z; exact absurd (show b ∈ ([] : List Addr) from z) (by simp)) (by simp)
        | some u =>
          rcases hO b with z | ⟨ob, xs, z⟩
          · rw [q] at z; cases z
          · have z2 := un.frzs b ob _ z
            obtain ⟨e1, _⟩ := hok b _ z
            obtain ⟨e2, _⟩ := hok' b _ z2
            rw [e] at e1; cases e1
            exact e2
  cases hk : K.lookup a with
  | some o =>
    -- the script is one of the module's own objects
    have e := KX a o hk
    rw [ha] at e
    cases e
    refine core (fun _ => none) (fun _ => .inl rfl) (.inr ⟨_, vs.toArray, _, hk, rfl, rfl, rfl, by rw [List.size_toArray, lenV]; exact hl, by simpa using rv⟩) (fun b u z => by have z' : (none : Option HO) = some u := z; cases z') (fun b z => absurd rfl z) fun z => absurd rfl z
  | none =>
    refine core (fun b => if b = a then some (.frz { cls := .type "list", data := .seq vs.toArray } (.lst (ns.map V.int))) else none) (fun b => ?_) (.inl (.inr ⟨{ cls := .type "list", data := .seq vs.toArray }, if_pos rfl⟩)) (fun b u z => ?_) (fun b z => ?_) fun _ => hk
    · by_cases hb : b = a
      · exact .inr ⟨_, _, if_pos hb⟩
      · exact .inl (if_neg hb)
    · by_cases hb : b = a
      · have z' := (if_pos hb).symm.trans z
        cases z'
        subst hb
        exact ⟨ha, by rw [List.length_map]; exact hl, vs, _, rv, ha⟩
      · have z' := (if_neg hb).symm.trans z
        cases z'
    · by_cases hb : b = a
      · exact hb
      · exact absurd (if_neg hb) z
end L2

namespace L2
open PySem PySem.Spec PyProof.Rows

noncomputable abbrev KOf {K : PySem.W.Frag} {h : Heap} (_ : K.In h) : PySem.W.Frag := K

theorem walk_of {l : PySem.W.OpenLaw} {n k : Nat} {q : Program} {loose : List Str} {XP : (Str → Option Value) → Heap → Prop} {YP : World → Heap → Prop} {d : DefRec} {K : Params → PySem.W.Frag} {CX : World → CXT} {sp : World → Sp} {x : Str}
    (hn : l.most = some n) (hn2 : n ≤ sizeLine) (hdf : d.params.defaults = []) (hr : Room k callerA)
    (hY : ∀ (w : World) (h : Heap), YP w h → (K w.params).In h)
    (F : ∀ (w : World) (mg : Str → Option Value) (fa : Addr) (h : Heap), (K w.params).In h → h.Ns mainGlobals mg → mg d.name = some (.ref fa) →
      ∃ fd : FuncData, (∀ (s : Shared) (u : Value), BindsTo s fd ⟨[u], []⟩ [(x, u)]) ∧
        ∀ base : Heap, (K w.params).In base → base.Ns mainGlobals mg → FnOk l.prog w (K w.params) mg base (CX w) k fa fd [x] (sp w))
    (hsp : ∀ (w : World) (H : Hp) (a : Addr) (ns : List Int), ns.length ≤ n → Only H → SqL (K w.params) H a (ns.map V.int) → sp w [.ref a] H (fun v _ => v = .bl true) fun _ _ _ => False)
    (hCX : ∀ (w : World) (H : Hp) (s : Shared) (e : Value) (s' : Shared), CX w [] H s (fun _ _ _ => False) e s' → False) :
    PySem.W.WalkO q loose XP YP l.row.toRowW d [] (fun f vs => PySem.call f vs) := by
  refine Att.attach_call hn hdf fun w s₀ s₁ mg mb fa o pm cd doc a vs ns G Y ho hd hcd hmg hobj hints hlen hg => ?_
  have KX := hY w _ Y
  obtain ⟨fd, hb, hF⟩ := F w mg fa _ KX G.T.g hmg
  exact law_call KX G.T.g G.T.b G.T.builtins G.T.nolimit hg hobj hints (Nat.le_trans hlen hn2) hr hF hb (fun H hO hS => hsp w H a ns hlen hO hS) fun H e s' => hCX w H s₁ e s'
theorem walk_ofK {l : PySem.W.OpenLaw} {n k : Nat} {q : Program} {loose : List Str} {XP : (Str → Option Value) → Heap → Prop} {YP : World → Heap → Prop} {d : DefRec} {K : Params → PySem.W.Frag} {CX : CXT} {sp : PySem.W.Frag → Sp} {x : Str}
    (hn : l.most = some n) (hn2 : n ≤ sizeLine) (hdf : d.params.defaults = []) (hr : Room k callerA)
    (hY : ∀ (w : World) (h : Heap), YP w h → (K w.params).In h)
    (F : ∀ (w : World) (mg : Str → Option Value) (fa : Addr) (h : Heap), (K w.params).In h → h.Ns mainGlobals mg → mg d.name = some (.ref fa) →
      ∃ fd : FuncData, (∀ (s : Shared) (u : Value), BindsTo s fd ⟨[u], []⟩ [(x, u)]) ∧
        ∀ base : Heap, (K w.params).In base → base.Ns mainGlobals mg → FnOk l.prog w (K w.params) mg base CX k fa fd [x] (sp (K w.params)))
    (hsp : ∀ (K : PySem.W.Frag) (H : Hp) (a : Addr) (ns : List Int), ns.length ≤ n → Only H → SqL K H a (ns.map V.int) → sp K [.ref a] H (fun v _ => v = .bl true) fun _ _ _ => False)
    (hCX : ∀ (H : Hp) (s : Shared) (e : Value) (s' : Shared), CX [] H s (fun _ _ _ => False) e s' → False) :
    PySem.W.WalkO q loose XP YP l.row.toRowW d [] (fun f vs => PySem.call f vs) :=
  walk_of (K := K) (CX := fun _ => CX) (sp := fun w => sp (K w.params)) hn hn2 hdf hr hY F (fun w H a ns h1 h2 h3 => hsp (K w.params) H a ns h1 h2 h3) fun _ H s e s' => hCX H s e s'
end L2

namespace L2
open PySem PySem.Spec PyProof.Rows

noncomputable def inClass (s : Stmt) (j : Nat) : Stmt := match s with
  | .ClassDef _ _ _ body _ _ _ _ _ _ _ => body.getD j (.Pass ⟨0, 0, 0, 0⟩)
  | _ => .Pass ⟨0, 0, 0, 0⟩
noncomputable def defArgs (s : Stmt) : Arguments := match s with
  | .FunctionDef _ a _ _ _ _ _ _ _ _ => a
  | _ => { posonlyargs := [], args := [], vararg := none, kwonlyargs := [], kw_defaults := [], kwarg := none, defaults := [] }
noncomputable def defBody (s : Stmt) : List Stmt := match s with
  | .FunctionDef _ _ b _ _ _ _ _ _ _ => b
  | _ => []
noncomputable def defScope (s : Stmt) : Scope := match s with
  | .FunctionDef _ _ _ _ _ _ sc _ _ _ => sc
  | _ => { kind := .function, names := [], isGenerator := false, isCoroutine := false }

noncomputable abbrev CX0 : CXT := fun _ _ _ _ _ _ => False
noncomputable abbrev E0 : XK := fun _ _ _ => False
theorem pass0 {X : Cx} : Passes CX0 X E0 := fun _ _ _ _ _ _ _ h => h.elim

structure Fun (K : PySem.W.Frag) (x qual : Str) (st : Stmt) (f : Addr) (fd : FuncData) : Prop where
  ex : ∃ (oc : Value) (od : Option Addr) (kV doc pm : Value) (an : Option Addr) (cdv ct : Value) (osl : Array (Option Value)),
    fd = PySem.W.fnOf x qual (defArgs st) (defBody st) (defScope st) .none kV doc pm an cdv ct ∧ K.lookup f = some ⟨oc, od, .func fd, osl⟩ ∧ PySem.W.codeIn K cdv qual = true
  kp : PySem.W.keepIn K (.ref f) = true
section
variable {P : Program} {w : World} {K : PySem.W.Frag} {mg : Str → Option Value} {base : Heap}
theorem Fun.ok {x qual : Str} {st : Stmt} {f : Addr} {fd : FuncData} {N ps : List Str} {k : Nat} {sp : Sp} (F : Fun K x qual st f fd) (S : FnScope N ps (defScope st)) (len : ∀ vs H Q E, sp vs H Q E → vs.length = ps.length)
    (hbody : ∀ (cdv : Value) (A : Around) (outer : List Env) (s : Shared) (H : Hp) (vs : List V) (Q : VK) (E : XK), Room k (A.deeper (envOfC qual (defScope st) s.heap.objs.size f cdv)) → sp vs H Q E →
      ∃ t, PSs (cxOf CX0 P w K mg base N qual (defScope st) f cdv A outer s H E).nox (defBody st) t ∧ t { nx := fun _ H' => Q .non H', rt := Q } (start N vs) H) : FnOk P w K mg base CX0 (k + 1) f fd ps sp := by
  obtain ⟨oc, od, kV, doc, pm, an, cdv, ct, osl, rfl, lk, hcd⟩ := F.ex
  refine fn_of lk hcd S len fun A outer s H vs Q E hr hsp => ?_
  obtain ⟨t, h, q⟩ := hbody cdv A outer s H vs Q E hr hsp
  exact ⟨t, h.nox, q⟩
theorem Fun.binds {x qual : Str} {st : Stmt} {f : Addr} {fd : FuncData} {ps : List Str} (F : Fun K x qual st f fd)
    (h : ∀ (kV doc pm : Value) (an : Option Addr) (cdv ct : Value) (us : List Value), us.length = ps.length → bindArgs (PySem.W.fnOf x qual (defArgs st) (defBody st) (defScope st) .none kV doc pm an cdv ct) ⟨us, []⟩ = pure (ps.zip us)) : Binds K fd ps [] := by
  obtain ⟨oc, od, kV, doc, pm, an, cdv, ct, osl, rfl, lk, hcd⟩ := F.ex
  exact .all (h kV doc pm an cdv ct)
theorem fun_mk {x qual : Str} {st : Stmt} {f : Addr} {oc : Value} {od an : Option Addr} {osl : Array (Option Value)} {kV doc pm cdv ct : Value} (l : K.lookup f = some ⟨oc, od, .func (PySem.W.fnOf x qual (defArgs st) (defBody st) (defScope st) .none kV doc pm an cdv ct), osl⟩)
    (c : PySem.W.codeIn K cdv qual = true) (k : PySem.W.keepIn K (.ref f) = true) : Fun K x qual st f (PySem.W.fnOf x qual (defArgs st) (defBody st) (defScope st) .none kV doc pm an cdv ct) := ⟨⟨oc, od, kV, doc, pm, an, cdv, ct, osl, rfl, l, c⟩, k⟩
end
theorem hu_of {A : Around} {k : Nat} (hr : Room k A) : A.units + 1 < cLine := Nat.lt_of_le_of_lt (Nat.add_le_add_left (by decide : 1 ≤ 64) _) hr.units
section
variable {X : Cx}
theorem pv (i : Nat) {x : Str} {pos : Pos} (hN : X.N[i]? = some x := by rfl) (hv : Vis X.env.scope x := by first | exact Or.inl rfl | exact Or.inr (Or.inl rfl) | exact Or.inr (Or.inr rfl)) (hd : (x == ("__debug__" : Str)) = false := by decide)
    (hcd : (x == ("__classdict__" : Str)) = false := by decide) : PE X (.Name x pos) (tVar i) := pe_var hN hv hd hcd
theorem call_lenD : CallR X (.builtin "len") (fun xs H Q => ∃ a kvs, xs = [V.ref a] ∧ H a = some (.dK kvs) ∧ Q (.int kvs.length) H) := by
  intro pins s σ H xs us Q I r h
  obtain ⟨a, kvs, rfl, ha, q⟩ := h
  obtain ⟨u, rfl, ru⟩ := vals1 r
  cases ru
  exact d_len I (.inl ha) fun t s' I' => ⟨.int kvs.length, H, I', ⟨t, rfl⟩, q⟩
end

theorem iteF {A B : Prop} (h : B) : if false = true then A else B := by
  rw [if_neg Bool.false_ne_true]
  exact h
theorem iteT {A B : Prop} (h : A) : if true = true then A else B := by
  rw [if_pos rfl]
  exact h
noncomputable def Same (H H' : Hp) : Prop := ∀ b o, H b = some o → H' b = some o
theorem Same.refl (H : Hp) : Same H H := fun _ _ h => h
theorem Same.trans {H H1 H2 : Hp} (a : Same H H1) (b : Same H1 H2) : Same H H2 := fun c o h => b c o (a c o h)
theorem Same.free {H H' : Hp} (e : Same H H') {l : Addr} (h : H' l = Option.none) : H l = Option.none := by
  cases q : H l with
  | none => rfl
  | some o =>
    rw [e l o q] at h
    cases h
theorem Same.seq {K : PySem.W.Frag} {H H' : Hp} {a : Addr} {xs : List V} (e : Same H H') (h : SqL K H a xs) : SqL K H' a xs := by
  rcases h with (h | ⟨o, h⟩) | h
  · exact .inl (.inl (e _ _ h))
  · exact .inl (.inr ⟨o, e _ _ h⟩)
  · exact .inr h

section
variable {κ : Type} [DecidableEq κ]
theorem valV_not {kvs : List (κ × V)} {k : κ} (h : valV kvs k = none) : ¬ k ∈ kvs.map (·.1) := by
  intro m
  obtain ⟨p, hp, e⟩ := List.mem_map.mp m
  have q : (kvs.any fun kv => decide (kv.1 = k)) = true := List.any_eq_true.mpr ⟨p, hp, decide_eq_true e⟩
  rw [valV_any, h] at q
  exact absurd q (by simp)
theorem valV_in {kvs : List (κ × V)} {k : κ} {v : V} (h : valV kvs k = some v) : k ∈ kvs.map (·.1) := by
  have q : (kvs.any fun kv => decide (kv.1 = k)) = true := by
    rw [valV_any, h]
    all_goals rfl
  obtain ⟨p, hp, e⟩ := List.any_eq_true.mp q
  exact List.mem_map.mpr ⟨p, hp, of_decide_eq_true e⟩
theorem nd_snoc : ∀ {l : List κ} {k : κ}, l.Nodup → ¬ k ∈ l → (l ++ [k]).Nodup
  | [], k, _, _ => by simp
  | a :: r, k, h, hk => by
    obtain ⟨h1, h2⟩ := List.nodup_cons.mp h
    show (a :: (r ++ [k])).Nodup
    refine List.nodup_cons.mpr ⟨fun m => ?_, nd_snoc h2 fun m => hk (List.mem_cons.mpr (Or.inr m))⟩
    rcases List.mem_append.mp m with q | q
    · exact h1 q
    · exact hk (List.mem_cons.mpr (Or.inl (List.mem_singleton.mp q).symm))
theorem nd_putK {kvs : List (κ × V)} {k : κ} (v : V) (hn : (kvs.map (·.1)).Nodup) (h : valV kvs k = none) : ((putK kvs k v).map (·.1)).Nodup := by
  rw [putK_new v h, List.map_append]
  exact nd_snoc hn (valV_not h)
theorem dropK_pos {p : κ × V} {r : List (κ × V)} {k : κ} (e : p.1 = k) : dropK (p :: r) k = dropK r k := by
  unfold dropK
  rw [List.filter_cons, if_neg (by simp [e])]
theorem dropK_neg {p : κ × V} {r : List (κ × V)} {k : κ} (e : ¬ p.1 = k) : dropK (p :: r) k = p :: dropK r k := by
  unfold dropK
  rw [List.filter_cons, if_pos (by simp [e])]
theorem dropK_mem {kvs : List (κ × V)} {k : κ} {p : κ × V} (h : p ∈ dropK kvs k) : p ∈ kvs := (List.mem_filter.mp h).1
theorem nd_dropK : ∀ {kvs : List (κ × V)} {k : κ}, (kvs.map (·.1)).Nodup → ((dropK kvs k).map (·.1)).Nodup
  | [], _, _ => List.nodup_nil
  | p :: r, k, h => by
    have h : (p.1 :: r.map (·.1)).Nodup := h
    obtain ⟨h1, h2⟩ := List.nodup_cons.mp h
    by_cases e : p.1 = k
    · rw [dropK_pos e]
      exact nd_dropK h2
    · rw [dropK_neg e]
      show (p.1 :: (dropK r k).map (·.1)).Nodup
      refine List.nodup_cons.mpr ⟨fun m => h1 ?_, nd_dropK h2⟩
      obtain ⟨q, hq, eq⟩ := List.mem_map.mp m
      exact List.mem_map.mpr ⟨q, dropK_mem hq, eq⟩
end
end L2

namespace L2
open PySem PySem.Spec PyProof.Rows

noncomputable def hid (own : List Str) (x : Str) : Str := if own.contains x = true then "" else x
structure CompScope (sc : Scope) (N own : List Str) (scope : Scope) : Prop where
  kind : scope.kind = .function
  nocell : ∀ y ∈ scope.names, y.2 ≠ .cell
  names : ∀ y ∈ scope.names, y.2 = .local → scope.names.lookup y.1 = some .local
  free : ∀ y ∈ scope.names, y.2 = .free → sc.names.lookup y.1 = some .cell ∨ sc.names.lookup y.1 = some .free
  dis : ∀ x ∈ N, scope.names.lookup x = some .local → own.contains x = true
  no : scope.names.lookup ("" : Str) = none

noncomputable def cxComp (X : Cx) (own : List Str) (scope : Scope) (cl : List (Str × Addr)) (C : Addr) (s : Shared) (H : Hp) (ex : List Addr) : Cx :=
  { X with N := own ++ X.N.map (hid own), s₀ := s, H₀ := H, env := compEnvC scope cl C X.env, outer := X.stack, stack := X.stack, ex := ex, fn := fun _ => false, pn := [], xe := fun _ _ => False }

theorem closure_of {scope : Scope} {env : Env} (h : ∀ y ∈ scope.names, y.2 = .free → ∃ c, env.cells.lookup y.1 = some c) :
    ∃ cl, closureFor scope env = pure cl ∧ (∀ x c, cl.lookup x = some c → env.cells.lookup x = some c) ∧ ∀ y ∈ scope.names, y.2 = .free → ∃ c, cl.lookup y.1 = some c := by
  have gen : ∀ (names : List (Str × NameKind)) (acc : List (Str × Addr)), (∀ y ∈ names, y.2 = .free → ∃ c, env.cells.lookup y.1 = some c) → (∀ x c, acc.lookup x = some c → env.cells.lookup x = some c) →
      ∃ cl, (forIn names acc fun (x : Str × NameKind) (r : List (Str × Addr)) => if (x.2 == NameKind.free) = true then (do let a ← cellOf env x.1; pure (ForInStep.yield ((x.1, a) :: r))) else pure (ForInStep.yield r) : Sem (List (Str × Addr))) = pure cl ∧ (∀ x c, cl.lookup x = some c → env.cells.lookup x = some c) ∧
        (∀ y ∈ names, y.2 = .free → ∃ c, cl.lookup y.1 = some c) ∧ ∀ x c, acc.lookup x = some c → ∃ c', cl.lookup x = some c' := by
    intro names
    induction names with
    | nil => intro acc _ ha; exact ⟨acc, by simp [List.forIn_nil], ha, fun y hy => by simp at hy, fun x c e => ⟨c, e⟩⟩
    | cons y r ih =>
      intro acc hn ha
      rw [List.forIn_cons]
      by_cases hf : y.2 = .free
      · obtain ⟨c, hc⟩ := hn y List.mem_cons_self hf
        have e1 : (y.2 == NameKind.free) = true := by rw [hf]; rfl
        have ce : cellOf env y.1 = pure c := by unfold cellOf; rw [hc]
        obtain ⟨cl, h1, h2, h3, h4⟩ := ih ((y.1, c) :: acc) (fun z hz => hn z (List.mem_cons_of_mem _ hz)) (fun x c' e => by
          rw [List.lookup_cons] at e
          cases q : x == y.1 with
          | true => rw [q] at e; cases e; rw [eq_of_beq q]; exact hc
          | false => rw [q] at e; exact ha x c' e)
        refine ⟨cl, ?_, h2, ?_, ?_⟩
        · rw [if_pos e1, ce]
          simpa using h1
        · intro z hz zf
          rcases List.mem_cons.mp hz with rfl | hz
          · exact h4 z.1 c (by rw [List.lookup_cons]; simp)
          · exact h3 z hz zf
        · intro x c' e
          cases q : x == y.1 with
          | true => exact h4 x c (by rw [List.lookup_cons, q])
          | false => exact h4 x c' (by rw [List.lookup_cons, q]; exact e)
      · have e1 : ¬ (y.2 == NameKind.free) = true := by intro z; exact hf (by simpa using z)
        obtain ⟨cl, h1, h2, h3, h4⟩ := ih acc (fun z hz => hn z (List.mem_cons_of_mem _ hz)) ha
        refine ⟨cl, ?_, h2, ?_, h4⟩
        · rw [if_neg e1]
          simpa using h1
        · intro z hz zf
          rcases List.mem_cons.mp hz with rfl | hz
          · exact absurd zf hf
          · exact h3 z hz zf
  obtain ⟨cl, h1, h2, h3, _⟩ := gen scope.names [] h (fun x c e => by simp at e)
  refine ⟨cl, ?_, h2, h3⟩
  unfold closureFor
  simpa using h1

theorem relabel_local {scope : Scope} {env : Env} : ∀ {names : List (Str × NameKind)} {x : Str}, (∀ y ∈ names, y.2 ≠ .cell) →
    (names.map fun (n, k) => if (k == NameKind.free && env.scope.kind == .function && env.kindOf n == some .cell) = true then (n, NameKind.cell) else (n, k)).lookup x = some .local → names.lookup x = some .local
  | [], _, _, h => by simp at h
  | (n, k) :: r, x, hc, h => by
    rw [List.map_cons, List.lookup_cons] at h
    rw [List.lookup_cons]
    by_cases q : (k == NameKind.free && env.scope.kind == .function && env.kindOf n == some .cell) = true
    · simp only [q, if_true] at h
      cases e : x == n with
      | true => rw [e] at h; cases h
      | false => rw [e] at h; exact relabel_local (scope := scope) (env := env) (fun y hy => hc y (List.mem_cons_of_mem _ hy)) h
    · simp only [q] at h
      cases e : x == n with
      | true => simpa [e] using h
      | false =>
        have h' : (r.map fun (n, k) => if (k == NameKind.free && env.scope.kind == .function && env.kindOf n == some .cell) = true then (n, NameKind.cell) else (n, k)).lookup x = some .local := by simpa [e] using h
        exact relabel_local (scope := scope) (env := env) (fun y hy => hc y (List.mem_cons_of_mem _ hy)) h'
theorem relabel_outer {scope : Scope} {env : Env} : ∀ {names : List (Str × NameKind)} {x : Str}, (∀ y ∈ names, y.2 ≠ .cell) →
    ((names.map fun (n, k) => if (k == NameKind.free && env.scope.kind == .function && env.kindOf n == some .cell) = true then (n, NameKind.cell) else (n, k)).lookup x = some .cell ∨
     (names.map fun (n, k) => if (k == NameKind.free && env.scope.kind == .function && env.kindOf n == some .cell) = true then (n, NameKind.cell) else (n, k)).lookup x = some .free) → (x, NameKind.free) ∈ names
  | [], _, _, h => by simp at h
  | (n, k) :: r, x, hc, h => by
    rw [List.map_cons, List.lookup_cons] at h
    by_cases q : (k == NameKind.free && env.scope.kind == .function && env.kindOf n == some .cell) = true
    · have kf : k = .free := by
        simp only [Bool.and_eq_true, beq_iff_eq] at q
        exact q.1.1
      simp only [q, if_true] at h
      cases e : x == n with
      | true => rw [eq_of_beq e, kf]; exact List.mem_cons_self
      | false =>
        rw [e] at h
        exact List.mem_cons_of_mem _ (relabel_outer (scope := scope) (env := env) (fun y hy => hc y (List.mem_cons_of_mem _ hy)) h)
    · simp only [q] at h
      cases e : x == n with
      | true =>
        have h' : k = .cell ∨ k = .free := by simpa [e] using h
        rcases h' with z | z
        · exact absurd z (hc (n, k) List.mem_cons_self)
        · rw [eq_of_beq e, z]; exact List.mem_cons_self
      | false =>
        have h' : ((r.map fun (n, k) => if (k == NameKind.free && env.scope.kind == .function && env.kindOf n == some .cell) = true then (n, NameKind.cell) else (n, k)).lookup x = some .cell ∨
     (r.map fun (n, k) => if (k == NameKind.free && env.scope.kind == .function && env.kindOf n == some .cell) = true then (n, NameKind.cell) else (n, k)).lookup x = some .free) := by simpa [e] using h
        exact List.mem_cons_of_mem _ (relabel_outer (scope := scope) (env := env) (fun y hy => hc y (List.mem_cons_of_mem _ hy)) h')

theorem relabel_none {env : Env} : ∀ {names : List (Str × NameKind)} {x : Str}, names.lookup x = none →
    (names.map fun (n, k) => if (k == NameKind.free && env.scope.kind == .function && env.kindOf n == some .cell) = true then (n, NameKind.cell) else (n, k)).lookup x = none
  | [], _, _ => rfl
  | (n, k) :: r, x, h => by
    rw [List.lookup_cons] at h
    rw [List.map_cons, List.lookup_cons]
    cases e : x == n with
    | true => rw [e] at h; cases h
    | false =>
      rw [e] at h
      by_cases q : (k == NameKind.free && env.scope.kind == .function && env.kindOf n == some .cell) = true
      · simp only [q, if_true, e]
        exact relabel_none h
      · simp only [q, e]
        simpa [e] using relabel_none (env := env) h
theorem Inv.block {X : Cx} {pins : List (Addr × Obj)} {σ : St} {H : Hp} {s : Shared} {own : List Str} {scope : Scope} {cl : List (Str × Addr)} {fp : List Addr} {h' : Heap}
    (I : Inv X pins σ H s) (S : CompScope X.env.scope X.N own scope)
    (c1 : ∀ x c, cl.lookup x = some c → X.env.cells.lookup x = some c) (c2 : ∀ y ∈ scope.names, y.2 = .free → ∃ c, cl.lookup y.1 = some c)
    (f : ∀ b ∈ fp, FpOk X pins H b) (fo : ∀ b ∈ fp, b < s.heap.objs.size)
    (ns : h'.Ns s.heap.objs.size (fun _ => none)) (k : ∀ b o, s.heap.get? b = some o → h'.get? b = some o) {t' : Nat} :
    Inv (cxComp X own scope cl s.heap.objs.size s H fp) [] (List.replicate own.length none ++ σ) H { s with heap := h', toks := t' } := by
  have kd : ∀ x, (compEnvC scope cl s.heap.objs.size X.env).kindOf x = some .cell ∨ (compEnvC scope cl s.heap.objs.size X.env).kindOf x = some .free → (x, NameKind.free) ∈ scope.names := fun x h => relabel_outer (scope := scope) (env := X.env) S.nocell h
  have okY : (cxComp X own scope cl s.heap.objs.size s H fp).Ok := by
    refine ⟨I.ok.mod, S.kind, I.ok.glob, I.ok.blt, Nat.le_refl _, fun x y c hx hy => I.ok.inj x y c (c1 x c hx) (c1 y c hy), fun x hx => ?_, fun x c hf => (nomatch hf), I.ok.hd, I.ok.frames, .inl rfl, fun b hb => ⟨?_, fun x c hc => ?_⟩, I.bs, Nat.le_trans I.ok.bsz I.sz, fun b o e hb => ?_, fun b hb hfs => ?_, I.stack, I.stkFree⟩
    · exact c2 (x, .free) (kd x hx) rfl
    · exact Nat.ne_of_lt (fo b hb)
    · exact (f b hb).2.2.2.2.1 x c (c1 x c hc)
    · rcases (f b hb).2.2.2.1 with z | z
      · exact I.ok.noex b o e z
      · exact absurd (Nat.lt_of_lt_of_le (Heap.lt_size e) (Nat.le_trans I.ok.bsz z)) (Nat.lt_irrefl _)
    · obtain ⟨_, f1, f2, _⟩ := f b hb
      rcases List.mem_cons.mp (I.stkSub b hfs) with z | z
      · exact f1 z
      · exact f2 z
  refine ⟨okY, rfl, I.bare, Un.kept k, ⟨_, ns, fun i x v e1 e2 e3 => ?_⟩, fun x c hc => ?_, I.hok.fresh (Nat.le_refl _), fun x c hc => I.freeC x c (c1 x c hc), fun p hp => by simp [cxComp] at hp, I.hok.kept k, ?_⟩
  · by_cases hi : i < own.length
    · have e2' : (List.replicate own.length (none : Option V) ++ σ)[i]? = some (some v) := e2
      rw [List.getElem?_append_left (by simpa using hi), List.getElem?_replicate, if_pos hi] at e2'
      cases e2'
    · have hle : own.length ≤ i := Nat.le_of_not_lt hi
      have e2' : σ[i - own.length]? = some (some v) := by
        have e2' : (List.replicate own.length (none : Option V) ++ σ)[i]? = some (some v) := e2
        rw [List.getElem?_append_right (by simpa using hle)] at e2'
        simpa using e2'
      have e1'' : (X.N.map (hid own))[i - own.length]? = some x := by
        have e1' : (own ++ X.N.map (hid own))[i]? = some x := e1
        rwa [List.getElem?_append_right hle] at e1'
      rw [List.getElem?_map] at e1''
      obtain ⟨y, e1', ey⟩ := Option.map_eq_some_iff.mp e1''
      have hy : own.contains y = false := by
        cases hc : own.contains y with
        | false => rfl
        | true =>
          unfold hid at ey
          rw [if_pos hc] at ey
          subst ey
          have e3' : (scope.names.map fun (n, k) => if (k == NameKind.free && X.env.scope.kind == .function && X.env.kindOf n == some .cell) = true then (n, NameKind.cell) else (n, k)).lookup ("" : Str) ≠ none := by
            rcases e3 with z | z | z <;> (intro q; have z' : (scope.names.map fun (n, k) => if (k == NameKind.free && X.env.scope.kind == .function && X.env.kindOf n == some .cell) = true then (n, NameKind.cell) else (n, k)).lookup ("" : Str) = _ := z; rw [q] at z'; cases z')
          exact absurd (relabel_none S.no) e3'
      have exy : y = x := by
        unfold hid at ey
        rw [if_neg (by rw [hy]; exact Bool.false_ne_true)] at ey
        exact ey
      subst exy
      have hm : y ∈ X.N := List.mem_of_getElem? e1'
      have h3 : (compEnvC scope cl s.heap.objs.size X.env).kindOf y = some .cell ∨ (compEnvC scope cl s.heap.objs.size X.env).kindOf y = some .free := by
        rcases e3 with z | z
        · have := S.dis y hm (relabel_local (scope := scope) (env := X.env) S.nocell z)
          rw [hy] at this
          cases this
        · exact z
      have hfree := kd y h3
      obtain ⟨c, hc⟩ := c2 (y, .free) hfree rfl
      have hout := S.free (y, .free) hfree rfl
      obtain ⟨m, hn, hl⟩ := I.loc
      obtain ⟨u, r, l⟩ := hl _ y v e1' e2' (hout.elim (fun z => .inr (.inl z)) (fun z => .inr (.inr z)))
      refine ⟨u, r, .inr ⟨h3, c, hc, ?_⟩⟩
      rcases l with ⟨kl, _⟩ | ⟨_, c', hc', hcell⟩
      · rcases hout with z | z
        · rw [show X.env.kindOf y = X.env.scope.names.lookup y from rfl, z] at kl; cases kl
        · rw [show X.env.kindOf y = X.env.scope.names.lookup y from rfl, z] at kl; cases kl
      · rw [c1 y c hc] at hc'
        cases hc'
        obtain ⟨o, ho, hd⟩ := hcell
        exact ⟨o, k c o ho, hd⟩
  · obtain ⟨v, o, ho, hd⟩ := I.cell x c (c1 x c hc)
    exact ⟨v, o, k c o ho, hd⟩
  · show (List.replicate own.length (none : Option V) ++ σ).length = (own ++ X.N.map (hid own)).length
    rw [List.length_append, List.length_append, List.length_replicate, List.length_map, I.len]

noncomputable def PIf (X : Cx) (ifs : List Expr) (tc : TT) : Prop :=
  ∀ (pins : List (Addr × Obj)) (s : Shared) (σ : St) (H : Hp) (Q : Bool → Hp → Prop), Inv X pins σ H s → tc σ H Q →
    wpAny (model X.prog X.w) X.A (forIn ifs true fun c r => if r = true then do let ok ← isTrue c X.env (eval c X.env); pure (ForInStep.yield ok) else pure (ForInStep.yield r)) (TP X pins σ Q) X.xe s
noncomputable def tNoIf : TT := fun _ H Q => Q true H
theorem pif_nil {X : Cx} : PIf X [] tNoIf := by
  intro pins s σ H Q I h
  rw [List.forIn_nil]
  exact wpAny_pure ⟨H, I, h⟩
noncomputable def tLoopC (k : Nat) (g : TG) (tc : TT) (te : TE) (J : It) (p : Addr) (R : Hp → Prop) (σ : St) (H : Hp) : Prop :=
  ∃ W : Nat → Nat → St → Hp → Prop, (∃ m, W 0 m (List.replicate k none ++ σ) (upd H p (.lst []))) ∧ ∀ i m σ' H', W i m σ' H' →
    (J.stop i H' ∧ R H') ∨ (J.go i H' ∧ ∃ N : St → Hp → Prop, (∀ σ2 H2, N σ2 H2 → ∃ m', m' < m ∧ W (i + 1) m' σ2 H2) ∧ ∀ x H1, J.yld i H' x H1 → g x σ' H1 fun σ2 H2 => tc σ2 H2 fun b H3 =>
      if b = true then te σ2 H3 fun v H4 => ∃ ys, H4 p = some (.lst ys) ∧ ys.length < sizeLine ∧ N σ2 (upd H4 p (.lst (ys ++ [v]))) else N σ2 H3)
noncomputable def tComp (k : Nat) (wi : TI) (g : TG) (tc : TT) (te : TE) : TE := fun σ H Q => wi σ H fun J H1 => ∀ p, H1 p = none → tLoopC k g tc te J p (fun H' => Q (.ref p) H') σ H1

theorem comp_core {X : Cx} {tg elt iter : Expr} {ifs : List Expr} {scope : Scope} {pos : Pos} {own : List Str} {wi : TI} {g : TG} {tc : TT} {te : TE} {pins : List (Addr × Obj)} {σ : St} {H : Hp} {s : Shared} {use : Option (Value → Sem Unit)} {Q : Value → Shared → Prop} {R : Addr → Hp → Prop}
    (hc : X.calm = true) (S : CompScope X.env.scope X.N own scope) (hi : PI X tg iter wi)
    (hg : ∀ cl C s₀ H₀ ex, PG (cxComp X own scope cl C s₀ H₀ ex) tg g) (ht : ∀ cl C s₀ H₀ ex, PIf (cxComp X own scope cl C s₀ H₀ ex) ifs tc) (he : ∀ cl C s₀ H₀ ex, PE (cxComp X own scope cl C s₀ H₀ ex) elt te)
    (hs : ∀ x, foldedSetIterable iter X.env x = pure x)
    (I : Inv X pins σ H s) (h : wi σ H fun J H1 => ∀ p, H1 p = none → tLoopC own.length g tc te J p (R p) σ H1)
    (fin : ∀ (p : Addr) (H' : Hp) (s' : Shared) (C : Addr) (m : Str → Option Value), Inv X pins σ H' s' → FpOk X pins H' C → s'.heap.Ns C m → R p H' → compPost (model X.prog X.w) X.A X.xe use Q (.ref p) C (.ok .next) s') :
    wpAny (model X.prog X.w) X.A (comprehension (.ListComp elt [⟨tg, iter, ifs, 0⟩] scope pos) scope X.env (firstIterPos [⟨tg, iter, ifs, 0⟩] pos) (newList []) false (eval iter X.env) use) Q X.xe s := by
  obtain ⟨cl, hcl, c1, c2⟩ := closure_of (scope := scope) (env := X.env) fun y hy hf => I.ok.has y.1 (S.free y hy hf)
  refine wpAny_comprehension_free (use := use) rfl hs hcl S.kind S.names (thn (hi pins s σ H _ I h) fun xv s1 h1 => thn h1 fun itv s2 h2 => ?_)
  obtain ⟨it, fp, tn, J, H2, e, I2, T, st2, f2, q2⟩ := h2
  subst e
  -- the list that is made
  refine wpAny_newObj_type ?_
  have hp : H2 s2.heap.objs.size = none := I2.hok.fresh (Nat.le_refl _)
  obtain ⟨W, ⟨m0, w0⟩, turn⟩ := q2 _ hp
  generalize hP : s2.heap.objs.size = P at hp W w0 turn ⊢
  have kP : ∀ b u, s2.heap.get? b = some u → (s2.heap.push { cls := .type "list", dict := none, data := .seq ([] : List Value).toArray }).get? b = some u := fun b u e => Heap.get?_push_of_some _ e
  have I3 : Inv X pins σ (upd H2 P (.lst [])) { s2 with heap := s2.heap.push { cls := .type "list", dict := none, data := .seq ([] : List Value).toArray }, toks := s2.toks } :=
    I2.laid (a := P) (o := .lst []) (t' := s2.toks) kP (by rw [hP]; exact Nat.le_refl _) ⟨Nat.zero_le _, [], 0, .nil, by rw [← hP]; exact Heap.get?_push_size _ rfl⟩
  have fP : ∀ b ∈ fp, b ≠ P := fun b hb z => by
    obtain ⟨o, ho, _⟩ := T.obj _ _ st2 b hb
    have q := Heap.lt_size ho
    rw [hP, z] at q
    exact Nat.lt_irrefl _ q
  have f3 : ∀ b ∈ fp, FpOk X pins (upd H2 P (.lst [])) b := fun b hb => ⟨by rw [upd_ne (fP b hb)]; exact (f2 b hb).1, (f2 b hb).2⟩
  have st3 : tn 0 (s2.heap.push { cls := .type "list", dict := none, data := .seq ([] : List Value).toArray }) := T.keep _ _ _ st2 fun b _ o e => kP b o e
  generalize hS3 : ({ s2 with heap := s2.heap.push { cls := .type "list", dict := none, data := .seq ([] : List Value).toArray }, toks := s2.toks } : Shared) = s3 at I3
  have st3' : tn 0 s3.heap := by rw [← hS3]; exact st3
  have fo : ∀ b ∈ fp, b < s3.heap.objs.size := fun b hb => by
    obtain ⟨o, ho, _⟩ := T.obj _ _ st3' b hb
    exact Heap.lt_size ho
  refine wpAny_newFunctionEnv S.nocell (by intro y hy; simp at hy) (fun h4 hns hsb => ?_) S.kind
  try dsimp only at hns hsb ⊢
  have k4 : ∀ b o, s3.heap.get? b = some o → h4.get? b = some o := fun b o e => hsb.extBut b o (Nat.ne_of_lt (Heap.lt_size e)) (Heap.get?_push_of_some _ e)
  have I4 := Inv.block (own := own) (h' := h4) (t' := s3.toks + ([] : List (Str × Value)).length) I3 S c1 c2 f3 fo (by simpa using hns) k4
  -- what is true of the iterator within the block
  have fpY : ∀ {H' : Hp}, (∀ b ∈ fp, H' b = none) → ∀ b ∈ fp, FpOk (cxComp X own scope cl s3.heap.objs.size s3 (upd H2 P (.lst [])) fp) [] H' b := fun hn b hb => by
    refine ⟨hn b hb, Nat.ne_of_lt (fo b hb), ?_, .inl hb, fun x c hx => (f3 b hb).2.2.2.2.1 x c (c1 x c hx), fun p hp => by simp [cxComp] at hp⟩
    intro hfs
    rcases List.mem_cons.mp (I3.stkSub b hfs) with z | z
    · exact (f3 b hb).2.1 z
    · exact (f3 b hb).2.2.1 z
  have loop : codeAny (model X.prog X.w) X.A (.compLoop (.ListComp elt [⟨tg, iter, ifs, 0⟩] scope pos) 0 (.ref it) (.ref P) (compEnvC scope cl s3.heap.objs.size X.env)) (compPost (model X.prog X.w) X.A X.xe use Q (.ref P) s3.heap.objs.size) { s3 with heap := h4, toks := s3.toks + ([] : List (Str × Value)).length } := by
    refine codeAny_loop rfl (fun n s' => ∃ i σ' H', Inv (cxComp X own scope cl s3.heap.objs.size s3 (upd H2 P (.lst [])) fp) [] σ' H' s' ∧ tn i s'.heap ∧ (∀ b ∈ fp, H' b = none) ∧ W i n σ' H') ?_ m0 ⟨0, _, _, I4, T.keep _ _ _ st3' fun b _ o e => k4 b o e, fun b hb => (f3 b hb).1, w0⟩
    rintro n s5 ⟨i, σ5, H5, I5, st5, fr5, w5⟩
    show wpAny _ _ ((compTurn (.ListComp elt [⟨tg, iter, ifs, 0⟩] scope pos) 0 (.ref it) (.ref P) (compEnvC scope cl s3.heap.objs.size X.env)).onRaise (fun x => do noteFrame x (compEnvC scope cl s3.heap.objs.size X.env); theTreesLotGoes x)) _ _ s5
    refine wpAny_noted ?_
    rw [compTurn_list]
    have nE : ∀ {α : Type} {t : Sem α} {QQ : α → Shared → Prop} {E' : Value → Shared → Prop} {ss : Shared}, wpAny (model X.prog X.w) X.A t QQ (fun _ _ => False) ss → wpAny (model X.prog X.w) X.A t QQ E' ss := fun h => wpAny_mono h (fun _ _ q => q) fun _ _ z => z.elim
    refine wpAny_bind (wpAny_standAt (wpAny_bind ?_))
    rcases turn i n σ5 H5 w5 with ⟨stop, qn⟩ | ⟨go, N, hN, step⟩
    · refine thn (T.done (cxComp X own scope cl s3.heap.objs.size s3 (upd H2 P (.lst [])) fp) rfl rfl rfl hc i [] s5 σ5 H5 _ I5 (fpY fr5) st5 stop) fun r s6 ⟨hr, I6⟩ => ?_
      subst hr
      refine wpAny_pure ?_
      have back : ∀ h', Heap.SameBut s3.heap.objs.size s6.heap h' → Inv X pins σ H5 { s6 with heap := h' } := fun h' sb => by
        have nC : ∀ b o, s3.heap.get? b = some o → b ≠ s3.heap.objs.size := fun b o e => Nat.ne_of_lt (Heap.lt_size e)
        have nH : ∀ b u, H5 b = some u → b ≠ s3.heap.objs.size := fun b u e z => by
          have : H5 s3.heap.objs.size = none := I6.free
          rw [z, this] at e; cases e
        refine I3.call' (s' := { s6 with heap := h' }) (ch := fp) I6.os ⟨fun b o e n hb hx => ?_, fun b o e n hb hx => ?_, I6.base.free, fun b o e hx => ?_, I6.base.tups, I6.base.frzs, I6.base.tbls⟩ ?_ I6.bare fun b hb => ?_
        · exact (sb.2 b (nC b o e)).trans (I6.base.keep b o e n hb hx)
        · obtain ⟨sl, z⟩ := I6.base.slot b o e n hb hx
          exact ⟨sl, (sb.2 b (nC b o e)).trans z⟩
        · obtain ⟨o', z⟩ := I6.base.there b o e hx
          exact ⟨o', (sb.2 b (nC b o e)).trans z⟩
        · intro b u e
          refine (I6.hok b u e).stay (fun c v hc q => (sb.2 c ?_).trans q) (fun _ q => q) fun _ _ q => q
          rcases hc with z | z
          · rw [z]; exact nH b u e
          · exact nH c _ z
        · obtain ⟨_, g1, g2, g3, g4, g5⟩ := f3 b hb
          exact ⟨g3, g1, g4, g5⟩
      obtain ⟨m, hn, _⟩ := I6.loc
      exact fin P H5 s6 s3.heap.objs.size m (back s6.heap (.refl ..)) (I3.fpOk (Nat.le_refl _) I6.free) hn qn
    · refine thn (T.item (cxComp X own scope cl s3.heap.objs.size s3 (upd H2 P (.lst [])) fp) rfl rfl rfl hc i [] s5 σ5 H5 _ I5 (fpY fr5) st5 go) fun r s6 ⟨u, hr, h6⟩ => ?_
      subst hr
      refine wpAny_bind (thn h6 fun _ s7 hzq => ?_)
      obtain ⟨x, H7, I7, r7, y7, st7, fr7⟩ := hzq
      have I7' := I7.pinned (fpY fr7) (T.obj _ _ st7)
      refine wpAny_bind (nE (thn (hg cl s3.heap.objs.size s3 (upd H2 P (.lst [])) fp _ s7 σ5 H7 x u _ I7' r7 (step x H7 y7)) fun _ s8 hzq => ?_))
      obtain ⟨σ8, H8, I8, q8⟩ := hzq
      have again : ∀ {s9 : Shared} {H9 : Hp}, Inv (cxComp X own scope cl s3.heap.objs.size s3 (upd H2 P (.lst [])) fp) ([] ++ pinsAt fp s7.heap) σ8 H9 s9 → N σ8 H9 → ∃ m, m < n ∧ ∃ i σ' H', Inv (cxComp X own scope cl s3.heap.objs.size s3 (upd H2 P (.lst [])) fp) [] σ' H' s9 ∧ tn i s9.heap ∧ (∀ b ∈ fp, H' b = none) ∧ W i m σ' H' := fun {s9 H9} I9 n9 => by
        obtain ⟨m', hm, w9⟩ := hN σ8 H9 n9
        refine ⟨m', hm, i + 1, σ8, H9, I9.unpinned, T.keep _ _ _ st7 fun b hb o e => (I9.pin (b, o) (List.mem_append_right _ (List.mem_append_right _ (mem_pinsAt hb e)))).1, fun b hb => ?_, w9⟩
        obtain ⟨o, e, d⟩ := T.obj _ _ st7 b hb
        exact (I9.pin (b, o) (List.mem_append_right _ (List.mem_append_right _ (mem_pinsAt hb e)))).2.1
      refine wpAny_bind (nE (thn (ht cl s3.heap.objs.size s3 (upd H2 P (.lst [])) fp _ s8 σ8 H8 _ I8 q8) fun ok s9 hzq => ?_))
      obtain ⟨H9, I9, q9⟩ := hzq
      cases ok with
      | false =>
        rw [if_neg (by decide)] at q9
        exact wpAny_pure ⟨rfl, again I9 q9⟩
      | true =>
        rw [if_pos rfl] at q9
        refine wpAny_bind (wpAny_bind (nE (thn (he cl s3.heap.objs.size s3 (upd H2 P (.lst [])) fp _ s9 σ8 H9 _ I9 q9) fun y s10 hzq => ?_)))
        obtain ⟨v, H10, I10, r10, ys, e10, l10, q10⟩ := hzq
        refine wpAny_bind (nE (thn (mt_append (X := cxComp X own scope cl s3.heap.objs.size s3 (upd H2 P (.lst [])) fp) _ s10 σ8 H10 (.ref P) [v] (.ref P) [y] (fun _ H' => N σ8 H') I10 rfl (.cons r10 .nil) ⟨P, ys, v, rfl, rfl, e10, l10, q10⟩) fun _ s11 hzq => ?_))
        obtain ⟨_, H11, I11, _, q11⟩ := hzq
        exact wpAny_pure (wpAny_pure ⟨rfl, again I11 q11⟩)
  have lself := T.self X.A 0 ({ s3 with heap := h4, toks := s3.toks + ([] : List (Str × Value)).length } : Shared) (fun it' s' => codeAny (model X.prog X.w) X.A (.compLoop (.ListComp elt [⟨tg, iter, ifs, 0⟩] scope pos) 0 it' (.ref P) (compEnvC scope cl s3.heap.objs.size X.env)) (compPost (model X.prog X.w) X.A X.xe use Q (.ref P) s3.heap.objs.size) s')
    (notedBy (model X.prog X.w) X.A (compEnvC scope cl s3.heap.objs.size X.env) fun x s' => compPost (model X.prog X.w) X.A X.xe use Q (.ref P) s3.heap.objs.size (.error x) s') (T.keep _ _ _ st3' fun b _ o e => k4 b o e) loop
  exact codeAny_compStart_list loop lself

theorem pe_comp {X : Cx} {tg elt iter : Expr} {ifs : List Expr} {scope : Scope} {pos : Pos} (own : List Str) {wi : TI} {g : TG} {tc : TT} {te : TE}
    (hc : X.calm = true) (S : CompScope X.env.scope X.N own scope) (hi : PI X tg iter wi)
    (hg : ∀ cl C s₀ H₀ ex, PG (cxComp X own scope cl C s₀ H₀ ex) tg g) (ht : ∀ cl C s₀ H₀ ex, PIf (cxComp X own scope cl C s₀ H₀ ex) ifs tc) (he : ∀ cl C s₀ H₀ ex, PE (cxComp X own scope cl C s₀ H₀ ex) elt te)
    (hs : ∀ x, foldedSetIterable iter X.env x = pure x := by intro _; rfl) :
    PE X (.ListComp elt [⟨tg, iter, ifs, 0⟩] scope pos) (tComp own.length wi g tc te) := by
  intro pins s σ H Q I h
  rw [eval_ListComp]
  refine comp_core (use := none) (R := fun p H' => Q (.ref p) H') hc S hi hg ht he hs I h fun p H' s' C m I' f hn q => ?_
  obtain ⟨f0, f1, f2, f3, f4, f5⟩ := f
  exact ⟨m, hn, fun h' sb => ⟨.ref p, H', I'.turned (t' := s'.toks) (fun b o hb e => (sb.2 b hb).trans e) f0 f1 f3 f4 f5, rfl, q⟩⟩
end L2
namespace L2
open PySem PySem.Spec PyProof.Rows

noncomputable def DefAt (K : PySem.W.Frag) (mg : Str → Option Value) (x : Str) (st : Stmt) : Prop := ∃ f fd, Fun K x x st f fd ∧ mg x = some (.ref f)
theorem defAt_mk {K : PySem.W.Frag} {h : Heap} {mg : Str → Option Value} {x : Str} {st : Stmt} {f : Addr} {oc : Value} {od an : Option Addr} {osl : Array (Option Value)} {kV doc pm cdv ct : Value} (X : K.In h) (G : h.Ns mainGlobals mg)
    (a : PySem.W.nsIn K mainGlobals x = some (some (.ref f))) (l : K.lookup f = some ⟨oc, od, .func (PySem.W.fnOf x x (defArgs st) (defBody st) (defScope st) .none kV doc pm an cdv ct), osl⟩)
    (c : PySem.W.codeIn K cdv x = true) (k : PySem.W.keepIn K (.ref f) = true) : DefAt K mg x st :=
  ⟨f, _, fun_mk l c k, PySem.W.mg_of X G a⟩
noncomputable def CalF (P : Program) (w : World) (K : PySem.W.Frag) (mg : Str → Option Value) (base : Heap) (k : Nat) (f : Addr) (sp : Sp) : Prop :=
  ∃ fd ps, FnOk P w K mg base CX0 k f fd ps sp ∧ PySem.W.keepIn K (.ref f) = true ∧ Binds K fd ps []
noncomputable def Cal (P : Program) (w : World) (K : PySem.W.Frag) (mg : Str → Option Value) (base : Heap) (k : Nat) (x : Str) (sp : Sp) : Prop :=
  ∃ f, mg x = some (.ref f) ∧ CalF P w K mg base k f sp
section
variable {P : Program} {w : World} {K : PySem.W.Frag} {mg : Str → Option Value} {base : Heap}
theorem CalF.mono {j k : Nat} {f : Addr} {sp : Sp} (c : CalF P w K mg base j f sp) (h : j ≤ k) : CalF P w K mg base k f sp :=
  let ⟨fd, ps, F, kp, b⟩ := c
  ⟨fd, ps, F.mono h, kp, b⟩
theorem Cal.mono {j k : Nat} {x : Str} {sp : Sp} (c : Cal P w K mg base j x sp) (h : j ≤ k) : Cal P w K mg base k x sp :=
  let ⟨f, m, c⟩ := c
  ⟨f, m, c.mono h⟩
theorem CalF.imp {k : Nat} {f : Addr} {sp sp' : Sp} (c : CalF P w K mg base k f sp) (h : ∀ vs H Q E, sp' vs H Q E → sp vs H Q E) : CalF P w K mg base k f sp' :=
  let ⟨fd, ps, F, kp, b⟩ := c
  ⟨fd, ps, F.imp h, kp, b⟩
theorem Cal.imp {k : Nat} {x : Str} {sp sp' : Sp} (c : Cal P w K mg base k x sp) (h : ∀ vs H Q E, sp' vs H Q E → sp vs H Q E) : Cal P w K mg base k x sp' :=
  let ⟨f, m, c⟩ := c
  ⟨f, m, c.imp h⟩
theorem cal_of {x : Str} {st : Stmt} {N ps : List Str} {k : Nat} {sp : Sp} (D : DefAt K mg x st) (S : FnScope N ps (defScope st)) (len : ∀ vs H Q E, sp vs H Q E → vs.length = ps.length)
    (hb : ∀ (kV doc pm : Value) (an : Option Addr) (cdv ct : Value) (us : List Value), us.length = ps.length → bindArgs (PySem.W.fnOf x x (defArgs st) (defBody st) (defScope st) .none kV doc pm an cdv ct) ⟨us, []⟩ = pure (ps.zip us))
    (hbody : ∀ (f : Addr) (cdv : Value) (A : Around) (outer : List Env) (s : Shared) (H : Hp) (vs : List V) (Q : VK) (E : XK), Room k (A.deeper (envOfC x (defScope st) s.heap.objs.size f cdv)) → sp vs H Q E →
      ∃ t, PSs (cxOf CX0 P w K mg base N x (defScope st) f cdv A outer s H E).nox (defBody st) t ∧ t { nx := fun _ H' => Q .non H', rt := Q } (start N vs) H) : Cal P w K mg base (k + 1) x sp := by
  obtain ⟨f, fd, F, m⟩ := D
  exact ⟨f, m, fd, ps, F.ok S len (hbody f), F.kp, F.binds hb⟩
end

section
variable {X : Cx} {k : Nat} {x : Str} {sp : Sp} {p pos : Pos} {e func : Expr} {es : List Expr} {t : TA} {tf : TE}
theorem pe_cal (c : Cal X.prog X.w X.K X.mg X.base k x sp) (hr : Room k X.A) (hg : Gl X x) (ha : PA X (e :: es) t) (hdb : (x == ("__debug__" : Str)) = false := by decide)
    (he : starEach (e :: es) X.env = (false, eval e X.env) :: starEach es X.env := by rfl) (hpl : (backTo pos (starEach es X.env)).any (·.1) = false := by rfl) :
    PE X (.Call (.Name x p) (e :: es) [] pos) (tCall sp [] E0 t) := by
  obtain ⟨f, m, fd, ps, F, kp, b⟩ := c
  exact pe_call F hr hg m kp b .nil pass0 ha hdb he hpl
end

noncomputable def CDivW (i j : Int) : Prop := 0 < j ∧ j < 2 ^ 200
section
variable {X : Cx}
theorem log2_small {n : Nat} (h : n < 2 ^ 200) : n.log2 < 9000 := by
  by_cases z : n = 0
  · subst z; decide
  · have := (Nat.log2_lt z).mpr h
    omega
theorem op_fdivW : OpR X (binaryOp .FloorDiv) (rI CDivW fun i j => .int (i / j)) := opI fun i j _ _ _ _ _ hc q => by
  refine floordiv_int (by have := hc.1; omega) ?_ (.inl (PyProof.noPylong_of_log2 (log2_small ?_)))
  · rw [Int.fdiv_eq_ediv_of_nonneg _ (Int.le_of_lt hc.1)]
    exact q
  · have h1 := hc.1
    have h2 := hc.2
    have e : ((j.natAbs : Nat) : Int) = j := Int.natAbs_of_nonneg (Int.le_of_lt h1)
    have : ((j.natAbs : Nat) : Int) < ((2 ^ 200 : Nat) : Int) := by rw [e]; exact h2
    exact Int.ofNat_lt.mp this
end

noncomputable def isiV : V → String → Option Bool
  | .int _, "int" => some true
  | .int _, "bool" => some false
  | .str _, "str" => some true
  | _, _ => none
section
variable {X : Cx}
theorem call_isi : CallR X (.builtin "isinstance") (fun xs H Q => ∃ x T b, xs = [x, .ty T] ∧ isiV x T = some b ∧ Q (.bl b) H) := by
  intro pins s σ H xs us Q I r h
  obtain ⟨x, T, b, rfl, e, q⟩ := h
  obtain ⟨u, v, rfl, ru, rv⟩ := vals2 r
  obtain rfl : v = Value.type T := rv
  unfold isiV at e
  split at e <;> first
    | (cases e; obtain ⟨t, rfl⟩ := ru; first
        | exact IsiPair.int_int ⟨.bl true, H, I, rfl, q⟩
        | exact IsiPair.int_bool ⟨.bl false, H, I.tok _, rfl, q⟩
        | exact IsiPair.int_str ⟨.bl false, H, I.tok _, rfl, q⟩
        | exact IsiPair.int_tuple ⟨.bl false, H, I.tok _, rfl, q⟩
        | exact IsiPair.int_list ⟨.bl false, H, I.tok _, rfl, q⟩
        | exact IsiPair.str_str ⟨.bl true, H, I, rfl, q⟩
        | exact IsiPair.str_int ⟨.bl false, H, I.tok _, rfl, q⟩
        | exact IsiPair.str_bool ⟨.bl false, H, I.tok _, rfl, q⟩
        | exact IsiPair.str_tuple ⟨.bl false, H, I.tok _, rfl, q⟩
        | exact IsiPair.str_list ⟨.bl false, H, I.tok _, rfl, q⟩)
    | (cases e; cases ru; first
        | exact IsiPair.bool_bool ⟨.bl true, H, I, rfl, q⟩
        | exact IsiPair.bool_int ⟨.bl true, H, I, rfl, q⟩
        | exact IsiPair.bool_str ⟨.bl false, H, I.tok _, rfl, q⟩)
    | cases e
end

section
variable {X : Cx} {o i : Expr} {td ty : TE} {pos : Pos}
end

section
variable {σ : St} {H : Hp} {Q : VK} {D : Ends} {i : Nat} {v : V}
theorem rd_C (q : Q v H) : tC v σ H Q := q
theorem rd_V (e : σ[i]? = some (some v)) (q : Q v H) : tVar i σ H Q := ⟨v, e, q⟩
theorem rd_op {r : R2} {ta tb : TE} (q : ta σ H fun x H1 => tb σ H1 fun y H2 => r x y H2 Q) : tOp r ta tb σ H Q := q
theorem rd_un {r : V → Hp → VK → Prop} {ta : TE} (q : ta σ H fun x H1 => r x H1 Q) : tUn r ta σ H Q := q
theorem rd_I {C : Int → Int → Prop} {g : Int → Int → V} {a b : Int} (c : C a b) (q : Q (g a b) H) : rI C g (.int a) (.int b) H Q := ⟨a, b, rfl, rfl, c, q⟩
theorem rd_I0 {g : Int → Int → V} {a b : Int} (q : Q (g a b) H) : rI0 g (.int a) (.int b) H Q := ⟨a, b, rfl, rfl, q⟩
theorem rd_U {g : Int → V} {a : Int} (q : Q (g a) H) : rU g (.int a) H Q := ⟨a, rfl, q⟩
theorem rd_eqI {a b : Int} (q : Q (.bl (decide (a = b))) H) : rEq (.int a) (.int b) H Q := by
  refine ⟨rfl, ?_⟩
  have e : decide (V.int a = V.int b) = decide (a = b) := decide_eq_decide.mpr ⟨fun h => V.int.inj h, fun h => by rw [h]⟩
  rw [e]; exact q
theorem rd_eqS {a b : Str} (q : Q (.bl (decide (a = b))) H) : rEq (.str a) (.str b) H Q := by
  refine ⟨rfl, ?_⟩
  have e : decide (V.str a = V.str b) = decide (a = b) := decide_eq_decide.mpr ⟨fun h => V.str.inj h, fun h => by rw [h]⟩
  rw [e]; exact q
theorem rd_neS {a b : Str} (q : Q (.bl (!decide (a = b))) H) : rNe (.str a) (.str b) H Q := by
  refine ⟨rfl, ?_⟩
  have e : decide (V.str a = V.str b) = decide (a = b) := decide_eq_decide.mpr ⟨fun h => V.str.inj h, fun h => by rw [h]⟩
  rw [e]; exact q
theorem rd_seq {t u : TS} (q : t { D with nx := u D } σ H) : tSeq t u D σ H := q
theorem rd_asg {te : TE} {g : TG} (q : te σ H fun x H1 => g x σ H1 D.nx) : tAsg te g D σ H := q
theorem rd_name {R : St → Hp → Prop} (q : R (σ.set i (some v)) H) : gName i v σ H R := q
theorem rd_ret {te : TE} (q : te σ H D.rt) : tRet te D σ H := q
theorem rd_next (q : D.nx σ H) : tNext D σ H := q
theorem rd_drop {te : TE} (q : te σ H fun _ H1 => D.nx σ H1) : tDrop te D σ H := q
theorem rd_ifS {c : TT} {t u : TS} (q : c σ H fun b H1 => if b = true then t D σ H1 else u D σ H1) : tIfS c t u D σ H := q
theorem rd_if {c : TT} {ta tb : TE} (q : c σ H fun b H1 => if b = true then ta σ H1 Q else tb σ H1 Q) : tIf c ta tb σ H Q := q
theorem rd_test {te : TE} {R : Bool → Hp → Prop} (q : te σ H fun x H' => ∃ k, x = .bl k ∧ R k H') : tTest te σ H R := q
theorem rd_B {te : TE} {R : Bool → Hp → Prop} (q : te σ H fun x H' => ∃ k, x = .bl k ∧ R k H') : tB te σ H R := q
theorem rd_bl {b : Bool} {R : Bool → Prop} (q : R b) : ∃ k, V.bl b = .bl k ∧ R k := ⟨b, rfl, q⟩
theorem rd_or {t u : TT} {R : Bool → Hp → Prop} (q : t σ H fun c H1 => if c = true then R true H1 else u σ H1 R) : tOr t u σ H R := q
theorem rd_not {t : TT} {R : Bool → Hp → Prop} (q : t σ H fun c H1 => R (!c) H1) : tNot t σ H R := q
theorem rd_andV {ta tb : TE} (q : ta σ H fun x H1 => ∃ c, x = .bl c ∧ if c = true then tb σ H1 Q else Q (.bl false) H1) : tAndV ta tb σ H Q := q
theorem rd_notV {ta : TE} (q : ta σ H fun x H1 => ∃ c, x = .bl c ∧ Q (.bl (!c)) H1) : tNotV ta σ H Q := q
theorem rd_cons {ta : TE} {tr : TA} {R : List V → Hp → Prop} (q : ta σ H fun x H1 => tr σ H1 fun xs H2 => R (x :: xs) H2) : tCons ta tr σ H R := q
theorem rd_nil {R : List V → Hp → Prop} (q : R [] H) : tNil σ H R := q
theorem rd_call {sp : Sp} {t : TA} (q : t σ H fun vs H1 => sp vs H1 Q E0) : tCall sp [] E0 t σ H Q := by
  unfold tCall
  have e : (fun (vs : List V) H1 => sp (vs ++ []) H1 Q E0) = fun vs H1 => sp vs H1 Q E0 := by funext vs H1; rw [List.append_nil]
  rw [e]
  exact q
theorem rd_CB {r : List V → Hp → VK → Prop} {t : TA} (q : t σ H fun vs H1 => r vs H1 Q) : tCB r t σ H Q := q
theorem rd_tup {t : TA} (q : t σ H fun xs H1 => xs.length ≤ sizeLine ∧ ∀ p, H1 p = none → Q (.ref p) (upd H1 p (.tup xs))) : tTup t σ H Q := q
theorem rd_lst {t : TA} (q : t σ H fun xs H1 => xs.length ≤ sizeLine ∧ ∀ p, H1 p = none → Q (.ref p) (upd H1 p (.lst xs))) : tLst t σ H Q := q
theorem rd_iteD {c A B : Prop} [Decidable c] (h1 : c → A) (h2 : ¬ c → B) : if decide c = true then A else B := by
  by_cases h : c
  · rw [if_pos (decide_eq_true h)]; exact h1 h
  · rw [if_neg (by rw [decide_eq_false h]; exact Bool.false_ne_true)]; exact h2 h
theorem rd_iteND {c A B : Prop} [Decidable c] (h1 : ¬ c → A) (h2 : c → B) : if (!decide c) = true then A else B := by
  by_cases h : c
  · rw [decide_eq_true h]; exact iteF (h2 h)
  · rw [decide_eq_false h]; exact iteT (h1 h)
theorem rd_fin {u : V} (e : u = v) (q : Q v H) : Q u H := by rw [e]; exact q
end

section
variable {X : Cx} {x : Str} {v : V} {T : String} {pos : Pos}
theorem pe_blA (hg : Gl X x) (hm : X.mg x = none) (hv : bootBuiltins x = some (.type T)) (hn : x ≠ "__name__" := by decide) (hd : (x == ("__debug__" : Str)) = false := by decide) : PE X (.Name x pos) (tC (.ty T)) :=
  pe_bltn hg hm hv rfl hn hd
end

end L2
namespace L2
open PySem PySem.Spec PyProof.Rows

theorem SqL.updN {K : PySem.W.Frag} {H : Hp} {a p : Addr} {xs : List V} {o : HO} (h : SqL K H a xs) (n : H p = none) : SqL K (upd H p o) a xs := by
  rcases h with (h | ⟨ob, h⟩) | h
  · exact .inl (.inl (by rw [upd_ne (ne_of_none h n)]; exact h))
  · exact .inl (.inr ⟨ob, by rw [upd_ne (ne_of_none h n)]; exact h⟩)
  · exact .inr h
theorem SqT.updN {K : PySem.W.Frag} {H : Hp} {a p : Addr} {xs : List V} {o : HO} (h : SqT K H a xs) (n : H p = none) : SqT K (upd H p o) a xs := by
  rcases h with (h | ⟨ob, h⟩) | h
  · exact .inl (.inl (by rw [upd_ne (ne_of_none h n)]; exact h))
  · exact .inl (.inr ⟨ob, by rw [upd_ne (ne_of_none h n)]; exact h⟩)
  · exact .inr h
theorem Same.tup {K : PySem.W.Frag} {H H' : Hp} {a : Addr} {xs : List V} (e : Same H H') (h : SqT K H a xs) : SqT K H' a xs := by
  rcases h with (h | ⟨o, h⟩) | h
  · exact .inl (.inl (e _ _ h))
  · exact .inl (.inr ⟨o, e _ _ h⟩)
  · exact .inr h
theorem Same.new {H : Hp} {p : Addr} {o : HO} (n : H p = none) : Same H (upd H p o) := fun b u e => by rw [upd_ne (ne_of_none e n)]; exact e
theorem Same.newT {H H' : Hp} {p : Addr} {o : HO} (s : Same H H') (n : H' p = none) : Same H (upd H' p o) := s.trans (Same.new n)
theorem sql_of {K : PySem.W.Frag} {H : Hp} {p : Addr} {xs : List V} (h : H p = some (.lst xs)) : SqL K H p xs := .inl (.inl h)
theorem sqt_of {K : PySem.W.Frag} {H : Hp} {p : Addr} {xs : List V} (h : H p = some (.tup xs)) : SqT K H p xs := .inl (.inl h)
theorem atI_nat' {α : Type} {xs : List α} {i : Nat} {j : Int} {v : α} (h : xs[i]? = some v) (e : j = (i : Int)) : atI xs j = some v := by rw [e]; exact atI_nat h
theorem cutV_take {ns : List V} {n : Nat} : cutV ns none (some (n : Int)) = ns.take n := by
  have e : HT.sIx ns.length ns.length (some (n : Int)) = min n ns.length := by
    unfold HT.sIx
    simp only []
    split <;> omega
  have e0 : HT.sIx ns.length 0 none = 0 := rfl
  unfold cutV
  rw [e, e0, List.drop_zero, Nat.sub_zero, List.take_eq_take_iff]
  omega

section
variable {σ : St} {H : Hp} {Q : VK} {K : PySem.W.Frag} {p a b : Addr} {xs ys : List V} {v : V}
theorem rd_ixL {i : Int} (h : SqL K H p xs) (e : atI xs i = some v) (q : Q v H) : rIxL K (.ref p) (.int i) H Q := ⟨p, xs, i, v, rfl, rfl, h, e, q⟩
theorem rd_ixT {i : Int} (h : SqT K H p xs) (e : atI xs i = some v) (q : Q v H) : rIxT K (.ref p) (.int i) H Q := ⟨p, xs, i, v, rfl, rfl, h, e, q⟩
theorem rd_slL {lo hi : Option Int} (h : SqL K H a xs) (q : ∀ p, H p = none → Q (.ref p) (upd H p (.lst (cutV xs lo hi)))) : rSlL K (.ref a) lo hi H Q := ⟨a, xs, rfl, h, q⟩
theorem rd_sl {r : V → Option Int → Option Int → Hp → VK → Prop} {te : TE} {tl th : TO} (q : te σ H fun x H1 => tl σ H1 fun l H2 => th σ H2 fun u H3 => r x l u H3 Q) : tSl r te tl th σ H Q := q
theorem rd_noPart {R : Option Int → Hp → Prop} (q : R none H) : tNoPart σ H R := q
theorem rd_part {R : Option Int → Hp → Prop} {t : TE} (q : t σ H fun x H1 => ∃ i, x = .int i ∧ R (some i) H1) : tPart t σ H R := q
theorem rd_ei {R : Int → Prop} {i : Int} (q : R i) : ∃ j, V.int i = .int j ∧ R j := ⟨i, rfl, q⟩
theorem rd_cat (h1 : H a = some (.lst xs)) (h2 : H b = some (.lst ys)) (hz : xs.length + ys.length ≤ sizeLine) (q : ∀ p, H p = none → Q (.ref p) (upd H p (.lst (xs ++ ys)))) : rCat (.ref a) (.ref b) H Q := ⟨a, b, xs, ys, rfl, rfl, h1, h2, hz, q⟩
theorem comp_map {te : TE} {R : Hp → Prop} (hl : SqL K H a xs) (hp : H p = none) (hn : ys.length = xs.length) (hz : xs.length ≤ sizeLine)
    (he : ∀ (i : Nat) (x y : V) (H' : Hp) (Q : VK), xs[i]? = some x → ys[i]? = some y → Same H H' → Q y H' → te (some x :: σ) H' Q) (fin : R (upd H p (.lst ys))) :
    tLoopC 1 (gName 0) tNoIf te (Itl K a) p R σ H := by
  refine ⟨fun i m σ' H' => m = xs.length - i ∧ i ≤ xs.length ∧ H' = upd H p (.lst (ys.take i)) ∧ ∃ v, σ' = v :: σ, ⟨xs.length, by omega, Nat.zero_le _, rfl, none, rfl⟩, ?_⟩
  rintro i m σ' H' ⟨rfl, hi, rfl, v, rfl⟩
  have hs : SqL K (upd H p (.lst (ys.take i))) a xs := hl.updN hp
  by_cases hlt : i < xs.length
  · refine .inr ⟨⟨xs, xs[i], hs, by simp [hlt]⟩, fun σ2 H2 => H2 = upd H p (.lst (ys.take (i + 1))) ∧ ∃ v, σ2 = v :: σ, fun σ2 H2 ⟨e, v', e'⟩ => ⟨xs.length - (i + 1), by omega, rfl, hlt, e, v', e'⟩, fun x H1 ⟨e, y⟩ => ?_⟩
    subst e
    have hx := y xs hs
    refine rd_name ?_
    simp only [tNoIf, if_true, List.set_cons_zero]
    have hyl : i < ys.length := by omega
    refine he i x ys[i] _ _ hx (by simp [hyl]) (Same.new hp) ?_
    refine ⟨ys.take i, upd_same, ?_, ?_, some x, rfl⟩
    · rw [List.length_take]; omega
    · rw [upd_upd, List.take_succ_eq_append_getElem hyl]
  · have e : i = xs.length := by omega
    subst e
    refine .inl ⟨⟨xs, hs, Nat.le_refl _⟩, ?_⟩
    rw [← hn, List.take_length]
    exact fin
end
theorem iteNT {A B : Prop} (h : B) : if (!true) = true then A else B := iteF h
theorem iteNF {A B : Prop} (h : A) : if (!false) = true then A else B := iteT h
section
variable {σ : St} {H : Hp} {Q : VK} {D : Ends}
theorem rd_comp {k : Nat} {wi : TI} {g : TG} {tc : TT} {te : TE} (q : wi σ H fun J H1 => ∀ p, H1 p = none → tLoopC k g tc te J p (fun H' => Q (.ref p) H') σ H1) : tComp k wi g tc te σ H Q := q
theorem rd_iList {K : PySem.W.Frag} {tl : TE} {R : It → Hp → Prop} (q : tl σ H fun x H1 => ∃ a, x = .ref a ∧ (∃ xs, SqL K H1 a xs) ∧ R (Itl K a) H1) : iList K tl σ H R := q
theorem rd_iRng1 {ta : TA} {R : It → Hp → Prop} (q : ta σ H fun vs H1 => ∃ j : Int, vs = [.int j] ∧ -(2 ^ 62) ≤ j ∧ j < 2 ^ 62 ∧ R (Itr 0 j.toNat) H1) : iRng1 ta σ H R := q
theorem rd_for {wi : TI} {g : TG} {tb : TS} (q : wi σ H fun J H1 => ∃ W : Nat → Nat → St → Hp → Prop, (∃ m, W 0 m σ H1) ∧ ∀ i m σ H, W i m σ H →
  (J.stop i H ∧ D.nx σ H) ∨ (J.go i H ∧ ∃ N : St → Hp → Prop, (∀ σ' H', N σ' H' → ∃ m', m' < m ∧ W (i + 1) m' σ' H') ∧ ∀ x H', J.yld i H x H' → g x σ H' fun σ2 H2 => tb { D with nx := N, ct := N, bk := D.nx } σ2 H2)) : tFor wi g tb D σ H := q
end
section
variable {CX : CXT} {P : Program} {w : World} {K : PySem.W.Frag} {mg : Str → Option Value} {base : Heap} {N : List Str} {q : Str} {sc : Scope} {f : Addr} {cd : Value} {A : Around} {outer : List Env} {s : Shared} {H : Hp} {E : XK}
theorem nox_K : (cxOf CX P w K mg base N q sc f cd A outer s H E).nox.K = K := rfl
theorem nox_P : (cxOf CX P w K mg base N q sc f cd A outer s H E).nox.prog = P := rfl
theorem nox_w : (cxOf CX P w K mg base N q sc f cd A outer s H E).nox.w = w := rfl
theorem nox_mg : (cxOf CX P w K mg base N q sc f cd A outer s H E).nox.mg = mg := rfl
theorem nox_base : (cxOf CX P w K mg base N q sc f cd A outer s H E).nox.base = base := rfl
end
theorem fun_binds1 {K : PySem.W.Frag} {x qual p : Str} {st : Stmt} {f : Addr} {fd : FuncData} (F : Fun K x qual st f fd)
    (hb : ∀ (kV doc pm : Value) (an : Option Addr) (cdv ct u : Value), bindArgs (PySem.W.fnOf x qual (defArgs st) (defBody st) (defScope st) .none kV doc pm an cdv ct) ⟨[u], []⟩ = pure [(p, u)] := by intros; rfl) : ∀ (s : Shared) (u : Value), BindsTo s fd ⟨[u], []⟩ [(p, u)] := by
  obtain ⟨oc, od, kV, doc, pm, an, cdv, ct, osl, rfl, lk, hcd⟩ := F.ex
  exact fun s u => .of_eq (hb kV doc pm an cdv ct u)
section
variable {σ : St} {H : Hp} {Q : VK} {D : Ends} {i : Nat} {x : V}
end
noncomputable abbrev RC := List V → Hp → VK → Prop
noncomputable def rMax2 : RC := fun xs H Q => ∃ i j, xs = [.int i, .int j] ∧ Q (.int (if j > i then j else i)) H
noncomputable def rIsi : RC := fun xs H Q => ∃ x T b, xs = [x, .ty T] ∧ isiV x T = some b ∧ Q (.bl b) H
noncomputable def rLenS (K : PySem.W.Frag) : RC := fun xs H Q => ∃ p ys, xs = [.ref p] ∧ (SqL K H p ys ∨ SqT K H p ys) ∧ Q (.int ys.length) H
section
variable {X : Cx} {H : Hp} {Q : VK} {K : PySem.W.Frag}
theorem cn_max (hc : X.calm = true) : CallR X (.builtin "max") rMax2 := call_max2 hc
theorem cn_isi : CallR X (.builtin "isinstance") rIsi := call_isi
theorem cn_len : CallR X (.builtin "len") (rLenS X.K) := call_len_seq
theorem rd_max2 {a b : Int} (q : Q (.int (if b > a then b else a)) H) : rMax2 [.int a, .int b] H Q := ⟨a, b, rfl, q⟩
theorem rd_lenL {p : Addr} {xs : List V} (h : SqL K H p xs) (q : Q (.int xs.length) H) : rLenS K [.ref p] H Q := ⟨p, xs, rfl, .inl h, q⟩
end
end L2
namespace L2
open PySem PySem.Spec PyProof.Rows
section
variable {σ : St} {H : Hp} {Q : VK} {K : PySem.W.Frag} {p : Addr} {xs : List V} {v : V}
theorem rd_bm {T : String} {r : V → List V → Hp → VK → Prop} {to : TE} {t : TA} (q : to σ H fun x H1 => tyV K T x H1 ∧ t σ H1 fun xs H2 => r x xs H2 Q) : tBM K T r to t σ H Q := q
theorem rd_bm0 {T : String} {r : V → List V → Hp → VK → Prop} {to : TE} (q : to σ H fun x H1 => tyV K T x H1 ∧ r x [] H1 Q) : tBM0 K T r to σ H Q := q
theorem ty_list (h : SqL K H p xs) : tyV K "list" (.ref p) H := .inl ⟨rfl, _, h⟩
theorem rd_append (h : H p = some (.lst xs)) (hz : xs.length < sizeLine) (q : Q .non (upd H p (.lst (xs ++ [v])))) : rAppend (.ref p) [v] H Q := ⟨p, xs, v, rfl, rfl, h, hz, q⟩
theorem rd_pop (h : H p = some (.lst (xs ++ [v]))) (q : Q v (upd H p (.lst xs))) : rPop (.ref p) [] H Q := by
  refine ⟨p, xs ++ [v], v, rfl, rfl, h, by simp, ?_⟩
  rw [List.dropLast_concat]
  exact q
end
end L2
namespace L2
open PySem PySem.Spec PyProof.Rows
section
variable {σ : St} {H : Hp} {Q : VK} {K : PySem.W.Frag} {p : Addr}
theorem comp_range {te : TE} {R : Hp → Prop} {lo : Int} {n : Nat} {ys : List V} (hp : H p = none) (hn : ys.length = n) (hz : n ≤ sizeLine)
    (he : ∀ (i : Nat) (y : V) (H' : Hp) (Q : VK), i < n → ys[i]? = some y → Same H H' → Q y H' → te (some (.int (lo + i)) :: σ) H' Q) (fin : R (upd H p (.lst ys))) :
    tLoopC 1 (gName 0) tNoIf te (Itr lo n) p R σ H := by
  refine ⟨fun i m σ' H' => m = n - i ∧ i ≤ n ∧ H' = upd H p (.lst (ys.take i)) ∧ ∃ v, σ' = v :: σ, ⟨n, by omega, Nat.zero_le _, rfl, none, rfl⟩, ?_⟩
  rintro i m σ' H' ⟨rfl, hi, rfl, v, rfl⟩
  by_cases hlt : i < n
  · refine .inr ⟨hlt, fun σ2 H2 => H2 = upd H p (.lst (ys.take (i + 1))) ∧ ∃ v, σ2 = v :: σ, fun σ2 H2 ⟨e, v', e'⟩ => ⟨n - (i + 1), by omega, rfl, hlt, e, v', e'⟩, fun x H1 ⟨e, y⟩ => ?_⟩
    subst e y
    refine rd_name ?_
    simp only [tNoIf, if_true, List.set_cons_zero]
    have hyl : i < ys.length := by omega
    refine he i ys[i] _ _ hlt (by simp [hyl]) (Same.new hp) ?_
    refine ⟨ys.take i, upd_same, ?_, ?_, some _, rfl⟩
    · rw [List.length_take]; omega
    · rw [upd_upd, List.take_succ_eq_append_getElem hyl]
  · have e : i = n := by omega
    subst e
    refine .inl ⟨Nat.le_refl _, ?_⟩
    rw [← hn, List.take_length]
    exact fin
end
noncomputable def isiSeq : Bool → String → Option Bool
  | true, "tuple" => some true
  | false, "list" => some true
  | _, _ => none
noncomputable def rIsiQ (K : PySem.W.Frag) : RC := fun xs H Q => ∃ a T ys b, xs = [.ref a, .ty T] ∧ ((SqT K H a ys ∧ isiSeq true T = some b) ∨ (SqL K H a ys ∧ isiSeq false T = some b)) ∧ Q (.bl b) H
theorem call_isiQ {X : Cx} : CallR X (.builtin "isinstance") (rIsiQ X.K) := by
  intro pins s σ H xs us Q I r h
  obtain ⟨a, T, ys, b, rfl, e, q⟩ := h
  obtain ⟨u, v, rfl, ru, rv⟩ := vals2 r
  obtain rfl : v = Value.type T := rv
  obtain rfl : u = Value.ref a := ru
  have kp : ∀ b o, s.heap.get? b = some o → s.heap.get? b = some o := fun _ _ z => z
  rcases e with ⟨hq, e⟩ | ⟨hq, e⟩
  · obtain ⟨its, rv, p, hz⟩ := I.tuple hq
    have p' : s.heap.IsTuple a its.toArray := p
    unfold isiSeq at e
    split at e <;> first
      | contradiction
      | (cases e; first
        | exact IsiPair.isTuple_tuple p' kp ⟨.bl true, H, I, rfl, q⟩
        | exact IsiPair.isTuple_list p' kp ⟨.bl false, H, I.tok _, rfl, q⟩
        | exact IsiPair.isTuple_int p' kp ⟨.bl false, H, I.tok _, rfl, q⟩
        | exact IsiPair.isTuple_bool p' kp ⟨.bl false, H, I.tok _, rfl, q⟩
        | exact IsiPair.isTuple_str p' kp ⟨.bl false, H, I.tok _, rfl, q⟩)
      | cases e
      | (rename_i z _; cases z)
  · obtain ⟨its, rv, p, hz⟩ := I.list hq
    have p' : s.heap.IsList a its.toArray := p.isList
    unfold isiSeq at e
    split at e <;> first
      | contradiction
      | (cases e; first
        | exact IsiPair.isList_list p' kp ⟨.bl true, H, I, rfl, q⟩
        | exact IsiPair.isList_tuple p' kp ⟨.bl false, H, I.tok _, rfl, q⟩
        | exact IsiPair.isList_int p' kp ⟨.bl false, H, I.tok _, rfl, q⟩
        | exact IsiPair.isList_bool p' kp ⟨.bl false, H, I.tok _, rfl, q⟩
        | exact IsiPair.isList_str p' kp ⟨.bl false, H, I.tok _, rfl, q⟩)
      | cases e
      | (rename_i z _; cases z)
noncomputable def rIsiA (K : PySem.W.Frag) : RC := fun xs H Q => rIsi xs H Q ∨ rIsiQ K xs H Q
theorem cn_isiA {X : Cx} : CallR X (.builtin "isinstance") (rIsiA X.K) := cn_isi.or call_isiQ
section
variable {H : Hp} {Q : VK} {K : PySem.W.Frag}
theorem rd_isiS {x : V} {T : String} {b : Bool} (e : isiV x T = some b) (q : Q (.bl b) H) : rIsiA K [x, .ty T] H Q := .inl ⟨x, T, b, rfl, e, q⟩
end
section
variable {σ : St} {H : Hp} {Q : VK} {P : Program} {w : World} {K : PySem.W.Frag} {td ty : TE}
end
section
variable {H : Hp} {Q : VK} {P : Program} {w : World} {K : PySem.W.Frag}
end
section
variable {CX : CXT} {P : Program} {w : World} {K : PySem.W.Frag} {mg : Str → Option Value} {base : Heap} {N : List Str} {q : Str} {sc : Scope} {f : Addr} {cd : Value} {A : Around} {outer : List Env} {s : Shared} {H : Hp} {E : XK}
theorem cxOf_K : (cxOf CX P w K mg base N q sc f cd A outer s H E).K = K := rfl
theorem cxOf_P : (cxOf CX P w K mg base N q sc f cd A outer s H E).prog = P := rfl
theorem cxOf_w : (cxOf CX P w K mg base N q sc f cd A outer s H E).w = w := rfl
theorem cxOf_mg : (cxOf CX P w K mg base N q sc f cd A outer s H E).mg = mg := rfl
theorem cxOf_base : (cxOf CX P w K mg base N q sc f cd A outer s H E).base = base := rfl
end
structure FunD (K : PySem.W.Frag) (x qual : Str) (st : Stmt) (items : Array Value) (f : Addr) (fd : FuncData) : Prop where
  ex : ∃ (oc : Value) (od : Option Addr) (T : Addr) (kV doc pm : Value) (an : Option Addr) (cdv ct : Value) (osl : Array (Option Value)) (o : Obj) (n : Nat),
    fd = PySem.W.fnOf x qual (defArgs st) (defBody st) (defScope st) (.ref T) kV doc pm an cdv ct ∧ K.lookup f = some ⟨oc, od, .func fd, osl⟩ ∧ PySem.W.codeIn K cdv qual = true ∧ K.lookup T = some o ∧ o.data = .seq items n
  kp : PySem.W.keepIn K (.ref f) = true
section
variable {P : Program} {w : World} {K : PySem.W.Frag} {mg : Str → Option Value} {base : Heap}
theorem FunD.fn {x qual : Str} {st : Stmt} {items : Array Value} {f : Addr} {fd : FuncData} {N ps : List Str} {k : Nat} {sp : Sp} (F : FunD K x qual st items f fd) (S : FnScope N ps (defScope st)) (len : ∀ vs H Q E, sp vs H Q E → vs.length = ps.length)
    (hbody : ∀ (cdv : Value) (A : Around) (outer : List Env) (s : Shared) (H : Hp) (vs : List V) (Q : VK) (E : XK), Room k (A.deeper (envOfC qual (defScope st) s.heap.objs.size f cdv)) → sp vs H Q E →
      ∃ t, PSs (cxOf CX0 P w K mg base N qual (defScope st) f cdv A outer s H E).nox (defBody st) t ∧ t { nx := fun _ H' => Q .non H', rt := Q } (start N vs) H) : FnOk P w K mg base CX0 (k + 1) f fd ps sp := by
  obtain ⟨oc, od, T, kV, doc, pm, an, cdv, ct, osl, o, n, rfl, lk, hcd, lt, ld⟩ := F.ex
  refine fn_of lk hcd S len fun A outer s H vs Q E hr hsp => ?_
  obtain ⟨t, h, q⟩ := hbody cdv A outer s H vs Q E hr hsp
  exact ⟨t, h.nox, q⟩
theorem FunD.binds {x qual : Str} {st : Stmt} {items : Array Value} {f : Addr} {fd : FuncData} {ps : List Str} (F : FunD K x qual st items f fd) (ds : List Value)
    (h : ∀ (T : Addr) (kV doc pm : Value) (an : Option Addr) (cdv ct : Value) (us : List Value), (us ++ ds).length = ps.length → ∃ k : Option (Array Value) → Sem (List (Str × Value)), bindArgs (PySem.W.fnOf x qual (defArgs st) (defBody st) (defScope st) (.ref T) kV doc pm an cdv ct) ⟨us, []⟩ = seqItems? (.ref T) >>= k ∧ k (some items) = pure (ps.zip (us ++ ds))) : Binds K fd ps ds := by
  obtain ⟨oc, od, T, kV, doc, pm, an, cdv, ct, osl, o, n, rfl, lk, hcd, lt, ld⟩ := F.ex
  intro s us X hl
  obtain ⟨k, h1, h2⟩ := h T kV doc pm an cdv ct us hl
  exact BindsTo.of_defaults (fd := PySem.W.fnOf x qual (defArgs st) (defBody st) (defScope st) (.ref T) kV doc pm an cdv ct) rfl (X _ _ lt) ld h1 h2
end
end L2
namespace L2
open PySem PySem.Spec PyProof.Rows PySem.SeqAt
inductive Dt where
  | non
  | bl (b : Bool)
  | int (i : Int)
  | str (x : Str)
  | lst (ds : List Dt)
  | tup (ds : List Dt)
mutual
noncomputable def Dt.eq : Dt → Dt → Bool
  | .non, .non => true
  | .bl a, .bl b => a == b
  | .bl a, .int b => (if a then 1 else 0) == b
  | .int a, .bl b => a == (if b then 1 else 0)
  | .int a, .int b => a == b
  | .str a, .str b => a == b
  | .lst a, .lst b => Dt.eqs a b
  | .tup a, .tup b => Dt.eqs a b
  | _, _ => false
noncomputable def Dt.eqs : List Dt → List Dt → Bool
  | [], [] => true
  | a :: r, b :: t => Dt.eq a b && Dt.eqs r t
  | _, _ => false
end
mutual
noncomputable def Dt.dep : Dt → Nat
  | .lst ds => Dt.deps ds + 1
  | .tup ds => Dt.deps ds + 1
  | _ => 0
noncomputable def Dt.deps : List Dt → Nat
  | [] => 0
  | d :: r => max (Dt.dep d) (Dt.deps r)
end
mutual
/-- the value tells the datum -/
noncomputable def DV (K : PySem.W.Frag) (H : Hp) : Dt → V → Prop
  | .non, v => v = .non
  | .bl b, v => v = .bl b
  | .int i, v => v = .int i
  | .str x, v => v = .str x
  | .lst ds, v => ∃ a xs, v = .ref a ∧ SqL K H a xs ∧ DVs K H ds xs
  | .tup ds, v => ∃ a xs, v = .ref a ∧ SqT K H a xs ∧ DVs K H ds xs
noncomputable def DVs (K : PySem.W.Frag) (H : Hp) : List Dt → List V → Prop
  | [], xs => xs = []
  | d :: r, xs => ∃ x t, xs = x :: t ∧ DV K H d x ∧ DVs K H r t
end
theorem DVs.length {K : PySem.W.Frag} {H : Hp} : ∀ {ds : List Dt} {xs : List V}, DVs K H ds xs → ds.length = xs.length
  | [], xs, h => by unfold DVs at h; subst h; rfl
  | d :: r, xs, h => by
    unfold DVs at h
    obtain ⟨x, t, rfl, _, h⟩ := h
    rw [List.length_cons, List.length_cons, DVs.length h]
theorem DVs.get {K : PySem.W.Frag} {H : Hp} : ∀ {ds : List Dt} {xs : List V} {i : Nat} {d : Dt} {x : V}, DVs K H ds xs → ds[i]? = some d → xs[i]? = some x → DV K H d x
  | [], xs, i, d, x, h, e, _ => by simp at e
  | d0 :: r, xs, i, d, x, h, e1, e2 => by
    unfold DVs at h
    obtain ⟨x0, t, rfl, h0, h⟩ := h
    cases i with
    | zero => simp at e1 e2; subst e1 e2; exact h0
    | succ i => exact DVs.get (i := i) h (by simpa using e1) (by simpa using e2)
theorem Dt.dep_le : ∀ {ds : List Dt} {i : Nat} {d : Dt}, ds[i]? = some d → d.dep ≤ Dt.deps ds
  | [], i, d, e => by simp at e
  | d0 :: r, i, d, e => by
    unfold Dt.deps
    cases i with
    | zero => simp at e; subst e; exact Nat.le_max_left _ _
    | succ i => exact Nat.le_trans (Dt.dep_le (i := i) (by simpa using e)) (Nat.le_max_right _ _)
theorem Dt.eqs_range : ∀ (ds es : List Dt), ds.length = es.length → (List.range ds.length).all (fun j => Dt.eq (ds.getD j .non) (es.getD j .non)) = Dt.eqs ds es
  | [], [], _ => by unfold Dt.eqs; rfl
  | d :: r, e :: t, h => by
    have ih := Dt.eqs_range r t (by simpa using h)
    rw [List.length_cons, List.range_succ_eq_map, List.all_cons, List.all_map]
    unfold Dt.eqs
    rw [← ih]
    rfl
  | [], _ :: _, h => by simp at h
  | _ :: _, [], h => by simp at h
theorem Dt.eqs_len : ∀ (ds es : List Dt), ds.length ≠ es.length → Dt.eqs ds es = false
  | [], [], h => absurd rfl h
  | d :: r, e :: t, h => by
    unfold Dt.eqs
    rw [Dt.eqs_len r t (by simpa using h), Bool.and_false]
  | [], _ :: _, _ => by unfold Dt.eqs; rfl
  | _ :: _, [], _ => by unfold Dt.eqs; rfl

section
variable {X : Cx} {pins : List (Addr × Obj)} {σ : St} {H : Hp} {s : Shared}
theorem DV.same (I : Inv X pins σ H s) : ∀ (n : Nat) (d e : Dt) (x : V), d.dep ≤ n → DV X.K H d x → DV X.K H e x → Dt.eq d e = true := by
  intro n
  induction n with
  | zero =>
    intro d e x hn h1 h2
    cases d with
    | lst ds => unfold Dt.dep at hn; omega
    | tup ds => unfold Dt.dep at hn; omega
    | non => unfold DV at h1; subst h1; cases e <;> unfold DV at h2 <;> first | (cases h2; done) | (obtain ⟨_, _, z, _⟩ := h2; cases z; done) | (unfold Dt.eq; rfl)
    | bl b => unfold DV at h1; subst h1; cases e <;> unfold DV at h2 <;> first | (cases h2; unfold Dt.eq; simp; done) | (obtain ⟨_, _, z, _⟩ := h2; cases z; done) | (cases h2; done)
    | int b => unfold DV at h1; subst h1; cases e <;> unfold DV at h2 <;> first | (cases h2; unfold Dt.eq; simp; done) | (obtain ⟨_, _, z, _⟩ := h2; cases z; done) | (cases h2; done)
    | str b => unfold DV at h1; subst h1; cases e <;> unfold DV at h2 <;> first | (cases h2; unfold Dt.eq; simp; done) | (obtain ⟨_, _, z, _⟩ := h2; cases z; done) | (cases h2; done)
  | succ n ih =>
    intro d e x hn h1 h2
    have lists : ∀ (ds es : List Dt) (xs : List V), Dt.deps ds ≤ n → DVs X.K H ds xs → DVs X.K H es xs → Dt.eqs ds es = true := by
      intro ds es xs hd a b
      have l1 := a.length
      have l2 := b.length
      rw [← Dt.eqs_range ds es (l1.trans l2.symm), List.all_eq_true]
      intro j hj
      have hj' : j < ds.length := List.mem_range.mp hj
      have e1 : ds[j]? = some ds[j] := List.getElem?_eq_getElem hj'
      have e2 : es[j]? = some (es[j]'(by omega)) := List.getElem?_eq_getElem (by omega)
      have e3 : xs[j]? = some (xs[j]'(by omega)) := List.getElem?_eq_getElem (by omega)
      rw [List.getD_eq_getElem?_getD, List.getD_eq_getElem?_getD, e1, e2]
      exact ih _ _ _ (Nat.le_trans (Dt.dep_le e1) hd) (a.get e1 e3) (b.get e2 e3)
    cases d with
    | lst ds =>
      unfold Dt.dep at hn
      unfold DV at h1
      obtain ⟨a, xs, rfl, q1, r1⟩ := h1
      cases e with
      | lst es =>
        unfold DV at h2
        obtain ⟨b, ys, z, q2, r2⟩ := h2
        cases z
        rw [I.list_inj q2 q1] at r2
        unfold Dt.eq
        exact lists ds es xs (by omega) r1 r2
      | tup es =>
        unfold DV at h2
        obtain ⟨b, ys, z, q2, r2⟩ := h2
        cases z
        obtain ⟨i1, _, p1, _⟩ := I.list q1
        obtain ⟨i2, _, p2, _⟩ := I.tuple q2
        obtain ⟨o1, g1, c1, _⟩ := p1.isList
        have p2' : s.heap.IsTuple a i2.toArray := p2
        obtain ⟨o2, g2, c2, _⟩ := p2'
        rw [g1] at g2
        cases g2
        rw [c1] at c2
        exact absurd c2 (by decide)
      | non => unfold DV at h2; cases h2
      | bl b => unfold DV at h2; cases h2
      | int b => unfold DV at h2; cases h2
      | str b => unfold DV at h2; cases h2
    | tup ds =>
      unfold Dt.dep at hn
      unfold DV at h1
      obtain ⟨a, xs, rfl, q1, r1⟩ := h1
      cases e with
      | tup es =>
        unfold DV at h2
        obtain ⟨b, ys, z, q2, r2⟩ := h2
        cases z
        rw [I.tuple_inj q2 q1] at r2
        unfold Dt.eq
        exact lists ds es xs (by omega) r1 r2
      | lst es =>
        unfold DV at h2
        obtain ⟨b, ys, z, q2, r2⟩ := h2
        cases z
        obtain ⟨i1, _, p1, _⟩ := I.list q2
        obtain ⟨i2, _, p2, _⟩ := I.tuple q1
        obtain ⟨o1, g1, c1, _⟩ := p1.isList
        have p2' : s.heap.IsTuple a i2.toArray := p2
        obtain ⟨o2, g2, c2, _⟩ := p2'
        rw [g1] at g2
        cases g2
        rw [c1] at c2
        exact absurd c2 (by decide)
      | non => unfold DV at h2; cases h2
      | bl b => unfold DV at h2; cases h2
      | int b => unfold DV at h2; cases h2
      | str b => unfold DV at h2; cases h2
    | non => exact ih _ e x (by unfold Dt.dep; omega) h1 h2
    | bl b => exact ih _ e x (by unfold Dt.dep; omega) h1 h2
    | int b => exact ih _ e x (by unfold Dt.dep; omega) h1 h2
    | str b => exact ih _ e x (by unfold Dt.dep; omega) h1 h2
end
end L2
namespace L2
open PySem PySem.Spec PyProof.Rows PySem.SeqAt
section
variable {X : Cx} {pins : List (Addr × Obj)} {σ : St} {H : Hp} {s : Shared}
theorem dvs_items {K : PySem.W.Frag} {ds : List Dt} {xs : List V} {its : List Value} (h : DVs K H ds xs) (rv : Vals xs its) {j : Nat} (hj : j < its.toArray.size) : ∃ d x, ds[j]? = some d ∧ xs[j]? = some x ∧ DV K H d x ∧ RelV x (its.toArray[j]) ∧ ds.getD j .non = d := by
  have hj' : j < its.length := by simpa using hj
  have l1 := h.length
  have l2 := rv.length
  have e1 : ds[j]? = some (ds[j]'(by omega)) := List.getElem?_eq_getElem (by omega)
  have e2 : xs[j]? = some (xs[j]'(by omega)) := List.getElem?_eq_getElem (by omega)
  obtain ⟨u, hu, ru⟩ := rv.get e2
  refine ⟨_, _, e1, e2, h.get e1 e2, ?_, by rw [List.getD_eq_getElem?_getD, e1]; rfl⟩
  have : its.toArray[j] = u := by
    have q : its[j]? = some its[j] := List.getElem?_eq_getElem hj'
    rw [q] at hu
    simpa using Option.some.inj hu
  rw [this]
  exact ru
theorem in1_units (A : Around) : A.in1.units = A.units + 1 := rfl
theorem eq_all (I : Inv X pins σ H s) : ∀ (n : Nat) (d e : Dt) (x y : V) (u v : Value) (A : Around), d.dep ≤ n → A.units + n < cLine → DV X.K H d x → DV X.K H e y → RelV x u → RelV y v →
    EqAt A s u v (Dt.eq d e) ∧ RcAt A s u v (Dt.eq d e) ∧ RcNeAt A s u v (!Dt.eq d e) := by
  intro n
  induction n with
  | zero =>
    intro d e x y u v A hn hA h1 h2 r1 r2
    have hu : A.units < cLine := by omega
    cases d with
    | lst ds => unfold Dt.dep at hn; omega
    | tup ds => unfold Dt.dep at hn; omega
    | non =>
      unfold DV at h1; subst h1; cases r1
      cases e <;> unfold DV at h2
      case lst es => obtain ⟨a, xs, rfl, q, _⟩ := h2; cases r2; obtain ⟨its, _, p, _⟩ := I.list q; unfold Dt.eq; exact ⟨EqAt.none_list p.isList hu, RcAt.none_list p.isList hu, RcNeAt.none_list p.isList hu⟩
      case tup es => obtain ⟨a, xs, rfl, q, _⟩ := h2; cases r2; obtain ⟨its, _, p, _⟩ := I.tuple q; unfold Dt.eq; exact ⟨EqAt.none_tuple (show s.heap.IsTuple a its.toArray from p) hu, RcAt.none_tuple (show s.heap.IsTuple a its.toArray from p) hu, RcNeAt.none_tuple (show s.heap.IsTuple a its.toArray from p) hu⟩
      case non => subst h2; cases r2; unfold Dt.eq; exact ⟨EqAt.same _, RcAt.none_none, RcNeAt.none_none⟩
      case bl b => subst h2; cases r2; unfold Dt.eq; exact ⟨EqAt.none_bool _, RcAt.none_bool _, RcNeAt.none_bool _⟩
      case int b => subst h2; obtain ⟨t, rfl⟩ := r2; unfold Dt.eq; exact ⟨EqAt.none_int _ _, RcAt.none_int _ _, RcNeAt.none_int _ _⟩
      case str b => subst h2; obtain ⟨t, rfl⟩ := r2; unfold Dt.eq; exact ⟨EqAt.none_str _ _, RcAt.none_str _ _, RcNeAt.none_str _ _⟩
    | bl b0 =>
      unfold DV at h1; subst h1; cases r1
      cases e <;> unfold DV at h2
      case lst es => obtain ⟨a, xs, rfl, q, _⟩ := h2; cases r2; obtain ⟨its, _, p, _⟩ := I.list q; unfold Dt.eq; exact ⟨EqAt.bool_list _ p.isList hu, RcAt.bool_list _ p.isList hu, RcNeAt.bool_list _ p.isList hu⟩
      case tup es => obtain ⟨a, xs, rfl, q, _⟩ := h2; cases r2; obtain ⟨its, _, p, _⟩ := I.tuple q; unfold Dt.eq; exact ⟨EqAt.bool_tuple _ (show s.heap.IsTuple a its.toArray from p) hu, RcAt.bool_tuple _ (show s.heap.IsTuple a its.toArray from p) hu, RcNeAt.bool_tuple _ (show s.heap.IsTuple a its.toArray from p) hu⟩
      case non => subst h2; cases r2; unfold Dt.eq; exact ⟨EqAt.bool_none _, RcAt.bool_none _, RcNeAt.bool_none _⟩
      case bl b => subst h2; cases r2; unfold Dt.eq; exact ⟨EqAt.bool_bool _ _, RcAt.bool_bool _ _, RcNeAt.bool_bool _ _⟩
      case int b => subst h2; obtain ⟨t, rfl⟩ := r2; unfold Dt.eq; exact ⟨EqAt.bool_int _ _ _, RcAt.bool_int _ _ _, RcNeAt.bool_int _ _ _⟩
      case str b => subst h2; obtain ⟨t, rfl⟩ := r2; unfold Dt.eq; exact ⟨EqAt.bool_str _ _ _, RcAt.bool_str _ _ _, RcNeAt.bool_str _ _ _⟩
    | int b0 =>
      unfold DV at h1; subst h1; obtain ⟨t0, rfl⟩ := r1
      cases e <;> unfold DV at h2
      case lst es => obtain ⟨a, xs, rfl, q, _⟩ := h2; cases r2; obtain ⟨its, _, p, _⟩ := I.list q; unfold Dt.eq; exact ⟨EqAt.int_list _ _ p.isList hu, RcAt.int_list _ _ p.isList hu, RcNeAt.int_list _ _ p.isList hu⟩
      case tup es => obtain ⟨a, xs, rfl, q, _⟩ := h2; cases r2; obtain ⟨its, _, p, _⟩ := I.tuple q; unfold Dt.eq; exact ⟨EqAt.int_tuple _ _ (show s.heap.IsTuple a its.toArray from p) hu, RcAt.int_tuple _ _ (show s.heap.IsTuple a its.toArray from p) hu, RcNeAt.int_tuple _ _ (show s.heap.IsTuple a its.toArray from p) hu⟩
      case non => subst h2; cases r2; unfold Dt.eq; exact ⟨EqAt.int_none _ _, RcAt.int_none _ _, RcNeAt.int_none _ _⟩
      case bl b => subst h2; cases r2; unfold Dt.eq; exact ⟨EqAt.int_bool _ _ _, RcAt.int_bool _ _ _, RcNeAt.int_bool _ _ _⟩
      case int b => subst h2; obtain ⟨t, rfl⟩ := r2; unfold Dt.eq; exact ⟨EqAt.int_int _ _ _ _, RcAt.int_int _ _ _ _, RcNeAt.int_int _ _ _ _⟩
      case str b => subst h2; obtain ⟨t, rfl⟩ := r2; unfold Dt.eq; exact ⟨EqAt.int_str _ _ _ _, RcAt.int_str _ _ _ _, RcNeAt.int_str _ _ _ _⟩
    | str b0 =>
      unfold DV at h1; subst h1; obtain ⟨t0, rfl⟩ := r1
      cases e <;> unfold DV at h2
      case lst es => obtain ⟨a, xs, rfl, q, _⟩ := h2; cases r2; obtain ⟨its, _, p, _⟩ := I.list q; unfold Dt.eq; exact ⟨EqAt.str_list _ _ p.isList hu, RcAt.str_list _ _ p.isList hu, RcNeAt.str_list _ _ p.isList hu⟩
      case tup es => obtain ⟨a, xs, rfl, q, _⟩ := h2; cases r2; obtain ⟨its, _, p, _⟩ := I.tuple q; unfold Dt.eq; exact ⟨EqAt.str_tuple _ _ (show s.heap.IsTuple a its.toArray from p) hu, RcAt.str_tuple _ _ (show s.heap.IsTuple a its.toArray from p) hu, RcNeAt.str_tuple _ _ (show s.heap.IsTuple a its.toArray from p) hu⟩
      case non => subst h2; cases r2; unfold Dt.eq; exact ⟨EqAt.str_none _ _, RcAt.str_none _ _, RcNeAt.str_none _ _⟩
      case bl b => subst h2; cases r2; unfold Dt.eq; exact ⟨EqAt.str_bool _ _ _, RcAt.str_bool _ _ _, RcNeAt.str_bool _ _ _⟩
      case int b => subst h2; obtain ⟨t, rfl⟩ := r2; unfold Dt.eq; exact ⟨EqAt.str_int _ _ _ _, RcAt.str_int _ _ _ _, RcNeAt.str_int _ _ _ _⟩
      case str b => subst h2; obtain ⟨t, rfl⟩ := r2; unfold Dt.eq; exact ⟨EqAt.str_str _ _ _ _, RcAt.str_str _ _ _ _, RcNeAt.str_str _ _ _ _⟩
  | succ n ih =>
    intro d e x y u v A hn hA h1 h2 r1 r2
    have hu : A.units < cLine := by omega
    -- from the comparison of two objects to the test with identity
    have wrap : ∀ (a b : Addr), u = .ref a → v = .ref b → x = .ref a → y = .ref b → RcAt A s u v (Dt.eq d e) → EqAt A s u v (Dt.eq d e) := fun a b eu ev ex ey rc => by
      subst eu ev ex ey
      by_cases hab : a = b
      · subst hab
        rw [DV.same I (n + 1) d e (.ref a) hn h1 h2]
        exact EqAt.same _
      · exact EqAt.of_refs hab rc
    have items : ∀ (ds es : List Dt) (xs ys : List V) (its jts : List Value), Dt.deps ds ≤ n → DVs X.K H ds xs → DVs X.K H es ys → Vals xs its → Vals ys jts →
        ∀ j (g1 : j < its.toArray.size) (g2 : j < jts.toArray.size), EqAt A.in1 s its.toArray[j] jts.toArray[j] (Dt.eq (ds.getD j .non) (es.getD j .non)) := by
      intro ds es xs ys its jts hd a b ra rb j g1 g2
      obtain ⟨d', x', e1, _, v1, q1, z1⟩ := dvs_items a ra g1
      obtain ⟨d'', x'', e2, _, v2, q2, z2⟩ := dvs_items b rb g2
      rw [z1, z2]
      exact (ih d' d'' x' x'' _ _ A.in1 (Nat.le_trans (Dt.dep_le e1) hd) (by rw [in1_units]; omega) v1 v2 q1 q2).1
    cases d with
    | lst ds =>
      unfold Dt.dep at hn
      unfold DV at h1
      obtain ⟨a, xs, rfl, q1, w1⟩ := id h1
      cases r1
      obtain ⟨its, rv, p, _⟩ := I.list q1
      cases e with
      | lst es =>
        unfold DV at h2
        obtain ⟨b, ys, rfl, q2, w2⟩ := id h2
        cases r2
        obtain ⟨jts, rv2, p2, _⟩ := I.list q2
        have rcs : RcAt A s (.ref a) (.ref b) (Dt.eq (.lst ds) (.lst es)) ∧ RcNeAt A s (.ref a) (.ref b) (!Dt.eq (.lst ds) (.lst es)) := by
          unfold Dt.eq
          have l1 : its.toArray.size = ds.length := by rw [List.size_toArray, ← rv.length, w1.length]
          have l2 : jts.toArray.size = es.length := by rw [List.size_toArray, ← rv2.length, w2.length]
          by_cases hl : ds.length = es.length
          · have hi := items ds es xs ys its jts (by omega) w1 w2 rv rv2
            rw [← Dt.eqs_range ds es hl, ← l1]
            exact ⟨RcAt.lists p.isList p2.isList (by omega) hu hi, RcNeAt.lists p.isList p2.isList (by omega) hu hi⟩
          · have hne : (its.toArray.size != jts.toArray.size) = true := by rw [l1, l2]; simpa using hl
            rw [Dt.eqs_len ds es hl]
            exact ⟨RcAt.lists_lengths p.isList p2.isList hne hu, RcNeAt.lists_lengths p.isList p2.isList hne hu⟩
        exact ⟨wrap a b rfl rfl rfl rfl rcs.1, rcs⟩
      | tup es =>
        unfold DV at h2
        obtain ⟨b, ys, rfl, q2, w2⟩ := id h2
        cases r2
        obtain ⟨jts, rv2, p2, _⟩ := I.tuple q2
        have p2' : s.heap.IsTuple b jts.toArray := p2
        unfold Dt.eq
        exact ⟨EqAt.list_tuple p.isList p2' hu, RcAt.list_tuple p.isList p2' hu, RcNeAt.list_tuple p.isList p2' hu⟩
      | non => unfold DV at h2; subst h2; cases r2; unfold Dt.eq; exact ⟨EqAt.list_none p.isList hu, RcAt.list_none p.isList hu, RcNeAt.list_none p.isList hu⟩
      | bl b => unfold DV at h2; subst h2; cases r2; unfold Dt.eq; exact ⟨EqAt.list_bool _ p.isList hu, RcAt.list_bool _ p.isList hu, RcNeAt.list_bool _ p.isList hu⟩
      | int b => unfold DV at h2; subst h2; obtain ⟨t, rfl⟩ := r2; unfold Dt.eq; exact ⟨EqAt.list_int _ _ p.isList hu, RcAt.list_int _ _ p.isList hu, RcNeAt.list_int _ _ p.isList hu⟩
      | str b => unfold DV at h2; subst h2; obtain ⟨t, rfl⟩ := r2; unfold Dt.eq; exact ⟨EqAt.list_str _ _ p.isList hu, RcAt.list_str _ _ p.isList hu, RcNeAt.list_str _ _ p.isList hu⟩
    | tup ds =>
      unfold Dt.dep at hn
      unfold DV at h1
      obtain ⟨a, xs, rfl, q1, w1⟩ := id h1
      cases r1
      obtain ⟨its, rv, p0, _⟩ := I.tuple q1
      have p : s.heap.IsTuple a its.toArray := p0
      cases e with
      | tup es =>
        unfold DV at h2
        obtain ⟨b, ys, rfl, q2, w2⟩ := id h2
        cases r2
        obtain ⟨jts, rv2, p20, _⟩ := I.tuple q2
        have p2 : s.heap.IsTuple b jts.toArray := p20
        have l1 : its.toArray.size = ds.length := by rw [List.size_toArray, ← rv.length, w1.length]
        have l2 : jts.toArray.size = es.length := by rw [List.size_toArray, ← rv2.length, w2.length]
        have hi := items ds es xs ys its jts (by omega) w1 w2 rv rv2
        have ev : ((List.range (min its.toArray.size jts.toArray.size)).all (fun j => Dt.eq (ds.getD j .non) (es.getD j .non)) && its.toArray.size == jts.toArray.size) = Dt.eqs ds es := by
          rw [l1, l2]
          by_cases hl : ds.length = es.length
          · rw [← Dt.eqs_range ds es hl, hl, Nat.min_self]
            simp
          · rw [Dt.eqs_len ds es hl]
            simp [hl]
        have rcs : RcAt A s (.ref a) (.ref b) (Dt.eq (.tup ds) (.tup es)) ∧ RcNeAt A s (.ref a) (.ref b) (!Dt.eq (.tup ds) (.tup es)) := by
          unfold Dt.eq
          rw [← ev]
          exact ⟨RcAt.tuples p p2 hu hi, RcNeAt.tuples p p2 hu hi⟩
        exact ⟨wrap a b rfl rfl rfl rfl rcs.1, rcs⟩
      | lst es =>
        unfold DV at h2
        obtain ⟨b, ys, rfl, q2, w2⟩ := id h2
        cases r2
        obtain ⟨jts, rv2, p2, _⟩ := I.list q2
        unfold Dt.eq
        exact ⟨EqAt.tuple_list p p2.isList hu, RcAt.tuple_list p p2.isList hu, RcNeAt.tuple_list p p2.isList hu⟩
      | non => unfold DV at h2; subst h2; cases r2; unfold Dt.eq; exact ⟨EqAt.tuple_none p hu, RcAt.tuple_none p hu, RcNeAt.tuple_none p hu⟩
      | bl b => unfold DV at h2; subst h2; cases r2; unfold Dt.eq; exact ⟨EqAt.tuple_bool _ p hu, RcAt.tuple_bool _ p hu, RcNeAt.tuple_bool _ p hu⟩
      | int b => unfold DV at h2; subst h2; obtain ⟨t, rfl⟩ := r2; unfold Dt.eq; exact ⟨EqAt.tuple_int _ _ p hu, RcAt.tuple_int _ _ p hu, RcNeAt.tuple_int _ _ p hu⟩
      | str b => unfold DV at h2; subst h2; obtain ⟨t, rfl⟩ := r2; unfold Dt.eq; exact ⟨EqAt.tuple_str _ _ p hu, RcAt.tuple_str _ _ p hu, RcNeAt.tuple_str _ _ p hu⟩
    | non => exact ih _ e x y u v A (by unfold Dt.dep; omega) (by omega) h1 h2 r1 r2
    | bl b => exact ih _ e x y u v A (by unfold Dt.dep; omega) (by omega) h1 h2 r1 r2
    | int b => exact ih _ e x y u v A (by unfold Dt.dep; omega) (by omega) h1 h2 r1 r2
    | str b => exact ih _ e x y u v A (by unfold Dt.dep; omega) (by omega) h1 h2 r1 r2
end
noncomputable def rEqD (K : PySem.W.Frag) : R2 := fun x y H Q => ∃ d e, DV K H d x ∧ DV K H e y ∧ d.dep ≤ 64 ∧ Q (.bl (Dt.eq d e)) H
noncomputable def rNeD (K : PySem.W.Frag) : R2 := fun x y H Q => ∃ d e, DV K H d x ∧ DV K H e y ∧ d.dep ≤ 64 ∧ Q (.bl (!Dt.eq d e)) H
section
variable {X : Cx}
theorem op_eqD (hu : X.A.units + 64 < cLine) : OpR X (compareOp .Eq) (rEqD X.K) := by
  intro pins s σ H x y v u Q I rx ry h
  obtain ⟨d, e, h1, h2, hd, q⟩ := h
  exact (eq_all I 64 d e x y v u X.A hd hu h1 h2 rx ry).2.1 _ _ _ _ ⟨.bl (Dt.eq d e), H, I, rfl, q⟩
theorem op_neD (hu : X.A.units + 64 < cLine) : OpR X (compareOp .NotEq) (rNeD X.K) := by
  intro pins s σ H x y v u Q I rx ry h
  obtain ⟨d, e, h1, h2, hd, q⟩ := h
  exact (eq_all I 64 d e x y v u X.A hd hu h1 h2 rx ry).2.2 _ _ _ _ ⟨.bl (!Dt.eq d e), H, I, rfl, q⟩
end
noncomputable def Dt.ints (ns : List Int) : List Dt := ns.map Dt.int
theorem dvs_ints {K : PySem.W.Frag} {H : Hp} : ∀ ns : List Int, DVs K H (Dt.ints ns) (ns.map V.int)
  | [] => by unfold Dt.ints DVs; rfl
  | n :: r => by
    show DVs K H (Dt.int n :: Dt.ints r) (V.int n :: r.map V.int)
    unfold DVs
    exact ⟨_, _, rfl, by unfold DV; rfl, dvs_ints r⟩
theorem eqs_ints : ∀ ns ms : List Int, Dt.eqs (Dt.ints ns) (Dt.ints ms) = decide (ns = ms)
  | [], [] => by unfold Dt.ints Dt.eqs; rfl
  | n :: r, m :: t => by
    show Dt.eqs (Dt.int n :: Dt.ints r) (Dt.int m :: Dt.ints t) = _
    unfold Dt.eqs Dt.eq
    rw [eqs_ints r t]
    by_cases h1 : n = m
    · subst h1
      by_cases h2 : r = t
      · subst h2; simp
      · simp [h2]
    · simp [h1]
  | [], _ :: _ => by unfold Dt.ints Dt.eqs; rfl
  | _ :: _, [] => by unfold Dt.ints Dt.eqs; rfl
theorem deps_ints : ∀ ns : List Int, Dt.deps (Dt.ints ns) = 0
  | [] => by unfold Dt.ints Dt.deps; rfl
  | n :: r => by
    show Dt.deps (Dt.int n :: Dt.ints r) = 0
    unfold Dt.deps
    rw [deps_ints r]
    unfold Dt.dep
    rfl
theorem dv_lints {K : PySem.W.Frag} {H : Hp} {a : Addr} {ns : List Int} (h : SqL K H a (ns.map V.int)) : DV K H (.lst (Dt.ints ns)) (.ref a) := by unfold DV; exact ⟨a, _, rfl, h, dvs_ints ns⟩
section
variable {H : Hp} {Q : VK} {K : PySem.W.Frag} {a b : Addr}
theorem rd_eqLI {ns ms : List Int} (h1 : SqL K H a (ns.map V.int)) (h2 : SqL K H b (ms.map V.int)) (q : Q (.bl (decide (ns = ms))) H) : rEqD K (.ref a) (.ref b) H Q := by
  refine ⟨_, _, dv_lints h1, dv_lints h2, by unfold Dt.dep; rw [deps_ints]; decide, ?_⟩
  unfold Dt.eq
  rw [eqs_ints]
  exact q
end
mutual
theorem DV.keep {K : PySem.W.Frag} {H H' : Hp} (s : Same H H') : ∀ {d : Dt} {v : V}, DV K H d v → DV K H' d v
  | .non, v, h => by unfold DV at h ⊢; exact h
  | .bl b, v, h => by unfold DV at h ⊢; exact h
  | .int i, v, h => by unfold DV at h ⊢; exact h
  | .str x, v, h => by unfold DV at h ⊢; exact h
  | .lst ds, v, h => by
    unfold DV at h ⊢
    obtain ⟨a, xs, e, q, r⟩ := h
    exact ⟨a, xs, e, s.seq q, DVs.keep s r⟩
  | .tup ds, v, h => by
    unfold DV at h ⊢
    obtain ⟨a, xs, e, q, r⟩ := h
    exact ⟨a, xs, e, s.tup q, DVs.keep s r⟩
theorem DVs.keep {K : PySem.W.Frag} {H H' : Hp} (s : Same H H') : ∀ {ds : List Dt} {xs : List V}, DVs K H ds xs → DVs K H' ds xs
  | [], xs, h => by unfold DVs at h ⊢; exact h
  | d :: r, xs, h => by
    unfold DVs at h ⊢
    obtain ⟨x, t, e, h1, h2⟩ := h
    exact ⟨x, t, e, DV.keep s h1, DVs.keep s h2⟩
end
end L2
namespace L2
open PySem PySem.Spec PyProof.Rows Builtin Builtin.Str

end L2
namespace L2
open PySem PySem.Spec PyProof.Rows Builtin Builtin.Str

noncomputable abbrev RM := V → List V → Hp → VK → Prop
section
variable {X : Cx}
variable {o e : Expr} {es : List Expr} {to : TE} {t : TA} {apos cpos : Pos}
end
section
variable {X : Cx} {H : Hp} {Q : VK} {K : PySem.W.Frag} {z y : Str} {p : Addr} {ts : List Str}
end
end L2
namespace L2
open PySem PySem.Spec PyProof.Rows Builtin Builtin.Str

end L2
namespace L2
open PySem PySem.Spec PyProof.Rows Builtin Builtin.Str

noncomputable def rIsN : R2 := fun x y H Q => y = .non ∧ Q (.bl (decide (x = .non))) H
section
variable {X : Cx} {σ : St} {H : Hp} {Q : VK} {K : PySem.W.Frag} {z y : Str} {R : Prop}
theorem op_isNn : OpR X (compareOp .Is) rIsN := op_isN
theorem rd_isN0 (q : Q (.bl true) H) : rIsN .non .non H Q := ⟨rfl, by rw [decide_eq_true rfl]; exact q⟩
theorem rd_isNr {p : Addr} (q : Q (.bl false) H) : rIsN (.ref p) .non H Q := ⟨rfl, by rw [decide_eq_false (fun e => nomatch e)]; exact q⟩
end
theorem atI_some {α : Type} {xs : List α} {i : Int} (h0 : 0 ≤ i) (h : i < xs.length) : ∃ c, atI xs i = some c ∧ xs[i.toNat]? = some c := by
  have hl : i.toNat < xs.length := by omega
  exact ⟨xs[i.toNat], atI_nat' (i := i.toNat) (by simp [hl]) (by omega), by simp [hl]⟩
section
variable {H : Hp} {Q : VK} {z y : Str} {i : Int} {lo hi : Option Int}
end
end L2
namespace L2
open PySem PySem.Spec PyProof.Rows
noncomputable def rListOf (K : PySem.W.Frag) : RC := fun xs H Q => ∃ p ys, xs = [.ref p] ∧ (SqL K H p ys ∨ SqT K H p ys) ∧ ∀ l, H l = none → Q (.ref l) (upd H l (.lst ys))
theorem ct_list {X : Cx} : CallR X (.type "list") (rListOf X.K) := call_list_of
section
variable {H : Hp} {Q : VK} {K : PySem.W.Frag} {p : Addr} {xs : List V}
theorem rd_listL (h : SqL K H p xs) (q : ∀ l, H l = none → Q (.ref l) (upd H l (.lst xs))) : rListOf K [.ref p] H Q := ⟨p, xs, rfl, .inl h, q⟩
end
theorem atI_end {α : Type} {xs : List α} {n : Nat} {v : α} (h : xs[n]? = some v) (e : xs.length = n + 1) : atI xs (-1) = some v := by
  have hn : xs ≠ [] := by intro z; rw [z] at e; simp at e
  have h2 : xs = xs.dropLast ++ [v] := by
    have h3 := List.dropLast_concat_getLast hn
    have h4 : xs.getLast hn = v := by
      rw [List.getLast_eq_getElem]
      obtain ⟨_, q⟩ := List.getElem?_eq_some_iff.mp h
      simpa [e] using q
    rw [h4] at h3
    exact h3.symm
  rw [h2]
  exact atI_last _ _
end L2
namespace L2
open PySem PySem.Spec PyProof.Rows
structure ClsF (K : PySem.W.Frag) (mg : Str → Option Value) (x : Str) (C : Addr) : Prop where
  cl : Cls K C
  ms : PySem.W.makesIn K C = true
  kc : PySem.W.keepIn K (.ref C) = true
  mgC : mg x = some (.ref C)
noncomputable def MethAt (K : PySem.W.Frag) (C : Addr) (m qual : Str) (st : Stmt) : Prop := ∃ f fd, Fun K m qual st f fd ∧ PySem.W.findIn K (.ref C) m = some (some (.ref f)) ∧ PySem.W.isFn K (.ref f) = true
noncomputable def MCal (P : Program) (w : World) (K : PySem.W.Frag) (mg : Str → Option Value) (base : Heap) (k : Nat) (C : Addr) (m : Str) (sp : Sp) : Prop :=
  Cls K C ∧ ∃ f fd ps, Meth K C m f ∧ FnOk P w K mg base CX0 k f fd ps sp ∧ Binds K fd ps []
noncomputable def ICal (P : Program) (w : World) (K : PySem.W.Frag) (mg : Str → Option Value) (base : Heap) (k : Nat) (x : Str) (C : Addr) (sp : Sp) : Prop :=
  mg x = some (.ref C) ∧ ∃ f fd ps, Mk K C f ∧ FnOk P w K mg base CX0 k f fd ps sp ∧ Binds K fd ps []
section
variable {P : Program} {w : World} {K : PySem.W.Frag} {mg : Str → Option Value} {base : Heap}
theorem methAt_mk {C : Addr} {m qual : Str} {st : Stmt} {f : Addr} {oc : Value} {od an : Option Addr} {osl : Array (Option Value)} {kV doc pm cdv ct : Value}
    (a : PySem.W.findIn K (.ref C) m = some (some (.ref f))) (i : PySem.W.isFn K (.ref f) = true) (l : K.lookup f = some ⟨oc, od, .func (PySem.W.fnOf m qual (defArgs st) (defBody st) (defScope st) .none kV doc pm an cdv ct), osl⟩)
    (c : PySem.W.codeIn K cdv qual = true) (k : PySem.W.keepIn K (.ref f) = true) : MethAt K C m qual st := ⟨f, _, fun_mk l c k, a, i⟩
theorem mcal_of {C : Addr} {m qual : Str} {st : Stmt} {N ps : List Str} {k : Nat} {sp : Sp} (D : MethAt K C m qual st) (c : Cls K C) (S : FnScope N ps (defScope st)) (len : ∀ vs H Q E, sp vs H Q E → vs.length = ps.length)
    (hb : ∀ (kV doc pm : Value) (an : Option Addr) (cdv ct : Value) (us : List Value), us.length = ps.length → bindArgs (PySem.W.fnOf m qual (defArgs st) (defBody st) (defScope st) .none kV doc pm an cdv ct) ⟨us, []⟩ = pure (ps.zip us))
    (hbody : ∀ (f : Addr) (cdv : Value) (A : Around) (outer : List Env) (s : Shared) (H : Hp) (vs : List V) (Q : VK) (E : XK), Room k (A.deeper (envOfC qual (defScope st) s.heap.objs.size f cdv)) → sp vs H Q E →
      ∃ t, PSs (cxOf CX0 P w K mg base N qual (defScope st) f cdv A outer s H E).nox (defBody st) t ∧ t { nx := fun _ H' => Q .non H', rt := Q } (start N vs) H) : MCal P w K mg base (k + 1) C m sp := by
  obtain ⟨f, fd, F, a, i⟩ := D
  exact ⟨c, f, fd, ps, ⟨a, i, F.kp⟩, F.ok S len (hbody f), F.binds hb⟩
theorem ical_of {C : Addr} {x qual : Str} {st : Stmt} {N ps : List Str} {k : Nat} {sp : Sp} (D : MethAt K C "__init__" qual st) (c : ClsF K mg x C) (S : FnScope N ps (defScope st)) (len : ∀ vs H Q E, sp vs H Q E → vs.length = ps.length)
    (hb : ∀ (kV doc pm : Value) (an : Option Addr) (cdv ct : Value) (us : List Value), us.length = ps.length → bindArgs (PySem.W.fnOf "__init__" qual (defArgs st) (defBody st) (defScope st) .none kV doc pm an cdv ct) ⟨us, []⟩ = pure (ps.zip us))
    (hbody : ∀ (f : Addr) (cdv : Value) (A : Around) (outer : List Env) (s : Shared) (H : Hp) (vs : List V) (Q : VK) (E : XK), Room k (A.deeper (envOfC qual (defScope st) s.heap.objs.size f cdv)) → sp vs H Q E →
      ∃ t, PSs (cxOf CX0 P w K mg base N qual (defScope st) f cdv A outer s H E).nox (defBody st) t ∧ t { nx := fun _ H' => Q .non H', rt := Q } (start N vs) H) : ICal P w K mg base (k + 1) x C sp := by
  obtain ⟨f, fd, F, a, i⟩ := D
  exact ⟨c.mgC, f, fd, ps, ⟨c.ms, a, i, c.kc⟩, F.ok S len (hbody f), F.binds hb⟩
theorem MCal.mono {j k : Nat} {C : Addr} {m : Str} {sp : Sp} (c : MCal P w K mg base j C m sp) (h : j ≤ k) : MCal P w K mg base k C m sp :=
  let ⟨cl, f, fd, ps, M, F, b⟩ := c
  ⟨cl, f, fd, ps, M, F.mono h, b⟩
end
section
variable {X : Cx} {k : Nat} {C : Addr} {sp : Sp} {x m : Str} {p pos apos : Pos} {e o : Expr} {es : List Expr} {ta : TE} {t : TA}
theorem pe_mcal {pl : Sem Bool} (c : MCal X.prog X.w X.K X.mg X.base k C m sp) (hr : Room k X.A) (he : PE X o ta) (ha : PA X (e :: es) t)
    (hst : starEach (e :: es) X.env = (false, eval e X.env) :: starEach es X.env := by rfl) (hpl : (backTo pos (starEach es X.env)).any (·.1) = false := by rfl)
    (ht : eval (.Call (.Attribute o m apos) (e :: es) [] pos) X.env = (do
      let ov ← eval o X.env
      standAt apos.atName
      let (f, first) ← holding [ov] (getMethod ov m pl)
      callWith pos f first (backTo pos (starEach (e :: es) X.env)) (backToKw pos (keywordEach [] X.env))) := by rfl) :
    PE X (.Call (.Attribute o m apos) (e :: es) [] pos) (tMeth C m sp [] E0 ta t) := by
  obtain ⟨cl, f, fd, ps, M, F, b⟩ := c
  exact pe_meth he cl M F hr b .nil pass0 ha hst hpl ht
theorem pe_mcal0 {pl : Sem Bool} (c : MCal X.prog X.w X.K X.mg X.base k C m sp) (hr : Room k X.A) (he : PE X o ta)
    (ht : eval (.Call (.Attribute o m apos) [] [] pos) X.env = (do
      let ov ← eval o X.env
      standAt apos.atName
      let (f, first) ← holding [ov] (getMethod ov m pl)
      callWith pos f first (backTo pos (starEach [] X.env)) (backToKw pos (keywordEach [] X.env))) := by rfl) :
    PE X (.Call (.Attribute o m apos) [] [] pos) (tMeth C m sp [] E0 ta tNil) := by
  obtain ⟨cl, f, fd, ps, M, F, b⟩ := c
  exact pe_meth0 he cl M F hr b .nil pass0 ht
theorem pe_ical (c : ICal X.prog X.w X.K X.mg X.base k x C sp) (hr : Room (k + 1) X.A) (hg : Gl X x) (ha : PA X (e :: es) t) (hdb : (x == ("__debug__" : Str)) = false := by decide)
    (he : starEach (e :: es) X.env = (false, eval e X.env) :: starEach es X.env := by rfl) (hpl : (backTo pos (starEach es X.env)).any (·.1) = false := by rfl) :
    PE X (.Call (.Name x p) (e :: es) [] pos) (tMake C sp [] E0 t) := by
  obtain ⟨m, f, fd, ps, M, F, b⟩ := c
  exact pe_make M F hr hg m b .nil pass0 ha hdb he hpl
noncomputable def tMethD (T : Addr → Sp → Prop) (m : Str) (ta : TE) (t : TA) : TE := fun σ H Q => ta σ H fun x H1 => ∃ a C dx fs sp, x = .ref a ∧ H1 a = some (.ins C dx fs) ∧ fs.lookup m = none ∧ T C sp ∧ t σ H1 fun vs H2 => sp (x :: vs) H2 Q E0
theorem pe_methD {pl : Sem Bool} {T : Addr → Sp → Prop} (c : ∀ C sp, T C sp → MCal X.prog X.w X.K X.mg X.base k C m sp) (hr : Room k X.A) (he : PE X o ta) (ha : PA X (e :: es) t)
    (hst : starEach (e :: es) X.env = (false, eval e X.env) :: starEach es X.env := by rfl) (hpl : (backTo pos (starEach es X.env)).any (·.1) = false := by rfl)
    (ht : eval (.Call (.Attribute o m apos) (e :: es) [] pos) X.env = (do
      let ov ← eval o X.env
      standAt apos.atName
      let (f, first) ← holding [ov] (getMethod ov m pl)
      callWith pos f first (backTo pos (starEach (e :: es) X.env)) (backToKw pos (keywordEach [] X.env))) := by rfl) :
    PE X (.Call (.Attribute o m apos) (e :: es) [] pos) (tMethD T m ta t) := by
  intro pins s σ H Q I h
  refine PySem.W.methodCall_KW (pl := pl) (thn (he pins s σ H _ I h) fun u s1 hz => ?_) ht
  obtain ⟨x, H1, I1, rx, a, C, dx, fs, sp, ex, ea, l, hT, q⟩ := hz
  obtain ⟨cl, f, fd, ps, M, F, b⟩ := c C sp hT
  subst ex
  obtain rfl : u = Value.ref a := rx
  refine getmeth_ok I1 ea cl M l ?_
  refine PySem.W.callWith_K (first := [.ref a]) (h₀ := X.base) I.ok.mod.kin M.kp (thn (ha pos pins s1 σ H1 _ I1 q) fun us s2 ⟨vs, H2, I2, r, q2⟩ => ⟨I2.kIn, ?_⟩) hst hpl
  exact run_fn (us := .ref a :: us) (vs := .ref a :: vs) (dvs := []) (E := E0) F hr b .nil pass0 I2 (.cons rfl r) (by rw [List.append_nil]; exact q2)
theorem pe_methD0 {pl : Sem Bool} {T : Addr → Sp → Prop} (c : ∀ C sp, T C sp → MCal X.prog X.w X.K X.mg X.base k C m sp) (hr : Room k X.A) (he : PE X o ta)
    (ht : eval (.Call (.Attribute o m apos) [] [] pos) X.env = (do
      let ov ← eval o X.env
      standAt apos.atName
      let (f, first) ← holding [ov] (getMethod ov m pl)
      callWith pos f first (backTo pos (starEach [] X.env)) (backToKw pos (keywordEach [] X.env))) := by rfl) :
    PE X (.Call (.Attribute o m apos) [] [] pos) (tMethD T m ta tNil) := by
  intro pins s σ H Q I h
  refine PySem.W.methodCall_KW (pl := pl) (thn (he pins s σ H _ I h) fun u s1 hz => ?_) ht
  obtain ⟨x, H1, I1, rx, a, C, dx, fs, sp, ex, ea, l, hT, q⟩ := hz
  obtain ⟨cl, f, fd, ps, M, F, b⟩ := c C sp hT
  subst ex
  obtain rfl : u = Value.ref a := rx
  refine getmeth_ok I1 ea cl M l ?_
  exact PySem.W.callWith_K0 (first := [.ref a]) I1.kIn M.kp (run_fn (us := [.ref a]) (vs := [.ref a]) (dvs := []) (E := E0) F hr b .nil pass0 I1 (.cons rfl .nil) q)
end
section
variable {σ : St} {H : Hp} {Q : VK} {K : PySem.W.Frag} {a C dx : Addr} {fs : List (Str × V)} {f m : Str} {v : V} {D : Ends} {sp : Sp}
theorem rd_fld {ta : TE} (q : ta σ H fun x H1 => ∃ a C dx fs v, x = .ref a ∧ H1 a = some (.ins C dx fs) ∧ Cls K C ∧ NoAttr K C f ∧ fs.lookup f = some v ∧ Q v H1) : tFld K ta f σ H Q := q
theorem rd_fldA {R : V → Prop} (h : H a = some (.ins C dx fs)) (c : Cls K C) (n : NoAttr K C f) (l : fs.lookup f = some v) (q : R v) : ∃ a' C dx fs v, V.ref a = .ref a' ∧ H a' = some (.ins C dx fs) ∧ Cls K C ∧ NoAttr K C f ∧ fs.lookup f = some v ∧ R v := ⟨a, C, dx, fs, v, rfl, h, c, n, l, q⟩
theorem rd_sfld {ta tv : TE} (q : tv σ H fun y H1 => ta σ H1 fun x H2 => ∃ a C dx fs, x = .ref a ∧ H2 a = some (.ins C dx fs) ∧ Cls K C ∧ NoAttr K C f ∧ fs.length < 1000 ∧ D.nx σ (upd H2 a (.ins C dx (putF f y fs)))) : sFld K ta tv f D σ H := q
theorem rd_sfldA {R : Hp → Prop} {y : V} (h : H a = some (.ins C dx fs)) (c : Cls K C) (n : NoAttr K C f) (l : fs.length < 1000) (q : R (upd H a (.ins C dx (putF f y fs)))) : ∃ a' C dx fs, V.ref a = .ref a' ∧ H a' = some (.ins C dx fs) ∧ Cls K C ∧ NoAttr K C f ∧ fs.length < 1000 ∧ R (upd H a' (.ins C dx (putF f y fs))) := ⟨a, C, dx, fs, rfl, h, c, n, l, q⟩
theorem rd_meth {ta : TE} {t : TA} (q : ta σ H fun x H1 => ∃ a dx fs, x = .ref a ∧ H1 a = some (.ins C dx fs) ∧ fs.lookup m = none ∧ t σ H1 fun vs H2 => sp (x :: (vs ++ [])) H2 Q E0) : tMeth C m sp [] E0 ta t σ H Q := q
theorem rd_methA {R : Prop} (h : H a = some (.ins C dx fs)) (l : fs.lookup m = none) (q : R) : ∃ a' dx fs, V.ref a = .ref a' ∧ H a' = some (.ins C dx fs) ∧ fs.lookup m = none ∧ R := ⟨a, dx, fs, rfl, h, l, q⟩
theorem rd_dnewK (q : ∀ p, H p = none → Q (.ref p) (upd H p (.dK []))) : tDNewK σ H Q := q
theorem rd_dget2 {td ty tx : TE} (q : td σ H fun x H1 => ∃ a, x = .ref a ∧ IsD H1 a ∧ ty σ H1 fun y H2 => tx σ H2 fun z H3 => ∃ o, DGet H3 a y o ∧ Q (o.getD z) H3) : tDGet2 td ty tx σ H Q := q
theorem isD_k {kvs : List (Key × V)} (h : H a = some (.dK kvs)) : IsD H a := .inl ⟨kvs, .inl h⟩
end
section
variable {σ : St} {H : Hp} {Q : VK} {a : Addr} {kvs : List (Key × V)} {k : Key} {v : V} {R : Prop}
theorem rd_dget {td ty : TE} (q : td σ H fun x H1 => ty σ H1 fun y H2 => ∃ a v, x = .ref a ∧ DGet H2 a y (some v) ∧ Q v H2) : tDGet td ty σ H Q := q
theorem rd_dput {td ty tv : TE} {D : Ends} (q : tv σ H fun v H1 => td σ H1 fun x H2 => ty σ H2 fun y H3 => ∃ a H4, x = .ref a ∧ DPut H3 a y v H4 ∧ D.nx σ H4) : sDPut td ty tv D σ H := q
theorem rd_dputA {S : Hp → Prop} {i : Int} (h : H a = some (.dK kvs)) (hl : kvs.length < sizeLine) (q : S (upd H a (.dK (putK kvs (Sum.inl i) v)))) : ∃ a' H4, V.ref a = .ref a' ∧ DPut H a' (.int i) v H4 ∧ S H4 := ⟨a, _, rfl, DPut.k (k := Sum.inl i) h hl, q⟩
end
theorem SqL.updI {K : PySem.W.Frag} {H : Hp} {a p C dx : Addr} {fs : List (Str × V)} {xs : List V} {o : HO} (h : SqL K H a xs) (n : H p = some (.ins C dx fs)) : SqL K (upd H p o) a xs := by
  rcases h with (h | ⟨ob, h⟩) | h
  · exact .inl (.inl (by rw [upd_ne (ne_of h n (by intro z; cases z))]; exact h))
  · exact .inl (.inr ⟨ob, by rw [upd_ne (ne_of h n (by intro z; cases z))]; exact h⟩)
  · exact .inr h
end L2
namespace L2
open PySem PySem.Spec PyProof.Rows
theorem Same.wr {H H' : Hp} {l : Addr} {o : HO} (s : Same H H') (n : H l = none) : Same H (upd H' l o) := fun b u e => by rw [upd_ne (ne_of_none e n)]; exact s b u e
theorem Same.fresh {H H' : Hp} {q : Addr} (s : Same H H') (hq : H' q = none) : H q = none := by
  cases e : H q with
  | none => rfl
  | some o => rw [s _ _ e] at hq; cases hq
end L2
namespace L2
open PySem PySem.Spec PyProof.Rows
section
variable {σ : St} {H : Hp} {p : Addr}
end
section
variable {σ : St} {H : Hp} {p : Addr} {xs : List V} {v : V}
theorem rd_gsub {to ti : TE} {t : TSet} {Q : St → Hp → Prop} (q : to σ H fun o H1 => ti σ H1 fun i H2 => t o i v H2 fun H3 => Q σ H3) : gSub to ti t v σ H Q := q
theorem rd_setL {Q : Hp → Prop} {k : Int} {j : Nat} (h : H p = some (.lst xs)) (hj : ixN xs.length k = some j) (q : Q (upd H p (.lst (xs.set j v)))) : rSetL (.ref p) (.int k) v H Q := ⟨p, xs, k, j, rfl, rfl, h, hj, q⟩
theorem ixN_nat {n j : Nat} {k : Int} (e : k = (j : Int)) (h : j < n) : ixN n k = some j := by
  unfold ixN
  rw [if_pos (by omega), if_pos (by omega), e, Int.toNat_natCast]
end
section
variable {σ : St} {H : Hp} {p a : Addr} {K : PySem.W.Frag} {xs : List V}
end
end L2
namespace L2
open PySem PySem.Spec PyProof.Rows
mutual
theorem Dt.eq_self : ∀ d : Dt, Dt.eq d d = true
  | .non => by unfold Dt.eq; rfl
  | .bl b => by unfold Dt.eq; exact beq_self_eq_true b
  | .int i => by unfold Dt.eq; exact beq_self_eq_true i
  | .str x => by unfold Dt.eq; exact beq_self_eq_true x
  | .lst ds => by unfold Dt.eq; exact Dt.eqs_self ds
  | .tup ds => by unfold Dt.eq; exact Dt.eqs_self ds
theorem Dt.eqs_self : ∀ ds : List Dt, Dt.eqs ds ds = true
  | [] => by unfold Dt.eqs; rfl
  | d :: r => by unfold Dt.eqs; rw [Dt.eq_self d, Dt.eqs_self r]; rfl
end
section
variable {K : PySem.W.Frag} {H : Hp} {Q : VK} {x y : V} {d : Dt}
theorem rd_eqD1 (h1 : DV K H d x) (h2 : DV K H d y) (hd : d.dep ≤ 64) (q : Q (.bl true) H) : rEqD K x y H Q := ⟨d, d, h1, h2, hd, by rw [Dt.eq_self]; exact q⟩
theorem rd_neD1 (h1 : DV K H d x) (h2 : DV K H d y) (hd : d.dep ≤ 64) (q : Q (.bl false) H) : rNeD K x y H Q := ⟨d, d, h1, h2, hd, by rw [Dt.eq_self]; exact q⟩
theorem dv_int {i : Int} : DV K H (.int i) (.int i) := by unfold DV; rfl
theorem dv_str {i : Str} : DV K H (.str i) (.str i) := by unfold DV; rfl
theorem dvs_nil : DVs K H [] [] := by unfold DVs; rfl
theorem dvs_cons {d : Dt} {r : List Dt} {x : V} {t : List V} (h : DV K H d x) (h2 : DVs K H r t) : DVs K H (d :: r) (x :: t) := by unfold DVs; exact ⟨x, t, rfl, h, h2⟩
theorem dv_tup {a : Addr} {xs : List V} {ds : List Dt} (h : SqT K H a xs) (h2 : DVs K H ds xs) : DV K H (.tup ds) (.ref a) := by unfold DV; exact ⟨a, xs, rfl, h, h2⟩
theorem dv_lst {a : Addr} {xs : List V} {ds : List Dt} (h : SqL K H a xs) (h2 : DVs K H ds xs) : DV K H (.lst ds) (.ref a) := by unfold DV; exact ⟨a, xs, rfl, h, h2⟩
end
theorem sql_len {K : PySem.W.Frag} {H : Hp} {p : Addr} {xs : List V} {Q : VK} {n : Nat} (h : SqL K H p xs) (e : xs.length = n) (q : Q (.int n) H) : rLenS K [.ref p] H Q := rd_lenL h (by rw [e]; exact q)
theorem rd_nameN {σ σ' : St} {H : Hp} {i : Nat} {v : V} {R : St → Hp → Prop} (e : σ.set i (some v) = σ') (q : R σ' H) : gName i v σ H R := by subst e; exact q
theorem rd_make {σ : St} {H : Hp} {Q : VK} {C : Addr} {sp : Sp} {t : TA} (q : t σ H fun vs H1 => ∀ x dx, H1 x = none → H1 dx = none → dx ≠ x → sp (.ref x :: (vs ++ [])) (upd (upd H1 dx (.own x)) x (.ins C dx [])) (fun v H2 => v = .non ∧ Q (.ref x) H2) E0) : tMake C sp [] E0 t σ H Q := q
theorem Same.made {H H' : Hp} {x dx C : Addr} {o : HO} (hx : H x = none) (hd : H dx = none) (k : ∀ b u, (upd (upd H dx o) x (.ins C dx [])) b = some u → b ≠ x → H' b = some u) : Same H H' := fun b u e =>
  k b u (by rw [upd_ne (ne_of_none e hx), upd_ne (ne_of_none e hd)]; exact e) (ne_of_none e hx)
end L2
namespace L2
open PySem PySem.Spec PyProof.Rows
noncomputable def Imm (u : HO) : Prop := (∃ xs, u = .tup xs) ∨ ∃ o w, u = .frz o w
noncomputable def SameI (H H' : Hp) : Prop := ∀ b u, H b = some u → Imm u → H' b = some u
theorem SameI.refl (H : Hp) : SameI H H := fun _ _ h _ => h
theorem SameI.trans {H H1 H2 : Hp} (a : SameI H H1) (b : SameI H1 H2) : SameI H H2 := fun c u h i => b c u (a c u h i) i
theorem Same.imm {H H' : Hp} (s : Same H H') : SameI H H' := fun b u h _ => s b u h
theorem SameI.upd {H : Hp} {a : Addr} {u o : HO} (h : H a = some u) (n : ¬ Imm u) : SameI H (upd H a o) := fun b v e i => by
  rw [upd_ne (ne_of e h (fun z => n (z ▸ i)))]; exact e
theorem SameI.new {H : Hp} {a : Addr} {o : HO} (h : H a = none) : SameI H (L2.upd H a o) := (Same.new h).imm
theorem SameI.tup {K : PySem.W.Frag} {H H' : Hp} {a : Addr} {xs : List V} (e : SameI H H') (h : SqT K H a xs) : SqT K H' a xs := by
  rcases h with (h | ⟨o, h⟩) | h
  · exact .inl (.inl (e _ _ h (.inl ⟨_, rfl⟩)))
  · exact .inl (.inr ⟨o, e _ _ h (.inr ⟨_, _, rfl⟩)⟩)
  · exact .inr h
theorem notImm_lst {xs : List V} : ¬ Imm (.lst xs) := by rintro (⟨_, z⟩ | ⟨_, _, z⟩) <;> cases z
theorem notImm_dK {kvs : List (Key × V)} : ¬ Imm (.dK kvs) := by rintro (⟨_, z⟩ | ⟨_, _, z⟩) <;> cases z
theorem notImm_ins {C dx : Addr} {fs : List (Str × V)} : ¬ Imm (.ins C dx fs) := by rintro (⟨_, z⟩ | ⟨_, _, z⟩) <;> cases z
noncomputable def SameND (H H' : Hp) : Prop := ∀ b u, H b = some u → (∀ kvs, u ≠ .dK kvs) → H' b = some u
theorem SameND.refl (H : Hp) : SameND H H := fun _ _ h _ => h
theorem SameND.trans {H H1 H2 : Hp} (a : SameND H H1) (b : SameND H1 H2) : SameND H H2 := fun c u h i => b c u (a c u h i) i
theorem Same.nd {H H' : Hp} (s : Same H H') : SameND H H' := fun b u h _ => s b u h
theorem SameND.imm {H H' : Hp} (s : SameND H H') : SameI H H' := fun b u h i => s b u h (by
  rintro kvs rfl
  exact notImm_dK i)
theorem SameND.seq {K : PySem.W.Frag} {H H' : Hp} {a : Addr} {xs : List V} (e : SameND H H') (h : SqL K H a xs) : SqL K H' a xs := by
  rcases h with (h | ⟨o, h⟩) | h
  · exact .inl (.inl (e _ _ h (by intro _ z; cases z)))
  · exact .inl (.inr ⟨o, e _ _ h (by intro _ z; cases z)⟩)
  · exact .inr h
noncomputable abbrev Row := Str × Option Int
noncomputable def rowVs : Row → List V
  | (w, none) => [.str w]
  | (w, some n) => [.str w, .int n]
noncomputable def rowD : Row → Dt
  | (w, none) => .tup [.str w]
  | (w, some n) => .tup [.str w, .int n]
noncomputable def RowAt (K : PySem.W.Frag) (H : Hp) (r : Row) (v : V) : Prop := ∃ t, v = .ref t ∧ SqT K H t (rowVs r)
noncomputable def RowsAt (K : PySem.W.Frag) (H : Hp) (rs : List Row) (xs : List V) : Prop := rs.length = xs.length ∧ ∀ (i : Nat) (r : Row) (x : V), rs[i]? = some r → xs[i]? = some x → RowAt K H r x
theorem RowAt.keep {K : PySem.W.Frag} {H H' : Hp} {r : Row} {v : V} (h : RowAt K H r v) (s : SameI H H') : RowAt K H' r v := let ⟨t, e, q⟩ := h; ⟨t, e, s.tup q⟩
theorem RowsAt.keep {K : PySem.W.Frag} {H H' : Hp} {rs : List Row} {xs : List V} (h : RowsAt K H rs xs) (s : SameI H H') : RowsAt K H' rs xs := ⟨h.1, fun i r x h1 h2 => (h.2 i r x h1 h2).keep s⟩
theorem RowsAt.nil {K : PySem.W.Frag} {H : Hp} : RowsAt K H [] [] := ⟨rfl, fun i r x h => by simp at h⟩
theorem RowsAt.tail {K : PySem.W.Frag} {H : Hp} {r : Row} {rs : List Row} {x : V} {xs : List V} (h : RowsAt K H (r :: rs) (x :: xs)) : RowAt K H r x ∧ RowsAt K H rs xs :=
  ⟨h.2 0 r x rfl rfl, by have := h.1; simpa using this, fun i r' x' h1 h2 => h.2 (i + 1) r' x' (by simpa using h1) (by simpa using h2)⟩
theorem RowsAt.cons {K : PySem.W.Frag} {H : Hp} {r : Row} {rs : List Row} {x : V} {xs : List V} (h1 : RowAt K H r x) (h : RowsAt K H rs xs) : RowsAt K H (r :: rs) (x :: xs) := by
  refine ⟨by simp [h.1], fun i r' x' e1 e2 => ?_⟩
  cases i with
  | zero => cases e1; cases e2; exact h1
  | succ i => exact h.2 i r' x' (by simpa using e1) (by simpa using e2)
theorem RowAt.dv {K : PySem.W.Frag} {H : Hp} {r : Row} {v : V} (h : RowAt K H r v) : DV K H (rowD r) v := by
  obtain ⟨t, rfl, q⟩ := h
  obtain ⟨w, o⟩ := r
  cases o with
  | none => exact dv_tup q (dvs_cons dv_str dvs_nil)
  | some n => exact dv_tup q (dvs_cons dv_str (dvs_cons dv_int dvs_nil))
theorem RowsAt.dvs {K : PySem.W.Frag} {H : Hp} : ∀ {rs : List Row} {xs : List V}, RowsAt K H rs xs → DVs K H (rs.map rowD) xs
  | [], [], _ => dvs_nil
  | r :: rs, x :: xs, h => dvs_cons h.tail.1.dv h.tail.2.dvs
  | [], x :: xs, h => by have := h.1; simp at this
  | r :: rs, [], h => by have := h.1; simp at this
noncomputable def putFn (f : Int → Int) (i v : Int) : Int → Int := fun j => if j = i then v else f j
noncomputable def DictF (H : Hp) (d : Addr) (f : Int → Int) (m : Nat) : Prop := ∃ kvs, H d = some (.dK kvs) ∧ kvs.length ≤ m ∧ ∀ i : Int, (valV kvs (Sum.inl i : Key)).getD (.int 0) = .int (f i)
noncomputable def StoreAt (H : Hp) (d : Addr) (f : Int → Int) (m : Nat) : Prop := ∃ kvs, H d = some (.dK kvs) ∧ kvs.length ≤ m ∧ (kvs.map (·.1)).Nodup ∧ (∀ p ∈ kvs, ∃ i n : Int, p = (Sum.inl i, .int n) ∧ n ≠ 0) ∧ ∀ i : Int, (valV kvs (Sum.inl i : Key)).getD (.int 0) = .int (f i)
theorem DictF.put {H : Hp} {d : Addr} {kvs : List (Key × V)} {f : Int → Int} {m : Nat} (hl : kvs.length ≤ m) (hf : ∀ i : Int, (valV kvs (Sum.inl i : Key)).getD (.int 0) = .int (f i)) (i v : Int) : DictF (upd H d (.dK (putK kvs (Sum.inl i) (.int v)))) d (putFn f i v) (m + 1) := by
  refine ⟨_, upd_same, Nat.le_trans (length_putK ..) (Nat.add_le_add_right hl 1), fun j => ?_⟩
  rw [valV_put]
  unfold putFn
  by_cases e : j = i
  · subst e
    rw [if_pos rfl, if_pos rfl]
    rfl
  · rw [if_neg (fun z => e (Sum.inl.inj z)), if_neg e]
    exact hf j
theorem valV_drop {κ : Type} [DecidableEq κ] (k j : κ) : ∀ kvs : List (κ × V), valV (dropK kvs k) j = if j = k then none else valV kvs j
  | [] => by
    have : dropK ([] : List (κ × V)) k = [] := rfl
    rw [this, valV_nil]
    split <;> rfl
  | p :: r => by
    have ih := valV_drop k j r
    by_cases e : p.1 = k
    · rw [dropK_pos e, ih]
      by_cases z : j = k
      · rw [if_pos z, if_pos z]
      · rw [if_neg z, if_neg z, valV_neg (fun q => z (q.symm.trans e))]
    · rw [dropK_neg e]
      by_cases q : p.1 = j
      · rw [valV_pos q, valV_pos q, if_neg (fun z => e (q.trans z))]
      · rw [valV_neg q, valV_neg q, ih]
theorem keys_putK {κ : Type} [DecidableEq κ] {kvs : List (κ × V)} {k : κ} (v : V) (hn : (kvs.map (·.1)).Nodup) : ((putK kvs k v).map (·.1)).Nodup := by
  cases e : valV kvs k with
  | none => exact nd_putK v hn e
  | some u =>
    have hk : (kvs.any fun kv => decide (kv.1 = k)) = true := by rw [valV_any, e]; rfl
    unfold putK
    rw [if_pos hk, List.map_map]
    have : ((fun x : κ × V => x.1) ∘ fun kv : κ × V => if kv.1 = k then (kv.1, v) else kv) = fun x => x.1 := by
      funext x
      show (if x.1 = k then (x.1, v) else x).1 = x.1
      split <;> rfl
    rw [this]
    exact hn
theorem mem_putK {κ : Type} [DecidableEq κ] {kvs : List (κ × V)} {k : κ} {v : V} {p : κ × V} (h : p ∈ putK kvs k v) : p = (k, v) ∨ p ∈ kvs := by
  unfold putK at h
  split at h
  · obtain ⟨q, hq, e⟩ := List.mem_map.mp h
    by_cases z : q.1 = k
    · rw [if_pos z] at e; left; rw [← e, z]
    · rw [if_neg z] at e; right; rw [← e]; exact hq
  · rcases List.mem_append.mp h with h | h
    · exact .inr h
    · exact .inl (List.mem_singleton.mp h)
theorem StoreAt.put {H : Hp} {d : Addr} {kvs : List (Key × V)} {f : Int → Int} {m : Nat} (hl : kvs.length ≤ m) (hn : (kvs.map (·.1)).Nodup) (hz : ∀ p ∈ kvs, ∃ i n : Int, p = (Sum.inl i, .int n) ∧ n ≠ 0) (hf : ∀ i : Int, (valV kvs (Sum.inl i : Key)).getD (.int 0) = .int (f i)) (i v : Int) (hv : v ≠ 0) :
    StoreAt (upd H d (.dK (putK kvs (Sum.inl i) (.int v)))) d (putFn f i v) (m + 1) := by
  obtain ⟨kvs', e1, e2, e3⟩ := DictF.put (H := H) (d := d) hl hf i v
  rw [upd_same] at e1
  cases e1
  refine ⟨_, upd_same, e2, keys_putK _ hn, fun p hp => ?_, e3⟩
  rcases mem_putK hp with rfl | hp
  · exact ⟨i, v, rfl, hv⟩
  · exact hz p hp
theorem StoreAt.drop {H : Hp} {d : Addr} {kvs : List (Key × V)} {f : Int → Int} {m : Nat} (hl : kvs.length ≤ m) (hn : (kvs.map (·.1)).Nodup) (hz : ∀ p ∈ kvs, ∃ i n : Int, p = (Sum.inl i, .int n) ∧ n ≠ 0) (hf : ∀ i : Int, (valV kvs (Sum.inl i : Key)).getD (.int 0) = .int (f i)) (i : Int) :
    StoreAt (upd H d (.dK (dropK kvs (Sum.inl i)))) d (putFn f i 0) (m + 1) := by
  refine ⟨_, upd_same, Nat.le_trans (dropK_le ..) (Nat.le_trans hl (Nat.le_succ _)), nd_dropK hn, fun p hp => hz p (dropK_mem hp), fun j => ?_⟩
  rw [valV_drop]
  unfold putFn
  by_cases e : j = i
  · subst e
    rw [if_pos rfl, if_pos rfl]
    rfl
  · rw [if_neg (fun z => e (Sum.inl.inj z)), if_neg e]
    exact hf j
theorem StoreAt.same {H H' : Hp} {d : Addr} {f : Int → Int} {m : Nat} (h : StoreAt H d f m) (e : H' d = H d) : StoreAt H' d f m := let ⟨kvs, a, b⟩ := h; ⟨kvs, e.trans a, b⟩
theorem DictF.same {H H' : Hp} {d : Addr} {f : Int → Int} {m : Nat} (h : DictF H d f m) (e : H' d = H d) : DictF H' d f m := let ⟨kvs, a, b⟩ := h; ⟨kvs, e.trans a, b⟩
theorem StoreAt.le {H : Hp} {d : Addr} {f : Int → Int} {m m' : Nat} (h : StoreAt H d f m) (e : m ≤ m') : StoreAt H d f m' := let ⟨kvs, a, b, c⟩ := h; ⟨kvs, a, Nat.le_trans b e, c⟩
theorem DictF.le {H : Hp} {d : Addr} {f : Int → Int} {m m' : Nat} (h : DictF H d f m) (e : m ≤ m') : DictF H d f m' := let ⟨kvs, a, b, c⟩ := h; ⟨kvs, a, Nat.le_trans b e, c⟩
section
variable {σ : St} {H : Hp} {Q : VK} {a : Addr} {kvs : List (Key × V)}
theorem rd_dpop2 {td ty tx : TE} (q : td σ H fun x H1 => ∃ a, x = .ref a ∧ IsD H1 a ∧ ty σ H1 fun y H2 => tx σ H2 fun z H3 => ∃ kvs k, H3 a = some (.dK kvs) ∧ y = kV k ∧ (∀ v, valV kvs k = some v → Q v (upd H3 a (.dK (dropK kvs k)))) ∧ (valV kvs k = none → Q z H3)) : tDPop2 td ty tx σ H Q := q
end
end L2
namespace L2
open PySem PySem.Spec PyProof.Rows
section
variable {σ : St} {H : Hp} {K : PySem.W.Frag} {a l : Addr} {xs : List V} {n : Nat} {t : TGs} {Q : St → Hp → Prop} {v : V} {r : List V} {g : TG} {u : TGs}
end
end L2
namespace L2
open PySem PySem.Spec PyProof.Rows
section
variable {σ : St} {H : Hp} {p a : Addr} {K : PySem.W.Frag} {xs : List V}
noncomputable def compNx (Pv : Nat → Hp → Prop) (i : Nat) (σ : St) : St → Hp → Prop := fun σ2 H2 => Pv i H2 ∧ ∃ v, σ2 = v :: σ
theorem comp_invL {tc : TT} {te : TE} {R : Hp → Prop} (Pv : Nat → Hp → Prop) (h0 : Pv 0 (upd H p (.lst []))) (hl : ∀ i H', Pv i H' → SqL K H' a xs)
    (hs : ∀ (i : Nat) (x : V) (H' : Hp), xs[i]? = some x → Pv i H' → tc (some x :: σ) H' fun b H1 => if b = true then te (some x :: σ) H1 fun y H2 => ∃ ys, H2 p = some (.lst ys) ∧ ys.length < sizeLine ∧ compNx Pv (i + 1) σ (some x :: σ) (upd H2 p (.lst (ys ++ [y]))) else compNx Pv (i + 1) σ (some x :: σ) H1)
    (fin : ∀ H', Pv xs.length H' → R H') : tLoopC 1 (gName 0) tc te (Itl K a) p R σ H := by
  refine ⟨fun i m σ' H' => m = xs.length - i ∧ i ≤ xs.length ∧ Pv i H' ∧ ∃ v, σ' = v :: σ, ⟨xs.length, by omega, Nat.zero_le _, h0, none, rfl⟩, ?_⟩
  rintro i m σ' H' ⟨rfl, hi, hp, v, rfl⟩
  have hs' := hl i H' hp
  by_cases hlt : i < xs.length
  · refine .inr ⟨⟨xs, xs[i], hs', by simp [hlt]⟩, compNx Pv (i + 1) σ, fun σ2 H2 ⟨e, v', e'⟩ => ⟨xs.length - (i + 1), by omega, rfl, hlt, e, v', e'⟩, fun x H1 ⟨e, y⟩ => ?_⟩
    subst e
    have hx := y xs hs'
    refine rd_name ?_
    simp only [List.set_cons_zero]
    exact hs i x _ hx hp
  · have e : i = xs.length := by omega
    subst e
    exact .inl ⟨⟨xs, hs', Nat.le_refl _⟩, fin H' hp⟩
theorem rd_noIf {σ : St} {H : Hp} {R : Bool → Hp → Prop} (q : R true H) : tNoIf σ H R := q
end
theorem RowsAt.snoc {K : PySem.W.Frag} {H : Hp} {rs : List Row} {xs : List V} {r : Row} {x : V} (h : RowsAt K H rs xs) (h1 : RowAt K H r x) : RowsAt K H (rs ++ [r]) (xs ++ [x]) := by
  refine ⟨by simp [h.1], fun i r' x' e1 e2 => ?_⟩
  by_cases hi : i < rs.length
  · rw [List.getElem?_append_left hi] at e1
    rw [List.getElem?_append_left (by rw [← h.1]; exact hi)] at e2
    exact h.2 i r' x' e1 e2
  · have hi2 : i = rs.length := by
      have := (List.getElem?_eq_some_iff.mp e1).1
      simp at this
      omega
    subst hi2
    rw [List.getElem?_append_right (Nat.le_refl _), Nat.sub_self] at e1
    rw [List.getElem?_append_right (by rw [h.1]; exact Nat.le_refl _), h.1, Nat.sub_self] at e2
    cases e1
    cases e2
    exact h1
theorem RowsAt.ins {K : PySem.W.Frag} {H : Hp} {rs : List Row} {xs : List V} {r : Row} {x : V} (h : RowsAt K H rs xs) (h1 : RowAt K H r x) (k : Nat) : RowsAt K H (rs.take k ++ r :: rs.drop k) (xs.take k ++ x :: xs.drop k) := by
  have ht : RowsAt K H (rs.take k) (xs.take k) := ⟨by simp [h.1], fun i r' x' e1 e2 => by
    rw [List.getElem?_take] at e1 e2
    split at e1
    · rename_i hk
      rw [if_pos hk] at e2
      exact h.2 i r' x' e1 e2
    · cases e1⟩
  have hd : RowsAt K H (r :: rs.drop k) (x :: xs.drop k) := .cons h1 ⟨by simp [h.1], fun i r' x' e1 e2 => by
    rw [List.getElem?_drop] at e1 e2
    exact h.2 _ r' x' e1 e2⟩
  refine ⟨by rw [List.length_append, List.length_append, ht.1, hd.1], fun i r' x' e1 e2 => ?_⟩
  by_cases hi : i < (rs.take k).length
  · rw [List.getElem?_append_left hi] at e1
    rw [List.getElem?_append_left (by rw [← ht.1]; exact hi)] at e2
    exact ht.2 i r' x' e1 e2
  · rw [List.getElem?_append_right (by omega)] at e1
    rw [List.getElem?_append_right (by rw [← ht.1]; omega), ← ht.1] at e2
    exact hd.2 _ r' x' e1 e2
end L2
namespace L2
open PySem PySem.Spec PyProof.Rows PySem.Calls PySem.W
section
variable {Pr : Program} {wo : World} {Ar : Around} {Ex : Value → Shared → Prop} {sh : Shared} {Ty : String} {ro di : Addr} {cnt : Nat} {Pp : Nat → Value → Prop} {Okd : Heap → Prop}
theorem dcol {Rr : List Value → Shared → Prop} (Sr : KdlSrc Pr wo Ty ro di cnt Pp Okd) (h0 : Ar.handled = none) (hO : Okd sh.heap) (hN : cnt ≤ sizeLine)
    (fin : ∀ (hp : Heap) (tn : Nat) (its : Array Value), (∀ b u, sh.heap.get? b = some u → hp.get? b = some u) → sh.heap.objs.size < hp.objs.size → ItemsOf Pp its cnt → Rr its.toList { sh with heap := hp, toks := tn }) :
    wpAny (model Pr wo) Ar (collect (.ref ro)) Rr Ex sh := by
  have lt2 := Sr.there _ hO
  have lt1 : sh.heap.objs.size < (sh.heap.push { cls := .type "list", data := .seq ([] : List Value).toArray }).objs.size := by rw [size_push']; exact Nat.lt_succ_self _
  unfold collect
  refine wpAny_bind (wpAny_runValue (codeAny_builtin (entry_proto_collect') ?_))
  rw [Around.under_plainId (PySem.F.plain_proto_collect) (_)]
  show wpAny _ (Ar.in1) (newList [] >>= fun q => again (.builtin "list.__iadd__" ⟨[q, .ref ro], []⟩)) _ _ sh
  refine wpAny_bind (wpAny_newObj_type (?_))
  refine wpAny_pure ⟨plainId_quiet (PySem.F.plain_list_iadd) (_), codeAny_builtin (entry_list_iadd') ?_⟩
  rw [Around.under_plainId (PySem.F.plain_list_iadd) (_)]
  have g1 : (sh.heap.push { cls := .type "list", data := .seq ([] : List Value).toArray }).get? sh.heap.objs.size = some { cls := .type "list", data := .seq #[] } := Heap.get?_push_size _ rfl
  show wpAny _ (Ar.in1) (Builtin.List.listExtendWith (.ref sh.heap.objs.size) (.ref ro) (.ref sh.heap.objs.size)) _ _ _
  have ext := kdl_extend (A := Ar) (s := { sh with heap := sh.heap.push { cls := .type "list", data := .seq ([] : List Value).toArray } })
    (R := fun (rs : Result) (s2 : Shared) => ∃ (hp : Heap) (tn : Nat) (its : Array Value) (ep : Nat), rs = .ok (.ret (.ref sh.heap.objs.size)) ∧ s2 = { sh with heap := hp, toks := tn } ∧
      (∀ b u, sh.heap.get? b = some u → hp.get? b = some u) ∧ hp.get? sh.heap.objs.size = some { cls := .type "list", dict := none, data := .seq its ep, slots := #[] } ∧ ItemsOf Pp its cnt)
    Sr h0 (Sr.keep _ _ hO fun b _ u e => Heap.get?_push_of_some _ e) sh.heap.objs.size (Nat.ne_of_gt lt2.1) (Nat.ne_of_gt lt2.2) (.ref sh.heap.objs.size) 0 g1
    (fun hp tn its ep kp at1 ok => ⟨hp, tn, its, ep, rfl, rfl, fun b u e => kp b u (Nat.ne_of_lt (Heap.lt_size e)) (Heap.get?_push_of_some _ e), at1, ok⟩) hN
  refine wpAny_mono ext (fun fl s2 xx => ?_) fun er s2 xx => ?_
  · cases fl with
    | done fl2 =>
      obtain ⟨hp, tn, its, ep, e1, rfl, kp, at1, ok⟩ := xx
      cases e1
      show wpAny _ Ar (load sh.heap.objs.size >>= _) _ _ _
      exact wpAny_bind (wpAny_load at1 (wpAny_pure (fin hp tn its kp (Heap.lt_size at1) ok)))
    | again cc =>
      refine ⟨xx.1, codeAny_mono xx.2 fun rs s3 yy => ?_⟩
      obtain ⟨hp, tn, its, ep, rfl, rfl, kp, at1, ok⟩ := yy
      show wpAny _ Ar (load sh.heap.objs.size >>= _) _ _ _
      exact wpAny_bind (wpAny_load at1 (wpAny_pure (fin hp tn its kp (Heap.lt_size at1) ok)))
  · obtain ⟨_, _, _, _, e1, _⟩ := xx
    cases e1
end
noncomputable def sortsTo (ns : List Int) (R : List Int → Prop) : Prop := ∀ ms : List Int, ms.Perm ns → ms.Pairwise (· ≤ ·) → R ms
noncomputable def rSorted (K : PySem.W.Frag) : RC := fun xs H Q => ∃ d ns, xs = [.ref d] ∧ ns.length < 64 ∧ ((∃ kvs : List (Key × V), H d = some (.dK kvs) ∧ kvs.map (·.1) = ns.map Sum.inl) ∨ SqL K H d (ns.map V.int)) ∧
  sortsTo ns fun ms => ∀ p, H p = none → Q (.ref p) (upd H p (.lst (ms.map V.int)))
theorem ints_vals : ∀ {ns : List Int} {us : List Value}, IntsAre us ns → Vals (ns.map V.int) us := fun h => vals_ints h
theorem vals_are : ∀ {ns : List Int} {us : List Value}, Vals (ns.map V.int) us → IntsAre us ns := by
  intro ns
  induction ns with
  | nil => intro us h; cases h; exact .nil
  | cons n r ih =>
    intro us h
    cases h with
    | cons a b =>
      obtain ⟨t, rfl⟩ := a
      exact .cons _ _ (ih b)
theorem ints_at : ∀ (us : List Value) (ns : List Int), us.length = ns.length → (∀ (j : Nat) (v : Value) (n : Int), us[j]? = some v → ns[j]? = some n → ∃ t, v = .int n t) → IntsAre us ns
  | [], [], _, _ => .nil
  | u :: us, n :: ns, hl, h => by
    obtain ⟨t, rfl⟩ := h 0 u n rfl rfl
    exact .cons _ _ (ints_at us ns (by simpa using hl) fun j v m h1 h2 => h (j + 1) v m (by simpa using h1) (by simpa using h2))
  | [], n :: ns, hl, _ => by simp at hl
  | u :: us, [], hl, _ => by simp at hl
theorem cn_sorted {X : Cx} (hc : X.calm = true) : CallR X (.builtin "sorted") (rSorted X.K) := by
  intro pins s σ H xs us Q I r h
  obtain ⟨d, ns, rfl, h64, hs, q⟩ := h
  obtain ⟨u, rfl, rx⟩ := vals1 r
  cases rx
  rcases hs with ⟨kvs, hd, hk⟩ | hl
  · obtain ⟨hz, lo, vs, hkv, hD⟩ := dk_of I.hok hd
    obtain ⟨ep, hat⟩ := hD.dictAt
    have hh : X.A.in1.in1.handled = none := I.ok.hd hc
    refine Calls.call_function_entry (kind_sorted) (plain_sorted) (entry_sorted) (args_sorted1 _) ?_
    unfold Builtin.«sorted»
    refine wpAny_bind (m := checkCount "sorted" 1 1 (_)) (wpAny_pure (?_))
    have hvl : vs.length = ns.length := by
      have := hkv.length
      have h2 := congrArg List.length hk
      rw [List.length_map, List.length_map] at h2
      omega
    refine wpAny_bind (dcol (Ar := X.A.in1) (kdl_dict (knd := mixKind X.prog X.w) (kvs := vs) (ep := ep) lo) (I.ok.hd hc) hat (by rw [hvl]; exact Nat.le_trans (Nat.le_of_lt h64) (by decide)) fun hp tn its kp lt ok => ?_)
    have hI : IntsAre its.toList ns := by
      refine ints_at _ _ (by rw [Array.length_toList, ok.1, hvl]) fun j v n h1 h2 => ?_
      obtain ⟨key, x, e1, e2⟩ := ok.2 j v (by rw [← Array.getElem?_toList]; exact h1)
      have e3 : (vs.map (·.1))[j]? = some key := by rw [List.getElem?_map, e1]; rfl
      rw [← hkv.keys, hk, List.getElem?_map, h2] at e3
      cases e3
      rw [mixKind_is] at e2
      rcases keyIs_shape e2 with ⟨i, t, e4, rfl⟩ | ⟨y, t, e4, rfl⟩
      · cases e4
        exact ⟨t, rfl⟩
      · cases e4
    have hl2 : its.toList.length < 64 := by rw [Array.length_toList, ok.1, hvl]; exact h64
    refine wpAny_bind (wpAny_newList (?_) (Nat.le_trans (Nat.le_of_lt hl2) (by decide)))
    have at1 : (hp.push (seqObj "list" its.toList.toArray 0)).get? hp.objs.size = some (seqObj "list" its.toList.toArray 0) := Heap.get?_push_size _ rfl
    refine wpAny_bind (wpAny_holding (wpAny_call_entry (slot_list_sort) ⟨_, at1, rfl⟩ (entry_list_sort) (list_sort_tree at1 hI hl2 fun out ms a1 a2 a3 => ⟨_, rfl, ?_⟩) (args_list_sort _)))
    refine wpAny_pure ⟨_, rfl, ?_⟩
    obtain ⟨e5, at2⟩ := sortedHeap_at (out := out) at1
    have hml : ms.length ≤ sizeLine := by rw [a2.length_eq]; exact Nat.le_trans (Nat.le_of_lt h64) (by decide)
    refine ⟨.ref hp.objs.size, _, I.laid (t' := tn) (fun b u e => ?_) (Nat.le_of_lt lt) (show ObjOk X.prog X.w _ _ _ (.lst (ms.map V.int)) from ⟨by rw [List.length_map]; exact hml, out.toList, e5, ints_vals a1, at2⟩), rfl, q ms a2 a3 _ (I.hok.fresh (Nat.le_of_lt lt))⟩
    have lb := Heap.lt_size (kp b u e)
    rw [sortedHeap_old (Nat.ne_of_lt lb) (by rw [size_push']; exact Nat.lt_succ_of_lt lb)]
    exact Heap.get?_push_of_some _ (kp b u e)
  · obtain ⟨its, rv, pl, hz⟩ := I.list hl
    have hI := vals_are rv
    have hl2 : its.length < 64 := by rw [← rv.length, List.length_map]; exact h64
    refine sorted_ints pl.isList hI hl2 fun out ms a1 a2 a3 => ?_
    obtain ⟨e5, at2⟩ := sortedAll_at s.heap its out
    have hml : ms.length ≤ sizeLine := by rw [a2.length_eq]; exact Nat.le_trans (Nat.le_of_lt h64) (by decide)
    exact ⟨.ref (s.heap.objs.size + 1), _, I.laid (t' := s.toks) (fun b u e => sortedAll_old e) (Nat.le_succ _) (show ObjOk X.prog X.w _ _ _ (.lst (ms.map V.int)) from ⟨by rw [List.length_map]; exact hml, out.toList, e5, ints_vals a1, at2⟩), rfl, q ms a2 a3 _ (I.hok.fresh (Nat.le_succ _))⟩
section
variable {K : PySem.W.Frag} {H : Hp} {Q : VK} {d : Addr} {ns : List Int}
theorem rd_sortedD {kvs : List (Key × V)} (h : H d = some (.dK kvs)) (hk : kvs.map (·.1) = ns.map Sum.inl) (h64 : ns.length < 64) (q : ∀ ms : List Int, ms.Perm ns → ms.Pairwise (· ≤ ·) → ∀ p, H p = none → Q (.ref p) (upd H p (.lst (ms.map V.int)))) : rSorted K [.ref d] H Q := ⟨d, ns, rfl, h64, .inl ⟨kvs, h, hk⟩, q⟩
end
section
variable {K : PySem.W.Frag} {H : Hp} {Q : VK} {t l b : Addr}
theorem rd_extend {xs zs : List V} (h : H l = some (.lst xs)) (h2 : H b = some (.lst zs)) (hz : xs.length + zs.length ≤ sizeLine) (q : Q .non (upd H l (.lst (xs ++ zs)))) : rExtend (.ref l) [.ref b] H Q := ⟨l, b, xs, zs, rfl, rfl, h, h2, hz, q⟩
end
noncomputable def firstAt : List Str → Str → Nat
  | [], _ => 0
  | a :: r, x => if a = x then 0 else firstAt r x + 1
theorem rises_eq : ∀ {xs ys : List Int}, xs.Pairwise (· < ·) → ys.Pairwise (· < ·) → (∀ i, i ∈ xs ↔ i ∈ ys) → xs = ys
  | [], [], _, _, _ => rfl
  | [], y :: ys, _, _, h => by have := (h y).mpr (by simp); simp at this
  | x :: xs, [], _, _, h => by have := (h x).mp (by simp); simp at this
  | x :: xs, y :: ys, h1, h2, h => by
    obtain ⟨a1, a2⟩ := List.pairwise_cons.mp h1
    obtain ⟨b1, b2⟩ := List.pairwise_cons.mp h2
    have e : x = y := by
      rcases List.mem_cons.mp ((h x).mp (by simp)) with z | z
      · exact z
      · rcases List.mem_cons.mp ((h y).mpr (by simp)) with w | w
        · exact w.symm
        · have := a1 y w
          have := b1 x z
          omega
    subst e
    rw [rises_eq a2 b2 fun i => ?_]
    constructor
    · intro hi
      rcases List.mem_cons.mp ((h i).mp (List.mem_cons_of_mem _ hi)) with z | z
      · have := a1 i hi; omega
      · exact z
    · intro hi
      rcases List.mem_cons.mp ((h i).mpr (List.mem_cons_of_mem _ hi)) with z | z
      · have := b1 i hi; omega
      · exact z
theorem rises_of {ms : List Int} (h : ms.Pairwise (· ≤ ·)) (hn : ms.Nodup) : ms.Pairwise (· < ·) := by
  induction ms with
  | nil => exact .nil
  | cons a r ih =>
    obtain ⟨h1, h2⟩ := List.pairwise_cons.mp h
    obtain ⟨n1, n2⟩ := List.nodup_cons.mp hn
    refine List.pairwise_cons.mpr ⟨fun b hb => ?_, ih h2 n2⟩
    have := h1 b hb
    have : a ≠ b := fun z => n1 (z ▸ hb)
    omega
end L2
namespace L2
open PySem PySem.Builtin PySem.Builtin.Str PySem.StrLaws
noncomputable def Gap (w : Nat) : List Nat → Prop
  | [] => True
  | [_] => True
  | a :: b :: r => a + w ≤ b ∧ Gap w (b :: r)
theorem Gap.tail {w a : Nat} {r : List Nat} (h : Gap w (a :: r)) : Gap w r := by
  cases r with
  | nil => trivial
  | cons b r => exact h.2
theorem Gap.ge {w a : Nat} : ∀ {r : List Nat}, Gap w (a :: r) → ∀ b ∈ r, a + w ≤ b
  | [], _, b, hb => by simp at hb
  | c :: r, h, b, hb => by
    rcases List.mem_cons.mp hb with rfl | hb
    · exact h.1
    · have := Gap.ge (r := r) h.2 b hb
      have := h.1
      omega
end L2
namespace L2
open PySem PySem.Builtin PySem.Builtin.Str PySem.StrLaws
end L2
namespace L2
open PySem PySem.Spec PyProof.Rows
section
variable {X : Cx} {pins : List (Addr × Obj)} {σ : St} {H : Hp} {s : Shared} {a : Addr} {o : Obj} {kvs : List (Key × V)}
end
end L2
namespace L2
open PySem PySem.Spec PyProof.Rows
section
variable {σ : St} {H : Hp} {Q : VK} {D : Ends} {td : TE} {g : TG} {tc : TT} {te : TE} {tb : TS} {k : Nat} {a : Addr} {o : Obj} {kvs : List (Key × V)} {p : Addr}
theorem DGet.frz {k : Key} (e : H a = some (.frz o (.dK kvs))) : DGet H a (kV k) (valV kvs k) := .inl ⟨kvs, k, .inr ⟨o, e⟩, rfl, rfl⟩
end
section
variable {K : PySem.W.Frag} {σ : St} {H : Hp} {D : Ends} {a C dx : Addr} {fs : List (Str × V)} {f : Str} {i j : Int}
theorem rd_fldaug {ta tv : TE} {rd : V → V → Hp → VK → Prop} (q : ta σ H fun x H1 => ∃ a C dx fs v, x = .ref a ∧ H1 a = some (.ins C dx fs) ∧ Cls K C ∧ NoAttr K C f ∧ fs.lookup f = some v ∧ tv σ H1 fun y H2 => rd v y H2 fun z H3 => ∃ dx' fs', H3 a = some (.ins C dx' fs') ∧ fs'.length < 1000 ∧ D.nx σ (upd H3 a (.ins C dx' (putF f z fs')))) : sFldAug K ta tv rd f D σ H := q
theorem rd_fldA2 {v : V} {R : Addr → Addr → V → Prop} (h : H a = some (.ins C dx fs)) (c : Cls K C) (n : NoAttr K C f) (l : fs.lookup f = some v) (q : R a C v) : ∃ a' C dx fs v, V.ref a = .ref a' ∧ H a' = some (.ins C dx fs) ∧ Cls K C ∧ NoAttr K C f ∧ fs.lookup f = some v ∧ R a' C v := ⟨a, C, dx, fs, v, rfl, h, c, n, l, q⟩
theorem rd_rAdd {Q : VK} (q : Q (.int (i + j)) H) : rAdd (.int i) (.int j) H Q := ⟨i, j, rfl, rfl, q⟩
theorem rd_rSub {Q : VK} (q : Q (.int (i - j)) H) : rSub (.int i) (.int j) H Q := ⟨i, j, rfl, rfl, q⟩
end
end L2
namespace L2
open PySem PySem.Spec PyProof.Rows
end L2
namespace L2
open PySem PySem.Spec PyProof.Rows PySem.Calls
section
variable {H : Hp} {Q : VK} {σ : St}
end
section
variable {H : Hp} {Q : VK} {σ : St} {K : PySem.W.Frag} {p a : Addr} {xs ys : List V}
end
end L2
namespace L2
open PySem PySem.Spec PyProof.Rows PySem.Calls
theorem KV.at {kvs : List (Key × V)} {vs : List (Key × Value)} : KV kvs vs → ∀ {i : Nat} {p : Key × V}, kvs[i]? = some p → ∃ u, vs[i]? = some (p.1, u) ∧ RelV p.2 u := by
  intro h
  unfold KV at h
  induction h with
  | nil => intro i p e; simp at e
  | @cons a b as bs ab _ ih =>
    intro i p e
    cases i with
    | zero =>
      cases e
      refine ⟨b.2, ?_, ab.2⟩
      rw [ab.1]
      rfl
    | succ i => exact ih (by simpa using e)
section
variable {σ : St} {H : Hp} {Q : VK} {D : Ends} {td : TE} {g : TG} {tb : TS} {a : Addr} {o : Obj} {kvs : List (Key × V)}
end
section
variable {σ : St} {H : Hp} {Q : VK}
end
end L2
local macro_rules | `(tactic| walk_at "settle") => `(tactic| first
  | (simp only [L2.start, List.map_cons, List.map_nil, List.length_cons, List.length_nil, List.replicate, List.cons_append, List.nil_append, List.append_nil, List.set_cons_zero, List.set_cons_succ, Nat.reduceAdd, Nat.reduceSub]; done)
  | (simp only [L2.start, List.map_cons, List.map_nil, List.length_cons, List.length_nil, List.replicate, List.cons_append, List.nil_append, List.append_nil, List.set_cons_zero, List.set_cons_succ, Nat.reduceAdd, Nat.reduceSub]; rfl)
  | rfl
  | fail)
local macro_rules | `(tactic| walk_at "side") => `(tactic| first
  | exact ⟨by decide, by decide⟩
  | exact ⟨by decide, by decide, by decide⟩
  | (show (0:Int) < _; first | decide | omega)
  | (show (0:Int) ≤ _; first | decide | omega)
  | (show (0:Int) < _ ∧ _ < _; refine ⟨by omega, by omega⟩)
  | (show (_ ∧ _) ∨ _; refine .inl ⟨by omega, by omega⟩)
  | (show _ ∨ (_ ∧ _); refine .inr ⟨by omega, by omega⟩)
  | fail)
local macro_rules | `(tactic| walk_at "rd") => `(tactic| first
  | with_reducible refine L2.rd_seq ?_
  | with_reducible refine L2.rd_asg ?_
  | ((with_reducible refine' L2.rd_nameN ?e ?_); (case e => walk_at "settle"))
  | with_reducible refine L2.rd_C ?_
  | ((with_reducible refine' L2.rd_V ?e ?_); (case e => rfl))
  | with_reducible refine L2.rd_op ?_
  | with_reducible refine L2.rd_I0 ?_
  | ((with_reducible refine' L2.rd_I ?c ?_); (case c => walk_at "side"))
  | with_reducible refine L2.rd_eqI ?_
  | with_reducible refine L2.rd_eqS ?_
  | with_reducible refine L2.rd_neI ?_
  | with_reducible refine L2.rd_neS ?_
  | with_reducible refine L2.rd_eqB ?_
  | with_reducible refine L2.rd_neB ?_
  | with_reducible refine L2.rd_test ?_
  | with_reducible refine L2.rd_B ?_
  | with_reducible refine L2.rd_bl ?_
  | with_reducible refine L2.rd_ifS ?_
  | with_reducible refine L2.rd_if ?_
  | with_reducible refine L2.rd_iteD (fun _ => ?_) (fun _ => ?_)
  | with_reducible refine L2.rd_iteND (fun _ => ?_) (fun _ => ?_)
  | with_reducible refine L2.rd_iteNND (fun _ => ?_) (fun _ => ?_)
  | with_reducible refine L2.iteT ?_
  | with_reducible refine L2.iteF ?_
  | with_reducible refine L2.iteNT ?_
  | with_reducible refine L2.iteNF ?_
  | with_reducible refine L2.rd_ret ?_
  | with_reducible refine L2.rd_next ?_
  | with_reducible refine L2.rd_drop ?_
  | with_reducible refine L2.rd_and ?_
  | with_reducible refine L2.rd_or ?_
  | with_reducible refine L2.rd_not ?_
  | with_reducible refine L2.rd_andV ?_
  | with_reducible refine L2.rd_orV ?_
  | with_reducible refine L2.rd_notV ?_
  | with_reducible refine L2.rd_cons ?_
  | with_reducible refine L2.rd_nil ?_
  | with_reducible refine L2.rd_vals ?_
  | with_reducible refine L2.rd_call ?_
  | with_reducible refine L2.rd_CB ?_
  | with_reducible refine L2.rd_chain ?_
  | with_reducible refine L2.rd_un ?_
  | with_reducible refine L2.rd_U ?_
  | with_reducible refine L2.rd_tup ?_
  | with_reducible refine L2.rd_lst ?_
  | fail)
local macro_rules | `(tactic| walk_at "sql") => `(tactic| first
  | assumption
  | exact L2.sql_new
  | exact L2.sqt_new
  | exact L2.sql_of (by assumption)
  | exact L2.sqt_of (by assumption)
  | exact L2.TupK.sqt (by assumption) _
  | (refine L2.SqL.updN ?_ (by assumption); walk_at "sql")
  | (refine L2.SqT.updN ?_ (by assumption); walk_at "sql")
  | fail)
local macro_rules | `(tactic| walk_at "hp") => `(tactic| first
  | assumption
  | exact L2.upd_same
  | exact Eq.trans (L2.upd_ne (L2.ne_of_none L2.upd_same (by assumption))) L2.upd_same
  | fail)
local macro_rules | `(tactic| walk_at "rdl") => `(tactic| first
  | walk_at "rd"
  | ((with_reducible refine' L2.rd_ixL ?h ?e ?_); (case h => walk_at "sql"); (case e => rfl))
  | ((with_reducible refine' L2.rd_ixT ?h ?e ?_); (case h => walk_at "sql"); (case e => rfl))
  | with_reducible refine L2.rd_sl ?_
  | with_reducible refine L2.rd_noPart ?_
  | with_reducible refine L2.rd_part ?_
  | with_reducible refine L2.rd_ei ?_
  | ((with_reducible refine' L2.rd_slL ?h ?_); (case h => walk_at "sql"))
  | fail)
local macro_rules | `(tactic| walk_at "rda") => `(tactic| first
  | walk_at "rdl"
  | ((with_reducible refine' L2.rd_aug ?e ?_); (case e => rfl))
  | with_reducible refine L2.rd_ipI ?_
  | with_reducible refine L2.rd_max2 ?_
  | with_reducible refine L2.rd_min2 ?_
  | with_reducible refine L2.rd_abs ?_
  | ((with_reducible refine' L2.rd_isi ?e ?_); (case e => rfl))
  | ((with_reducible refine' L2.rd_isiS ?e ?_); (case e => rfl))
  | ((with_reducible refine' L2.rd_isiT ?h ?e ?_); (case h => walk_at "sql"); (case e => rfl))
  | ((with_reducible refine' L2.rd_isiL ?h ?e ?_); (case h => walk_at "sql"); (case e => rfl))
  | ((with_reducible refine' L2.rd_lenL ?h ?_); (case h => walk_at "sql"))
  | ((with_reducible refine' L2.rd_lenT ?h ?_); (case h => walk_at "sql"))
  | fail)
local macro_rules | `(tactic| walk_at "sz") => `(tactic| first
  | assumption
  | exact Nat.le_trans (by assumption) (by decide)
  | decide
  | fail)
local macro_rules | `(tactic| walk_at "rdt") => `(tactic| first
  | walk_at "rda"
  | with_reducible refine L2.rd_bm ?_
  | with_reducible refine L2.rd_bm0 ?_
  | with_reducible refine L2.rd_tyS ?_
  | with_reducible refine L2.rd_find ?_
  | with_reducible refine L2.rd_inS ?_
  | with_reducible refine L2.rd_notInS ?_
  | with_reducible refine L2.rd_sb ?_
  | with_reducible refine L2.rd_ord ?_
  | with_reducible refine L2.rd_isN0 ?_
  | with_reducible refine L2.rd_isNi ?_
  | with_reducible refine L2.rd_isNr ?_
  | with_reducible refine L2.rd_notN0 ?_
  | with_reducible refine L2.rd_notNi ?_
  | with_reducible refine L2.rd_notNr ?_
  | ((with_reducible refine' L2.rd_lenZ ?h ?_); (case h => walk_at "sz"))
  | ((with_reducible refine' L2.rd_slS ?h ?_); (case h => walk_at "sz"))
  | fail)
local macro_rules | `(tactic| walk_at "rdq") => `(tactic| first
  | ((with_reducible refine L2.rd_iteD (fun _ => ?_) (fun _ => ?_)) <;> (try (exfalso; omega)))
  | ((with_reducible refine L2.rd_iteND (fun _ => ?_) (fun _ => ?_)) <;> (try (exfalso; omega)))
  | ((with_reducible refine L2.rd_iteNND (fun _ => ?_) (fun _ => ?_)) <;> (try (exfalso; omega)))
  | walk_at "rdt"
  | fail)
local macro_rules | `(tactic| walk_at "rdj") => `(tactic| first
  | ((with_reducible refine' L2.rd_addJ ?h (fun _ _ => ?_)); (case h => omega))
  | ((with_reducible refine' L2.rd_slJ ?h (fun _ _ => ?_)); (case h => omega))
  | walk_at "rdq"
  | fail)
local macro_rules | `(tactic| walk_at "rdm") => `(tactic| first
  | walk_at "rdt"
  | ((with_reducible refine' L2.rd_listL ?h (fun _ _ => ?_)); (case h => walk_at "sql"))
  | ((with_reducible refine' L2.rd_listT ?h (fun _ _ => ?_)); (case h => walk_at "sql"))
  | with_reducible refine L2.rd_gsub ?_
  | fail)
local macro_rules | `(tactic| walk_at "rdk") => `(tactic| first
  | walk_at "rdm"
  | with_reducible refine L2.rd_fld ?_
  | with_reducible refine L2.rd_sfld ?_
  | with_reducible refine L2.rd_fldaug ?_
  | with_reducible refine L2.rd_rAdd ?_
  | with_reducible refine L2.rd_rSub ?_
  | with_reducible refine L2.rd_meth ?_
  | with_reducible refine L2.rd_make ?_
  | ((with_reducible refine' L2.rd_sum ?h ?_); (case h => walk_at "sql"))
  | with_reducible refine L2.rd_dget2 ?_
  | with_reducible refine L2.rd_dnewK (fun _ _ => ?_)
  | with_reducible refine L2.rd_din ?_
  | with_reducible refine L2.rd_dnotin ?_
  | with_reducible refine L2.rd_dget ?_
  | with_reducible refine L2.rd_dput ?_
  | with_reducible refine L2.rd_dpop1 ?_
  | with_reducible refine L2.rd_dpop2 ?_
  | with_reducible refine L2.rd_gcons ?_
  | with_reducible refine L2.rd_gnil ?_
  | ((with_reducible refine' L2.rd_gtup ?h ?e ?_); (case h => walk_at "sql"); (case e => rfl))
  | fail)
local macro_rules | `(tactic| walk_at "rdz") => `(tactic| first
  | ((with_reducible refine L2.rd_iteD (fun _ => ?_) (fun _ => ?_)) <;> (try (exfalso; omega)))
  | ((with_reducible refine L2.rd_iteND (fun _ => ?_) (fun _ => ?_)) <;> (try (exfalso; omega)))
  | ((with_reducible refine L2.rd_iteNND (fun _ => ?_) (fun _ => ?_)) <;> (try (exfalso; omega)))
  | walk_at "rdk"
  | fail)
local macro_rules | `(tactic| walk_at "rdx") => `(tactic| first
  | with_reducible refine L2.rd_iteD (fun h => absurd h (by decide)) (fun _ => ?_)
  | with_reducible refine L2.rd_iteD (fun _ => ?_) (fun h => absurd (by decide) h)
  | with_reducible refine L2.rd_iteND (fun h => absurd (by decide) h) (fun _ => ?_)
  | with_reducible refine L2.rd_iteND (fun _ => ?_) (fun h => absurd h (by decide))
  | walk_at "rdk"
  | fail)
namespace My
open PySem L2
noncomputable def top (i : Nat) : Stmt := PySem.Challenge.pw_meterhouse_k25_journal_back.main.body.getD i (.Pass ⟨0, 0, 0, 0⟩)
noncomputable abbrev s__wall : Stmt := top 0
noncomputable abbrev s_row_numbers : Stmt := top 5
noncomputable abbrev s_shift_coin : Stmt := top 8
noncomputable abbrev s_Lcell_at : Stmt := top 14
noncomputable abbrev s_Lmixed : Stmt := top 15
noncomputable abbrev s_Lwide : Stmt := top 16
noncomputable abbrev s_Lwhole : Stmt := top 17
noncomputable abbrev s_Lslots_by : Stmt := top 18
noncomputable abbrev s_Lplaces_by : Stmt := top 19
noncomputable abbrev s_Ldeed_by : Stmt := top 20
noncomputable abbrev s_Lmade : Stmt := top 21
noncomputable abbrev s_Lshows : Stmt := top 22
noncomputable abbrev s_Lpaid : Stmt := top 23
noncomputable abbrev s_Lcoins : Stmt := top 24
noncomputable abbrev s_Lall : Stmt := top 25
noncomputable abbrev s_law : Stmt := top 26
noncomputable abbrev s_Journal___init__ : Stmt := inClass (top 2) 0
noncomputable abbrev s_Journal_write : Stmt := inClass (top 2) 1
noncomputable abbrev s_Journal_mark : Stmt := inClass (top 2) 2
noncomputable abbrev s_Journal_back : Stmt := inClass (top 2) 3
noncomputable abbrev s_Journal_told : Stmt := inClass (top 2) 4
noncomputable abbrev s_Journal_worth : Stmt := inClass (top 2) 5
noncomputable abbrev s_Journal_touched : Stmt := inClass (top 2) 6
noncomputable abbrev s_Account___init__ : Stmt := inClass (top 6) 0
noncomputable abbrev s_Account_loaded : Stmt := inClass (top 6) 1
noncomputable abbrev s_Account_keep : Stmt := inClass (top 6) 2
noncomputable abbrev s_Account_plain : Stmt := inClass (top 6) 3
noncomputable abbrev s_Deed_do : Stmt := inClass (top 9) 0
noncomputable abbrev s_Deed_undo : Stmt := inClass (top 9) 1
noncomputable abbrev s_Deed_told : Stmt := inClass (top 9) 2
noncomputable abbrev s_Deed_worth : Stmt := inClass (top 9) 3
noncomputable abbrev s_Deed_touched : Stmt := inClass (top 9) 4
noncomputable abbrev s_Save___init__ : Stmt := inClass (top 10) 0
noncomputable abbrev s_Save_do : Stmt := inClass (top 10) 1
noncomputable abbrev s_Save_undo : Stmt := inClass (top 10) 2
noncomputable abbrev s_Save_told : Stmt := inClass (top 10) 3
noncomputable abbrev s_Save_worth : Stmt := inClass (top 10) 4
noncomputable abbrev s_Save_touched : Stmt := inClass (top 10) 5
noncomputable abbrev s_Move___init__ : Stmt := inClass (top 11) 0
noncomputable abbrev s_Move_do : Stmt := inClass (top 11) 1
noncomputable abbrev s_Move_undo : Stmt := inClass (top 11) 2
noncomputable abbrev s_Move_told : Stmt := inClass (top 11) 3
noncomputable abbrev s_Move_touched : Stmt := inClass (top 11) 4
noncomputable abbrev s_Note___init__ : Stmt := inClass (top 12) 0
noncomputable abbrev s_Note_told : Stmt := inClass (top 12) 1
noncomputable abbrev s_Note_do : Stmt := inClass (top 9) 0
noncomputable abbrev s_Note_undo : Stmt := inClass (top 9) 1
structure T_Journal (K : PySem.W.Frag) (mg : Str → Option Value) (C : Addr) : Prop where
  k : ClsF K mg "Journal" C
  n_rooms : NoAttr K C "rooms"
  n_deeds : NoAttr K C "deeds"
structure T_Account (K : PySem.W.Frag) (mg : Str → Option Value) (C : Addr) : Prop where
  k : ClsF K mg "Account" C
  n_coin : NoAttr K C "coin"
  n_purse : NoAttr K C "purse"
  n_count : NoAttr K C "count"
  n_program : NoAttr K C "program"
  n_store : NoAttr K C "store"
structure T_Deed (K : PySem.W.Frag) (mg : Str → Option Value) (C : Addr) : Prop where
  k : ClsF K mg "Deed" C
structure T_Save (K : PySem.W.Frag) (mg : Str → Option Value) (C : Addr) : Prop where
  k : ClsF K mg "Save" C
  n_slot : NoAttr K C "slot"
  n_place : NoAttr K C "place"
  n_old : NoAttr K C "old"
  n_new : NoAttr K C "new"
structure T_Move (K : PySem.W.Frag) (mg : Str → Option Value) (C : Addr) : Prop where
  k : ClsF K mg "Move" C
  n_slot : NoAttr K C "slot"
  n_taker : NoAttr K C "taker"
  n_many : NoAttr K C "many"
structure T_Note (K : PySem.W.Frag) (mg : Str → Option Value) (C : Addr) : Prop where
  k : ClsF K mg "Note" C
  n_slot : NoAttr K C "slot"
  n_number : NoAttr K C "number"
theorem bd1 {R : List Value → Prop} (h : ∀ a, R [a]) (us : List Value) (hl : us.length = 1) : R us := by
  cases us with
  | nil => cases hl
  | cons a r =>
    cases r with
    | nil => exact h a
    | cons b r => cases hl
theorem bdS {R : List Value → Prop} {n : Nat} (h : ∀ a (r : List Value), r.length = n → R (a :: r)) (us : List Value) (hl : us.length = n + 1) : R us := by
  cases us with
  | nil => cases hl
  | cons a r => exact h a r (Nat.succ.inj hl)
theorem bd2 {R : List Value → Prop} (h : ∀ a b, R [a, b]) (us : List Value) (hl : us.length = 2) : R us := bdS (n := 1) (fun a r hr => bd1 (R := fun r => R (a :: r)) (h a) r hr) us hl
theorem bd3 {R : List Value → Prop} (h : ∀ a b c, R [a, b, c]) (us : List Value) (hl : us.length = 3) : R us := bdS (n := 2) (fun a r hr => bd2 (R := fun r => R (a :: r)) (h a) r hr) us hl
theorem bd4 {R : List Value → Prop} (h : ∀ a b c d, R [a, b, c, d]) (us : List Value) (hl : us.length = 4) : R us := bdS (n := 3) (fun a r hr => bd3 (R := fun r => R (a :: r)) (h a) r hr) us hl
theorem bd5 {R : List Value → Prop} (h : ∀ a b c d e, R [a, b, c, d, e]) (us : List Value) (hl : us.length = 5) : R us := bdS (n := 4) (fun a r hr => bd4 (R := fun r => R (a :: r)) (h a) r hr) us hl

noncomputable def sCut (t : TS) : TS := fun D σ H => ∃ P : St → Hp → Prop, t { D with nx := P } σ H ∧ ∀ σ' H', P σ' H' → D.nx σ' H'
theorem rd_cut {t : TS} {D : Ends} {σ : St} {H : Hp} (P : St → Hp → Prop) (q : t { D with nx := P } σ H) (m : ∀ σ' H', P σ' H' → D.nx σ' H') : sCut t D σ H := ⟨P, q, m⟩
theorem ps_cut {X : Cx} {st : Stmt} {t : TS} (h : PS X st t) : PS X st (sCut t) := by
  intro pins s σ H D I q
  obtain ⟨P, q, m⟩ := q
  refine wpAny_mono (h pins s σ H { D with nx := P } I q) (fun f s' z => ?_) fun _ _ z => z
  cases f with
  | next => obtain ⟨σ', H', I', q'⟩ := z; exact ⟨σ', H', I', m _ _ q'⟩
  | brk => exact z
  | cont => exact z
  | ret u => exact z

theorem sp_gen {sp : Sp} {vs : List V} {H : Hp} {Q : VK} {E : XK} (h : ∀ Q0 : VK, (∀ v H', Q v H' → Q0 v H') → sp vs H Q0 E) : sp vs H Q E := h Q fun _ _ z => z

theorem keepIt {p : Prop} (h : p) : p := h

noncomputable def accF (c p n : Int) (pr st : Addr) : List (Str × V) := [("coin", .int c), ("purse", .int p), ("count", .int n), ("program", .ref pr), ("store", .ref st)]
structure AcAt (K : PySem.W.Frag) (C : Addr) (H : Hp) (a dx pr st : Addr) (c p n : Int) (rs : List Row) (f : Int → Int) (m : Nat) : Prop where
  ob : H a = some (.ins C dx (accF c p n pr st))
  pg : ∃ xs, H pr = some (.lst xs) ∧ RowsAt K H rs xs
  sto : StoreAt H st f m
noncomputable def spInit (K : PySem.W.Frag) (C : Addr) : Sp := fun vs H Q _ => ∃ (a dx pr0 : Addr) (c p : Int) (xs : List V) (rs : List Row), vs = [.ref a, .int c, .int p, .ref pr0] ∧ H a = some (.ins C dx []) ∧ SqL K H pr0 xs ∧ RowsAt K H rs xs ∧
  ∀ (pr st : Addr) (H' : Hp), H pr = none → H st = none → pr ≠ st → AcAt K C H' a dx pr st c p 0 rs (fun _ => 0) 0 → (∀ b o, H b = some o → b ≠ a → H' b = some o) → Q .non H'
noncomputable def spLoaded (K : PySem.W.Frag) (C : Addr) : Sp := fun vs H Q _ => ∃ (a dx pr st : Addr) (c p n : Int) (rs : List Row) (f : Int → Int) (m : Nat) (i : Int), vs = [.ref a, .int i] ∧ AcAt K C H a dx pr st c p n rs f m ∧ Q (.int (f i)) H
noncomputable def spKeep (K : PySem.W.Frag) (C : Addr) : Sp := fun vs H Q _ => ∃ (a dx pr st : Addr) (c p n : Int) (rs : List Row) (f : Int → Int) (m : Nat) (i v : Int), vs = [.ref a, .int i, .int v] ∧ AcAt K C H a dx pr st c p n rs f m ∧ m ≤ 1000000 ∧
  ∀ H', (∀ b, b ≠ st → H' b = H b) → StoreAt H' st (putFn f i v) (m + 1) → Q .non H'
theorem AcAt.nd {K : PySem.W.Frag} {C : Addr} {H H' : Hp} {a dx pr st : Addr} {c p n : Int} {rs : List Row} {f g : Int → Int} {m m' : Nat} (h : AcAt K C H a dx pr st c p n rs f m) (s : SameND H H') (e : StoreAt H' st g m') : AcAt K C H' a dx pr st c p n rs g m' :=
  ⟨s _ _ h.ob (by intro _ z; cases z), let ⟨xs, e1, e2⟩ := h.pg; ⟨xs, s _ _ e1 (by intro _ z; cases z), e2.keep s.imm⟩, e⟩
theorem SameND.but {H H' : Hp} {st : Addr} {kvs : List (Key × V)} (h : H st = some (.dK kvs)) (k : ∀ b, b ≠ st → H' b = H b) : SameND H H' := fun b u e n => by
  rw [k b (fun z => by rw [z, h] at e; exact n kvs (Option.some.inj e).symm)]; exact e

structure AcI where
  a : Addr
  dx : Addr
  pr : Addr
  st : Addr
structure AcS where
  coin : Int
  purse : Int
  count : Int
  rows : List Row
  store : Int → Int
noncomputable def roomV : Option AcI → V
  | none => .non
  | some x => .ref x.a
noncomputable def Acc (K : PySem.W.Frag) (C : Addr) (H : Hp) (x : AcI) (S : AcS) (m : Nat) : Prop := AcAt K C H x.a x.dx x.pr x.st S.coin S.purse S.count S.rows S.store m
structure Rooms (K : PySem.W.Frag) (C : Addr) (H : Hp) (R : Addr) (A : Nat → Option AcI) (S : Nat → AcS) (m : Nat) : Prop where
  ob : H R = some (.lst ((List.range 16).map fun i => roomV (A i)))
  ac : ∀ i x, i < 16 → A i = some x → Acc K C H x (S i) m
  da : ∀ i j x y, i < 16 → j < 16 → A i = some x → A j = some y → x.a = y.a → i = j
  ds : ∀ i j x y, i < 16 → j < 16 → A i = some x → A j = some y → x.st = y.st → i = j
noncomputable def setS (S : Nat → AcS) (i : Nat) (v : AcS) : Nat → AcS := fun j => if j = i then v else S j
theorem Rooms.at {K : PySem.W.Frag} {C : Addr} {H : Hp} {R : Addr} {A : Nat → Option AcI} {S : Nat → AcS} {m : Nat} (r : Rooms K C H R A S m) {i : Nat} (hi : i < 16) {x : AcI} (hx : A i = some x) : atI ((List.range 16).map fun i => roomV (A i)) (i : Int) = some (.ref x.a) :=
  atI_nat' (i := i) (by rw [List.getElem?_map, List.getElem?_range hi]; show some (roomV (A i)) = _; rw [hx]; rfl) rfl
theorem Acc.le {K : PySem.W.Frag} {C : Addr} {H : Hp} {x : AcI} {S : AcS} {m m' : Nat} (h : Acc K C H x S m) (e : m ≤ m') : Acc K C H x S m' := ⟨h.ob, h.pg, h.sto.le e⟩
theorem Rooms.keep {K : PySem.W.Frag} {C : Addr} {H H' : Hp} {R : Addr} {A : Nat → Option AcI} {S : Nat → AcS} {m : Nat} (r : Rooms K C H R A S m) {i : Nat} (hi : i < 16) {x : AcI} (hx : A i = some x) (k : ∀ b, b ≠ x.st → H' b = H b) {p v : Int} (e : StoreAt H' x.st (putFn (S i).store p v) (m + 1)) :
    Rooms K C H' R A (setS S i { S i with store := putFn (S i).store p v }) (m + 1) := by
  have ai := r.ac i x hi hx
  obtain ⟨kvs, hs, _⟩ := ai.sto
  have nd := SameND.but hs k
  refine ⟨by rw [k R (ne_of r.ob hs (by intro z; cases z))]; exact r.ob, fun j y hj hy => ?_, r.da, r.ds⟩
  unfold setS
  by_cases z : j = i
  · subst z
    rw [hx] at hy
    cases hy
    rw [if_pos rfl]
    exact AcAt.nd ai nd e
  · rw [if_neg z]
    have aj := (r.ac j y hj hy).le (Nat.le_succ m)
    have hne : y.st ≠ x.st := fun q => z (r.ds j i y x hj hi hy hx q)
    exact AcAt.nd aj nd (aj.sto.same (k _ hne))
theorem Rooms.coin {K : PySem.W.Frag} {C : Addr} {H : Hp} {R : Addr} {A : Nat → Option AcI} {S : Nat → AcS} {m : Nat} (r : Rooms K C H R A S m) {i : Nat} (hi : i < 16) {x : AcI} (hx : A i = some x) (c : Int) :
    Rooms K C (upd H x.a (.ins C x.dx (accF c (S i).purse (S i).count x.pr x.st))) R A (setS S i { S i with coin := c }) m := by
  have ai := r.ac i x hi hx
  have im : SameI H (upd H x.a (.ins C x.dx (accF c (S i).purse (S i).count x.pr x.st))) := SameI.upd ai.ob notImm_ins
  refine ⟨by rw [upd_ne (ne_of r.ob ai.ob (by intro z; cases z))]; exact r.ob, fun j y hj hy => ?_, r.da, r.ds⟩
  have aj := r.ac j y hj hy
  obtain ⟨xs, e1, e2⟩ := aj.pg
  obtain ⟨kvs, e3, e4⟩ := aj.sto
  have f1 : (upd H x.a (.ins C x.dx (accF c (S i).purse (S i).count x.pr x.st))) y.pr = some (.lst xs) := by rw [upd_ne (ne_of e1 ai.ob (by intro z; cases z))]; exact e1
  have f2 : (upd H x.a (.ins C x.dx (accF c (S i).purse (S i).count x.pr x.st))) y.st = some (.dK kvs) := by rw [upd_ne (ne_of e3 ai.ob (by intro z; cases z))]; exact e3
  unfold setS
  by_cases z : j = i
  · subst z
    rw [hx] at hy
    cases hy
    rw [if_pos rfl]
    exact ⟨upd_same, ⟨xs, f1, e2.keep im⟩, kvs, f2, e4⟩
  · rw [if_neg z]
    have hne : y.a ≠ x.a := fun q => z (r.da j i y x hj hi hy hx q)
    exact ⟨by rw [upd_ne hne]; exact aj.ob, ⟨xs, f1, e2.keep im⟩, kvs, f2, e4⟩
noncomputable def moved (S : Nat → AcS) (i j : Nat) (k : Int) : Nat → AcS := let S1 := setS S i { S i with coin := (S i).coin - k }; setS S1 j { S1 j with coin := (S1 j).coin + k }
noncomputable def spShift (K : PySem.W.Frag) (C : Addr) : Sp := fun vs H Q _ => ∃ (R : Addr) (A : Nat → Option AcI) (S : Nat → AcS) (m i j : Nat) (x y : AcI) (k : Int), vs = [.ref x.a, .ref y.a, .int k] ∧ Rooms K C H R A S m ∧ i < 16 ∧ j < 16 ∧ A i = some x ∧ A j = some y ∧
  ∀ H', (∀ b, b ≠ x.a → b ≠ y.a → H' b = H b) → Rooms K C H' R A (moved S i j k) m → Q .non H'

section
variable {P : Program} {w : World} {K : PySem.W.Frag} {mg : Str → Option Value} {base : Heap}
theorem sc_Account___init__ : FnScope ["self", "coin", "purse", "program"] ["self", "coin", "purse", "program"] (defScope s_Account___init__) := ⟨rfl, rfl, rfl, by decide +kernel, rfl, by decide +kernel, by decide +kernel⟩
theorem ok_Account___init__   {cAccount : Addr} (D : MethAt K cAccount "__init__" "Account.__init__" s_Account___init__) (tAccount : T_Account K mg cAccount) (n_list : mg "list" = none) : ICal P w K mg base 1 "Account" cAccount (spInit K cAccount) := by
  refine ical_of (N := ["self", "coin", "purse", "program"]) (ps := ["self", "coin", "purse", "program"]) D tAccount.k sc_Account___init__ (fun vs H Q E h => ?_) (fun _ _ _ _ _ _ us hl => bd4 (R := fun us => bindArgs _ ⟨us, []⟩ = pure (List.zip _ us)) (fun _ _ _ _ => rfl) us hl) (fun f cdv A outer s H vs Q E hr h => ?_)
  · obtain ⟨a, dx, pr0, c, p, xs, rs, rfl, _⟩ := h; rfl
  · obtain ⟨a, dx, pr0, c, p, xs, rs, rfl, ha, hl, hR, k⟩ := h
    refine ⟨_, (pss_cons (ps_fld (pv 0) (pv 1) rfl)
      (pss_cons (ps_fld (pv 0) (pv 2) rfl)
      (pss_cons (ps_fld (pv 0) pe_int rfl)
      (pss_cons (ps_fld (pv 0) (pe_callTy ct_list rfl n_list PyProof.Rows.boot_list (pa_cons (pv 3) pa_nil)) rfl)
      (pss_one (ps_fld (pv 0) pe_dnewK rfl)))))), ?_⟩
    try simp only [nox_K, nox_P, nox_w, nox_mg, nox_base, cxOf_K, cxOf_P, cxOf_w, cxOf_mg, cxOf_base]
    repeat walk_at "rdk"
    refine rd_sfldA ha tAccount.k.cl tAccount.n_coin (by decide) ?_
    repeat walk_at "rdk"
    refine rd_sfldA upd_same tAccount.k.cl tAccount.n_purse (by show 1 < 1000; decide) ?_
    rw [upd_upd]
    repeat walk_at "rdk"
    refine rd_sfldA upd_same tAccount.k.cl tAccount.n_count (by show 2 < 1000; decide) ?_
    rw [upd_upd]
    repeat walk_at "rdk"
    refine rd_listL (hl.updI ha) fun pr hpr => ?_
    have hn : H pr = none := by
      by_cases e : pr = a
      · subst e; rw [upd_same] at hpr; cases hpr
      · rw [upd_ne e] at hpr; exact hpr
    have na : a ≠ pr := ne_of_none ha hn
    repeat walk_at "rdk"
    refine rd_sfldA (by rw [upd_ne na, upd_same]) tAccount.k.cl tAccount.n_program (by show 3 < 1000; decide) ?_
    repeat walk_at "rdk"
    rename_i st hst
    have ns : st ≠ a := fun e => by subst e; rw [upd_same] at hst; cases hst
    have np : st ≠ pr := fun e => by subst e; rw [upd_ne ns, upd_same] at hst; cases hst
    have hn2 : H st = none := by rw [upd_ne ns, upd_ne np, upd_ne ns] at hst; exact hst
    refine rd_sfldA (by rw [upd_ne ns.symm, upd_same]) tAccount.k.cl tAccount.n_store (by show 4 < 1000; decide) ?_
    have kp : ∀ b o, H b = some o → b ≠ a → (upd (upd (upd (upd (upd H a (.ins cAccount dx [("coin", .int c), ("purse", .int p), ("count", .int 0)])) pr (.lst xs)) a (.ins cAccount dx [("coin", .int c), ("purse", .int p), ("count", .int 0), ("program", .ref pr)])) st (.dK [])) a (.ins cAccount dx (accF c p 0 pr st))) b = some o := by
      intro b o e hb
      have h1 : b ≠ pr := ne_of_none e hn
      have h2 : b ≠ st := ne_of_none e hn2
      rw [upd_ne hb, upd_ne h2, upd_ne hb, upd_ne h1, upd_ne hb]
      exact e
    refine k pr st _ hn hn2 np.symm ⟨?_, ⟨xs, ?_, ?_⟩, ⟨[], ?_, by decide, by simp, by simp, fun i => rfl⟩⟩ ?_
    · rw [upd_same]; rfl
    · rw [upd_ne na.symm, upd_ne np.symm, upd_ne na.symm, upd_same]
    · refine hR.keep fun b u e i => ?_
      have hb : b ≠ a := fun z => by rw [z, ha] at e; cases e; exact notImm_ins i
      exact kp b u e hb
    · rw [upd_ne ns, upd_same]
    · exact kp
theorem sc_Account_loaded : FnScope ["self", "place"] ["self", "place"] (defScope s_Account_loaded) := ⟨rfl, rfl, rfl, by decide +kernel, rfl, by decide +kernel, by decide +kernel⟩
theorem ok_Account_loaded   {cAccount : Addr} (D : MethAt K cAccount "loaded" "Account.loaded" s_Account_loaded) (tAccount : T_Account K mg cAccount) : MCal P w K mg base 1 cAccount "loaded" (spLoaded K cAccount) := by
  refine mcal_of (N := ["self", "place"]) (ps := ["self", "place"]) D tAccount.k.cl sc_Account_loaded (fun vs H Q E h => ?_) (fun _ _ _ _ _ _ us hl => bd2 (R := fun us => bindArgs _ ⟨us, []⟩ = pure (List.zip _ us)) (fun _ _ => rfl) us hl) (fun f cdv A outer s H vs Q E hr h => ?_)
  · obtain ⟨a, dx, pr, st, c, p, n, rs, f, m, i, rfl, _⟩ := h; rfl
  · obtain ⟨a, dx, pr, st, c, p, n, rs, fn, m, i, rfl, A, k⟩ := h
    first | refine sp_gen fun zQ zq => ⟨_, (pss_one (ps_ret (pe_dget2 (hu_of hr) (pe_fld (pv 0) rfl) (pv 1) pe_int ⟨rfl, rfl, rfl, rfl⟩))), zq _ _ ?_⟩ | refine ⟨_, (pss_one (ps_ret (pe_dget2 (hu_of hr) (pe_fld (pv 0) rfl) (pv 1) pe_int ⟨rfl, rfl, rfl, rfl⟩))), ?_⟩
    try simp only [nox_K, nox_P, nox_w, nox_mg, nox_base, cxOf_K, cxOf_P, cxOf_w, cxOf_mg, cxOf_base]
    obtain ⟨kvs, hs, _, _, _, hf⟩ := A.sto
    repeat walk_at "rdk"
    refine rd_fldA A.ob tAccount.k.cl tAccount.n_store rfl ?_
    first | refine sp_gen fun zQ zq => ⟨st, rfl, isD_k hs, zq _ _ ?_⟩ | refine ⟨st, rfl, isD_k hs, ?_⟩
    repeat walk_at "rdk"
    exact ⟨_, DGet.k (k := Sum.inl i) hs, by rw [hf i]; exact k⟩
theorem sc_Account_keep : FnScope ["self", "place", "number"] ["self", "place", "number"] (defScope s_Account_keep) := ⟨rfl, rfl, rfl, by decide +kernel, rfl, by decide +kernel, by decide +kernel⟩
theorem ok_Account_keep   {cAccount : Addr} (D : MethAt K cAccount "keep" "Account.keep" s_Account_keep) (tAccount : T_Account K mg cAccount) : MCal P w K mg base 1 cAccount "keep" (spKeep K cAccount) := by
  refine mcal_of (N := ["self", "place", "number"]) (ps := ["self", "place", "number"]) D tAccount.k.cl sc_Account_keep (fun vs H Q E h => ?_) (fun _ _ _ _ _ _ us hl => bd3 (R := fun us => bindArgs _ ⟨us, []⟩ = pure (List.zip _ us)) (fun _ _ _ => rfl) us hl) (fun f cdv A outer s H vs Q E hr h => ?_)
  · obtain ⟨a, dx, pr, st, c, p, n, rs, f, m, i, v, rfl, _⟩ := h; rfl
  · obtain ⟨a, dx, pr, st, c, p, n, rs, fn, m, i, v, rfl, A, hm, k⟩ := h
    first | refine sp_gen fun zQ zq => ⟨_, (pss_one (ps_if (pt_cmpR op_eq (pv 2) pe_int (nomark _)) (pss_one (ps_expr (pe_dpop2 (pe_fld (pv 0) rfl) (pv 1) pe_non ⟨rfl, rfl, rfl, rfl⟩))) (pss_one (ps_dput (hu_of hr) (pe_fld (pv 0) rfl) (pv 1) (pv 2) rfl)))), zq _ _ ?_⟩ | refine ⟨_, (pss_one (ps_if (pt_cmpR op_eq (pv 2) pe_int (nomark _)) (pss_one (ps_expr (pe_dpop2 (pe_fld (pv 0) rfl) (pv 1) pe_non ⟨rfl, rfl, rfl, rfl⟩))) (pss_one (ps_dput (hu_of hr) (pe_fld (pv 0) rfl) (pv 1) (pv 2) rfl)))), ?_⟩
    try simp only [nox_K, nox_P, nox_w, nox_mg, nox_base, cxOf_K, cxOf_P, cxOf_w, cxOf_mg, cxOf_base]
    obtain ⟨kvs, hs, hl, hn, hz, hf⟩ := A.sto
    repeat' walk_at "rdk"
    · rename_i hv
      subst hv
      refine rd_fldA A.ob tAccount.k.cl tAccount.n_store rfl ⟨st, rfl, isD_k hs, ?_⟩
      repeat walk_at "rdk"
      refine ⟨kvs, Sum.inl i, hs, rfl, fun v hv => ?_, fun hv => ?_⟩
      · dsimp only
        repeat walk_at "rdk"
        exact k _ (fun b hb => upd_ne hb) (StoreAt.drop hl hn hz hf i)
      · dsimp only
        repeat walk_at "rdk"
        refine k _ (fun b hb => rfl) ⟨kvs, hs, Nat.le_trans hl (Nat.le_succ _), hn, hz, fun j => ?_⟩
        unfold putFn
        by_cases e : j = i
        · subst e
          rw [if_pos rfl, hv]
          rfl
        · rw [if_neg e]
          exact hf j
    · rename_i hv
      refine rd_fldA A.ob tAccount.k.cl tAccount.n_store rfl ?_
      repeat walk_at "rdk"
      exact rd_dputA hs (Nat.lt_of_le_of_lt (Nat.le_trans hl hm) (by decide)) (k _ (fun b hb => upd_ne hb) (StoreAt.put hl hn hz hf i v hv))
theorem sc_shift_coin : FnScope ["giver", "taker", "many"] ["giver", "taker", "many"] (defScope s_shift_coin) := ⟨rfl, rfl, rfl, by decide +kernel, rfl, by decide +kernel, by decide +kernel⟩
theorem ok_shift_coin   {cAccount : Addr} (D : DefAt K mg "shift_coin" s_shift_coin) (tAccount : T_Account K mg cAccount) : Cal P w K mg base 1 "shift_coin" (spShift K cAccount) := by
  refine cal_of (N := ["giver", "taker", "many"]) (ps := ["giver", "taker", "many"]) D sc_shift_coin (fun vs H Q E h => ?_) (fun _ _ _ _ _ _ us hl => bd3 (R := fun us => bindArgs _ ⟨us, []⟩ = pure (List.zip _ us)) (fun _ _ _ => rfl) us hl) (fun f cdv A outer s H vs Q E hr h => ?_)
  · obtain ⟨R, A, S, m, i, j, x, y, k, rfl, _⟩ := h; rfl
  · obtain ⟨R, Ar, S, m, i, j, x, y, kk, rfl, r, hi, hj, hx, hy, k⟩ := h
    refine ⟨_, (pss_cons (ps_fldaug (pv 0) (pv 2) in_sub)
      (pss_one (ps_fldaug (pv 1) (pv 2) in_add))), ?_⟩
    try simp only [nox_K, nox_P, nox_w, nox_mg, nox_base, cxOf_K, cxOf_P, cxOf_w, cxOf_mg, cxOf_base]
    have ax := r.ac i x hi hx
    repeat walk_at "rdk"
    refine rd_fldA2 ax.ob tAccount.k.cl tAccount.n_coin rfl ?_
    repeat walk_at "rdk"
    refine ⟨x.dx, _, ax.ob, by show 5 < 1000; decide, ?_⟩
    have r1 := r.coin hi hx ((S i).coin - kk)
    have fr1 : ∀ b, b ≠ x.a → (upd H x.a (.ins cAccount x.dx (accF ((S i).coin - kk) (S i).purse (S i).count x.pr x.st))) b = H b := fun b hb => upd_ne hb
    have ep : ∀ (c c' p n : Int) (pr st : Addr), putF "coin" (.int c') (accF c p n pr st) = accF c' p n pr st := fun _ _ _ _ _ _ => rfl
    rw [ep]
    generalize upd H x.a _ = H1 at r1 fr1
    (revert H1 r1 fr1; refine keepIt ?_; intro H1 r1 fr1)
    generalize hS1 : setS S i { S i with coin := (S i).coin - kk } = S1 at r1
    (revert S1 hS1 r1; refine keepIt ?_; intro S1 hS1 r1)
    have ay := r1.ac j y hj hy
    dsimp only
    repeat walk_at "rdk"
    refine rd_fldA2 ay.ob tAccount.k.cl tAccount.n_coin rfl ?_
    repeat walk_at "rdk"
    refine ⟨y.dx, _, ay.ob, by show 5 < 1000; decide, ?_⟩
    rw [ep]
    have r2 := r1.coin hj hy ((S1 j).coin + kk)
    refine k _ (fun b h1 h2 => by rw [upd_ne h2]; exact fr1 b h1) ?_
    unfold moved
    rw [hS1]
    exact r2

end
end My

namespace My
open PySem L2

inductive Dd where
  | save (s p o n : Int)
  | move (s t k : Int)
  | note (s n : Int)
noncomputable def saveF (s p o n : Int) : List (Str × V) := [("slot", .int s), ("place", .int p), ("old", .int o), ("new", .int n)]
noncomputable def moveF (s t k : Int) : List (Str × V) := [("slot", .int s), ("taker", .int t), ("many", .int k)]
noncomputable def noteF (s n : Int) : List (Str × V) := [("slot", .int s), ("number", .int n)]
noncomputable def doneS (S : Nat → AcS) : Dd → Nat → AcS
  | .save s p _ n => setS S s.toNat { S s.toNat with store := putFn (S s.toNat).store p n }
  | .move s t k => moved S s.toNat t.toNat k
  | .note _ _ => S
noncomputable def fitsD (A : Nat → Option AcI) : Dd → Prop
  | .save s _ _ _ => ∃ i x, s = ((i : Nat) : Int) ∧ i < 16 ∧ A i = some x
  | .move s t _ => (∃ i x, s = ((i : Nat) : Int) ∧ i < 16 ∧ A i = some x) ∧ ∃ i x, t = ((i : Nat) : Int) ∧ i < 16 ∧ A i = some x
  | .note _ _ => True
noncomputable def Out (A : Nat → Option AcI) (b : Addr) : Prop := ∀ i x, i < 16 → A i = some x → b ≠ x.a ∧ b ≠ x.st
theorem Rooms.le {K : PySem.W.Frag} {C : Addr} {H : Hp} {R : Addr} {A : Nat → Option AcI} {S : Nat → AcS} {m m' : Nat} (r : Rooms K C H R A S m) (e : m ≤ m') : Rooms K C H R A S m' := ⟨r.ob, fun i x hi hx => (r.ac i x hi hx).le e, r.da, r.ds⟩
noncomputable def spInitSv (C : Addr) : Sp := fun vs H Q _ => ∃ (a dx : Addr) (s p o n : Int), vs = [.ref a, .int s, .int p, .int o, .int n] ∧ H a = some (.ins C dx []) ∧ Q .non (upd H a (.ins C dx (saveF s p o n)))
noncomputable def spInitMv (C : Addr) : Sp := fun vs H Q _ => ∃ (a dx : Addr) (s t k : Int), vs = [.ref a, .int s, .int t, .int k] ∧ H a = some (.ins C dx []) ∧ Q .non (upd H a (.ins C dx (moveF s t k)))
noncomputable def spInitNt (C : Addr) : Sp := fun vs H Q _ => ∃ (a dx : Addr) (s n : Int), vs = [.ref a, .int s, .int n] ∧ H a = some (.ins C dx []) ∧ Q .non (upd H a (.ins C dx (noteF s n)))
noncomputable def fldD : Dd → List (Str × V)
  | .save s p o n => saveF s p o n
  | .move s t k => moveF s t k
  | .note s n => noteF s n
noncomputable def spDo (K : PySem.W.Frag) (C CD : Addr) (ok : Dd → Prop) : Sp := fun vs H Q _ => ∃ (a dx R : Addr) (d : Dd) (A : Nat → Option AcI) (S : Nat → AcS) (m : Nat), vs = [.ref a, .ref R] ∧ ok d ∧ H a = some (.ins CD dx (fldD d)) ∧ Rooms K C H R A S m ∧ fitsD A d ∧ m ≤ 1000000 ∧
  ∀ H', (∀ b, Out A b → H' b = H b) → Rooms K C H' R A (doneS S d) (m + 1) → Q .non H'
noncomputable def isSave (d : Dd) : Prop := ∃ s p o n, d = .save s p o n
noncomputable def isMove (d : Dd) : Prop := ∃ s t k, d = .move s t k
noncomputable def isNote (d : Dd) : Prop := ∃ s n, d = .note s n

noncomputable def undoneS (S : Nat → AcS) : Dd → Nat → AcS
  | .save s p o _ => setS S s.toNat { S s.toNat with store := putFn (S s.toNat).store p o }
  | .move s t k => moved S t.toNat s.toNat k
  | .note _ _ => S
noncomputable def spUndo (K : PySem.W.Frag) (C CD : Addr) (ok : Dd → Prop) : Sp := fun vs H Q _ => ∃ (a dx R : Addr) (d : Dd) (A : Nat → Option AcI) (S : Nat → AcS) (m : Nat), vs = [.ref a, .ref R] ∧ ok d ∧ H a = some (.ins CD dx (fldD d)) ∧ Rooms K C H R A S m ∧ fitsD A d ∧ m ≤ 1000000 ∧
  ∀ H', (∀ b, Out A b → H' b = H b) → Rooms K C H' R A (undoneS S d) (m + 1) → Q .non H'
noncomputable def rightD (S : Nat → AcS) : Dd → Prop
  | .save s p o _ => (S s.toNat).store p = o
  | .move _ _ _ => True
  | .note _ _ => True
theorem setS_same (S : Nat → AcS) (i : Nat) (v : AcS) : setS S i v i = v := by unfold setS; rw [if_pos rfl]
theorem setS_setS (S : Nat → AcS) (i : Nat) (v w : AcS) : setS (setS S i v) i w = setS S i w := by
  funext j
  unfold setS
  by_cases h : j = i
  · rw [if_pos h, if_pos h]
  · rw [if_neg h, if_neg h, if_neg h]
theorem setS_id (S : Nat → AcS) (i : Nat) : setS S i (S i) = S := by
  funext j
  unfold setS
  by_cases h : j = i
  · rw [if_pos h, h]
  · rw [if_neg h]
theorem putFn_back {f : Int → Int} {p o n : Int} (h : f p = o) : putFn (putFn f p n) p o = f := by
  funext j
  unfold putFn
  by_cases e : j = p
  · rw [if_pos e, e, h]
  · rw [if_neg e, if_neg e]
theorem moved_coin (S : Nat → AcS) (i j : Nat) (k : Int) (n : Nat) : moved S i j k n = { S n with coin := (S n).coin - (if n = i then k else 0) + (if n = j then k else 0) } := by
  unfold moved setS
  dsimp only
  by_cases h1 : n = j
  · subst h1
    by_cases h2 : n = i
    · subst h2; simp
    · simp [h2]
  · by_cases h2 : n = i
    · subst h2; simp [h1]
    · simp [h1, h2]
theorem undone_done {S : Nat → AcS} {d : Dd} (h : rightD S d) : undoneS (doneS S d) d = S := by
  cases d with
  | save s p o n =>
    have e : doneS S (.save s p o n) s.toNat = { S s.toNat with store := putFn (S s.toNat).store p n } := setS_same ..
    show setS (setS S s.toNat _) s.toNat { doneS S (.save s p o n) s.toNat with store := putFn (doneS S (.save s p o n) s.toNat).store p o } = S
    rw [setS_setS, e]
    dsimp only
    rw [putFn_back h]
    exact setS_id S _
  | move s t k =>
    show moved (moved S _ _ k) _ _ k = S
    funext n
    rw [moved_coin, moved_coin]
    dsimp only
    have : (S n).coin - (if n = s.toNat then k else 0) + (if n = t.toNat then k else 0) - (if n = t.toNat then k else 0) + (if n = s.toNat then k else 0) = (S n).coin := by omega
    rw [this]
  | note s n => rfl

section
variable {P : Program} {w : World} {K : PySem.W.Frag} {mg : Str → Option Value} {base : Heap}
theorem sc_Save___init__ : FnScope ["self", "slot", "place", "old", "new"] ["self", "slot", "place", "old", "new"] (defScope s_Save___init__) := ⟨rfl, rfl, rfl, by decide +kernel, rfl, by decide +kernel, by decide +kernel⟩
theorem ok_Save___init__   {cSave : Addr} (D : MethAt K cSave "__init__" "Save.__init__" s_Save___init__) (tSave : T_Save K mg cSave) : ICal P w K mg base 1 "Save" cSave (spInitSv cSave) := by
  refine ical_of (N := ["self", "slot", "place", "old", "new"]) (ps := ["self", "slot", "place", "old", "new"]) D tSave.k sc_Save___init__ (fun vs H Q E h => ?_) (fun _ _ _ _ _ _ us hl => bd5 (R := fun us => bindArgs _ ⟨us, []⟩ = pure (List.zip _ us)) (fun _ _ _ _ _ => rfl) us hl) (fun f cdv A outer s H vs Q E hr h => ?_)
  · obtain ⟨a, dx, s0, p, o, n, rfl, _⟩ := h; rfl
  · obtain ⟨a, dx, s0, p, o, n, rfl, ha, k⟩ := h
    refine ⟨_, (pss_cons (ps_fld (pv 0) (pv 1) rfl)
      (pss_cons (ps_fld (pv 0) (pv 2) rfl)
      (pss_cons (ps_fld (pv 0) (pv 3) rfl)
      (pss_one (ps_fld (pv 0) (pv 4) rfl))))), ?_⟩
    try simp only [nox_K, nox_P, nox_w, nox_mg, nox_base, cxOf_K, cxOf_P, cxOf_w, cxOf_mg, cxOf_base]
    repeat walk_at "rdk"
    refine rd_sfldA ha tSave.k.cl tSave.n_slot (by decide) ?_
    repeat walk_at "rdk"
    refine rd_sfldA upd_same tSave.k.cl tSave.n_place (by show 1 < 1000; decide) ?_
    rw [upd_upd]
    repeat walk_at "rdk"
    refine rd_sfldA upd_same tSave.k.cl tSave.n_old (by show 2 < 1000; decide) ?_
    rw [upd_upd]
    repeat walk_at "rdk"
    refine rd_sfldA upd_same tSave.k.cl tSave.n_new (by show 3 < 1000; decide) ?_
    rw [upd_upd]
    exact k
theorem sc_Move___init__ : FnScope ["self", "slot", "taker", "many"] ["self", "slot", "taker", "many"] (defScope s_Move___init__) := ⟨rfl, rfl, rfl, by decide +kernel, rfl, by decide +kernel, by decide +kernel⟩
theorem ok_Move___init__   {cMove : Addr} (D : MethAt K cMove "__init__" "Move.__init__" s_Move___init__) (tMove : T_Move K mg cMove) : ICal P w K mg base 1 "Move" cMove (spInitMv cMove) := by
  refine ical_of (N := ["self", "slot", "taker", "many"]) (ps := ["self", "slot", "taker", "many"]) D tMove.k sc_Move___init__ (fun vs H Q E h => ?_) (fun _ _ _ _ _ _ us hl => bd4 (R := fun us => bindArgs _ ⟨us, []⟩ = pure (List.zip _ us)) (fun _ _ _ _ => rfl) us hl) (fun f cdv A outer s H vs Q E hr h => ?_)
  · obtain ⟨a, dx, s0, t0, kk, rfl, _⟩ := h; rfl
  · obtain ⟨a, dx, s0, t0, kk, rfl, ha, k⟩ := h
    refine ⟨_, (pss_cons (ps_fld (pv 0) (pv 1) rfl)
      (pss_cons (ps_fld (pv 0) (pv 2) rfl)
      (pss_one (ps_fld (pv 0) (pv 3) rfl)))), ?_⟩
    try simp only [nox_K, nox_P, nox_w, nox_mg, nox_base, cxOf_K, cxOf_P, cxOf_w, cxOf_mg, cxOf_base]
    repeat walk_at "rdk"
    refine rd_sfldA ha tMove.k.cl tMove.n_slot (by decide) ?_
    repeat walk_at "rdk"
    refine rd_sfldA upd_same tMove.k.cl tMove.n_taker (by show 1 < 1000; decide) ?_
    rw [upd_upd]
    repeat walk_at "rdk"
    refine rd_sfldA upd_same tMove.k.cl tMove.n_many (by show 2 < 1000; decide) ?_
    rw [upd_upd]
    exact k
theorem sc_Note___init__ : FnScope ["self", "slot", "number"] ["self", "slot", "number"] (defScope s_Note___init__) := ⟨rfl, rfl, rfl, by decide +kernel, rfl, by decide +kernel, by decide +kernel⟩
theorem ok_Note___init__   {cNote : Addr} (D : MethAt K cNote "__init__" "Note.__init__" s_Note___init__) (tNote : T_Note K mg cNote) : ICal P w K mg base 1 "Note" cNote (spInitNt cNote) := by
  refine ical_of (N := ["self", "slot", "number"]) (ps := ["self", "slot", "number"]) D tNote.k sc_Note___init__ (fun vs H Q E h => ?_) (fun _ _ _ _ _ _ us hl => bd3 (R := fun us => bindArgs _ ⟨us, []⟩ = pure (List.zip _ us)) (fun _ _ _ => rfl) us hl) (fun f cdv A outer s H vs Q E hr h => ?_)
  · obtain ⟨a, dx, s0, n, rfl, _⟩ := h; rfl
  · obtain ⟨a, dx, s0, n, rfl, ha, k⟩ := h
    refine ⟨_, (pss_cons (ps_fld (pv 0) (pv 1) rfl)
      (pss_one (ps_fld (pv 0) (pv 2) rfl))), ?_⟩
    try simp only [nox_K, nox_P, nox_w, nox_mg, nox_base, cxOf_K, cxOf_P, cxOf_w, cxOf_mg, cxOf_base]
    repeat walk_at "rdk"
    refine rd_sfldA ha tNote.k.cl tNote.n_slot (by decide) ?_
    repeat walk_at "rdk"
    refine rd_sfldA upd_same tNote.k.cl tNote.n_number (by show 1 < 1000; decide) ?_
    rw [upd_upd]
    exact k
theorem sc_Save_do : FnScope ["self", "rooms"] ["self", "rooms"] (defScope s_Save_do) := ⟨rfl, rfl, rfl, by decide +kernel, rfl, by decide +kernel, by decide +kernel⟩
theorem ok_Save_do   {cSave : Addr} {cAccount : Addr} (D : MethAt K cSave "do" "Save.do" s_Save_do) (tSave : T_Save K mg cSave) (tAccount : T_Account K mg cAccount) (m_Account_keep : MCal P w K mg base 1 cAccount "keep" (spKeep K cAccount)) : MCal P w K mg base 2 cSave "do" (spDo K cAccount cSave isSave) := by
  refine mcal_of (N := ["self", "rooms"]) (ps := ["self", "rooms"]) D tSave.k.cl sc_Save_do (fun vs H Q E h => ?_) (fun _ _ _ _ _ _ us hl => bd2 (R := fun us => bindArgs _ ⟨us, []⟩ = pure (List.zip _ us)) (fun _ _ => rfl) us hl) (fun f cdv A outer s H vs Q E hr h => ?_)
  · obtain ⟨a, dx, R, d, A, S, m, rfl, _⟩ := h; rfl
  · obtain ⟨a, dx, R, d, Ar, S, m, rfl, ⟨s0, p, o, n, rfl⟩, ha, r, ⟨i, x, rfl, hi, hx⟩, hm, k⟩ := h
    first | refine sp_gen fun zQ zq => ⟨_, (pss_one (ps_expr (pe_mcal m_Account_keep (hr.mono (by decide)) (pe_ix ix_list (pv 1) (pe_fld (pv 0) rfl) (fun _ _ => rfl)) (pa_cons (pe_fld (pv 0) rfl) (pa_cons (pe_fld (pv 0) rfl) pa_nil))))), zq _ _ ?_⟩ | refine ⟨_, (pss_one (ps_expr (pe_mcal m_Account_keep (hr.mono (by decide)) (pe_ix ix_list (pv 1) (pe_fld (pv 0) rfl) (fun _ _ => rfl)) (pa_cons (pe_fld (pv 0) rfl) (pa_cons (pe_fld (pv 0) rfl) pa_nil))))), ?_⟩
    try simp only [nox_K, nox_P, nox_w, nox_mg, nox_base, cxOf_K, cxOf_P, cxOf_w, cxOf_mg, cxOf_base]
    have ax := r.ac i x hi hx
    repeat walk_at "rdk"
    refine rd_fldA ha tSave.k.cl tSave.n_slot rfl ?_
    refine rd_ixL (sql_of r.ob) (r.at hi hx) ?_
    refine rd_methA ax.ob rfl ?_
    repeat walk_at "rdk"
    refine rd_fldA ha tSave.k.cl tSave.n_place rfl ?_
    repeat walk_at "rdk"
    refine rd_fldA ha tSave.k.cl tSave.n_new rfl ?_
    repeat walk_at "rdk"
    first | refine sp_gen fun zQ zq => ⟨x.a, x.dx, x.pr, x.st, _, _, _, _, _, m, p, n, rfl, ax, hm, fun H' k1 e1 => zq _ _ ?_⟩ | refine ⟨x.a, x.dx, x.pr, x.st, _, _, _, _, _, m, p, n, rfl, ax, hm, fun H' k1 e1 => ?_⟩
    repeat walk_at "rdk"
    refine k H' (fun b hb => k1 b (hb i x hi hx).2) ?_
    have := r.keep hi hx k1 e1
    exact this
theorem sc_Move_do : FnScope ["self", "rooms"] ["self", "rooms"] (defScope s_Move_do) := ⟨rfl, rfl, rfl, by decide +kernel, rfl, by decide +kernel, by decide +kernel⟩
theorem ok_Move_do   {cMove : Addr} (D : MethAt K cMove "do" "Move.do" s_Move_do) (tMove : T_Move K mg cMove) (c_shift_coin : Cal P w K mg base 1 "shift_coin" (spShift K cAccount)) : MCal P w K mg base 2 cMove "do" (spDo K cAccount cMove isMove) := by
  refine mcal_of (N := ["self", "rooms"]) (ps := ["self", "rooms"]) D tMove.k.cl sc_Move_do (fun vs H Q E h => ?_) (fun _ _ _ _ _ _ us hl => bd2 (R := fun us => bindArgs _ ⟨us, []⟩ = pure (List.zip _ us)) (fun _ _ => rfl) us hl) (fun f cdv A outer s H vs Q E hr h => ?_)
  · obtain ⟨a, dx, R, d, A, S, m, rfl, _⟩ := h; rfl
  · obtain ⟨a, dx, R, d, Ar, S, m, rfl, ⟨s0, t0, kk, rfl⟩, ha, r, ⟨⟨i, x, rfl, hi, hx⟩, j, y, rfl, hj, hy⟩, hm, k⟩ := h
    first | refine sp_gen fun zQ zq => ⟨_, (pss_one (ps_expr (pe_cal c_shift_coin (hr.mono (by decide)) rfl (pa_cons (pe_ix ix_list (pv 1) (pe_fld (pv 0) rfl) (fun _ _ => rfl)) (pa_cons (pe_ix ix_list (pv 1) (pe_fld (pv 0) rfl) (fun _ _ => rfl)) (pa_cons (pe_fld (pv 0) rfl) pa_nil)))))), zq _ _ ?_⟩ | refine ⟨_, (pss_one (ps_expr (pe_cal c_shift_coin (hr.mono (by decide)) rfl (pa_cons (pe_ix ix_list (pv 1) (pe_fld (pv 0) rfl) (fun _ _ => rfl)) (pa_cons (pe_ix ix_list (pv 1) (pe_fld (pv 0) rfl) (fun _ _ => rfl)) (pa_cons (pe_fld (pv 0) rfl) pa_nil)))))), ?_⟩
    try simp only [nox_K, nox_P, nox_w, nox_mg, nox_base, cxOf_K, cxOf_P, cxOf_w, cxOf_mg, cxOf_base]
    repeat walk_at "rdk"
    refine rd_fldA ha tMove.k.cl tMove.n_slot rfl ?_
    refine rd_ixL (sql_of r.ob) (r.at hi hx) ?_
    repeat walk_at "rdk"
    refine rd_fldA ha tMove.k.cl tMove.n_taker rfl ?_
    refine rd_ixL (sql_of r.ob) (r.at hj hy) ?_
    repeat walk_at "rdk"
    refine rd_fldA ha tMove.k.cl tMove.n_many rfl ?_
    repeat walk_at "rdk"
    first | refine sp_gen fun zQ zq => ⟨R, Ar, S, m, i, j, x, y, kk, rfl, r, hi, hj, hx, hy, fun H' k1 r1 => zq _ _ ?_⟩ | refine ⟨R, Ar, S, m, i, j, x, y, kk, rfl, r, hi, hj, hx, hy, fun H' k1 r1 => ?_⟩
    repeat walk_at "rdk"
    refine k H' (fun b hb => k1 b (hb i x hi hx).1 (hb j y hj hy).1) ?_
    exact r1.le (Nat.le_succ m)
theorem sc_Note_do : FnScope ["self", "rooms"] ["self", "rooms"] (defScope s_Note_do) := ⟨rfl, rfl, rfl, by decide +kernel, rfl, by decide +kernel, by decide +kernel⟩
theorem ok_Note_do   {cNote : Addr} (D : MethAt K cNote "do" "Deed.do" s_Note_do) (tNote : T_Note K mg cNote) : MCal P w K mg base 2 cNote "do" (spDo K cAccount cNote isNote) := by
  refine mcal_of (N := ["self", "rooms"]) (ps := ["self", "rooms"]) D tNote.k.cl sc_Note_do (fun vs H Q E h => ?_) (fun _ _ _ _ _ _ us hl => bd2 (R := fun us => bindArgs _ ⟨us, []⟩ = pure (List.zip _ us)) (fun _ _ => rfl) us hl) (fun f cdv A outer s H vs Q E hr h => ?_)
  · obtain ⟨a, dx, R, d, A, S, m, rfl, _⟩ := h; rfl
  · obtain ⟨a, dx, R, d, Ar, S, m, rfl, ⟨s0, n, rfl⟩, ha, r, _, hm, k⟩ := h
    refine ⟨_, (pss_one ps_pass), ?_⟩
    try simp only [nox_K, nox_P, nox_w, nox_mg, nox_base, cxOf_K, cxOf_P, cxOf_w, cxOf_mg, cxOf_base]
    exact k H (fun b _ => rfl) (r.le (Nat.le_succ m))
theorem sc_Save_undo : FnScope ["self", "rooms"] ["self", "rooms"] (defScope s_Save_undo) := ⟨rfl, rfl, rfl, by decide +kernel, rfl, by decide +kernel, by decide +kernel⟩
theorem ok_Save_undo   {cSave : Addr} {cAccount : Addr} (D : MethAt K cSave "undo" "Save.undo" s_Save_undo) (tSave : T_Save K mg cSave) (tAccount : T_Account K mg cAccount) (m_Account_keep : MCal P w K mg base 1 cAccount "keep" (spKeep K cAccount)) : MCal P w K mg base 2 cSave "undo" (spUndo K cAccount cSave isSave) := by
  refine mcal_of (N := ["self", "rooms"]) (ps := ["self", "rooms"]) D tSave.k.cl sc_Save_undo (fun vs H Q E h => ?_) (fun _ _ _ _ _ _ us hl => bd2 (R := fun us => bindArgs _ ⟨us, []⟩ = pure (List.zip _ us)) (fun _ _ => rfl) us hl) (fun f cdv A outer s H vs Q E hr h => ?_)
  · obtain ⟨a, dx, R, d, A, S, m, rfl, _⟩ := h; rfl
  · obtain ⟨a, dx, R, d, Ar, S, m, rfl, ⟨s0, p, o, n, rfl⟩, ha, r, ⟨i, x, rfl, hi, hx⟩, hm, k⟩ := h
    first | refine sp_gen fun zQ zq => ⟨_, (pss_one (ps_expr (pe_mcal m_Account_keep (hr.mono (by decide)) (pe_ix ix_list (pv 1) (pe_fld (pv 0) rfl) (fun _ _ => rfl)) (pa_cons (pe_fld (pv 0) rfl) (pa_cons (pe_fld (pv 0) rfl) pa_nil))))), zq _ _ ?_⟩ | refine ⟨_, (pss_one (ps_expr (pe_mcal m_Account_keep (hr.mono (by decide)) (pe_ix ix_list (pv 1) (pe_fld (pv 0) rfl) (fun _ _ => rfl)) (pa_cons (pe_fld (pv 0) rfl) (pa_cons (pe_fld (pv 0) rfl) pa_nil))))), ?_⟩
    try simp only [nox_K, nox_P, nox_w, nox_mg, nox_base, cxOf_K, cxOf_P, cxOf_w, cxOf_mg, cxOf_base]
    have ax := r.ac i x hi hx
    repeat walk_at "rdk"
    refine rd_fldA ha tSave.k.cl tSave.n_slot rfl ?_
    refine rd_ixL (sql_of r.ob) (r.at hi hx) ?_
    refine rd_methA ax.ob rfl ?_
    repeat walk_at "rdk"
    refine rd_fldA ha tSave.k.cl tSave.n_place rfl ?_
    repeat walk_at "rdk"
    refine rd_fldA ha tSave.k.cl tSave.n_old rfl ?_
    repeat walk_at "rdk"
    first | refine sp_gen fun zQ zq => ⟨x.a, x.dx, x.pr, x.st, _, _, _, _, _, m, p, o, rfl, ax, hm, fun H' k1 e1 => zq _ _ ?_⟩ | refine ⟨x.a, x.dx, x.pr, x.st, _, _, _, _, _, m, p, o, rfl, ax, hm, fun H' k1 e1 => ?_⟩
    repeat walk_at "rdk"
    refine k H' (fun b hb => k1 b (hb i x hi hx).2) ?_
    have := r.keep hi hx k1 e1
    exact this
theorem sc_Move_undo : FnScope ["self", "rooms"] ["self", "rooms"] (defScope s_Move_undo) := ⟨rfl, rfl, rfl, by decide +kernel, rfl, by decide +kernel, by decide +kernel⟩
theorem ok_Move_undo   {cMove : Addr} (D : MethAt K cMove "undo" "Move.undo" s_Move_undo) (tMove : T_Move K mg cMove) (c_shift_coin : Cal P w K mg base 1 "shift_coin" (spShift K cAccount)) : MCal P w K mg base 2 cMove "undo" (spUndo K cAccount cMove isMove) := by
  refine mcal_of (N := ["self", "rooms"]) (ps := ["self", "rooms"]) D tMove.k.cl sc_Move_undo (fun vs H Q E h => ?_) (fun _ _ _ _ _ _ us hl => bd2 (R := fun us => bindArgs _ ⟨us, []⟩ = pure (List.zip _ us)) (fun _ _ => rfl) us hl) (fun f cdv A outer s H vs Q E hr h => ?_)
  · obtain ⟨a, dx, R, d, A, S, m, rfl, _⟩ := h; rfl
  · obtain ⟨a, dx, R, d, Ar, S, m, rfl, ⟨s0, t0, kk, rfl⟩, ha, r, ⟨⟨i, x, rfl, hi, hx⟩, j, y, rfl, hj, hy⟩, hm, k⟩ := h
    first | refine sp_gen fun zQ zq => ⟨_, (pss_one (ps_expr (pe_cal c_shift_coin (hr.mono (by decide)) rfl (pa_cons (pe_ix ix_list (pv 1) (pe_fld (pv 0) rfl) (fun _ _ => rfl)) (pa_cons (pe_ix ix_list (pv 1) (pe_fld (pv 0) rfl) (fun _ _ => rfl)) (pa_cons (pe_fld (pv 0) rfl) pa_nil)))))), zq _ _ ?_⟩ | refine ⟨_, (pss_one (ps_expr (pe_cal c_shift_coin (hr.mono (by decide)) rfl (pa_cons (pe_ix ix_list (pv 1) (pe_fld (pv 0) rfl) (fun _ _ => rfl)) (pa_cons (pe_ix ix_list (pv 1) (pe_fld (pv 0) rfl) (fun _ _ => rfl)) (pa_cons (pe_fld (pv 0) rfl) pa_nil)))))), ?_⟩
    try simp only [nox_K, nox_P, nox_w, nox_mg, nox_base, cxOf_K, cxOf_P, cxOf_w, cxOf_mg, cxOf_base]
    repeat walk_at "rdk"
    refine rd_fldA ha tMove.k.cl tMove.n_taker rfl ?_
    refine rd_ixL (sql_of r.ob) (r.at hj hy) ?_
    repeat walk_at "rdk"
    refine rd_fldA ha tMove.k.cl tMove.n_slot rfl ?_
    refine rd_ixL (sql_of r.ob) (r.at hi hx) ?_
    repeat walk_at "rdk"
    refine rd_fldA ha tMove.k.cl tMove.n_many rfl ?_
    repeat walk_at "rdk"
    first | refine sp_gen fun zQ zq => ⟨R, Ar, S, m, j, i, y, x, kk, rfl, r, hj, hi, hy, hx, fun H' k1 r1 => zq _ _ ?_⟩ | refine ⟨R, Ar, S, m, j, i, y, x, kk, rfl, r, hj, hi, hy, hx, fun H' k1 r1 => ?_⟩
    repeat walk_at "rdk"
    refine k H' (fun b hb => k1 b (hb j y hj hy).1 (hb i x hi hx).1) ?_
    exact r1.le (Nat.le_succ m)
theorem sc_Note_undo : FnScope ["self", "rooms"] ["self", "rooms"] (defScope s_Note_undo) := ⟨rfl, rfl, rfl, by decide +kernel, rfl, by decide +kernel, by decide +kernel⟩
theorem ok_Note_undo   {cNote : Addr} (D : MethAt K cNote "undo" "Deed.undo" s_Note_undo) (tNote : T_Note K mg cNote) : MCal P w K mg base 2 cNote "undo" (spUndo K cAccount cNote isNote) := by
  refine mcal_of (N := ["self", "rooms"]) (ps := ["self", "rooms"]) D tNote.k.cl sc_Note_undo (fun vs H Q E h => ?_) (fun _ _ _ _ _ _ us hl => bd2 (R := fun us => bindArgs _ ⟨us, []⟩ = pure (List.zip _ us)) (fun _ _ => rfl) us hl) (fun f cdv A outer s H vs Q E hr h => ?_)
  · obtain ⟨a, dx, R, d, A, S, m, rfl, _⟩ := h; rfl
  · obtain ⟨a, dx, R, d, Ar, S, m, rfl, ⟨s0, n, rfl⟩, ha, r, _, hm, k⟩ := h
    refine ⟨_, (pss_one ps_pass), ?_⟩
    try simp only [nox_K, nox_P, nox_w, nox_mg, nox_base, cxOf_K, cxOf_P, cxOf_w, cxOf_mg, cxOf_base]
    exact k H (fun b _ => rfl) (r.le (Nat.le_succ m))

end
end My

namespace My
open PySem L2

noncomputable def clsD (cS cM cN : Addr) : Dd → Addr
  | .save .. => cS
  | .move .. => cM
  | .note .. => cN
noncomputable def T3 (a b c : Addr) (s1 s2 s3 : Sp) (C : Addr) (sp : Sp) : Prop := (C = a ∧ sp = s1) ∨ (C = b ∧ sp = s2) ∨ (C = c ∧ sp = s3)
theorem t3_ok {P : Program} {w : World} {K : PySem.W.Frag} {mg : Str → Option Value} {base : Heap} {n : Nat} {m : Str} {a b c : Addr} {s1 s2 s3 : Sp} (m1 : MCal P w K mg base n a m s1) (m2 : MCal P w K mg base n b m s2) (m3 : MCal P w K mg base n c m s3) (C : Addr) (sp : Sp) (h : T3 a b c s1 s2 s3 C sp) : MCal P w K mg base n C m sp := by
  rcases h with ⟨rfl, rfl⟩ | ⟨rfl, rfl⟩ | ⟨rfl, rfl⟩
  · exact m1
  · exact m2
  · exact m3
theorem rd_methD {T : Addr → Sp → Prop} {m : Str} {ta : TE} {t : TA} {σ : St} {H : Hp} {Q : VK} (q : ta σ H fun x H1 => ∃ a C dx fs sp, x = .ref a ∧ H1 a = some (.ins C dx fs) ∧ fs.lookup m = none ∧ T C sp ∧ t σ H1 fun vs H2 => sp (x :: vs) H2 Q E0) : tMethD T m ta t σ H Q := q
noncomputable def TDo (K : PySem.W.Frag) (cA cS cM cN : Addr) : Addr → Sp → Prop := T3 cS cM cN (spDo K cA cS isSave) (spDo K cA cM isMove) (spDo K cA cN isNote)
noncomputable def TUn (K : PySem.W.Frag) (cA cS cM cN : Addr) : Addr → Sp → Prop := T3 cS cM cN (spUndo K cA cS isSave) (spUndo K cA cM isMove) (spUndo K cA cN isNote)
noncomputable def okOf : Dd → Dd → Prop
  | .save .. => isSave
  | .move .. => isMove
  | .note .. => isNote
theorem okOf_self (d : Dd) : okOf d d := by
  cases d with
  | save => exact ⟨_, _, _, _, rfl⟩
  | move => exact ⟨_, _, _, rfl⟩
  | note => exact ⟨_, _, rfl⟩
theorem tdo_of (K : PySem.W.Frag) (cA cS cM cN : Addr) (d : Dd) : TDo K cA cS cM cN (clsD cS cM cN d) (spDo K cA (clsD cS cM cN d) (okOf d)) := by
  cases d with
  | save => exact .inl ⟨rfl, rfl⟩
  | move => exact .inr (.inl ⟨rfl, rfl⟩)
  | note => exact .inr (.inr ⟨rfl, rfl⟩)
theorem tun_of (K : PySem.W.Frag) (cA cS cM cN : Addr) (d : Dd) : TUn K cA cS cM cN (clsD cS cM cN d) (spUndo K cA (clsD cS cM cN d) (okOf d)) := by
  cases d with
  | save => exact .inl ⟨rfl, rfl⟩
  | move => exact .inr (.inl ⟨rfl, rfl⟩)
  | note => exact .inr (.inr ⟨rfl, rfl⟩)
theorem fld_do (d : Dd) : (fldD d).lookup (Str.ofString "do") = none := by cases d <;> rfl
theorem fld_undo (d : Dd) : (fldD d).lookup (Str.ofString "undo") = none := by cases d <;> rfl

noncomputable def runS (S : Nat → AcS) (ds : List Dd) : Nat → AcS := ds.foldl doneS S
theorem runS_snoc (S : Nat → AcS) (ds : List Dd) (d : Dd) : runS S (ds ++ [d]) = doneS (runS S ds) d := by unfold runS; rw [List.foldl_append]; rfl
noncomputable def rightAll : (Nat → AcS) → List Dd → Prop
  | _, [] => True
  | S, d :: ds => rightD S d ∧ rightAll (doneS S d) ds
theorem rightAll_snoc : ∀ (S : Nat → AcS) (ds : List Dd) (d : Dd), rightAll S (ds ++ [d]) ↔ rightAll S ds ∧ rightD (runS S ds) d
  | S, [], d => by simp [rightAll, runS]
  | S, e :: ds, d => by
    show rightD S e ∧ rightAll (doneS S e) (ds ++ [d]) ↔ (rightD S e ∧ rightAll (doneS S e) ds) ∧ rightD (runS S (e :: ds)) d
    rw [rightAll_snoc (doneS S e) ds d, and_assoc]
    rfl
structure DI where
  o : Addr
  dx : Addr
  d : Dd
noncomputable def jF (R L : Addr) : List (Str × V) := [("rooms", .ref R), ("deeds", .ref L)]
structure Jr (cJ cS cM cN : Addr) (H : Hp) (j dx R L : Addr) (A : Nat → Option AcI) (es : List DI) : Prop where
  ob : H j = some (.ins cJ dx (jF R L))
  li : H L = some (.lst (es.map fun e => V.ref e.o))
  de : ∀ e ∈ es, H e.o = some (.ins (clsD cS cM cN e.d) e.dx (fldD e.d)) ∧ fitsD A e.d
  nR : L ≠ R
  np : ∀ i x, i < 16 → A i = some x → L ≠ x.pr
theorem ins_ne {H : Hp} {a b C C' dx dx' : Addr} {fs gs : List (Str × V)} (h : H a = some (.ins C dx fs)) (h' : H b = some (.ins C' dx' gs)) (n : fs.length ≠ gs.length) : a ≠ b := fun z => by
  rw [z, h'] at h
  cases h
  exact n rfl
theorem fldD_len (d : Dd) : (fldD d).length < 5 := by
  cases d with
  | save => show 4 < 5; decide
  | move => show 3 < 5; decide
  | note => show 2 < 5; decide
section
variable {K : PySem.W.Frag} {C cJ cS cM cN : Addr} {H H' : Hp} {j dx R L : Addr} {A : Nat → Option AcI} {S : Nat → AcS} {m : Nat} {es : List DI}
theorem Rooms.same {K : PySem.W.Frag} {C : Addr} {H H' : Hp} {R : Addr} {A : Nat → Option AcI} {S : Nat → AcS} {m : Nat} (r : Rooms K C H R A S m) (s : Same H H') : Rooms K C H' R A S m :=
  ⟨s _ _ r.ob, fun i x hi hx => let h := r.ac i x hi hx; ⟨s _ _ h.ob, let ⟨xs, e1, e2⟩ := h.pg; ⟨xs, s _ _ e1, e2.keep s.imm⟩, let ⟨k, a, b⟩ := h.sto; ⟨k, s _ _ a, b⟩⟩, r.da, r.ds⟩
theorem Rooms.outI (r : Rooms K C H R A S m) {a C' dx' : Addr} {fs : List (Str × V)} (h : H a = some (.ins C' dx' fs)) (n : fs.length < 5) : Out A a := fun i x hi hx =>
  ⟨ins_ne h (r.ac i x hi hx).ob (by show fs.length ≠ 5; omega), let ⟨_, g, _⟩ := (r.ac i x hi hx).sto; ne_of h g (by intro z; cases z)⟩
theorem Rooms.outL (r : Rooms K C H R A S m) {a : Addr} {xs : List V} (h : H a = some (.lst xs)) : Out A a := fun i x hi hx =>
  ⟨ne_of h (r.ac i x hi hx).ob (by intro z; cases z), let ⟨_, g, _⟩ := (r.ac i x hi hx).sto; ne_of h g (by intro z; cases z)⟩
theorem Rooms.outT (r : Rooms K C H R A S m) {a : Addr} {xs : List V} (h : H a = some (.tup xs)) : Out A a := fun i x hi hx =>
  ⟨ne_of h (r.ac i x hi hx).ob (by intro z; cases z), let ⟨_, g, _⟩ := (r.ac i x hi hx).sto; ne_of h g (by intro z; cases z)⟩
theorem Rooms.outN (r : Rooms K C H R A S m) {a : Addr} (h : H a = none) : Out A a := fun i x hi hx =>
  ⟨Ne.symm (ne_of_none (r.ac i x hi hx).ob h), let ⟨_, g, _⟩ := (r.ac i x hi hx).sto; Ne.symm (ne_of_none g h)⟩
theorem Jr.same (J : Jr cJ cS cM cN H j dx R L A es) (s : Same H H') : Jr cJ cS cM cN H' j dx R L A es := ⟨s _ _ J.ob, s _ _ J.li, fun e he => ⟨s _ _ (J.de e he).1, (J.de e he).2⟩, J.nR, J.np⟩
theorem Jr.out (J : Jr cJ cS cM cN H j dx R L A es) (r : Rooms K C H R A S m) (k : ∀ b, Out A b → H' b = H b) : Jr cJ cS cM cN H' j dx R L A es :=
  ⟨by rw [k _ (r.outI J.ob (by show 2 < 5; decide))]; exact J.ob, by rw [k _ (r.outL J.li)]; exact J.li, fun e he => ⟨by rw [k _ (r.outI (J.de e he).1 (fldD_len _))]; exact (J.de e he).1, (J.de e he).2⟩, J.nR, J.np⟩
theorem Rooms.lst (r : Rooms K C H R A S m) {L : Addr} {xs ys : List V} (hL : H L = some (.lst xs)) (nR : L ≠ R) (np : ∀ i x, i < 16 → A i = some x → L ≠ x.pr) : Rooms K C (upd H L (.lst ys)) R A S m := by
  have im : SameI H (upd H L (.lst ys)) := SameI.upd hL notImm_lst
  refine ⟨by rw [upd_ne (Ne.symm nR)]; exact r.ob, fun i x hi hx => ?_, r.da, r.ds⟩
  have h := r.ac i x hi hx
  obtain ⟨zs, e1, e2⟩ := h.pg
  obtain ⟨kvs, e3, e4⟩ := h.sto
  exact ⟨by rw [upd_ne (ne_of h.ob hL (by intro z; cases z))]; exact h.ob, ⟨zs, by rw [upd_ne (Ne.symm (np i x hi hx))]; exact e1, e2.keep im⟩, kvs, by rw [upd_ne (ne_of e3 hL (by intro z; cases z))]; exact e3, e4⟩
theorem Jr.push (J : Jr cJ cS cM cN H j dx R L A es) {e : DI} (he : H e.o = some (.ins (clsD cS cM cN e.d) e.dx (fldD e.d))) (hf : fitsD A e.d) : Jr cJ cS cM cN (upd H L (.lst ((es.map fun e => V.ref e.o) ++ [.ref e.o]))) j dx R L A (es ++ [e]) := by
  refine ⟨by rw [upd_ne (ne_of J.ob J.li (by intro z; cases z))]; exact J.ob, by rw [upd_same, List.map_append]; rfl, fun u hu => ?_, J.nR, J.np⟩
  rcases List.mem_append.mp hu with hu | hu
  · have h := J.de u hu
    exact ⟨by rw [upd_ne (ne_of h.1 J.li (by intro z; cases z))]; exact h.1, h.2⟩
  · rw [List.mem_singleton] at hu
    subst hu
    exact ⟨by rw [upd_ne (ne_of he J.li (by intro z; cases z))]; exact he, hf⟩
theorem Jr.pop {e : DI} (J : Jr cJ cS cM cN H j dx R L A (es ++ [e])) : Jr cJ cS cM cN (upd H L (.lst (es.map fun e => V.ref e.o))) j dx R L A es :=
  ⟨by rw [upd_ne (ne_of J.ob J.li (by intro z; cases z))]; exact J.ob, upd_same, fun u hu => let h := J.de u (List.mem_append.mpr (.inl hu)); ⟨by rw [upd_ne (ne_of h.1 J.li (by intro z; cases z))]; exact h.1, h.2⟩, J.nR, J.np⟩
end
theorem jb2 {m n : Nat} (h : m < n) : n = (n - 1) + 1 := by omega
theorem jb3 {m e p : Nat} (h : m + e ≤ 1000000) : m + (e - p) ≤ 1000000 := by omega
theorem jb5 {m e p : Nat} (h : p < e) : m + (e - (p + 1)) + 1 = m + (e - p) := by omega
noncomputable def spJInit (cJ : Addr) : Sp := fun vs H Q _ => ∃ (j dx R : Addr), vs = [.ref j, .ref R] ∧ H j = some (.ins cJ dx []) ∧ ∀ L, H L = none → Q .non (upd (upd H L (.lst [])) j (.ins cJ dx (jF R L)))
noncomputable def spMark (cJ : Addr) : Sp := fun vs H Q _ => ∃ (j dx R L : Addr) (xs : List V), vs = [.ref j] ∧ H j = some (.ins cJ dx (jF R L)) ∧ H L = some (.lst xs) ∧ Q (.int (xs.length : Nat)) H
noncomputable def spWrite (K : PySem.W.Frag) (C cJ cS cM cN : Addr) : Sp := fun vs H Q _ => ∃ (j dx R L : Addr) (A : Nat → Option AcI) (S : Nat → AcS) (m : Nat) (es : List DI) (e : DI), vs = [.ref j, .ref e.o] ∧ Jr cJ cS cM cN H j dx R L A es ∧ Rooms K C H R A S m ∧ H e.o = some (.ins (clsD cS cM cN e.d) e.dx (fldD e.d)) ∧ fitsD A e.d ∧ m ≤ 1000000 ∧ es.length < 1000000 ∧
  ∀ H', (∀ b, Out A b → b ≠ L → H' b = H b) → Rooms K C H' R A (doneS S e.d) (m + 1) → Jr cJ cS cM cN H' j dx R L A (es ++ [e]) → Q .non H'
noncomputable def spBack (K : PySem.W.Frag) (C cJ cS cM cN : Addr) : Sp := fun vs H Q _ => ∃ (j dx R L : Addr) (A : Nat → Option AcI) (S0 : Nat → AcS) (m : Nat) (es : List DI) (mk : Int), vs = [.ref j, .int mk] ∧ Jr cJ cS cM cN H j dx R L A es ∧ Rooms K C H R A (runS S0 (es.map (·.d))) m ∧ rightAll S0 (es.map (·.d)) ∧ m + es.length ≤ 1000000 ∧
  ∀ H', (∀ b, Out A b → b ≠ L → H' b = H b) → Rooms K C H' R A (runS S0 ((es.take mk.toNat).map (·.d))) (m + es.length) → rightAll S0 ((es.take mk.toNat).map (·.d)) → Jr cJ cS cM cN H' j dx R L A (es.take mk.toNat) → Q .non H'

section
variable {P : Program} {w : World} {K : PySem.W.Frag} {mg : Str → Option Value} {base : Heap}
theorem sc_Journal___init__ : FnScope ["self", "rooms"] ["self", "rooms"] (defScope s_Journal___init__) := ⟨rfl, rfl, rfl, by decide +kernel, rfl, by decide +kernel, by decide +kernel⟩
theorem ok_Journal___init__   {cJournal : Addr} (D : MethAt K cJournal "__init__" "Journal.__init__" s_Journal___init__) (tJournal : T_Journal K mg cJournal) : ICal P w K mg base 1 "Journal" cJournal (spJInit cJournal) := by
  refine ical_of (N := ["self", "rooms"]) (ps := ["self", "rooms"]) D tJournal.k sc_Journal___init__ (fun vs H Q E h => ?_) (fun _ _ _ _ _ _ us hl => bd2 (R := fun us => bindArgs _ ⟨us, []⟩ = pure (List.zip _ us)) (fun _ _ => rfl) us hl) (fun f cdv A outer s H vs Q E hr h => ?_)
  · obtain ⟨j, dx, R, rfl, _⟩ := h; rfl
  · obtain ⟨j, dx, R, rfl, ha, k⟩ := h
    refine ⟨_, (pss_cons (ps_fld (pv 0) (pv 1) rfl)
      (pss_one (ps_fld (pv 0) (pe_lst pa_nil) rfl))), ?_⟩
    try simp only [nox_K, nox_P, nox_w, nox_mg, nox_base, cxOf_K, cxOf_P, cxOf_w, cxOf_mg, cxOf_base]
    repeat walk_at "rdk"
    refine rd_sfldA ha tJournal.k.cl tJournal.n_rooms (by decide) ?_
    repeat walk_at "rdk"
    refine ⟨by decide, fun l hl => ?_⟩
    have nl : l ≠ j := fun z => by rw [z, upd_same] at hl; cases hl
    have hlH : H l = none := by rw [upd_ne nl] at hl; exact hl
    repeat walk_at "rdk"
    refine rd_sfldA (by rw [upd_ne (Ne.symm nl)]; exact upd_same) tJournal.k.cl tJournal.n_deeds (by show 1 < 1000; decide) ?_
    have e : upd (upd (upd H j (.ins cJournal dx (putF "rooms" (.ref R) []))) l (.lst [])) j (.ins cJournal dx (putF "deeds" (.ref l) (putF "rooms" (.ref R) []))) = upd (upd H l (.lst [])) j (.ins cJournal dx (jF R l)) := by
      funext b
      unfold upd
      by_cases z : b = j
      · rw [if_pos z, if_pos z]; rfl
      · rw [if_neg z, if_neg z, if_neg z]
    rw [e]
    exact k l hlH
theorem sc_Journal_mark : FnScope ["self"] ["self"] (defScope s_Journal_mark) := ⟨rfl, rfl, rfl, by decide +kernel, rfl, by decide +kernel, by decide +kernel⟩
theorem ok_Journal_mark   {cJournal : Addr} (D : MethAt K cJournal "mark" "Journal.mark" s_Journal_mark) (tJournal : T_Journal K mg cJournal) (n_len : mg "len" = none) : MCal P w K mg base 1 cJournal "mark" (spMark cJournal) := by
  refine mcal_of (N := ["self"]) (ps := ["self"]) D tJournal.k.cl sc_Journal_mark (fun vs H Q E h => ?_) (fun _ _ _ _ _ _ us hl => bd1 (R := fun us => bindArgs _ ⟨us, []⟩ = pure (List.zip _ us)) (fun _ => rfl) us hl) (fun f cdv A outer s H vs Q E hr h => ?_)
  · obtain ⟨j, dx, R, L, xs, rfl, _⟩ := h; rfl
  · obtain ⟨j, dx, R, L, xs, rfl, ha, hl, k⟩ := h
    first | refine sp_gen fun zQ zq => ⟨_, (pss_one (ps_ret (pe_callB cn_len rfl n_len PySem.boot_len (pa_cons (pe_fld (pv 0) rfl) pa_nil)))), zq _ _ ?_⟩ | refine ⟨_, (pss_one (ps_ret (pe_callB cn_len rfl n_len PySem.boot_len (pa_cons (pe_fld (pv 0) rfl) pa_nil)))), ?_⟩
    try simp only [nox_K, nox_P, nox_w, nox_mg, nox_base, cxOf_K, cxOf_P, cxOf_w, cxOf_mg, cxOf_base]
    repeat walk_at "rdk"
    refine rd_fldA ha tJournal.k.cl tJournal.n_deeds rfl ?_
    repeat walk_at "rdk"
    exact k
theorem sc_Journal_write : FnScope ["self", "deed"] ["self", "deed"] (defScope s_Journal_write) := ⟨rfl, rfl, rfl, by decide +kernel, rfl, by decide +kernel, by decide +kernel⟩
theorem ok_Journal_write   {cJournal : Addr} {cSave : Addr} {cMove : Addr} {cNote : Addr} {cAccount : Addr} (D : MethAt K cJournal "write" "Journal.write" s_Journal_write) (tJournal : T_Journal K mg cJournal) (tSave : T_Save K mg cSave) (tMove : T_Move K mg cMove) (tNote : T_Note K mg cNote) (tAccount : T_Account K mg cAccount) (m_Save_do : MCal P w K mg base 2 cSave "do" (spDo K cAccount cSave isSave)) (m_Move_do : MCal P w K mg base 2 cMove "do" (spDo K cAccount cMove isMove)) (m_Note_do : MCal P w K mg base 2 cNote "do" (spDo K cAccount cNote isNote)) : MCal P w K mg base 3 cJournal "write" (spWrite K cAccount cJournal cSave cMove cNote) := by
  refine mcal_of (N := ["self", "deed"]) (ps := ["self", "deed"]) D tJournal.k.cl sc_Journal_write (fun vs H Q E h => ?_) (fun _ _ _ _ _ _ us hl => bd2 (R := fun us => bindArgs _ ⟨us, []⟩ = pure (List.zip _ us)) (fun _ _ => rfl) us hl) (fun f cdv A outer s H vs Q E hr h => ?_)
  · obtain ⟨j, dx, R, L, A, S, m, es, e, rfl, _⟩ := h; rfl
  · obtain ⟨j, dx, R, L, Ar, S, m, es, e, rfl, J, r, he, fit, hm, hel, k⟩ := h
    refine ⟨_, (pss_cons (ps_expr (pe_methD (T := TDo K cAccount cSave cMove cNote) (t3_ok m_Save_do m_Move_do m_Note_do) (hr.mono (by decide)) (pv 1) (pa_cons (pe_fld (pv 0) rfl) pa_nil)))
      (pss_one (ps_expr (pe_bm PySem.F.plainAttrs_list PySem.F.slot_list_append PySem.F.type_list_append mt_append (pe_fld (pv 0) rfl) (pa_cons (pv 1) pa_nil))))), ?_⟩
    try simp only [nox_K, nox_P, nox_w, nox_mg, nox_base, cxOf_K, cxOf_P, cxOf_w, cxOf_mg, cxOf_base]
    repeat walk_at "rdk"
    refine rd_methD ?_
    repeat walk_at "rdk"
    first | refine sp_gen fun zQ zq => ⟨e.o, clsD cSave cMove cNote e.d, e.dx, fldD e.d, _, rfl, he, fld_do e.d, tdo_of K cAccount cSave cMove cNote e.d, zq _ _ ?_⟩ | refine ⟨e.o, clsD cSave cMove cNote e.d, e.dx, fldD e.d, _, rfl, he, fld_do e.d, tdo_of K cAccount cSave cMove cNote e.d, ?_⟩
    repeat walk_at "rdk"
    refine rd_fldA J.ob tJournal.k.cl tJournal.n_rooms rfl ?_
    repeat walk_at "rdk"
    first | refine sp_gen fun zQ zq => ⟨e.o, e.dx, R, e.d, Ar, S, m, rfl, okOf_self e.d, he, r, fit, hm, fun H1 k1 r1 => zq _ _ ?_⟩ | refine ⟨e.o, e.dx, R, e.d, Ar, S, m, rfl, okOf_self e.d, he, r, fit, hm, fun H1 k1 r1 => ?_⟩
    have J1 := J.out r k1
    have he1 : H1 e.o = some (.ins (clsD cSave cMove cNote e.d) e.dx (fldD e.d)) := by rw [k1 _ (r.outI he (fldD_len _))]; exact he
    repeat walk_at "rdk"
    refine rd_fldA J1.ob tJournal.k.cl tJournal.n_deeds rfl ?_
    refine ⟨ty_list (sql_of J1.li), ?_⟩
    repeat walk_at "rdk"
    refine rd_append J1.li (by rw [List.length_map]; exact Nat.lt_of_lt_of_le hel (by decide)) ?_
    repeat walk_at "rdk"
    exact k _ (fun b h1 h2 => by rw [upd_ne h2]; exact k1 b h1) (r1.lst J1.li J1.nR J1.np) (J1.push he1 fit)
theorem sc_Journal_back : FnScope ["self", "mark", "deed"] ["self", "mark"] (defScope s_Journal_back) := ⟨rfl, rfl, rfl, by decide +kernel, rfl, by decide +kernel, by decide +kernel⟩
theorem ok_Journal_back   {cJournal : Addr} {cSave : Addr} {cMove : Addr} {cNote : Addr} {cAccount : Addr} (D : MethAt K cJournal "back" "Journal.back" s_Journal_back) (tJournal : T_Journal K mg cJournal) (tSave : T_Save K mg cSave) (tMove : T_Move K mg cMove) (tNote : T_Note K mg cNote) (tAccount : T_Account K mg cAccount) (m_Save_undo : MCal P w K mg base 2 cSave "undo" (spUndo K cAccount cSave isSave)) (m_Move_undo : MCal P w K mg base 2 cMove "undo" (spUndo K cAccount cMove isMove)) (m_Note_undo : MCal P w K mg base 2 cNote "undo" (spUndo K cAccount cNote isNote)) (n_len : mg "len" = none) (n_max : mg "max" = none) : MCal P w K mg base 3 cJournal "back" (spBack K cAccount cJournal cSave cMove cNote) := by
  refine mcal_of (N := ["self", "mark", "deed"]) (ps := ["self", "mark"]) D tJournal.k.cl sc_Journal_back (fun vs H Q E h => ?_) (fun _ _ _ _ _ _ us hl => bd2 (R := fun us => bindArgs _ ⟨us, []⟩ = pure (List.zip _ us)) (fun _ _ => rfl) us hl) (fun f cdv A outer s H vs Q E hr h => ?_)
  · obtain ⟨j, dx, R, L, A, S0, m, es, mk, rfl, _⟩ := h; rfl
  · obtain ⟨j, dx, R, L, Ar, S0, m, es, mk, rfl, J, r, ri, hm, k⟩ := h
    refine ⟨_, (pss_one (ps_while PassesOwn.never (pt_cmpR op_gt (pe_callB cn_len rfl n_len PySem.boot_len (pa_cons (pe_fld (pv 0) rfl) pa_nil)) (pe_callB (cn_max rfl) rfl n_max PyProof.Rows.boot_max (pa_cons (pv 1) (pa_cons pe_int pa_nil))) (nomark _))
      (pss_cons (ps_set (i := 2) sc_Journal_back.nd rfl (by first | exact Or.inl rfl | exact Or.inr rfl) (pe_bm0 PySem.F.plainAttrs_list PySem.F.slot_list_pop PySem.F.type_list_pop mt_pop (pe_fld (pv 0) rfl)))
      (pss_one (ps_expr (pe_methD (T := TUn K cAccount cSave cMove cNote) (t3_ok m_Save_undo m_Move_undo m_Note_undo) (hr.mono (by decide)) (pv 2) (pa_cons (pe_fld (pv 0) rfl) pa_nil))))))), ?_⟩
    try simp only [nox_K, nox_P, nox_w, nox_mg, nox_base, cxOf_K, cxOf_P, cxOf_w, cxOf_mg, cxOf_base]
    first | refine sp_gen fun zQ zq => ⟨fun n σ' H' => ∃ q v, n = q ∧ min mk.toNat es.length ≤ q ∧ q ≤ es.length ∧ (∀ b, Out Ar b → b ≠ L → H' b = H b) ∧ Rooms K cAccount H' R Ar (runS S0 ((es.take q).map (·.d))) (m + (es.length - q)) ∧ rightAll S0 ((es.take q).map (·.d)) ∧ Jr cJournal cSave cMove cNote H' j dx R L Ar (es.take q) ∧ σ' = [some (.ref j), some (.int mk), v], ⟨es.length, es.length, none, rfl, Nat.min_le_right _ _, Nat.le_refl _, fun _ _ _ => rfl, by rw [List.take_length, Nat.sub_self]; exact r, by rw [List.take_length]; exact ri, by rw [List.take_length]; exact J, rfl⟩, zq _ _ ?_⟩ | refine ⟨fun n σ' H' => ∃ q v, n = q ∧ min mk.toNat es.length ≤ q ∧ q ≤ es.length ∧ (∀ b, Out Ar b → b ≠ L → H' b = H b) ∧ Rooms K cAccount H' R Ar (runS S0 ((es.take q).map (·.d))) (m + (es.length - q)) ∧ rightAll S0 ((es.take q).map (·.d)) ∧ Jr cJournal cSave cMove cNote H' j dx R L Ar (es.take q) ∧ σ' = [some (.ref j), some (.int mk), v], ⟨es.length, es.length, none, rfl, Nat.min_le_right _ _, Nat.le_refl _, fun _ _ _ => rfl, by rw [List.take_length, Nat.sub_self]; exact r, by rw [List.take_length]; exact ri, by rw [List.take_length]; exact J, rfl⟩, ?_⟩
    rintro n σ' H' ⟨q, v, rfl, hq0, hq1, fr, r', ri', J', rfl⟩
    have hL := J'.li
    repeat walk_at "rdk"
    refine rd_fldA J'.ob tJournal.k.cl tJournal.n_deeds rfl ?_
    repeat walk_at "rdk"
    · rename_i hgt
      rw [List.length_map, List.length_take, Nat.min_eq_left hq1] at hgt
      have hgt2 : mk.toNat < n := by split at hgt <;> omega
      obtain ⟨p, rfl⟩ : ∃ p, n = p + 1 := ⟨n - 1, jb2 hgt2⟩
      have hp : p < es.length := hq1
      have htk : es.take (p + 1) = es.take p ++ [es[p]] := List.take_succ_eq_append_getElem hp
      refine ⟨fun σ' H' => ∃ m', m' < p + 1 ∧ _, fun _ _ h => h, ?_⟩
      rw [htk] at J' ri' r' hL
      rw [List.map_append] at ri' r'
      obtain ⟨de, fit⟩ := J'.de es[p] (List.mem_append.mpr (.inr (List.mem_singleton.mpr rfl)))
      generalize es[p] = e at *
      have J2 := J'.pop
      have r2 := r'.lst (ys := (es.take p).map fun e => V.ref e.o) hL J'.nR J'.np
      rw [List.map_append] at hL
      repeat walk_at "rdk"
      refine rd_fldA J'.ob tJournal.k.cl tJournal.n_deeds rfl ?_
      refine ⟨ty_list (sql_of hL), ?_⟩
      refine rd_pop hL ?_
      have fr2 : ∀ b, Out Ar b → b ≠ L → (upd H' L (.lst ((es.take p).map fun e => V.ref e.o))) b = H b := fun b h1 h2 => by rw [upd_ne h2]; exact fr b h1 h2
      have de2 : (upd H' L (.lst ((es.take p).map fun e => V.ref e.o))) e.o = some (.ins (clsD cSave cMove cNote e.d) e.dx (fldD e.d)) := by rw [upd_ne (ne_of de hL (by intro z; cases z))]; exact de
      generalize upd H' L _ = H2 at J2 r2 fr2 de2
      (revert H2 J2 r2 fr2 de2; refine keepIt ?_; intro H2 J2 r2 fr2 de2)
      repeat walk_at "rdk"
      refine rd_methD ?_
      repeat walk_at "rdk"
      first | refine sp_gen fun zQ zq => ⟨e.o, clsD cSave cMove cNote e.d, e.dx, fldD e.d, _, rfl, de2, fld_undo e.d, tun_of K cAccount cSave cMove cNote e.d, zq _ _ ?_⟩ | refine ⟨e.o, clsD cSave cMove cNote e.d, e.dx, fldD e.d, _, rfl, de2, fld_undo e.d, tun_of K cAccount cSave cMove cNote e.d, ?_⟩
      repeat walk_at "rdk"
      refine rd_fldA J2.ob tJournal.k.cl tJournal.n_rooms rfl ?_
      repeat walk_at "rdk"
      first | refine sp_gen fun zQ zq => ⟨e.o, e.dx, R, e.d, Ar, _, _, rfl, okOf_self e.d, de2, r2, fit, jb3 hm, fun H3 k3 r3 => zq _ _ ?_⟩ | refine ⟨e.o, e.dx, R, e.d, Ar, _, _, rfl, okOf_self e.d, de2, r2, fit, jb3 hm, fun H3 k3 r3 => ?_⟩
      have J3 := J2.out r2 k3
      obtain ⟨ri2, rd2⟩ := (rightAll_snoc _ _ _).mp ri'
      have e1 : undoneS (runS S0 ((es.take p).map (·.d) ++ [e].map (·.d))) e.d = runS S0 ((es.take p).map (·.d)) := by
        show undoneS (runS S0 ((es.take p).map (·.d) ++ [e.d])) e.d = _
        rw [runS_snoc]
        exact undone_done rd2
      rw [e1] at r3
      repeat walk_at "rdk"
      refine ⟨p, Nat.lt_succ_self p, p, _, rfl, Nat.le_trans (Nat.min_le_left ..) (Nat.le_of_lt_succ hgt2), Nat.le_of_lt hp, fun b h1 h2 => by rw [k3 b h1]; exact fr2 b h1 h2, ?_, ri2, J3, rfl⟩
      have em : m + (es.length - (p + 1)) + 1 = m + (es.length - p) := jb5 hp
      rw [em] at r3
      exact r3
    · rename_i hgt
      rw [List.length_map, List.length_take, Nat.min_eq_left hq1] at hgt
      have hgt2 : n ≤ mk.toNat := by split at hgt <;> omega
      have et : es.take n = es.take mk.toNat := by
        by_cases z : mk.toNat ≤ es.length
        · rw [show n = mk.toNat by omega]
        · rw [List.take_of_length_le (by omega), List.take_of_length_le (by omega)]
      rw [et] at r' ri' J'
      exact k H' fr (r'.le (by omega)) ri' J'

end
end My

namespace My
open PySem L2

noncomputable def tellV : Dd → List V
  | .save s p o n => [.str "save", .int s, .int p, .int o, .int n]
  | .move s t k => [.str "move", .int s, .int t, .int k]
  | .note s n => [.str "note", .int s, .int n]

noncomputable def tellDs : Dd → List Dt
  | .save s p o n => [.str "save", .int s, .int p, .int o, .int n]
  | .move s t k => [.str "move", .int s, .int t, .int k]
  | .note s n => [.str "note", .int s, .int n]
noncomputable def tellD (d : Dd) : Dt := .tup (tellDs d)
theorem tell_dvs {K : PySem.W.Frag} {H : Hp} (d : Dd) : DVs K H (tellDs d) (tellV d) := by
  cases d with
  | save => exact dvs_cons dv_str (dvs_cons dv_int (dvs_cons dv_int (dvs_cons dv_int (dvs_cons dv_int dvs_nil))))
  | move => exact dvs_cons dv_str (dvs_cons dv_int (dvs_cons dv_int (dvs_cons dv_int dvs_nil)))
  | note => exact dvs_cons dv_str (dvs_cons dv_int (dvs_cons dv_int dvs_nil))
theorem dvs_of {K : PySem.W.Frag} {H : Hp} : ∀ (ds : List Dt) (xs : List V), ds.length = xs.length → (∀ (i : Nat) (d : Dt) (x : V), ds[i]? = some d → xs[i]? = some x → DV K H d x) → DVs K H ds xs
  | [], [], _, _ => dvs_nil
  | d :: ds, x :: xs, hl, h => dvs_cons (h 0 d x rfl rfl) (dvs_of ds xs (by simpa using hl) fun i d' x' h1 h2 => h (i + 1) d' x' (by simpa using h1) (by simpa using h2))
  | [], x :: xs, hl, _ => by simp at hl
  | d :: ds, [], hl, _ => by simp at hl
theorem dvs_at {K : PySem.W.Frag} {H : Hp} : ∀ {ds : List Dt} {xs : List V}, DVs K H ds xs → ds.length = xs.length ∧ ∀ (i : Nat) (d : Dt) (x : V), ds[i]? = some d → xs[i]? = some x → DV K H d x
  | [], xs, h => by
    unfold DVs at h
    subst h
    exact ⟨rfl, fun i d x h => by simp at h⟩
  | d :: ds, xs, h => by
    unfold DVs at h
    obtain ⟨x, t, rfl, h1, h2⟩ := h
    obtain ⟨a, b⟩ := dvs_at h2
    refine ⟨by simp [a], fun i d' x' e1 e2 => ?_⟩
    cases i with
    | zero => cases e1; cases e2; exact h1
    | succ i => exact b i d' x' (by simpa using e1) (by simpa using e2)
theorem DVs.take {K : PySem.W.Frag} {H : Hp} {ds : List Dt} {xs : List V} (h : DVs K H ds xs) (n : Nat) : DVs K H (ds.take n) (xs.take n) := by
  obtain ⟨a, b⟩ := dvs_at h
  refine dvs_of _ _ (by rw [List.length_take, List.length_take, a]) fun i d x h1 h2 => ?_
  rw [List.getElem?_take] at h1 h2
  split at h1
  · rename_i hi
    rw [if_pos hi] at h2
    exact b i d x h1 h2
  · cases h1
theorem DVs.snoc {K : PySem.W.Frag} {H : Hp} {ds : List Dt} {xs : List V} {d : Dt} {x : V} (h : DVs K H ds xs) (h1 : DV K H d x) : DVs K H (ds ++ [d]) (xs ++ [x]) := by
  obtain ⟨a, b⟩ := dvs_at h
  refine dvs_of _ _ (by rw [List.length_append, List.length_append, a]; rfl) fun i d' x' e1 e2 => ?_
  by_cases hi : i < ds.length
  · rw [List.getElem?_append_left hi] at e1
    rw [List.getElem?_append_left (by rw [← a]; exact hi)] at e2
    exact b i d' x' e1 e2
  · rw [List.getElem?_append_right (by omega)] at e1
    rw [List.getElem?_append_right (by omega), ← a] at e2
    generalize i - ds.length = n at e1 e2
    (revert n e1 e2; refine keepIt ?_; intro n e1 e2)
    cases n with
    | zero => cases e1; cases e2; exact h1
    | succ n => simp at e1
noncomputable def TupsAt (H : Hp) (ds : List Dd) (ts : List Addr) : Prop := ds.length = ts.length ∧ ∀ (n : Nat) (d : Dd) (t : Addr), ds[n]? = some d → ts[n]? = some t → H t = some (.tup (tellV d))
theorem TupsAt.nil {H : Hp} : TupsAt H [] [] := ⟨rfl, fun n d t h => by simp at h⟩
theorem TupsAt.mono {H H' : Hp} {ds : List Dd} {ts : List Addr} (h : TupsAt H ds ts) (k : ∀ b xs, H b = some (.tup xs) → H' b = some (.tup xs)) : TupsAt H' ds ts := ⟨h.1, fun n d t h1 h2 => k _ _ (h.2 n d t h1 h2)⟩
theorem TupsAt.snoc {H : Hp} {ds : List Dd} {ts : List Addr} {d : Dd} {t : Addr} (h : TupsAt H ds ts) (h1 : H t = some (.tup (tellV d))) : TupsAt H (ds ++ [d]) (ts ++ [t]) := by
  first | refine sp_gen fun zQ zq => ⟨by rw [List.length_append, List.length_append, h.1]; rfl, fun n d' t' e1 e2 => zq _ _ ?_⟩ | refine ⟨by rw [List.length_append, List.length_append, h.1]; rfl, fun n d' t' e1 e2 => ?_⟩
  by_cases hi : n < ds.length
  · rw [List.getElem?_append_left hi] at e1
    rw [List.getElem?_append_left (by rw [← h.1]; exact hi)] at e2
    exact h.2 n d' t' e1 e2
  · rw [List.getElem?_append_right (by omega)] at e1
    rw [List.getElem?_append_right (by have := h.1; omega), ← h.1] at e2
    generalize n - ds.length = n at e1 e2
    (revert n e1 e2; refine keepIt ?_; intro n e1 e2)
    cases n with
    | zero => cases e1; cases e2; exact h1
    | succ n => simp at e1
theorem TupsAt.take {H : Hp} {ds : List Dd} {ts : List Addr} (h : TupsAt H ds ts) (n : Nat) : TupsAt H (ds.take n) (ts.take n) := by
  refine ⟨by rw [List.length_take, List.length_take, h.1], fun i d t e1 e2 => ?_⟩
  rw [List.getElem?_take] at e1 e2
  split at e1
  · rename_i hi
    rw [if_pos hi] at e2
    exact h.2 i d t e1 e2
  · cases e1
theorem TupsAt.dv {K : PySem.W.Frag} {H : Hp} {ds : List Dd} {ts : List Addr} {q : Addr} (h : TupsAt H ds ts) (hq : H q = some (.lst (ts.map V.ref))) : DV K H (.lst (ds.map tellD)) (.ref q) := by
  refine dv_lst (sql_of hq) (dvs_of _ _ (by rw [List.length_map, List.length_map, h.1]) fun i d x e1 e2 => ?_)
  rw [List.getElem?_map] at e1 e2
  obtain ⟨d', h1, rfl⟩ := Option.map_eq_some_iff.mp e1
  obtain ⟨t, h2, rfl⟩ := Option.map_eq_some_iff.mp e2
  exact dv_tup (sqt_of (h.2 i d' t h1 h2)) (tell_dvs d')
theorem tell_dep (ds : List Dd) : (Dt.lst (ds.map tellD)).dep ≤ 64 := by
  have h : ∀ ds : List Dd, Dt.deps (ds.map tellD) ≤ 1 := fun ds => by
    induction ds with
    | nil => simp [Dt.deps]
    | cons d ds ih => cases d <;> simp [Dt.deps, Dt.dep, tellD, tellDs] <;> omega
  have := h ds
  simp only [Dt.dep]
  omega
noncomputable def spTold (CD : Addr) (ok : Dd → Prop) : Sp := fun vs H Q _ => ∃ (a dx : Addr) (d : Dd), vs = [.ref a] ∧ ok d ∧ H a = some (.ins CD dx (fldD d)) ∧ ∀ t, H t = none → Q (.ref t) (upd H t (.tup (tellV d)))
noncomputable def TTo (cS cM cN : Addr) : Addr → Sp → Prop := T3 cS cM cN (spTold cS isSave) (spTold cM isMove) (spTold cN isNote)
theorem tto_of (cS cM cN : Addr) (d : Dd) : TTo cS cM cN (clsD cS cM cN d) (spTold (clsD cS cM cN d) (okOf d)) := by
  cases d with
  | save => exact .inl ⟨rfl, rfl⟩
  | move => exact .inr (.inl ⟨rfl, rfl⟩)
  | note => exact .inr (.inr ⟨rfl, rfl⟩)
theorem fld_told (d : Dd) : (fldD d).lookup (Str.ofString "told") = none := by cases d <;> rfl
noncomputable def spJTold (cJ cS cM cN : Addr) : Sp := fun vs H Q _ => ∃ (j dx R L : Addr) (A : Nat → Option AcI) (es : List DI), vs = [.ref j] ∧ Jr cJ cS cM cN H j dx R L A es ∧ es.length ≤ 1000 ∧
  ∀ q ts H', Same H H' → H q = none → H' q = some (.lst (ts.map V.ref)) → TupsAt H' (es.map (·.d)) ts → Q (.ref q) H'

section
variable {P : Program} {w : World} {K : PySem.W.Frag} {mg : Str → Option Value} {base : Heap}
theorem sc_Save_told : FnScope ["self"] ["self"] (defScope s_Save_told) := ⟨rfl, rfl, rfl, by decide +kernel, rfl, by decide +kernel, by decide +kernel⟩
theorem ok_Save_told   {cSave : Addr} (D : MethAt K cSave "told" "Save.told" s_Save_told) (tSave : T_Save K mg cSave) : MCal P w K mg base 1 cSave "told" (spTold cSave isSave) := by
  refine mcal_of (N := ["self"]) (ps := ["self"]) D tSave.k.cl sc_Save_told (fun vs H Q E h => ?_) (fun _ _ _ _ _ _ us hl => bd1 (R := fun us => bindArgs _ ⟨us, []⟩ = pure (List.zip _ us)) (fun _ => rfl) us hl) (fun f cdv A outer s H vs Q E hr h => ?_)
  · obtain ⟨a, dx, d, rfl, _⟩ := h; rfl
  · obtain ⟨a, dx, d, rfl, ⟨s0, p, o, n, rfl⟩, ha, k⟩ := h
    first | refine sp_gen fun zQ zq => ⟨_, (pss_one (ps_ret (pe_tup (pa_cons pe_str (pa_cons (pe_fld (pv 0) rfl) (pa_cons (pe_fld (pv 0) rfl) (pa_cons (pe_fld (pv 0) rfl) (pa_cons (pe_fld (pv 0) rfl) pa_nil)))))))), zq _ _ ?_⟩ | refine ⟨_, (pss_one (ps_ret (pe_tup (pa_cons pe_str (pa_cons (pe_fld (pv 0) rfl) (pa_cons (pe_fld (pv 0) rfl) (pa_cons (pe_fld (pv 0) rfl) (pa_cons (pe_fld (pv 0) rfl) pa_nil)))))))), ?_⟩
    try simp only [nox_K, nox_P, nox_w, nox_mg, nox_base, cxOf_K, cxOf_P, cxOf_w, cxOf_mg, cxOf_base]
    repeat walk_at "rdk"
    refine rd_fldA ha tSave.k.cl tSave.n_slot rfl ?_
    repeat walk_at "rdk"
    refine rd_fldA ha tSave.k.cl tSave.n_place rfl ?_
    repeat walk_at "rdk"
    refine rd_fldA ha tSave.k.cl tSave.n_old rfl ?_
    repeat walk_at "rdk"
    refine rd_fldA ha tSave.k.cl tSave.n_new rfl ?_
    repeat walk_at "rdk"
    refine ⟨show 5 ≤ sizeLine by decide, fun t ht => ?_⟩
    exact k t ht
theorem sc_Move_told : FnScope ["self"] ["self"] (defScope s_Move_told) := ⟨rfl, rfl, rfl, by decide +kernel, rfl, by decide +kernel, by decide +kernel⟩
theorem ok_Move_told   {cMove : Addr} (D : MethAt K cMove "told" "Move.told" s_Move_told) (tMove : T_Move K mg cMove) : MCal P w K mg base 1 cMove "told" (spTold cMove isMove) := by
  refine mcal_of (N := ["self"]) (ps := ["self"]) D tMove.k.cl sc_Move_told (fun vs H Q E h => ?_) (fun _ _ _ _ _ _ us hl => bd1 (R := fun us => bindArgs _ ⟨us, []⟩ = pure (List.zip _ us)) (fun _ => rfl) us hl) (fun f cdv A outer s H vs Q E hr h => ?_)
  · obtain ⟨a, dx, d, rfl, _⟩ := h; rfl
  · obtain ⟨a, dx, d, rfl, ⟨s0, t0, kk, rfl⟩, ha, k⟩ := h
    first | refine sp_gen fun zQ zq => ⟨_, (pss_one (ps_ret (pe_tup (pa_cons pe_str (pa_cons (pe_fld (pv 0) rfl) (pa_cons (pe_fld (pv 0) rfl) (pa_cons (pe_fld (pv 0) rfl) pa_nil))))))), zq _ _ ?_⟩ | refine ⟨_, (pss_one (ps_ret (pe_tup (pa_cons pe_str (pa_cons (pe_fld (pv 0) rfl) (pa_cons (pe_fld (pv 0) rfl) (pa_cons (pe_fld (pv 0) rfl) pa_nil))))))), ?_⟩
    try simp only [nox_K, nox_P, nox_w, nox_mg, nox_base, cxOf_K, cxOf_P, cxOf_w, cxOf_mg, cxOf_base]
    repeat walk_at "rdk"
    refine rd_fldA ha tMove.k.cl tMove.n_slot rfl ?_
    repeat walk_at "rdk"
    refine rd_fldA ha tMove.k.cl tMove.n_taker rfl ?_
    repeat walk_at "rdk"
    refine rd_fldA ha tMove.k.cl tMove.n_many rfl ?_
    repeat walk_at "rdk"
    refine ⟨show 4 ≤ sizeLine by decide, fun t ht => ?_⟩
    exact k t ht
theorem sc_Note_told : FnScope ["self"] ["self"] (defScope s_Note_told) := ⟨rfl, rfl, rfl, by decide +kernel, rfl, by decide +kernel, by decide +kernel⟩
theorem ok_Note_told   {cNote : Addr} (D : MethAt K cNote "told" "Note.told" s_Note_told) (tNote : T_Note K mg cNote) : MCal P w K mg base 1 cNote "told" (spTold cNote isNote) := by
  refine mcal_of (N := ["self"]) (ps := ["self"]) D tNote.k.cl sc_Note_told (fun vs H Q E h => ?_) (fun _ _ _ _ _ _ us hl => bd1 (R := fun us => bindArgs _ ⟨us, []⟩ = pure (List.zip _ us)) (fun _ => rfl) us hl) (fun f cdv A outer s H vs Q E hr h => ?_)
  · obtain ⟨a, dx, d, rfl, _⟩ := h; rfl
  · obtain ⟨a, dx, d, rfl, ⟨s0, n, rfl⟩, ha, k⟩ := h
    first | refine sp_gen fun zQ zq => ⟨_, (pss_one (ps_ret (pe_tup (pa_cons pe_str (pa_cons (pe_fld (pv 0) rfl) (pa_cons (pe_fld (pv 0) rfl) pa_nil)))))), zq _ _ ?_⟩ | refine ⟨_, (pss_one (ps_ret (pe_tup (pa_cons pe_str (pa_cons (pe_fld (pv 0) rfl) (pa_cons (pe_fld (pv 0) rfl) pa_nil)))))), ?_⟩
    try simp only [nox_K, nox_P, nox_w, nox_mg, nox_base, cxOf_K, cxOf_P, cxOf_w, cxOf_mg, cxOf_base]
    repeat walk_at "rdk"
    refine rd_fldA ha tNote.k.cl tNote.n_slot rfl ?_
    repeat walk_at "rdk"
    refine rd_fldA ha tNote.k.cl tNote.n_number rfl ?_
    repeat walk_at "rdk"
    refine ⟨show 3 ≤ sizeLine by decide, fun t ht => ?_⟩
    exact k t ht
theorem sc_Journal_told : FnScope ["self"] ["self"] (defScope s_Journal_told) := ⟨rfl, rfl, rfl, by decide +kernel, rfl, by decide +kernel, by decide +kernel⟩
theorem ok_Journal_told   {cJournal : Addr} {cSave : Addr} {cMove : Addr} {cNote : Addr} (D : MethAt K cJournal "told" "Journal.told" s_Journal_told) (tJournal : T_Journal K mg cJournal) (tSave : T_Save K mg cSave) (tMove : T_Move K mg cMove) (tNote : T_Note K mg cNote) (m_Save_told : MCal P w K mg base 1 cSave "told" (spTold cSave isSave)) (m_Move_told : MCal P w K mg base 1 cMove "told" (spTold cMove isMove)) (m_Note_told : MCal P w K mg base 1 cNote "told" (spTold cNote isNote)) : MCal P w K mg base 2 cJournal "told" (spJTold cJournal cSave cMove cNote) := by
  refine mcal_of (N := ["self"]) (ps := ["self"]) D tJournal.k.cl sc_Journal_told (fun vs H Q E h => ?_) (fun _ _ _ _ _ _ us hl => bd1 (R := fun us => bindArgs _ ⟨us, []⟩ = pure (List.zip _ us)) (fun _ => rfl) us hl) (fun f cdv A outer s H vs Q E hr h => ?_)
  · obtain ⟨j, dx, R, L, A, es, rfl, _⟩ := h; rfl
  · obtain ⟨j, dx, R, L, Ar, es, rfl, J, hel, k⟩ := h
    first | refine sp_gen fun zQ zq => ⟨_, (pss_one (ps_ret (pe_comp ["deed"] rfl (show CompScope (defScope s_Journal_told) ["self"] ["deed"] _ from ⟨rfl, by decide +kernel, by decide +kernel, by decide +kernel, by decide +kernel, by decide +kernel⟩) (pi_list (pe_fld (pv 0) rfl)) (fun _ _ _ _ _ => (pg_name (i := 0) (show (["deed", "self"] : List Str).Nodup by decide +kernel) rfl (Or.inl rfl) (.inr rfl))) (fun _ _ _ _ _ => pif_nil) (fun _ _ _ _ _ => (pe_methD0 (T := TTo cSave cMove cNote) (t3_ok m_Save_told m_Move_told m_Note_told) (hr.mono (by decide)) (pv 0)))))), zq _ _ ?_⟩ | refine ⟨_, (pss_one (ps_ret (pe_comp ["deed"] rfl (show CompScope (defScope s_Journal_told) ["self"] ["deed"] _ from ⟨rfl, by decide +kernel, by decide +kernel, by decide +kernel, by decide +kernel, by decide +kernel⟩) (pi_list (pe_fld (pv 0) rfl)) (fun _ _ _ _ _ => (pg_name (i := 0) (show (["deed", "self"] : List Str).Nodup by decide +kernel) rfl (Or.inl rfl) (.inr rfl))) (fun _ _ _ _ _ => pif_nil) (fun _ _ _ _ _ => (pe_methD0 (T := TTo cSave cMove cNote) (t3_ok m_Save_told m_Move_told m_Note_told) (hr.mono (by decide)) (pv 0)))))), ?_⟩
    try simp only [nox_K, nox_P, nox_w, nox_mg, nox_base, cxOf_K, cxOf_P, cxOf_w, cxOf_mg, cxOf_base]
    have big : (1001 : Nat) ≤ sizeLine := by decide
    repeat walk_at "rdk"
    refine rd_comp (rd_iList ?_)
    repeat walk_at "rdk"
    refine rd_fldA J.ob tJournal.k.cl tJournal.n_deeds rfl ?_
    first | refine sp_gen fun zQ zq => ⟨L, rfl, ⟨_, sql_of J.li⟩, fun q hq => zq _ _ ?_⟩ | refine ⟨L, rfl, ⟨_, sql_of J.li⟩, fun q hq => ?_⟩
    refine comp_invL (fun i H' => Same H H' ∧ ∃ ts, H' q = some (.lst (ts.map V.ref)) ∧ TupsAt H' ((es.take i).map (·.d)) ts) ⟨Same.new hq, [], upd_same, TupsAt.nil⟩ (fun i H' ⟨s, _⟩ => sql_of (s _ _ J.li)) ?_ ?_
    · rintro i x H' hx ⟨s1, ts, hts, T⟩
      rw [List.getElem?_map] at hx
      obtain ⟨e, he, rfl⟩ := Option.map_eq_some_iff.mp hx
      obtain ⟨hi, ei⟩ := List.getElem?_eq_some_iff.mp he
      have de := s1 _ _ (J.de e (List.mem_of_getElem? he)).1
      refine rd_noIf ?_
      refine iteT ?_
      refine rd_methD ?_
      repeat walk_at "rdk"
      first | refine sp_gen fun zQ zq => ⟨e.o, clsD cSave cMove cNote e.d, e.dx, fldD e.d, _, rfl, de, fld_told e.d, tto_of cSave cMove cNote e.d, zq _ _ ?_⟩ | refine ⟨e.o, clsD cSave cMove cNote e.d, e.dx, fldD e.d, _, rfl, de, fld_told e.d, tto_of cSave cMove cNote e.d, ?_⟩
      repeat walk_at "rdk"
      first | refine sp_gen fun zQ zq => ⟨e.o, e.dx, e.d, rfl, okOf_self e.d, de, fun t ht => zq _ _ ?_⟩ | refine ⟨e.o, e.dx, e.d, rfl, okOf_self e.d, de, fun t ht => ?_⟩
      have hl : ts.length ≤ 1000 := by
        rw [← T.1, List.length_map, List.length_take]
        omega
      have hq2 := (Same.new ht (o := .tup (tellV e.d))) _ _ hts
      refine ⟨_, hq2, by rw [List.length_map]; omega, ⟨(s1.newT ht).wr hq, ts ++ [t], by rw [upd_same, List.map_append]; rfl, ?_⟩, _, rfl⟩
      have im : ∀ b xs, H' b = some (.tup xs) → (upd (upd H' t (.tup (tellV e.d))) q (.lst (ts.map V.ref ++ [.ref t]))) b = some (.tup xs) := fun b xs h => by
        rw [upd_ne (ne_of h hts (by intro z; cases z))]
        exact (Same.new ht) _ _ h
      have ht2 : (upd (upd H' t (.tup (tellV e.d))) q (.lst (ts.map V.ref ++ [.ref t]))) t = some (.tup (tellV e.d)) := by
        rw [upd_ne (fun z => by rw [z] at ht; rw [ht] at hts; cases hts)]; exact upd_same
      rw [List.take_succ_eq_append_getElem hi, ei, List.map_append]
      exact (T.mono im).snoc ht2
    · rintro H' ⟨s1, ts, hts, T⟩
      rw [List.length_map, List.take_length] at T
      repeat walk_at "rdk"
      exact k q ts H' s1 hq hts T

end
end My

namespace My
open PySem L2

noncomputable def WS : List Str := ["push", "drop", "copy", "swap", "add", "minus", "times", "over", "rest", "below", "same", "both", "either", "unlike", "up", "down", "jump", "jumpif", "load", "save", "me", "from", "sent", "word", "coin", "note", "call", "borrow", "look", "give", "fail"]
noncomputable def rowNums (r : Row) : List Int := [(firstAt WS r.1 : Int), r.2.getD 0]
noncomputable def plainOf (n c p : Int) (rs : List Row) (f : Int → Int) (L : List Int) : List Int := [n, c, p, (rs.length : Int)] ++ rs.flatMap rowNums ++ [(L.length : Int)] ++ L.flatMap fun i => [i, f i]
noncomputable def Supp (f : Int → Int) (L : List Int) : Prop := L.Pairwise (· < ·) ∧ ∀ i, i ∈ L ↔ f i ≠ 0
noncomputable def spRowF : Sp := fun _ _ _ _ => False
noncomputable def spPlain0 (K : PySem.W.Frag) (C : Addr) : Sp := fun vs H Q _ => ∃ (a dx pr st : Addr) (c p n : Int) (f : Int → Int) (m : Nat), vs = [.ref a] ∧ AcAt K C H a dx pr st c p n [] f m ∧ m < 64 ∧
  ∀ l L H', Same H H' → H l = none → Supp f L → L.length < 64 → H' l = some (.lst ((plainOf n c p [] f L).map V.int)) → Q (.ref l) H'
theorem key_ints : ∀ (kvs : List (Key × V)), (∀ p ∈ kvs, ∃ i n : Int, p = (Sum.inl i, .int n) ∧ n ≠ 0) → ∃ ks : List Int, kvs.map (·.1) = ks.map Sum.inl
  | [], _ => ⟨[], rfl⟩
  | p :: r, h => by
    obtain ⟨i, n, rfl, _⟩ := h p (by simp)
    obtain ⟨ks, e⟩ := key_ints r fun q hq => h q (by simp [hq])
    exact ⟨i :: ks, by rw [List.map_cons, e]; rfl⟩
theorem valV_mem {kvs : List (Key × V)} {k : Key} {v : V} (h : valV kvs k = some v) : (k, v) ∈ kvs := by
  unfold valV at h
  obtain ⟨p, hp, rfl⟩ := Option.map_eq_some_iff.mp h
  have h1 := List.find?_some hp
  have h2 := List.mem_of_find?_eq_some hp
  simp only [decide_eq_true_eq] at h1
  rw [← h1]
  exact h2
theorem supp_of {kvs : List (Key × V)} {f : Int → Int} {ks ms : List Int} (hn : (kvs.map (·.1)).Nodup) (hz : ∀ p ∈ kvs, ∃ i n : Int, p = (Sum.inl i, .int n) ∧ n ≠ 0) (hf : ∀ i : Int, (valV kvs (Sum.inl i : Key)).getD (.int 0) = .int (f i)) (hk : kvs.map (·.1) = ks.map Sum.inl) (hp : ms.Perm ks) (hs : ms.Pairwise (· ≤ ·)) : Supp f ms := by
  have hkn : ks.Nodup := by
    rw [hk] at hn
    exact (List.pairwise_map.mp hn).imp fun h e => h (by rw [e])
  refine ⟨rises_of hs (hp.nodup_iff.mpr hkn), fun i => ?_⟩
  rw [hp.mem_iff]
  constructor
  · intro hi
    have hm : (Sum.inl i : Key) ∈ kvs.map (·.1) := by rw [hk]; exact List.mem_map.mpr ⟨i, hi, rfl⟩
    cases e : valV kvs (Sum.inl i : Key) with
    | none => exact absurd hm (valV_not e)
    | some v =>
      obtain ⟨j, n, e2, hn0⟩ := hz _ (valV_mem e)
      cases e2
      have := hf i
      rw [e] at this
      have e3 : V.int n = V.int (f i) := this
      cases e3
      exact hn0
  · intro hi
    cases e : valV kvs (Sum.inl i : Key) with
    | none =>
      have := hf i
      rw [e] at this
      have e3 : V.int 0 = V.int (f i) := this
      exact absurd (V.int.inj e3).symm hi
    | some v =>
      have hm := valV_in e
      rw [hk] at hm
      obtain ⟨j, hj, e4⟩ := List.mem_map.mp hm
      cases e4
      exact hj

noncomputable def spCell (K : PySem.W.Frag) : Sp := fun vs H Q _ => ∃ (p : Addr) (ns : List Int) (k : Int), vs = [.ref p, .int k] ∧ 0 ≤ k ∧ SqL K H p (ns.map V.int) ∧ ∀ i, Q (.int i) H
noncomputable def spMixedC : Sp := fun vs H Q _ => ∃ n, vs = [.int n] ∧ ∀ i, 0 ≤ i → i < 999999999989 → Q (.int i) H
noncomputable def spWide : Sp := fun vs H Q _ => ∃ n, vs = [.int n] ∧ ∀ i, 0 ≤ i → i < 18446744073709551616 → Q (.int i) H
noncomputable def spSlots (K : PySem.W.Frag) : Sp := fun vs H Q _ => ∃ (p : Addr) (ns : List Int), vs = [.ref p] ∧ SqL K H p (ns.map V.int) ∧ ∀ l (ss : List Nat) H', Same H H' → H l = none → 2 ≤ ss.length → ss.length ≤ 5 → (∀ i ∈ ss, i < 16) → ss.Nodup → H' l = some (.lst (ss.map fun i : Nat => V.int (i : Int))) → Q (.ref l) H'
noncomputable def spPlaces (K : PySem.W.Frag) : Sp := fun vs H Q _ => ∃ (p : Addr) (ns : List Int), vs = [.ref p] ∧ SqL K H p (ns.map V.int) ∧ ∀ l (ps : List Int) H', Same H H' → H l = none → ps.length = 3 → H' l = some (.lst (ps.map V.int)) → Q (.ref l) H'
theorem p64 : (2 : Int) ^ Int.toNat 64 = 18446744073709551616 := by decide
theorem slots_fin : ∀ a : Fin 16, ∀ b : Fin 8, ∀ n : Fin 6, ((List.range n.val).map fun k : Nat => (a.val + k * (1 + 2 * b.val)) % 16).Nodup := by decide +kernel
theorem slots_nodup (q r : Int) (n : Nat) (hn : n ≤ 5) (h0 : 0 ≤ q) : ((List.range n).map fun k : Nat => ((q + (k : Int) * (1 + 2 * (r % 8))) % 16).toNat).Nodup := by
  have ha : (q % 16).toNat < 16 := by omega
  have hb : (r % 8).toNat < 8 := by omega
  have := slots_fin ⟨(q % 16).toNat, ha⟩ ⟨(r % 8).toNat, hb⟩ ⟨n, by omega⟩
  have e : (fun k : Nat => ((q + (k : Int) * (1 + 2 * (r % 8))) % 16).toNat) = fun k : Nat => ((q % 16).toNat + k * (1 + 2 * (r % 8).toNat)) % 16 := by
    funext k
    have er : r % 8 = (((r % 8).toNat : Nat) : Int) := by omega
    have e2 : (k : Int) * (1 + 2 * (r % 8)) = ((k * (1 + 2 * (r % 8).toNat) : Nat) : Int) := by
      rw [Int.natCast_mul, Int.natCast_add, Int.natCast_mul, ← er]
      rfl
    rw [e2]
    generalize k * (1 + 2 * (r % 8).toNat) = x
    omega
  rw [e]
  exact this

noncomputable def hasAll (A : Nat → Option AcI) (ss : List Nat) : Prop := ∀ i ∈ ss, i < 16 ∧ ∃ x, A i = some x
noncomputable def slotV (ss : List Nat) : List V := ss.map fun i : Nat => V.int (i : Int)
theorem slot_at {ss : List Nat} {j : Int} (h0 : 0 ≤ j) (h1 : j < (ss.length : Int)) : ∃ i ∈ ss, atI (slotV ss) j = some (.int ((i : Nat) : Int)) := by
  have hj : j.toNat < ss.length := by omega
  refine ⟨ss[j.toNat], List.getElem_mem hj, ?_⟩
  refine atI_nat' (i := j.toNat) ?_ (by omega)
  unfold slotV
  rw [List.getElem?_map, List.getElem?_eq_getElem hj]
  rfl
theorem none_upd {H : Hp} {a b : Addr} {o : HO} (h : upd H a o b = none) : b ≠ a ∧ H b = none := by
  by_cases e : b = a
  · rw [e, upd_same] at h; cases h
  · rw [upd_ne e] at h; exact ⟨e, h⟩
theorem cutV_ints (cs : List Int) (lo hi : Option Int) : ∃ ms : List Int, cutV (cs.map V.int) lo hi = ms.map V.int ∧ ms.length ≤ cs.length := by
  unfold cutV
  rw [List.length_map]
  refine ⟨(cs.drop (HT.sIx cs.length 0 lo)).take (HT.sIx cs.length cs.length hi - HT.sIx cs.length 0 lo), by rw [List.map_take, List.map_drop], ?_⟩
  rw [List.length_take, List.length_drop]
  omega
noncomputable def setO (A : Nat → Option AcI) (i : Nat) (x : AcI) : Nat → Option AcI := fun j => if j = i then some x else A j
theorem rooms_set {A : Nat → Option AcI} {i : Nat} {x : AcI} (hi : i < 16) : ((List.range 16).map fun j => roomV (A j)).set i (.ref x.a) = (List.range 16).map fun j => roomV (setO A i x j) := by
  apply List.ext_getElem?
  intro n
  rw [List.getElem?_set]
  by_cases e : i = n
  · subst e
    rw [if_pos rfl, if_pos (by simpa using hi), List.getElem?_map, List.getElem?_range hi]
    show _ = some (roomV (setO A i x i))
    unfold setO
    rw [if_pos rfl]
    rfl
  · rw [if_neg e, List.getElem?_map, List.getElem?_map]
    by_cases hn : n < 16
    · rw [List.getElem?_range hn]
      show some _ = some (roomV (setO A i x n))
      unfold setO
      rw [if_neg (Ne.symm e)]
    · rw [List.getElem?_eq_none (by simpa using hn)]
      rfl
theorem setO_old {A : Nat → Option AcI} {i : Nat} {x : AcI} : ∀ j y, setO A i x j = some y → (j = i ∧ y = x) ∨ (j ≠ i ∧ A j = some y) := fun j y h => by
  unfold setO at h
  by_cases z : j = i
  · rw [if_pos z] at h; cases h; exact .inl ⟨z, rfl⟩
  · rw [if_neg z] at h; exact .inr ⟨z, h⟩
theorem Rooms.add {K : PySem.W.Frag} {C : Addr} {H H' : Hp} {R : Addr} {A : Nat → Option AcI} {S : Nat → AcS} {m : Nat} (r : Rooms K C H R A S m) {i : Nat} (hi : i < 16) {x : AcI} {s : AcS} (e5 : H' R = some (.lst (((List.range 16).map fun j => roomV (A j)).set i (.ref x.a)))) (e6 : Acc K C H' x s m)
    (fr : ∀ b o, H b = some o → b ≠ R → (∀ kvs, o ≠ .dK kvs) → H' b = some o) (fs : ∀ j y, j < 16 → A j = some y → H' y.st = H y.st) (np : ∀ j y, j < 16 → A j = some y → y.pr ≠ R) (n3 : H x.a = none) (n4 : H x.st = none) : Rooms K C H' R (setO A i x) (setS S i s) m := by
  have hR := r.ob
  have sne : ∀ j y, j < 16 → A j = some y → ∃ kvs, H y.st = some (.dK kvs) := fun j y hj hy => let ⟨kvs, a, _⟩ := (r.ac j y hj hy).sto; ⟨kvs, a⟩
  have im : SameI H H' := fun b u e i => by
    refine fr b u e (fun z => ?_) (fun kvs z => ?_)
    · rw [z, hR] at e; cases e; exact notImm_lst i
    · rw [z] at i; exact notImm_dK i
  refine ⟨by rw [e5, rooms_set hi], fun j y hj hy => ?_, fun j j' y y' hj hj' hy hy' e => ?_, fun j j' y y' hj hj' hy hy' e => ?_⟩
  · rcases setO_old j y hy with ⟨rfl, rfl⟩ | ⟨z, gy⟩
    · unfold setS; rw [if_pos rfl]; exact e6
    · unfold setS; rw [if_neg z]
      have h := r.ac j y hj gy
      obtain ⟨xs, g1, g2⟩ := h.pg
      obtain ⟨kvs, g3, g4⟩ := h.sto
      exact ⟨fr _ _ h.ob (ne_of h.ob hR (by intro z; cases z)) (by intro _ z; cases z), ⟨xs, fr _ _ g1 (np j y hj gy) (by intro _ z; cases z), g2.keep im⟩, kvs, (fs j y hj gy).trans g3, g4⟩
  · rcases setO_old j y hy with ⟨rfl, rfl⟩ | ⟨z, gy⟩ <;> rcases setO_old j' y' hy' with ⟨rfl, rfl⟩ | ⟨z', gy'⟩
    · rfl
    · have h := (r.ac j' y' hj' gy').ob; rw [← e, n3] at h; cases h
    · have h := (r.ac j y hj gy).ob; rw [e, n3] at h; cases h
    · exact r.da j j' y y' hj hj' gy gy' e
  · rcases setO_old j y hy with ⟨rfl, rfl⟩ | ⟨z, gy⟩ <;> rcases setO_old j' y' hy' with ⟨rfl, rfl⟩ | ⟨z', gy'⟩
    · rfl
    · obtain ⟨_, h⟩ := sne j' y' hj' gy'; rw [← e, n4] at h; cases h
    · obtain ⟨_, h⟩ := sne j y hj gy; rw [e, n4] at h; cases h
    · exact r.ds j j' y y' hj hj' gy gy' e
theorem Rooms.empty {K : PySem.W.Frag} {C : Addr} {H : Hp} {R : Addr} {m : Nat} (f : H R = some (.lst ((List.range 16).map fun i => roomV ((fun _ => none : Nat → Option AcI) i)))) (S : Nat → AcS) : Rooms K C H R (fun _ => none) S m :=
  ⟨f, fun _ _ _ h => (nomatch h), fun _ _ _ _ _ _ h => (nomatch h), fun _ _ _ _ _ _ h => (nomatch h)⟩

noncomputable def spMade (K : PySem.W.Frag) (cS cM cN : Addr) : Sp := fun vs H Q _ => ∃ (t : Addr) (d : Dd), vs = [.ref t] ∧ SqT K H t (tellV d) ∧ ∀ a dx H', Same H H' → H a = none → H' a = some (.ins (clsD cS cM cN d) dx (fldD d)) → Q (.ref a) H'

section
variable {P : Program} {w : World} {K : PySem.W.Frag} {mg : Str → Option Value} {base : Heap}
theorem sc_row_numbers : FnScope ["row"] ["row"] (defScope s_row_numbers) := ⟨rfl, rfl, rfl, by decide +kernel, rfl, by decide +kernel, by decide +kernel⟩
theorem ok_row_numbers (D : DefAt K mg "row_numbers" s_row_numbers) : Cal P w K mg base 1 "row_numbers" spRowF := by
  exact cal_of (N := ["row"]) (ps := ["row"]) D sc_row_numbers (fun vs H Q E h => h.elim) (fun _ _ _ _ _ _ us hl => bd1 (R := fun us => bindArgs _ ⟨us, []⟩ = pure (List.zip _ us)) (fun _ => rfl) us hl) (fun f cdv A outer s H vs Q E hr h => h.elim)
theorem sc_Account_plain : FnScope ["self", "numbers", "row", "place"] ["self"] (defScope s_Account_plain) := ⟨rfl, rfl, rfl, by decide +kernel, rfl, by decide +kernel, by decide +kernel⟩
theorem ok_Account_plain   {cAccount : Addr} (D : MethAt K cAccount "plain" "Account.plain" s_Account_plain) (tAccount : T_Account K mg cAccount) (c_row_numbers : Cal P w K mg base 1 "row_numbers" spRowF) (n_sorted : mg "sorted" = none) (n_len : mg "len" = none) : MCal P w K mg base 2 cAccount "plain" (spPlain0 K cAccount) := by
  refine mcal_of (N := ["self", "numbers", "row", "place"]) (ps := ["self"]) D tAccount.k.cl sc_Account_plain (fun vs H Q E h => ?_) (fun _ _ _ _ _ _ us hl => bd1 (R := fun us => bindArgs _ ⟨us, []⟩ = pure (List.zip _ us)) (fun _ => rfl) us hl) (fun f cdv A outer s H vs Q E hr h => ?_)
  · obtain ⟨a, dx, pr, st, c, p, n, f, m, rfl, _⟩ := h; rfl
  · obtain ⟨a, dx, pr, st, c, p, n, fn, m, rfl, A, hm, k⟩ := h
    refine ⟨_, (pss_cons (ps_set (i := 1) sc_Account_plain.nd rfl (by first | exact Or.inl rfl | exact Or.inr rfl) (pe_lst (pa_cons (pe_fld (pv 0) rfl) (pa_cons (pe_fld (pv 0) rfl) (pa_cons (pe_fld (pv 0) rfl) (pa_cons (pe_callB cn_len rfl n_len PySem.boot_len (pa_cons (pe_fld (pv 0) rfl) pa_nil)) pa_nil))))))
      (pss_cons (ps_for PassesOwn.never rfl (pi_list (pe_fld (pv 0) rfl)) (pg_name (i := 2) sc_Account_plain.nd rfl (by first | exact Or.inl rfl | exact Or.inr rfl))
      (pss_one (ps_expr (pe_bm PySem.F.plainAttrs_list PySem.F.slot_list_extend PySem.F.type_list_extend mt_extend (pv 1) (pa_cons (pe_cal c_row_numbers (hr.mono (by decide)) rfl (pa_cons (pv 2) pa_nil)) pa_nil)))))
      (pss_cons (ps_expr (pe_bm PySem.F.plainAttrs_list PySem.F.slot_list_append PySem.F.type_list_append mt_append (pv 1) (pa_cons (pe_callB call_lenD rfl n_len PySem.boot_len (pa_cons (pe_fld (pv 0) rfl) pa_nil)) pa_nil)))
      (pss_cons (ps_for PassesOwn.never rfl (pi_list (pe_callB (cn_sorted rfl) rfl n_sorted PyProof.Rows.boot_sorted (pa_cons (pe_fld (pv 0) rfl) pa_nil))) (pg_name (i := 3) sc_Account_plain.nd rfl (by first | exact Or.inl rfl | exact Or.inr rfl))
      (pss_one (ps_expr (pe_bm PySem.F.plainAttrs_list PySem.F.slot_list_extend PySem.F.type_list_extend mt_extend (pv 1) (pa_cons (pe_lst (pa_cons (pv 3) (pa_cons (pe_dget (hu_of hr) (pe_fld (pv 0) rfl) (pv 3) (fun _ _ => rfl)) pa_nil))) pa_nil)))))
      (pss_one (ps_ret (pv 1))))))), ?_⟩
    try simp only [nox_K, nox_P, nox_w, nox_mg, nox_base, cxOf_K, cxOf_P, cxOf_w, cxOf_mg, cxOf_base]
    obtain ⟨xs, hpr, hR⟩ := A.pg
    obtain ⟨kvs, hst, hkl, hkn, hkz, hkf⟩ := A.sto
    obtain ⟨ks, hks⟩ := key_ints kvs hkz
    have hkl2 : ks.length = kvs.length := by
      have := congrArg List.length hks
      rw [List.length_map, List.length_map] at this
      exact this.symm
    have hx0 : xs = [] := List.eq_nil_of_length_eq_zero hR.1.symm
    subst hx0
    repeat walk_at "rdk"
    refine rd_fldA A.ob tAccount.k.cl tAccount.n_count rfl ?_
    repeat walk_at "rdk"
    refine rd_fldA A.ob tAccount.k.cl tAccount.n_coin rfl ?_
    repeat walk_at "rdk"
    refine rd_fldA A.ob tAccount.k.cl tAccount.n_purse rfl ?_
    repeat walk_at "rdk"
    refine rd_fldA A.ob tAccount.k.cl tAccount.n_program rfl ?_
    refine rd_nil ?_
    refine sql_len (n := 0) (sql_of hpr) rfl ?_
    refine rd_nil ?_
    refine ⟨show 4 ≤ sizeLine by decide, fun l hl => ?_⟩
    have sz := PySem.sizeLine_eq
    have s1 := Same.new hl (o := .lst [.int n, .int c, .int p, .int 0])
    have hl1 : (upd H l (.lst [.int n, .int c, .int p, .int 0])) l = some (.lst (([n, c, p, 0] : List Int).map V.int)) := upd_same
    generalize upd H l _ = H1 at s1 hl1
    (revert H1 s1 hl1; refine keepIt ?_; intro H1 s1 hl1)
    repeat walk_at "rdk"
    refine rd_for (rd_iList ?_)
    repeat walk_at "rdk"
    refine rd_fldA (s1 _ _ A.ob) tAccount.k.cl tAccount.n_program rfl ?_
    refine ⟨pr, rfl, ⟨_, sql_of (s1 _ _ hpr)⟩, for_list (xs := []) (fun i σ' H' => H' = H1 ∧ σ' = [some (.ref a), some (.ref l), none, none]) ⟨rfl, rfl⟩ (fun i σ' H' _ hz => by rw [hz.1]; exact sql_of (s1 _ _ hpr)) (fun i x σ' H' hx _ => by simp at hx) ?_⟩
    · rintro σ' H' ⟨rfl, rfl⟩
      have s2 := s1
      have hl2 := hl1
      generalize hB : ([n, c, p, 0] : List Int) = B at hl2
      (revert B hB hl2; refine keepIt ?_; intro B hB hl2)
      have hBl : B.length ≤ 2004 := by rw [← hB]; show 4 ≤ 2004; decide
      repeat walk_at "rdk"
      refine ⟨ty_list (sql_of hl2), ?_⟩
      repeat walk_at "rdk"
      refine rd_fldA (s2 _ _ A.ob) tAccount.k.cl tAccount.n_store rfl ?_
      refine rd_nil ?_
      first | refine sp_gen fun zQ zq => ⟨st, kvs, rfl, s2 _ _ hst, zq _ _ ?_⟩ | refine ⟨st, kvs, rfl, s2 _ _ hst, ?_⟩
      refine rd_nil ?_
      refine rd_append hl2 (by rw [List.length_map]; omega) ?_
      have e1 : B.map V.int ++ [V.int kvs.length] = (B ++ [(kvs.length : Int)]).map V.int := by rw [List.map_append]; rfl
      rw [e1]
      have s3 := s2.wr hl (o := .lst ((B ++ [(kvs.length : Int)]).map V.int))
      have hl3 : (upd H' l (.lst ((B ++ [(kvs.length : Int)]).map V.int))) l = some (.lst ((B ++ [(kvs.length : Int)]).map V.int)) := upd_same
      generalize upd H' l _ = H3 at s3 hl3
      (revert H3 s3 hl3; refine keepIt ?_; intro H3 s3 hl3)
      dsimp only
      repeat walk_at "rdk"
      refine rd_for (rd_iList ?_)
      repeat walk_at "rdk"
      refine rd_fldA (s3 _ _ A.ob) tAccount.k.cl tAccount.n_store rfl ?_
      refine rd_nil ?_
      refine rd_sortedD (s3 _ _ hst) hks (by omega) fun ms hpm hsm q hq => ?_
      have SU := supp_of hkn hkz hkf hks hpm hsm
      have hml : ms.length = kvs.length := by rw [hpm.length_eq, hkl2]
      have hlq : l ≠ q := ne_of_none hl3 hq
      have hq0 : H q = none := s3.fresh hq
      have s4 := s3.newT hq (o := .lst (ms.map V.int))
      have hq4 : (upd H3 q (.lst (ms.map V.int))) q = some (.lst (ms.map V.int)) := upd_same
      have hl4 : (upd H3 q (.lst (ms.map V.int))) l = some (.lst ((B ++ [(kvs.length : Int)] ++ (ms.take 0).flatMap fun i => [i, fn i]).map V.int)) := by rw [upd_ne hlq, List.take_zero, List.flatMap_nil, List.append_nil]; exact hl3
      generalize upd H3 q _ = H4 at s4 hq4 hl4
      (revert H4 s4 hq4 hl4; refine keepIt ?_; intro H4 s4 hq4 hl4)
      have fm : ∀ i : Nat, i ≤ ms.length → ((ms.take i).flatMap fun i => [i, fn i]).length = 2 * i := fun i hi => by
        rw [List.length_flatMap]
        have : (ms.take i).map (fun x => ([x, fn x] : List Int).length) = List.replicate i 2 := by
          apply List.eq_replicate_iff.mpr
          exact ⟨by rw [List.length_map, List.length_take]; omega, fun b hb => by obtain ⟨x, _, rfl⟩ := List.mem_map.mp hb; rfl⟩
        rw [this, List.sum_replicate_nat]
        omega
      refine ⟨q, rfl, ⟨_, sql_of hq4⟩, for_list (xs := ms.map V.int) (fun i σ' H' => Same H H' ∧ H' q = some (.lst (ms.map V.int)) ∧ H' l = some (.lst ((B ++ [(kvs.length : Int)] ++ (ms.take i).flatMap fun i => [i, fn i]).map V.int)) ∧ ∃ v2 v3, σ' = [some (.ref a), some (.ref l), v2, v3]) ⟨s4, hq4, hl4, _, _, rfl⟩ (fun i σ' H' _ ⟨_, e, _⟩ => sql_of e) ?_ ?_⟩
      · rintro i x σ' H' hx ⟨s5, hq5, hl5, v2, v3, rfl⟩
        rw [List.getElem?_map] at hx
        obtain ⟨pl, hpl, rfl⟩ := Option.map_eq_some_iff.mp hx
        obtain ⟨hi, ei⟩ := List.getElem?_eq_some_iff.mp hpl
        have hf0 := (SU.2 pl).mp (List.mem_of_getElem? hpl)
        have hv : valV kvs (Sum.inl pl : Key) = some (.int (fn pl)) := by
          have := hkf pl
          cases e : valV kvs (Sum.inl pl : Key) with
          | none =>
            rw [e] at this
            exact absurd (V.int.inj (show V.int 0 = V.int (fn pl) from this)).symm hf0
          | some v =>
            rw [e] at this
            exact congrArg some this
        repeat walk_at "rdk"
        refine ⟨ty_list (sql_of hl5), ?_⟩
        repeat walk_at "rdk"
        refine rd_fldA (s5 _ _ A.ob) tAccount.k.cl tAccount.n_store rfl ?_
        repeat walk_at "rdk"
        refine ⟨st, .int (fn pl), rfl, ?_, ?_⟩
        · have := DGet.k (k := Sum.inl pl) (s5 _ _ hst)
          rw [hv] at this
          exact this
        repeat walk_at "rdk"
        refine ⟨show 2 ≤ sizeLine by decide, fun z hz => ?_⟩
        repeat walk_at "rdk"
        have hlz : l ≠ z := ne_of_none hl5 hz
        have hqz : q ≠ z := ne_of_none hq5 hz
        refine rd_extend (xs := ((B ++ [(kvs.length : Int)] ++ (ms.take i).flatMap fun i => [i, fn i]).map V.int)) (zs := [.int pl, .int (fn pl)]) (by rw [upd_ne hlz]; exact hl5) upd_same (by rw [List.length_map, List.length_append, List.length_append, fm i (by omega)]; show B.length + 1 + 2 * i + 2 ≤ _; omega) ?_
        refine ⟨(s5.newT hz).wr hl, by rw [upd_ne (Ne.symm hlq), upd_ne hqz]; exact hq5, ?_, _, _, rfl⟩
        rw [upd_same, List.take_succ_eq_append_getElem hi, ei, List.flatMap_append, ← List.append_assoc, List.map_append (l₂ := [pl].flatMap _)]
        rfl
      · rintro σ' H' ⟨s5, hq5, hl5, v2, v3, rfl⟩
        rw [List.length_map, List.take_length] at hl5
        repeat walk_at "rdk"
        refine k l ms H' s5 hl SU (by omega) ?_
        rw [hl5, ← hB, ← hml]
        rfl

end
end My

namespace My
open PySem L2

noncomputable def spWhole : Sp := fun vs H Q _ => ∃ a b, vs = [.int a, .int b] ∧ Q (.bl (decide (a = b))) H

theorem keeps_done (S : Nat → AcS) (d : Dd) (i : Nat) : (doneS S d i).purse = (S i).purse ∧ (doneS S d i).count = (S i).count ∧ (doneS S d i).rows = (S i).rows := by
  cases d with
  | save s p o n =>
    show (setS S s.toNat _ i).purse = _ ∧ (setS S s.toNat _ i).count = _ ∧ (setS S s.toNat _ i).rows = _
    unfold setS
    by_cases z : i = s.toNat
    · rw [if_pos z, z]; exact ⟨rfl, rfl, rfl⟩
    · rw [if_neg z]; exact ⟨rfl, rfl, rfl⟩
  | move s t k =>
    show (moved S _ _ k i).purse = _ ∧ (moved S _ _ k i).count = _ ∧ (moved S _ _ k i).rows = _
    rw [moved_coin]
    exact ⟨rfl, rfl, rfl⟩
  | note s n => exact ⟨rfl, rfl, rfl⟩
theorem keeps_run (ds : List Dd) : ∀ (S : Nat → AcS) (i : Nat), (runS S ds i).purse = (S i).purse ∧ (runS S ds i).count = (S i).count ∧ (runS S ds i).rows = (S i).rows := by
  induction ds with
  | nil => exact fun S i => ⟨rfl, rfl, rfl⟩
  | cons d ds ih =>
    intro S i
    obtain ⟨a, b, c⟩ := ih (doneS S d) i
    obtain ⟨a', b', c'⟩ := keeps_done S d i
    exact ⟨a.trans a', b.trans b', c.trans c'⟩
theorem nn_snoc {S0 : Nat → AcS} {ds : List Dd} {d : Dd} (h : ∀ q i, 0 ≤ (runS S0 (ds.take q) i).coin) (h2 : ∀ i, 0 ≤ (doneS (runS S0 ds) d i).coin) (q i : Nat) : 0 ≤ (runS S0 ((ds ++ [d]).take q) i).coin := by
  by_cases z : q ≤ ds.length
  · rw [List.take_append_of_le_length z]; exact h q i
  · rw [List.take_of_length_le (by rw [List.length_append]; show ds.length + 1 ≤ q; omega), runS_snoc]; exact h2 i
structure Wk (K : PySem.W.Frag) (C cJ cS cM cN : Addr) (H0 H : Hp) (j dx R L : Addr) (A : Nat → Option AcI) (S0 : Nat → AcS) (es : List DI) (m : Nat) : Prop where
  jr : Jr cJ cS cM cN H j dx R L A es
  ro : Rooms K C H R A (runS S0 (es.map (·.d))) m
  ri : rightAll S0 (es.map (·.d))
  nn : ∀ q i, 0 ≤ (runS S0 ((es.map (·.d)).take q) i).coin
  fr : ∀ b o, Out A b → b ≠ L → H0 b = some o → H b = some o
section
variable {K : PySem.W.Frag} {C cJ cS cM cN : Addr} {H0 H H' : Hp} {j dx R L : Addr} {A : Nat → Option AcI} {S0 : Nat → AcS} {es : List DI} {m : Nat}
theorem Wk.same (W : Wk K C cJ cS cM cN H0 H j dx R L A S0 es m) (s : Same H H') : Wk K C cJ cS cM cN H0 H' j dx R L A S0 es m := ⟨W.jr.same s, W.ro.same s, W.ri, W.nn, fun b o h1 h2 h3 => s _ _ (W.fr b o h1 h2 h3)⟩
theorem Wk.write (W : Wk K C cJ cS cM cN H0 H j dx R L A S0 es m) {e : DI} (k : ∀ b, Out A b → b ≠ L → H' b = H b) (r : Rooms K C H' R A (doneS (runS S0 (es.map (·.d))) e.d) (m + 1)) (J : Jr cJ cS cM cN H' j dx R L A (es ++ [e])) (hr : rightD (runS S0 (es.map (·.d))) e.d) (hn : ∀ i, 0 ≤ (doneS (runS S0 (es.map (·.d))) e.d i).coin) : Wk K C cJ cS cM cN H0 H' j dx R L A S0 (es ++ [e]) (m + 1) := by
  have em : (es ++ [e]).map (·.d) = es.map (·.d) ++ [e.d] := by rw [List.map_append]; rfl
  refine ⟨J, by rw [em, runS_snoc]; exact r, by rw [em]; exact (rightAll_snoc _ _ _).mpr ⟨W.ri, hr⟩, by rw [em]; exact nn_snoc W.nn hn, fun b o h1 h2 h3 => ?_⟩
  rw [k b h1 h2]
  exact W.fr b o h1 h2 h3
theorem Wk.back {m' : Nat} (W : Wk K C cJ cS cM cN H0 H j dx R L A S0 es m) {n : Nat} (k : ∀ b, Out A b → b ≠ L → H' b = H b) (r : Rooms K C H' R A (runS S0 ((es.take n).map (·.d))) m') (ri : rightAll S0 ((es.take n).map (·.d))) (J : Jr cJ cS cM cN H' j dx R L A (es.take n)) : Wk K C cJ cS cM cN H0 H' j dx R L A S0 (es.take n) m' := by
  refine ⟨J, r, ri, fun q i => ?_, fun b o h1 h2 h3 => ?_⟩
  · rw [List.map_take, List.take_take]; exact W.nn _ i
  · rw [k b h1 h2]; exact W.fr b o h1 h2 h3
theorem Wk.now (W : Wk K C cJ cS cM cN H0 H j dx R L A S0 es m) (i : Nat) : 0 ≤ (runS S0 (es.map (·.d)) i).coin := by
  have := W.nn (es.map (·.d)).length i
  rwa [List.take_length] at this
end
theorem coin_save (S : Nat → AcS) (s p o n : Int) (i : Nat) : (doneS S (.save s p o n) i).coin = (S i).coin := by
  show (setS S s.toNat _ i).coin = _
  unfold setS
  by_cases z : i = s.toNat
  · rw [if_pos z, z]
  · rw [if_neg z]
theorem coin_move {S : Nat → AcS} {i j : Nat} {k : Int} (h : ∀ n, 0 ≤ (S n).coin) (h0 : 0 ≤ k) (h1 : k ≤ (S i).coin) (n : Nat) : 0 ≤ (doneS S (.move i j k) n).coin := by
  show 0 ≤ (moved S _ _ k n).coin
  rw [moved_coin, Int.toNat_natCast, Int.toNat_natCast]
  have := h n
  dsimp only
  by_cases z : n = i
  · subst z
    rw [if_pos rfl]
    split <;> omega
  · rw [if_neg z]
    split <;> omega

noncomputable def suppL (f : Int → Int) : List Int := open Classical in if h : ∃ L, Supp f L then h.choose else []
theorem suppL_eq {f : Int → Int} {L : List Int} (h : Supp f L) : suppL f = L := by
  unfold suppL
  rw [dif_pos ⟨L, h⟩]
  have h2 := Exists.choose_spec (p := fun L => Supp f L) ⟨L, h⟩
  exact rises_eq h2.1 h.1 fun i => (h2.2 i).trans (h.2 i).symm
noncomputable def plainS (s : AcS) : List Int := plainOf s.count s.coin s.purse s.rows s.store (suppL s.store)
noncomputable def cellD (A : Nat → Option AcI) (S : Nat → AcS) (i : Nat) : Dt := match A i with
  | none => .non
  | some _ => .lst (Dt.ints (plainS (S i)))
noncomputable def allD (A : Nat → Option AcI) (S : Nat → AcS) : Dt := .lst ((List.range 16).map (cellD A S))
noncomputable def coinAt (A : Nat → Option AcI) (S : Nat → AcS) (i : Nat) : Int := match A i with
  | none => 0
  | some _ => (S i).coin
noncomputable def coinsOf (A : Nat → Option AcI) (S : Nat → AcS) : List Int := (List.range 16).map (coinAt A S)
noncomputable def NoRows (A : Nat → Option AcI) (S : Nat → AcS) : Prop := ∀ i x, i < 16 → A i = some x → (S i).rows = []
noncomputable def Elt (A : Nat → Option AcI) (S : Nat → AcS) (H0 H : Hp) (n : Nat) (v : V) : Prop := (A n = none ∧ v = .non) ∨ ∃ x l, A n = some x ∧ v = .ref l ∧ H0 l = none ∧ H l = some (.lst ((plainS (S n)).map V.int))
noncomputable def spAll (K : PySem.W.Frag) (C : Addr) : Sp := fun vs H Q _ => ∃ (R : Addr) (A : Nat → Option AcI) (S : Nat → AcS) (m : Nat), vs = [.ref R] ∧ Rooms K C H R A S m ∧ m < 64 ∧ NoRows A S ∧
  ∀ q vs' H', Same H H' → H q = none → H' q = some (.lst vs') → vs'.length = 16 → (∀ n v, vs'[n]? = some v → Elt A S H H' n v) → Q (.ref q) H'
noncomputable def spCoins (K : PySem.W.Frag) (C : Addr) : Sp := fun vs H Q _ => ∃ (R : Addr) (A : Nat → Option AcI) (S : Nat → AcS) (m : Nat), vs = [.ref R] ∧ Rooms K C H R A S m ∧ ∀ q, H q = none → Q (.ref q) (upd H q (.lst ((coinsOf A S).map V.int)))
theorem all_dv {K : PySem.W.Frag} {A : Nat → Option AcI} {S : Nat → AcS} {H0 H Hs : Hp} {q : Addr} {vs : List V} (nw : ∀ b o, H0 b = none → H b = some o → Hs b = some o) (hq0 : H0 q = none) (hq : H q = some (.lst vs)) (hl : vs.length = 16) (h : ∀ n v, vs[n]? = some v → Elt A S H0 H n v) : DV K Hs (allD A S) (.ref q) := by
  refine dv_lst (sql_of (nw q _ hq0 hq)) (dvs_of _ _ (by rw [List.length_map, List.length_range, hl]) fun i d x e1 e2 => ?_)
  rw [List.getElem?_map] at e1
  obtain ⟨n, hn, rfl⟩ := Option.map_eq_some_iff.mp e1
  obtain ⟨hi, en⟩ := List.getElem?_eq_some_iff.mp hn
  rw [List.getElem_range] at en
  subst en
  rcases h i x e2 with ⟨ha, rfl⟩ | ⟨y, l, ha, rfl, h0, h1⟩
  · unfold cellD
    rw [ha]
    unfold DV
    rfl
  · unfold cellD
    rw [ha]
    exact dv_lints (sql_of (nw l _ h0 h1))
theorem ints_dep (ns : List Int) : Dt.deps (Dt.ints ns) = 0 := by
  induction ns with
  | nil => simp [Dt.ints, Dt.deps]
  | cons n ns ih => simp [Dt.ints, Dt.deps, Dt.dep] at *; exact ih
theorem all_dep (A : Nat → Option AcI) (S : Nat → AcS) : (allD A S).dep ≤ 64 := by
  have h : ∀ l : List Nat, Dt.deps (l.map (cellD A S)) ≤ 1 := fun l => by
    induction l with
    | nil => simp [Dt.deps]
    | cons i l ih =>
      have : (cellD A S i).dep ≤ 1 := by
        unfold cellD
        split
        · simp [Dt.dep]
        · simp [Dt.dep, ints_dep]
      simp only [List.map_cons, Dt.deps]
      omega
  have := h (List.range 16)
  unfold allD
  simp only [Dt.dep]
  omega
structure Prot (A : Nat → Option AcI) (ex : List Addr) (Hs H : Hp) : Prop where
  sm : Same Hs H
  ou : ∀ b o, Hs b = some o → Out A b ∧ b ∉ ex
section
variable {A : Nat → Option AcI} {ex ex' : List Addr} {Hs H H' : Hp}
theorem Prot.step (p : Prot A ex Hs H) (k : ∀ b, Out A b → b ∉ ex → H' b = H b) : Prot A ex Hs H' := ⟨fun b o h => by rw [k b (p.ou b o h).1 (p.ou b o h).2]; exact p.sm b o h, p.ou⟩
theorem Prot.same (p : Prot A ex Hs H) (s : Same H H') : Prot A ex Hs H' := ⟨p.sm.trans s, p.ou⟩
theorem Prot.wr (p : Prot A ex Hs H) {b : Addr} {o : HO} (hb : b ∈ ex) : Prot A ex Hs (upd H b o) := ⟨fun c u h => by rw [upd_ne (fun z => (p.ou c u h).2 (by rw [z]; exact hb))]; exact p.sm c u h, p.ou⟩
theorem Prot.to (p : Prot A ex Hs H) (h : ∀ b ∈ ex', b ∈ ex ∨ H b = none) : Prot A ex' Hs H := ⟨p.sm, fun b o e => ⟨(p.ou b o e).1, fun z => by
  rcases h b z with h | h
  · exact (p.ou b o e).2 h
  · rw [p.sm b o e] at h; cases h⟩⟩
theorem Prot.new (p : Prot A ex Hs H) (s : Same H H') (ho : ∀ b, H b = none → Out A b) (he : ∀ b ∈ ex, ∃ o, H b = some o) : ∃ Hs', Prot A ex Hs' H' ∧ Same Hs Hs' ∧ ∀ b, H b = none → Hs' b = H' b := by
  refine ⟨fun b => match H b with | none => H' b | some _ => Hs b, ⟨fun b o h => ?_, fun b o h => ?_⟩, fun b o h => ?_, fun b h => ?_⟩
  · cases e : H b with
    | none => rw [e] at h; exact h
    | some u => rw [e] at h; exact s b o (p.sm b o h)
  · cases e : H b with
    | none => exact ⟨ho b e, fun z => by obtain ⟨u, hu⟩ := he b z; rw [e] at hu; cases hu⟩
    | some u => rw [e] at h; exact p.ou b o h
  · dsimp only
    rw [p.sm b o h]
    exact h
  · dsimp only
    rw [h]
end
noncomputable def hold (A : Nat → Option AcI) (ex : List Addr) (H : Hp) : Hp := open Classical in fun b => if Out A b ∧ b ∉ ex then H b else none
theorem hold_at {A : Nat → Option AcI} {ex : List Addr} {H : Hp} {b : Addr} (h1 : Out A b) (h2 : b ∉ ex) : hold A ex H b = H b := by unfold hold; rw [if_pos ⟨h1, h2⟩]
theorem hold_prot {A : Nat → Option AcI} {ex : List Addr} {H : Hp} : Prot A ex (hold A ex H) H := by
  have h : ∀ b o, hold A ex H b = some o → (Out A b ∧ b ∉ ex) ∧ H b = some o := fun b o h => by
    unfold hold at h
    split at h
    · rename_i q; exact ⟨q, h⟩
    · cases h
  exact ⟨fun b o e => (h b o e).2, fun b o e => (h b o e).1⟩
noncomputable def NL (A : Nat → Option AcI) (R L b : Addr) : Prop := b ≠ L ∧ b ≠ R ∧ ∀ i x, i < 16 → A i = some x → b ≠ x.pr
theorem NL.new {K : PySem.W.Frag} {C cJ cS cM cN : Addr} {H : Hp} {j dx R L b : Addr} {A : Nat → Option AcI} {S : Nat → AcS} {m : Nat} {es : List DI} (r : Rooms K C H R A S m) (J : Jr cJ cS cM cN H j dx R L A es) (h : H b = none) : NL A R L b :=
  ⟨Ne.symm (ne_of_none J.li h), Ne.symm (ne_of_none r.ob h), fun i x hi hx => let ⟨_, g, _⟩ := (r.ac i x hi hx).pg; Ne.symm (ne_of_none g h)⟩
theorem Wk.lst {K : PySem.W.Frag} {C cJ cS cM cN : Addr} {H : Hp} {j dx R L b : Addr} {A : Nat → Option AcI} {S0 : Nat → AcS} {es : List DI} {m : Nat} {xs ys : List V} (W : Wk K C cJ cS cM cN (fun _ => none) H j dx R L A S0 es m) (hb : H b = some (.lst xs)) (n : NL A R L b) : Wk K C cJ cS cM cN (fun _ => none) (upd H b (.lst ys)) j dx R L A S0 es m :=
  ⟨⟨by rw [upd_ne (ne_of W.jr.ob hb (by intro z; cases z))]; exact W.jr.ob, by rw [upd_ne (Ne.symm n.1)]; exact W.jr.li, fun e he => ⟨by rw [upd_ne (ne_of (W.jr.de e he).1 hb (by intro z; cases z))]; exact (W.jr.de e he).1, (W.jr.de e he).2⟩, W.jr.nR, W.jr.np⟩, W.ro.lst hb n.2.1 n.2.2, W.ri, W.nn, fun _ _ _ _ h => (nomatch h)⟩
noncomputable def placeD : Dd → Option Int
  | .save _ p _ _ => some p
  | _ => none
theorem done_supp (S : Nat → AcS) (d : Dd) (i : Nat) (p : Int) (h : (doneS S d i).store p ≠ 0) : (S i).store p ≠ 0 ∨ placeD d = some p := by
  cases d with
  | save s q o n =>
    by_cases e : q = p
    · exact .inr (by rw [← e]; rfl)
    · refine .inl fun z => h ?_
      show (setS S s.toNat _ i).store p = 0
      unfold setS
      by_cases w : i = s.toNat
      · rw [if_pos w]
        show putFn _ q n p = 0
        unfold putFn
        rw [if_neg (Ne.symm e), ← w]
        exact z
      · rw [if_neg w]
        exact z
  | move s t k =>
    refine .inl fun z => h ?_
    show (moved S _ _ k i).store p = 0
    rw [moved_coin]
    exact z
  | note s n => exact .inl h
theorem run_supp : ∀ (ds : List Dd) (S : Nat → AcS) (i : Nat) (p : Int), (runS S ds i).store p ≠ 0 → (S i).store p ≠ 0 ∨ p ∈ ds.filterMap placeD
  | [], S, i, p, h => .inl h
  | d :: ds, S, i, p, h => by
    rcases run_supp ds (doneS S d) i p h with h | h
    · rcases done_supp S d i p h with h | h
      · exact .inl h
      · exact .inr (List.mem_filterMap.mpr ⟨d, by simp, h⟩)
    · obtain ⟨e, he, ep⟩ := List.mem_filterMap.mp h
      exact .inr (List.mem_filterMap.mpr ⟨e, by simp [he], ep⟩)
theorem nodup_sub : ∀ (ks ps : List Int), ks.Nodup → (∀ k ∈ ks, k ∈ ps) → ks.length ≤ ps.length
  | [], ps, _, _ => Nat.zero_le _
  | k :: ks, ps, hn, h => by
    obtain ⟨n1, n2⟩ := List.nodup_cons.mp hn
    have hk := h k (by simp)
    have := nodup_sub ks (ps.erase k) n2 fun x hx => (List.mem_erase_of_ne (fun z => n1 (by rw [← z]; exact hx))).mpr (h x (by simp [hx]))
    rw [List.length_erase_of_mem hk] at this
    have : 0 < ps.length := List.length_pos_of_mem hk
    simp only [List.length_cons]
    omega
theorem StoreAt.tight {H : Hp} {d : Addr} {f : Int → Int} {m : Nat} (h : StoreAt H d f m) {ps : List Int} (hp : ∀ p, f p ≠ 0 → p ∈ ps) : StoreAt H d f ps.length := by
  obtain ⟨kvs, e1, e2, e3, e4, e5⟩ := h
  refine ⟨kvs, e1, ?_, e3, e4, e5⟩
  obtain ⟨ks, hk⟩ := key_ints kvs e4
  have hkn : ks.Nodup := by
    rw [hk] at e3
    exact (List.pairwise_map.mp e3).imp fun h e => h (by rw [e])
  have hl : kvs.length = ks.length := by
    have := congrArg List.length hk
    rw [List.length_map, List.length_map] at this
    exact this
  rw [hl]
  refine nodup_sub ks ps hkn fun k hk' => hp k ?_
  have hm : (Sum.inl k : Key) ∈ kvs.map (·.1) := by rw [hk]; exact List.mem_map.mpr ⟨k, hk', rfl⟩
  cases e : valV kvs (Sum.inl k : Key) with
  | none => exact absurd hm (valV_not e)
  | some v =>
    obtain ⟨j, n, z, hn0⟩ := e4 _ (valV_mem e)
    cases z
    have := e5 k
    rw [e] at this
    rw [← V.int.inj (show V.int n = V.int (f k) from this)]
    exact hn0
theorem Rooms.tight {K : PySem.W.Frag} {C : Addr} {H : Hp} {R : Addr} {A : Nat → Option AcI} {S0 : Nat → AcS} {ds : List Dd} {m : Nat} (r : Rooms K C H R A (runS S0 ds) m) (z : ∀ i p, (S0 i).store p = 0) : Rooms K C H R A (runS S0 ds) ds.length :=
  ⟨r.ob, fun i x hi hx => let h := r.ac i x hi hx; ⟨h.ob, h.pg, let ⟨kvs, e1, e2, e3⟩ := StoreAt.tight h.sto (ps := ds.filterMap placeD) (fun p hp => (run_supp ds S0 i p hp).resolve_left (fun q => q (z i p))); ⟨kvs, e1, Nat.le_trans e2 (List.length_filterMap_le _ _), e3⟩⟩, r.da, r.ds⟩
theorem at_room {A : Nat → Option AcI} {n : Nat} {x : V} (h : ((List.range 16).map fun i => roomV (A i))[n]? = some x) : n < 16 ∧ x = roomV (A n) := by
  rw [List.getElem?_map] at h
  obtain ⟨k, hk, rfl⟩ := Option.map_eq_some_iff.mp h
  obtain ⟨hi, e⟩ := List.getElem?_eq_some_iff.mp hk
  rw [List.getElem_range] at e
  rw [List.length_range] at hi
  subst e
  exact ⟨hi, rfl⟩

section
variable {P : Program} {w : World} {K : PySem.W.Frag} {mg : Str → Option Value} {base : Heap}
theorem sc_Lcell_at : FnScope ["_law_script", "_law_k"] ["_law_script", "_law_k"] (defScope s_Lcell_at) := ⟨rfl, rfl, rfl, by decide +kernel, rfl, by decide +kernel, by decide +kernel⟩
theorem ok_Lcell_at    (D : DefAt K mg "_law_cell_at" s_Lcell_at) (n_len : mg "len" = none) : Cal P w K mg base 1 "_law_cell_at" (spCell K) := by
  refine cal_of (N := ["_law_script", "_law_k"]) (ps := ["_law_script", "_law_k"]) D sc_Lcell_at (fun vs H Q E h => ?_) (fun _ _ _ _ _ _ us hl => bd2 (R := fun us => bindArgs _ ⟨us, []⟩ = pure (List.zip _ us)) (fun _ _ => rfl) us hl) (fun f cdv A outer s H vs Q E hr h => ?_)
  · obtain ⟨p, ns, j, rfl, _⟩ := h; rfl
  · obtain ⟨p, ns, j, rfl, hj, hl, k⟩ := h
    refine ⟨_, (pss_cons (ps_if (pt_cmpR op_lt (pv 1) (pe_callB cn_len rfl n_len PySem.boot_len (pa_cons (pv 0) pa_nil)) (nomark _)) (pss_one (ps_ret (pe_ix ix_list (pv 0) (pv 1) (fun _ _ => rfl)))) pss_nil)
      (pss_one (ps_ret pe_int))), ?_⟩
    try simp only [nox_K, nox_P, nox_w, nox_mg, nox_base, cxOf_K, cxOf_P, cxOf_w, cxOf_mg, cxOf_base]
    repeat' walk_at "rdt"
    · rename_i hlt
      rw [List.length_map] at hlt
      obtain ⟨c, e1, e2⟩ := atI_some (xs := ns) hj hlt
      have e3 : (ns.map V.int)[j.toNat]? = some (.int c) := by rw [List.getElem?_map, e2]; rfl
      exact rd_ixL hl (atI_nat' e3 (by omega)) (k c)
    · exact k _
theorem sc_Lmixed : FnScope ["_law_cell"] ["_law_cell"] (defScope s_Lmixed) := ⟨rfl, rfl, rfl, by decide +kernel, rfl, by decide +kernel, by decide +kernel⟩
theorem ok_Lmixed    (D : DefAt K mg "_law_mixed" s_Lmixed) : Cal P w K mg base 1 "_law_mixed" spMixedC := by
  refine cal_of (N := ["_law_cell"]) (ps := ["_law_cell"]) D sc_Lmixed (fun vs H Q E h => ?_) (fun _ _ _ _ _ _ us hl => bd1 (R := fun us => bindArgs _ ⟨us, []⟩ = pure (List.zip _ us)) (fun _ => rfl) us hl) (fun f cdv A outer s H vs Q E hr h => ?_)
  · obtain ⟨n, rfl, _⟩ := h; rfl
  · obtain ⟨n, rfl, k⟩ := h
    refine ⟨_, (pss_one (ps_ret (pe_op op_mod (pe_op op_mul (pv 0) pe_int) pe_int))), ?_⟩
    try simp only [nox_K, nox_P, nox_w, nox_mg, nox_base, cxOf_K, cxOf_P, cxOf_w, cxOf_mg, cxOf_base]
    repeat' walk_at "rdt"
    exact k _ (by omega) (by omega)
theorem sc_Lwide : FnScope ["_law_cell"] ["_law_cell"] (defScope s_Lwide) := ⟨rfl, rfl, rfl, by decide +kernel, rfl, by decide +kernel, by decide +kernel⟩
theorem ok_Lwide    (D : DefAt K mg "_law_wide" s_Lwide) : Cal P w K mg base 1 "_law_wide" spWide := by
  refine cal_of (N := ["_law_cell"]) (ps := ["_law_cell"]) D sc_Lwide (fun vs H Q E h => ?_) (fun _ _ _ _ _ _ us hl => bd1 (R := fun us => bindArgs _ ⟨us, []⟩ = pure (List.zip _ us)) (fun _ => rfl) us hl) (fun f cdv A outer s H vs Q E hr h => ?_)
  · obtain ⟨n, rfl, _⟩ := h; rfl
  · obtain ⟨n, rfl, k⟩ := h
    refine ⟨_, (pss_one (ps_ret (pe_op op_mod (pe_op op_mul (pv 0) pe_int) (pe_op op_pow pe_int pe_int)))), ?_⟩
    try simp only [nox_K, nox_P, nox_w, nox_mg, nox_base, cxOf_K, cxOf_P, cxOf_w, cxOf_mg, cxOf_base]
    repeat' walk_at "rdt"
    rw [p64]
    exact k _ (by omega) (by omega)
theorem sc_Lplaces_by : FnScope ["_law_script", "_law_cell"] ["_law_script"] (defScope s_Lplaces_by) := ⟨rfl, rfl, rfl, by decide +kernel, rfl, by decide +kernel, by decide +kernel⟩
theorem ok_Lplaces_by    (D : DefAt K mg "_law_places_by" s_Lplaces_by) (c_Lcell_at : Cal P w K mg base 1 "_law_cell_at" (spCell K)) (c_Lmixed : Cal P w K mg base 1 "_law_mixed" spMixedC) : Cal P w K mg base 2 "_law_places_by" (spPlaces K) := by
  refine cal_of (N := ["_law_script", "_law_cell"]) (ps := ["_law_script"]) D sc_Lplaces_by (fun vs H Q E h => ?_) (fun _ _ _ _ _ _ us hl => bd1 (R := fun us => bindArgs _ ⟨us, []⟩ = pure (List.zip _ us)) (fun _ => rfl) us hl) (fun f cdv A outer s H vs Q E hr h => ?_)
  · obtain ⟨p, ns, rfl, _⟩ := h; rfl
  · obtain ⟨p, ns, rfl, hl, k⟩ := h
    refine ⟨_, (pss_cons (ps_set (i := 1) sc_Lplaces_by.nd rfl (by first | exact Or.inl rfl | exact Or.inr rfl) (pe_cal c_Lcell_at (hr.mono (by decide)) rfl (pa_cons (pv 0) (pa_cons pe_int pa_nil))))
      (pss_one (ps_ret (pe_lst (pa_cons (pe_op op_mod (pv 1) (pe_op op_sub (pe_op op_pow pe_int pe_int) pe_int)) (pa_cons (pe_op op_add (pe_op op_mod (pv 1) (pe_op op_sub (pe_op op_pow pe_int pe_int) pe_int)) pe_int) (pa_cons (pe_op op_mod (pe_cal c_Lmixed (hr.mono (by decide)) rfl (pa_cons (pv 1) pa_nil)) pe_int) pa_nil))))))), ?_⟩
    try simp only [nox_K, nox_P, nox_w, nox_mg, nox_base, cxOf_K, cxOf_P, cxOf_w, cxOf_mg, cxOf_base]
    repeat walk_at "rdt"
    first | refine sp_gen fun zQ zq => ⟨p, ns, 1, rfl, by decide, hl, fun c => zq _ _ ?_⟩ | refine ⟨p, ns, 1, rfl, by decide, hl, fun c => ?_⟩
    repeat walk_at "rdt"
    first | refine sp_gen fun zQ zq => ⟨c, rfl, fun z _ _ => zq _ _ ?_⟩ | refine ⟨c, rfl, fun z _ _ => ?_⟩
    repeat walk_at "rdt"
    refine ⟨show 3 ≤ sizeLine by decide, fun l hl0 => ?_⟩
    exact k l [_, _, _] _ (Same.new hl0) hl0 rfl upd_same
theorem sc_Lslots_by : FnScope ["_law_script", "_law_mixed_here"] ["_law_script"] (defScope s_Lslots_by) := ⟨rfl, rfl, rfl, by decide +kernel, rfl, by decide +kernel, by decide +kernel⟩
theorem ok_Lslots_by    (D : DefAt K mg "_law_slots_by" s_Lslots_by) (c_Lmixed : Cal P w K mg base 1 "_law_mixed" spMixedC) (c_Lcell_at : Cal P w K mg base 1 "_law_cell_at" (spCell K)) (n_range : mg "range" = none) : Cal P w K mg base 2 "_law_slots_by" (spSlots K) := by
  refine cal_of (N := ["_law_script", "_law_mixed_here"]) (ps := ["_law_script"]) D sc_Lslots_by (fun vs H Q E h => ?_) (fun _ _ _ _ _ _ us hl => bd1 (R := fun us => bindArgs _ ⟨us, []⟩ = pure (List.zip _ us)) (fun _ => rfl) us hl) (fun f cdv A outer s H vs Q E hr h => ?_)
  · obtain ⟨p, ns, rfl, _⟩ := h; rfl
  · obtain ⟨p, ns, rfl, hl, k⟩ := h
    refine ⟨_, (pss_cons (ps_set (i := 1) sc_Lslots_by.nd rfl (by first | exact Or.inl rfl | exact Or.inr rfl) (pe_cal c_Lmixed (hr.mono (by decide)) rfl (pa_cons (pe_cal c_Lcell_at (hr.mono (by decide)) rfl (pa_cons (pv 0) (pa_cons pe_int pa_nil))) pa_nil)))
      (pss_one (ps_ret (pe_comp ["_law_k"] rfl (show CompScope (defScope s_Lslots_by) ["_law_script", "_law_mixed_here"] ["_law_k"] _ from ⟨rfl, by decide +kernel, by decide +kernel, by decide +kernel, by decide +kernel, by decide +kernel⟩) (pi_range1 rfl n_range (pa_cons (pe_op op_add pe_int (pe_op op_mod (pv 1) pe_int)) pa_nil)) (fun _ _ _ _ _ => (pg_name (i := 0) (show (["_law_k", "_law_script", "_law_mixed_here"] : List Str).Nodup by decide +kernel) rfl (Or.inl rfl) (.inr rfl))) (fun _ _ _ _ _ => pif_nil) (fun _ _ _ _ _ => (pe_op op_mod (pe_op op_add (pe_op op_fdivW (pv 2) pe_int) (pe_op op_mul (pv 0) (pe_op op_add pe_int (pe_op op_mul pe_int (pe_op op_mod (pe_op op_fdivW (pv 2) pe_int) pe_int))))) pe_int)))))), ?_⟩
    try simp only [nox_K, nox_P, nox_w, nox_mg, nox_base, cxOf_K, cxOf_P, cxOf_w, cxOf_mg, cxOf_base]
    repeat walk_at "rdt"
    first | refine sp_gen fun zQ zq => ⟨p, ns, 0, rfl, by decide, hl, fun c => zq _ _ ?_⟩ | refine ⟨p, ns, 0, rfl, by decide, hl, fun c => ?_⟩
    repeat walk_at "rdt"
    first | refine sp_gen fun zQ zq => ⟨c, rfl, fun z z0 _ => zq _ _ ?_⟩ | refine ⟨c, rfl, fun z z0 _ => ?_⟩
    repeat walk_at "rdt"
    refine rd_comp (rd_iRng1 ?_)
    repeat walk_at "rdt"
    first | refine sp_gen fun zQ zq => ⟨_, rfl, by omega, by omega, fun q hq => zq _ _ ?_⟩ | refine ⟨_, rfl, by omega, by omega, fun q hq => ?_⟩
    have hn : (2 + z % 4).toNat ≤ 5 ∧ 2 ≤ (2 + z % 4).toNat := by omega
    have hnd := slots_nodup (z / 4) (z / 64) (2 + z % 4).toNat hn.1 (by omega)
    generalize (2 + z % 4).toNat = n at hn hnd
    (revert n hn hnd; refine keepIt ?_; intro n hn hnd)
    refine comp_range (ys := ((List.range n).map fun k : Nat => ((z / 4 + (k : Int) * (1 + 2 * (z / 64 % 8))) % 16).toNat).map fun i : Nat => V.int (i : Int)) hq (by simp) (Nat.le_trans hn.1 (by decide)) ?_ ?_
    · intro i y H' Q' hi hy sm q'
      rw [List.getElem?_map, List.getElem?_map, List.getElem?_range hi] at hy
      cases hy
      repeat walk_at "rdt"
      rw [Int.zero_add]
      refine rd_fin ?_ q'
      show V.int _ = V.int _
      congr 1
      dsimp only
      omega
    · refine k q _ _ (Same.new hq) hq ?_ ?_ ?_ hnd upd_same
      · rw [List.length_map, List.length_range]; exact hn.2
      · rw [List.length_map, List.length_range]; exact hn.1
      · intro i hi
        obtain ⟨j, _, rfl⟩ := List.mem_map.mp hi
        omega
theorem sc_Lmade : FnScope ["_law_told"] ["_law_told"] (defScope s_Lmade) := ⟨rfl, rfl, rfl, by decide +kernel, rfl, by decide +kernel, by decide +kernel⟩
theorem ok_Lmade   {cSave : Addr} {cMove : Addr} {cNote : Addr} (D : DefAt K mg "_law_made" s_Lmade) (tSave : T_Save K mg cSave) (tMove : T_Move K mg cMove) (tNote : T_Note K mg cNote) (i_Save : ICal P w K mg base 1 "Save" cSave (spInitSv cSave)) (i_Move : ICal P w K mg base 1 "Move" cMove (spInitMv cMove)) (i_Note : ICal P w K mg base 1 "Note" cNote (spInitNt cNote)) : Cal P w K mg base 3 "_law_made" (spMade K cSave cMove cNote) := by
  refine cal_of (N := ["_law_told"]) (ps := ["_law_told"]) D sc_Lmade (fun vs H Q E h => ?_) (fun _ _ _ _ _ _ us hl => bd1 (R := fun us => bindArgs _ ⟨us, []⟩ = pure (List.zip _ us)) (fun _ => rfl) us hl) (fun f cdv A outer s H vs Q E hr h => ?_)
  · obtain ⟨t, d, rfl, _⟩ := h; rfl
  · obtain ⟨t, d, rfl, hT, k⟩ := h
    refine ⟨_, (pss_cons (ps_if (pt_cmpR op_eq (pe_ix ix_tup (pv 0) pe_int (fun _ _ => rfl)) pe_str (nomark _)) (pss_one (ps_ret (pe_ical i_Save (hr.mono (by decide)) rfl (pa_cons (pe_ix ix_tup (pv 0) pe_int (fun _ _ => rfl)) (pa_cons (pe_ix ix_tup (pv 0) pe_int (fun _ _ => rfl)) (pa_cons (pe_ix ix_tup (pv 0) pe_int (fun _ _ => rfl)) (pa_cons (pe_ix ix_tup (pv 0) pe_int (fun _ _ => rfl)) pa_nil))))))) pss_nil)
      (pss_cons (ps_if (pt_cmpR op_eq (pe_ix ix_tup (pv 0) pe_int (fun _ _ => rfl)) pe_str (nomark _)) (pss_one (ps_ret (pe_ical i_Move (hr.mono (by decide)) rfl (pa_cons (pe_ix ix_tup (pv 0) pe_int (fun _ _ => rfl)) (pa_cons (pe_ix ix_tup (pv 0) pe_int (fun _ _ => rfl)) (pa_cons (pe_ix ix_tup (pv 0) pe_int (fun _ _ => rfl)) pa_nil)))))) pss_nil)
      (pss_one (ps_ret (pe_ical i_Note (hr.mono (by decide)) rfl (pa_cons (pe_ix ix_tup (pv 0) pe_int (fun _ _ => rfl)) (pa_cons (pe_ix ix_tup (pv 0) pe_int (fun _ _ => rfl)) pa_nil))))))), ?_⟩
    try simp only [nox_K, nox_P, nox_w, nox_mg, nox_base, cxOf_K, cxOf_P, cxOf_w, cxOf_mg, cxOf_base]
    cases d with
    | save s0 p o n =>
      have hT : SqT K H t [.str "save", .int s0, .int p, .int o, .int n] := hT
      repeat' walk_at "rdk"
      all_goals first
        | exact absurd rfl (by assumption)
        | exact absurd (by assumption : (Str.ofString "save" = Str.ofString "move")) (by decide)
        | exact absurd (by assumption : (Str.ofString "save" = Str.ofString "move")) (by decide)
        | skip
      intro x dx hx hdx hne
      have hx2 : (upd H dx (.own x)) x = none := by rw [upd_ne (Ne.symm hne)]; exact hx
      first | refine sp_gen fun zQ zq => ⟨x, dx, s0, p, o, n, rfl, upd_same, rfl, zq _ _ ?_⟩ | refine ⟨x, dx, s0, p, o, n, rfl, upd_same, rfl, ?_⟩
      rw [upd_upd]
      exact k x dx _ ((Same.new hdx).newT hx2) hx upd_same
    | move s0 t0 kk =>
      have hT : SqT K H t [.str "move", .int s0, .int t0, .int kk] := hT
      repeat' walk_at "rdk"
      all_goals first
        | exact absurd rfl (by assumption)
        | exact absurd (by assumption : (Str.ofString "move" = Str.ofString "save")) (by decide)
        | exact absurd (by assumption : (Str.ofString "move" = Str.ofString "save")) (by decide)
        | skip
      intro x dx hx hdx hne
      have hx2 : (upd H dx (.own x)) x = none := by rw [upd_ne (Ne.symm hne)]; exact hx
      first | refine sp_gen fun zQ zq => ⟨x, dx, s0, t0, kk, rfl, upd_same, rfl, zq _ _ ?_⟩ | refine ⟨x, dx, s0, t0, kk, rfl, upd_same, rfl, ?_⟩
      rw [upd_upd]
      exact k x dx _ ((Same.new hdx).newT hx2) hx upd_same
    | note s0 n =>
      have hT : SqT K H t [.str "note", .int s0, .int n] := hT
      repeat' walk_at "rdk"
      all_goals first
        | exact absurd rfl (by assumption)
        | exact absurd (by assumption : (Str.ofString "note" = Str.ofString "save")) (by decide)
        | exact absurd (by assumption : (Str.ofString "note" = Str.ofString "move")) (by decide)
        | skip
      intro x dx hx hdx hne
      have hx2 : (upd H dx (.own x)) x = none := by rw [upd_ne (Ne.symm hne)]; exact hx
      first | refine sp_gen fun zQ zq => ⟨x, dx, s0, n, rfl, upd_same, rfl, zq _ _ ?_⟩ | refine ⟨x, dx, s0, n, rfl, upd_same, rfl, ?_⟩
      rw [upd_upd]
      exact k x dx _ ((Same.new hdx).newT hx2) hx upd_same
theorem sc_Lwhole : FnScope ["_law_found", "_law_due"] ["_law_found", "_law_due"] (defScope s_Lwhole) := ⟨rfl, rfl, rfl, by decide +kernel, rfl, by decide +kernel, by decide +kernel⟩
theorem ok_Lwhole    (D : DefAt K mg "_law_whole" s_Lwhole) (n_isinstance : mg "isinstance" = none) (n_int : mg "int" = none) (n_bool : mg "bool" = none) : Cal P w K mg base 1 "_law_whole" spWhole := by
  refine cal_of (N := ["_law_found", "_law_due"]) (ps := ["_law_found", "_law_due"]) D sc_Lwhole (fun vs H Q E h => ?_) (fun _ _ _ _ _ _ us hl => bd2 (R := fun us => bindArgs _ ⟨us, []⟩ = pure (List.zip _ us)) (fun _ _ => rfl) us hl) (fun f cdv A outer s H vs Q E hr h => ?_)
  · obtain ⟨a, b, rfl, _⟩ := h; rfl
  · obtain ⟨a, b, rfl, k⟩ := h
    first | refine sp_gen fun zQ zq => ⟨_, (pss_one (ps_ret (pe_and (pe_callB cn_isiA rfl n_isinstance PyProof.Rows.boot_isinstance (pa_cons (pv 0) (pa_cons (pe_blA rfl n_int PyProof.Rows.boot_int) pa_nil))) (pe_and (pe_not (pe_callB cn_isiA rfl n_isinstance PyProof.Rows.boot_isinstance (pa_cons (pv 0) (pa_cons (pe_blA rfl n_bool PyProof.Rows.boot_bool) pa_nil)))) (pe_one (pe_cmpR op_eq (pv 0) (pv 1) (nomark _))))))), zq _ _ ?_⟩ | refine ⟨_, (pss_one (ps_ret (pe_and (pe_callB cn_isiA rfl n_isinstance PyProof.Rows.boot_isinstance (pa_cons (pv 0) (pa_cons (pe_blA rfl n_int PyProof.Rows.boot_int) pa_nil))) (pe_and (pe_not (pe_callB cn_isiA rfl n_isinstance PyProof.Rows.boot_isinstance (pa_cons (pv 0) (pa_cons (pe_blA rfl n_bool PyProof.Rows.boot_bool) pa_nil)))) (pe_one (pe_cmpR op_eq (pv 0) (pv 1) (nomark _))))))), ?_⟩
    try simp only [nox_K, nox_P, nox_w, nox_mg, nox_base, cxOf_K, cxOf_P, cxOf_w, cxOf_mg, cxOf_base]
    repeat walk_at "rdk"
    exact k
theorem sc_Lcoins : FnScope ["_law_rooms"] ["_law_rooms"] (defScope s_Lcoins) := ⟨rfl, rfl, rfl, by decide +kernel, rfl, by decide +kernel, by decide +kernel⟩
theorem ok_Lcoins   {cAccount : Addr} (D : DefAt K mg "_law_coins" s_Lcoins) (tAccount : T_Account K mg cAccount) : Cal P w K mg base 1 "_law_coins" (spCoins K cAccount) := by
  refine cal_of (N := ["_law_rooms"]) (ps := ["_law_rooms"]) D sc_Lcoins (fun vs H Q E h => ?_) (fun _ _ _ _ _ _ us hl => bd1 (R := fun us => bindArgs _ ⟨us, []⟩ = pure (List.zip _ us)) (fun _ => rfl) us hl) (fun f cdv A outer s H vs Q E hr h => ?_)
  · obtain ⟨R, A, S, m, rfl, _⟩ := h; rfl
  · obtain ⟨R, Ar, S, m, rfl, r, k⟩ := h
    first | refine sp_gen fun zQ zq => ⟨_, (pss_one (ps_ret (pe_comp ["_law_room"] rfl (show CompScope (defScope s_Lcoins) ["_law_rooms"] ["_law_room"] _ from ⟨rfl, by decide +kernel, by decide +kernel, by decide +kernel, by decide +kernel, by decide +kernel⟩) (pi_list (pv 0)) (fun _ _ _ _ _ => (pg_name (i := 0) (show (["_law_room", "_law_rooms"] : List Str).Nodup by decide +kernel) rfl (Or.inl rfl) (.inr rfl))) (fun _ _ _ _ _ => pif_nil) (fun _ _ _ _ _ => (pe_ifExp (pt_cmpR op_isNn (pv 0) pe_non (nomark _)) pe_int (show PE _ _ (tFld K _ _) from (pe_fld (pv 0) rfl))))))), zq _ _ ?_⟩ | refine ⟨_, (pss_one (ps_ret (pe_comp ["_law_room"] rfl (show CompScope (defScope s_Lcoins) ["_law_rooms"] ["_law_room"] _ from ⟨rfl, by decide +kernel, by decide +kernel, by decide +kernel, by decide +kernel, by decide +kernel⟩) (pi_list (pv 0)) (fun _ _ _ _ _ => (pg_name (i := 0) (show (["_law_room", "_law_rooms"] : List Str).Nodup by decide +kernel) rfl (Or.inl rfl) (.inr rfl))) (fun _ _ _ _ _ => pif_nil) (fun _ _ _ _ _ => (pe_ifExp (pt_cmpR op_isNn (pv 0) pe_non (nomark _)) pe_int (show PE _ _ (tFld K _ _) from (pe_fld (pv 0) rfl))))))), ?_⟩
    try simp only [nox_K, nox_P, nox_w, nox_mg, nox_base, cxOf_K, cxOf_P, cxOf_w, cxOf_mg, cxOf_base]
    have hR := r.ob
    have big : (16 : Nat) ≤ sizeLine := by decide
    repeat walk_at "rdk"
    refine rd_comp (rd_iList ?_)
    repeat walk_at "rdk"
    first | refine sp_gen fun zQ zq => ⟨R, rfl, ⟨_, sql_of hR⟩, fun q hq => zq _ _ ?_⟩ | refine ⟨R, rfl, ⟨_, sql_of hR⟩, fun q hq => ?_⟩
    refine comp_map (ys := (coinsOf Ar S).map V.int) (sql_of hR) hq (by unfold coinsOf; rw [List.length_map, List.length_map, List.length_map]) (by rw [List.length_map, List.length_range]; exact big) ?_ ?_
    · intro i x y H' Q' hx hy sm q'
      obtain ⟨hi, rfl⟩ := at_room hx
      unfold coinsOf at hy
      rw [List.getElem?_map, List.getElem?_map, List.getElem?_range hi] at hy
      cases hy
      unfold coinAt at q'
      cases ha : Ar i with
      | none =>
        rw [ha] at q'
        show tIf _ _ _ (some V.non :: _) _ _
        repeat walk_at "rdk"
        exact q'
      | some x0 =>
        rw [ha] at q'
        show tIf _ _ _ (some (V.ref x0.a) :: _) _ _
        repeat walk_at "rdk"
        refine rd_fldA ((r.same sm).ac i x0 hi ha).ob tAccount.k.cl tAccount.n_coin rfl ?_
        exact q'
    · repeat walk_at "rdk"
      exact k q hq
theorem sc_Lall : FnScope ["_law_rooms"] ["_law_rooms"] (defScope s_Lall) := ⟨rfl, rfl, rfl, by decide +kernel, rfl, by decide +kernel, by decide +kernel⟩
theorem ok_Lall   {cAccount : Addr} (D : DefAt K mg "_law_all" s_Lall) (tAccount : T_Account K mg cAccount) (m_Account_plain : MCal P w K mg base 2 cAccount "plain" (spPlain0 K cAccount)) : Cal P w K mg base 3 "_law_all" (spAll K cAccount) := by
  refine cal_of (N := ["_law_rooms"]) (ps := ["_law_rooms"]) D sc_Lall (fun vs H Q E h => ?_) (fun _ _ _ _ _ _ us hl => bd1 (R := fun us => bindArgs _ ⟨us, []⟩ = pure (List.zip _ us)) (fun _ => rfl) us hl) (fun f cdv A outer s H vs Q E hr h => ?_)
  · obtain ⟨R, A, S, m, rfl, _⟩ := h; rfl
  · obtain ⟨R, Ar, S, m, rfl, r, hm, hnr, k⟩ := h
    first | refine sp_gen fun zQ zq => ⟨_, (pss_one (ps_ret (pe_comp ["_law_room"] rfl (show CompScope (defScope s_Lall) ["_law_rooms"] ["_law_room"] _ from ⟨rfl, by decide +kernel, by decide +kernel, by decide +kernel, by decide +kernel, by decide +kernel⟩) (pi_list (pv 0)) (fun _ _ _ _ _ => (pg_name (i := 0) (show (["_law_room", "_law_rooms"] : List Str).Nodup by decide +kernel) rfl (Or.inl rfl) (.inr rfl))) (fun _ _ _ _ _ => pif_nil) (fun _ _ _ _ _ => (pe_ifExp (pt_cmpR op_isNn (pv 0) pe_non (nomark _)) (pv 0) (pe_mcal0 m_Account_plain (hr.mono (by decide)) (pv 0))))))), zq _ _ ?_⟩ | refine ⟨_, (pss_one (ps_ret (pe_comp ["_law_room"] rfl (show CompScope (defScope s_Lall) ["_law_rooms"] ["_law_room"] _ from ⟨rfl, by decide +kernel, by decide +kernel, by decide +kernel, by decide +kernel, by decide +kernel⟩) (pi_list (pv 0)) (fun _ _ _ _ _ => (pg_name (i := 0) (show (["_law_room", "_law_rooms"] : List Str).Nodup by decide +kernel) rfl (Or.inl rfl) (.inr rfl))) (fun _ _ _ _ _ => pif_nil) (fun _ _ _ _ _ => (pe_ifExp (pt_cmpR op_isNn (pv 0) pe_non (nomark _)) (pv 0) (pe_mcal0 m_Account_plain (hr.mono (by decide)) (pv 0))))))), ?_⟩
    try simp only [nox_K, nox_P, nox_w, nox_mg, nox_base, cxOf_K, cxOf_P, cxOf_w, cxOf_mg, cxOf_base]
    have hR := r.ob
    have big : (17 : Nat) ≤ sizeLine := by decide
    repeat walk_at "rdk"
    refine rd_comp (rd_iList ?_)
    repeat walk_at "rdk"
    first | refine sp_gen fun zQ zq => ⟨R, rfl, ⟨_, sql_of hR⟩, fun q hq => zq _ _ ?_⟩ | refine ⟨R, rfl, ⟨_, sql_of hR⟩, fun q hq => ?_⟩
    refine comp_invL (fun i H' => Same H H' ∧ ∃ vs', H' q = some (.lst vs') ∧ vs'.length = i ∧ i ≤ 16 ∧ ∀ n v, vs'[n]? = some v → v ≠ .ref q ∧ Elt Ar S H H' n v) ⟨Same.new hq, [], upd_same, rfl, Nat.zero_le _, fun n v h => by simp at h⟩ (fun i H' ⟨s, _⟩ => sql_of (s _ _ hR)) ?_ ?_
    · rintro i x H' hx ⟨s1, vs', hv, hl, hi16, hE⟩
      obtain ⟨hi, rfl⟩ := at_room hx
      refine rd_noIf ?_
      refine iteT ?_
      have grow : ∀ (v : V) (H2 : Hp), Same H' H2 → v ≠ .ref q → Elt Ar S H H2 i v → compNx (fun i H' => Same H H' ∧ ∃ vs', H' q = some (.lst vs') ∧ vs'.length = i ∧ i ≤ 16 ∧ ∀ n v, vs'[n]? = some v → v ≠ .ref q ∧ Elt Ar S H H' n v) (i + 1) [some (.ref R)] (some (roomV (Ar i)) :: [some (.ref R)]) (upd H2 q (.lst (vs' ++ [v]))) := fun v H2 s2 hvq hE2 => by
        refine ⟨⟨(s1.trans s2).wr hq, vs' ++ [v], upd_same, by rw [List.length_append, hl]; rfl, by omega, fun n u hu => ?_⟩, _, rfl⟩
        have mv : ∀ n u, u ≠ .ref q → Elt Ar S H H2 n u → Elt Ar S H (upd H2 q (.lst (vs' ++ [v]))) n u := fun n u hq2 hE => by
          rcases hE with h | ⟨x, l, a, rfl, b, c⟩
          · exact .inl h
          · exact .inr ⟨x, l, a, rfl, b, by rw [upd_ne (fun z => hq2 (by rw [z]))]; exact c⟩
        by_cases hn : n < vs'.length
        · rw [List.getElem?_append_left hn] at hu
          obtain ⟨a, b⟩ := hE n u hu
          refine ⟨a, mv n u a ?_⟩
          rcases b with h | ⟨x, l, a, b, c, d⟩
          · exact .inl h
          · exact .inr ⟨x, l, a, b, c, s2 _ _ d⟩
        · rw [List.getElem?_append_right (by omega)] at hu
          have hn2 : n - vs'.length = 0 := by
            cases e : n - vs'.length with
            | zero => rfl
            | succ w => rw [e] at hu; simp at hu
          rw [hn2] at hu
          cases hu
          have : n = i := by omega
          rw [this]
          exact ⟨hvq, mv i v hvq hE2⟩
      cases ha : Ar i with
      | none =>
        rw [ha] at grow
        show tIf _ _ _ (some V.non :: _) _ _
        repeat walk_at "rdk"
        exact ⟨vs', hv, by omega, grow .non H' (Same.refl _) (by intro z; cases z) (.inl ⟨ha, rfl⟩)⟩
      | some x0 =>
        rw [ha] at grow
        have ax := (r.same s1).ac i x0 hi ha
        have hr0 := hnr i x0 hi ha
        show tIf _ _ _ (some (V.ref x0.a) :: _) _ _
        repeat walk_at "rdk"
        refine rd_methA ax.ob rfl ?_
        repeat walk_at "rdk"
        have ax : AcAt K cAccount H' x0.a x0.dx x0.pr x0.st (S i).coin (S i).purse (S i).count [] (S i).store m := by rw [← hr0]; exact ax
        first | refine sp_gen fun zQ zq => ⟨x0.a, x0.dx, x0.pr, x0.st, _, _, _, _, m, rfl, ax, hm, fun l L1 H2 s2 hl0 su hL1 hl1 => zq _ _ ?_⟩ | refine ⟨x0.a, x0.dx, x0.pr, x0.st, _, _, _, _, m, rfl, ax, hm, fun l L1 H2 s2 hl0 su hL1 hl1 => ?_⟩
        have hlq : l ≠ q := fun z => by rw [z, hv] at hl0; cases hl0
        refine ⟨vs', s2 _ _ hv, by omega, grow (.ref l) H2 s2 (fun z => hlq (by cases z; rfl)) (.inr ⟨x0, l, ha, rfl, s1.fresh hl0, ?_⟩)⟩
        unfold plainS
        rw [suppL_eq su, hr0]
        exact hl1
    · rintro H' ⟨s1, vs', hv, hl, _, hE⟩
      rw [List.length_map, List.length_range] at hl
      repeat walk_at "rdk"
      exact k q vs' H' s1 hq hv hl fun n v h => (hE n v h).2

end
end My

namespace My
open PySem L2

noncomputable def slotD : Dd → Int
  | .save s _ _ _ => s
  | .move s _ _ => s
  | .note s _ => s
noncomputable def slotOk (A : Nat → Option AcI) (d : Dd) : Prop := ∃ i x, slotD d = ((i : Nat) : Int) ∧ i < 16 ∧ A i = some x
noncomputable def okMove (S : Nat → AcS) (d : Dd) : Prop := ∀ s t k, d = .move s t k → 0 ≤ k ∧ k ≤ (S s.toNat).coin
noncomputable def spDeedBy (K : PySem.W.Frag) (C : Addr) : Sp := fun vs H Q _ => ∃ (sl R pl : Addr) (c : Int) (A : Nat → Option AcI) (S : Nat → AcS) (m : Nat) (ss : List Nat) (ps : List Int), vs = [.int c, .ref sl, .ref R, .ref pl] ∧ Rooms K C H R A S m ∧ (∀ i, 0 ≤ (S i).coin) ∧ H sl = some (.lst (slotV ss)) ∧ 2 ≤ ss.length ∧ ss.length ≤ 5 ∧ hasAll A ss ∧ H pl = some (.lst (ps.map V.int)) ∧ ps.length = 3 ∧
  ∀ t d H', Same H H' → H t = none → H' t = some (.tup (tellV d)) → fitsD A d → rightD S d → okMove S d → slotOk A d → Q (.ref t) H'
theorem done_nn {A : Nat → Option AcI} {S : Nat → AcS} {d : Dd} (h : ∀ n, 0 ≤ (S n).coin) (o : okMove S d) (f : fitsD A d) : ∀ n, 0 ≤ (doneS S d n).coin := fun n => by
  cases d with
  | save s p o n' => rw [coin_save]; exact h n
  | move s t k =>
    obtain ⟨⟨i, x, rfl, _, _⟩, j, y, rfl, _, _⟩ := f
    obtain ⟨a, b⟩ := o _ _ _ rfl
    rw [Int.toNat_natCast] at b
    exact coin_move h a b n
  | note s n' => exact h n
noncomputable def spShows (K : PySem.W.Frag) (C : Addr) : Sp := fun vs H Q _ => ∃ (R t : Addr) (d : Dd) (A : Nat → Option AcI) (S : Nat → AcS) (m : Nat), vs = [.ref R, .ref t] ∧ Rooms K C H R A (doneS S d) m ∧ SqT K H t (tellV d) ∧ slotOk A d ∧ Q (.bl true) H
noncomputable def spPaid (K : PySem.W.Frag) (C : Addr) : Sp := fun vs H Q _ => ∃ (R t ah : Addr) (d : Dd) (A : Nat → Option AcI) (S : Nat → AcS) (m : Nat), vs = [.ref R, .ref t, .ref ah] ∧ Rooms K C H R A (doneS S d) m ∧ SqT K H t (tellV d) ∧ fitsD A d ∧ H ah = some (.lst ((coinsOf A S).map V.int)) ∧ ∀ H', Same H H' → Q (.bl true) H'
theorem coins_keep {A : Nat → Option AcI} {S S' : Nat → AcS} (h : ∀ i, (S' i).coin = (S i).coin) : coinsOf A S' = coinsOf A S := by
  unfold coinsOf
  refine List.map_congr_left fun i _ => ?_
  unfold coinAt
  cases A i with
  | none => rfl
  | some _ => exact h i
theorem coins_at {A : Nat → Option AcI} {S : Nat → AcS} {i : Nat} (hi : i < 16) {x : AcI} (hx : A i = some x) : (coinsOf A S)[i]? = some (S i).coin := by
  unfold coinsOf
  rw [List.getElem?_map, List.getElem?_range hi]
  show some (coinAt A S i) = _
  unfold coinAt
  rw [hx]
theorem coins_move {A : Nat → Option AcI} {S : Nat → AcS} {i j : Nat} {k : Int} (hij : i ≠ j) (hi : i < 16) (hj : j < 16) {x y : AcI} (hx : A i = some x) (hy : A j = some y) : coinsOf A (doneS S (.move i j k)) = ((coinsOf A S).set i ((S i).coin - k)).set j ((S j).coin + k) := by
  apply List.ext_getElem?
  intro n
  rw [List.getElem?_set, List.getElem?_set]
  have hl : (coinsOf A S).length = 16 := by unfold coinsOf; rw [List.length_map, List.length_range]
  have e : ∀ n, (doneS S (.move i j k) n).coin = (S n).coin - (if n = i then k else 0) + (if n = j then k else 0) := fun n => by
    show (moved S _ _ k n).coin = _
    rw [moved_coin, Int.toNat_natCast, Int.toNat_natCast]
  by_cases h1 : j = n
  · subst h1
    rw [if_pos rfl, if_pos (by rw [List.length_set, hl]; exact hj), coins_at hj hy, e, if_neg (Ne.symm hij), if_pos rfl]
    congr 1
    omega
  · rw [if_neg h1]
    by_cases h2 : i = n
    · subst h2
      rw [if_pos rfl, if_pos (by rw [hl]; exact hi), coins_at hi hx, e, if_pos rfl, if_neg hij]
      congr 1
      omega
    · rw [if_neg h2]
      unfold coinsOf
      by_cases h3 : n < 16
      · rw [List.getElem?_map, List.getElem?_map, List.getElem?_range h3]
        show some (coinAt _ _ n) = some (coinAt _ _ n)
        unfold coinAt
        have := e n
        rw [if_neg (Ne.symm h2), if_neg (Ne.symm h1)] at this
        rw [this]
        cases A n with
        | none => rfl
        | some _ => dsimp only; congr 1; omega
      · rw [List.getElem?_eq_none (by simpa using h3), List.getElem?_eq_none (by simpa using h3)]

section
variable {P : Program} {w : World} {K : PySem.W.Frag} {mg : Str → Option Value} {base : Heap}
theorem sc_Ldeed_by : FnScope ["_law_cell", "_law_slots", "_law_rooms", "_law_places", "_law_mixed_here", "_law_way", "_law_slot", "_law_rest", "_law_taker", "_law_place", "_law_new"] ["_law_cell", "_law_slots", "_law_rooms", "_law_places"] (defScope s_Ldeed_by) := ⟨rfl, rfl, rfl, by decide +kernel, rfl, by decide +kernel, by decide +kernel⟩
theorem ok_Ldeed_by   {cAccount : Addr} (D : DefAt K mg "_law_deed_by" s_Ldeed_by) (tAccount : T_Account K mg cAccount) (m_Account_loaded : MCal P w K mg base 1 cAccount "loaded" (spLoaded K cAccount)) (c_Lmixed : Cal P w K mg base 1 "_law_mixed" spMixedC) (c_Lwide : Cal P w K mg base 1 "_law_wide" spWide) (n_len : mg "len" = none) : Cal P w K mg base 2 "_law_deed_by" (spDeedBy K cAccount) := by
  refine cal_of (N := ["_law_cell", "_law_slots", "_law_rooms", "_law_places", "_law_mixed_here", "_law_way", "_law_slot", "_law_rest", "_law_taker", "_law_place", "_law_new"]) (ps := ["_law_cell", "_law_slots", "_law_rooms", "_law_places"]) D sc_Ldeed_by (fun vs H Q E h => ?_) (fun _ _ _ _ _ _ us hl => bd4 (R := fun us => bindArgs _ ⟨us, []⟩ = pure (List.zip _ us)) (fun _ _ _ _ => rfl) us hl) (fun f cdv A outer s H vs Q E hr h => ?_)
  · obtain ⟨sl, R, pl, c, A, S, m, ss, ps, rfl, _⟩ := h; rfl
  · obtain ⟨sl, R, pl, c, Ar, S, m, ss, ps, rfl, r, hcn, hsl, h2, h5, hA, hpl, hp3, k⟩ := h
    refine ⟨_, (pss_cons (ps_set (i := 4) sc_Ldeed_by.nd rfl (by first | exact Or.inl rfl | exact Or.inr rfl) (pe_op op_fdivW (pe_cal c_Lmixed (hr.mono (by decide)) rfl (pa_cons (pv 0) pa_nil)) pe_int))
      (pss_cons (ps_set (i := 5) sc_Ldeed_by.nd rfl (by first | exact Or.inl rfl | exact Or.inr rfl) (pe_op op_mod (pv 4) pe_int))
      (pss_cons (ps_set (i := 6) sc_Ldeed_by.nd rfl (by first | exact Or.inl rfl | exact Or.inr rfl) (pe_ix ix_list (pv 1) (pe_op op_mod (pe_op op_fdivW (pv 4) pe_int) (pe_callB cn_len rfl n_len PySem.boot_len (pa_cons (pv 1) pa_nil))) (fun _ _ => rfl)))
      (pss_cons (ps_set (i := 7) sc_Ldeed_by.nd rfl (by first | exact Or.inl rfl | exact Or.inr rfl) (pe_op op_fdivW (pe_op op_fdivW (pv 4) pe_int) (pe_callB cn_len rfl n_len PySem.boot_len (pa_cons (pv 1) pa_nil))))
      (pss_cons (ps_if (pt_cmpR op_eq (pv 5) pe_int (nomark _)) (pss_one (ps_ret (pe_tup (pa_cons pe_str (pa_cons (pv 6) (pa_cons (pe_cal c_Lwide (hr.mono (by decide)) rfl (pa_cons (pv 0) pa_nil)) pa_nil)))))) pss_nil)
      (pss_cons (ps_if (pt_cmpR op_eq (pv 5) pe_int (nomark _)) (pss_cons (ps_set (i := 8) sc_Ldeed_by.nd rfl (by first | exact Or.inl rfl | exact Or.inr rfl) (pe_ix ix_list (pv 1) (pe_op op_mod (pv 7) (pe_callB cn_len rfl n_len PySem.boot_len (pa_cons (pv 1) pa_nil))) (fun _ _ => rfl)))
      (pss_one (ps_ret (pe_tup (pa_cons pe_str (pa_cons (pv 6) (pa_cons (pv 8) (pa_cons (pe_op op_mod (pe_cal c_Lwide (hr.mono (by decide)) rfl (pa_cons (pv 0) pa_nil)) (pe_op op_add (pe_fld (pe_ix ix_list (pv 2) (pv 6) (fun _ _ => rfl)) rfl) pe_int)) pa_nil)))))))) pss_nil)
      (pss_cons (ps_set (i := 9) sc_Ldeed_by.nd rfl (by first | exact Or.inl rfl | exact Or.inr rfl) (pe_ix ix_list (pe_op op_cat (pv 3) (pe_lst (pa_cons (pe_op op_mod (pv 0) (pe_op op_pow pe_int pe_int)) pa_nil))) (pe_op op_mod (pv 7) pe_int) (fun _ _ => rfl)))
      (pss_cons (ps_set (i := 10) sc_Ldeed_by.nd rfl (by first | exact Or.inl rfl | exact Or.inr rfl) pe_int)
      (pss_cons (ps_if (pt_cmpR op_gt (pe_op op_mod (pe_op op_fdivW (pv 7) pe_int) pe_int) pe_int (nomark _)) (pss_one (ps_set (i := 10) sc_Ldeed_by.nd rfl (by first | exact Or.inl rfl | exact Or.inr rfl) (pe_cal c_Lwide (hr.mono (by decide)) rfl (pa_cons (pv 0) pa_nil)))) pss_nil)
      (pss_one (ps_ret (pe_tup (pa_cons pe_str (pa_cons (pv 6) (pa_cons (pv 9) (pa_cons (pe_mcal m_Account_loaded (hr.mono (by decide)) (pe_ix ix_list (pv 2) (pv 6) (fun _ _ => rfl)) (pa_cons (pv 9) pa_nil)) (pa_cons (pv 10) pa_nil))))))))))))))))), ?_⟩
    try simp only [nox_K, nox_P, nox_w, nox_mg, nox_base, cxOf_K, cxOf_P, cxOf_w, cxOf_mg, cxOf_base]
    have hlen : (slotV ss).length = ss.length := List.length_map ..
    have hsq : SqL K H sl (slotV ss) := sql_of hsl
    repeat walk_at "rdk"
    first | refine sp_gen fun zQ zq => ⟨_, rfl, fun z z0 z1 => zq _ _ ?_⟩ | refine ⟨_, rfl, fun z z0 z1 => ?_⟩
    repeat walk_at "rdk"
    obtain ⟨i, hi, ei⟩ := slot_at (ss := ss) (j := z / 3 / 4 % ((slotV ss).length : Nat)) (by apply Int.emod_nonneg; omega) (by rw [← hlen]; apply Int.emod_lt_of_pos; omega)
    obtain ⟨hi16, x, hx⟩ := hA i hi
    have ax := r.ac i x hi16 hx
    refine rd_ixL hsq ei ?_
    repeat walk_at "rdk"
    · repeat walk_at "rdk"
      first | refine sp_gen fun zQ zq => ⟨_, rfl, fun w w0 w1 => zq _ _ ?_⟩ | refine ⟨_, rfl, fun w w0 w1 => ?_⟩
      repeat walk_at "rdk"
      refine ⟨show 3 ≤ sizeLine by decide, fun t ht => ?_⟩
      exact k t (.note i w) _ (Same.new ht) ht upd_same trivial trivial (fun _ _ _ e => by cases e) ⟨i, x, rfl, hi16, hx⟩
    repeat walk_at "rdk"
    · repeat walk_at "rdk"
      obtain ⟨j, hj, ej⟩ := slot_at (ss := ss) (j := z / 3 / 4 / ((slotV ss).length : Nat) % ((slotV ss).length : Nat)) (by apply Int.emod_nonneg; omega) (by rw [← hlen]; apply Int.emod_lt_of_pos; omega)
      obtain ⟨hj16, y, hy⟩ := hA j hj
      refine rd_ixL hsq ej ?_
      repeat walk_at "rdk"
      first | refine sp_gen fun zQ zq => ⟨_, rfl, fun w w0 w1 => zq _ _ ?_⟩ | refine ⟨_, rfl, fun w w0 w1 => ?_⟩
      repeat walk_at "rdk"
      refine rd_ixL (sql_of r.ob) (r.at hi16 hx) ?_
      refine rd_fldA ax.ob tAccount.k.cl tAccount.n_coin rfl ?_
      have hc := hcn i
      repeat walk_at "rdk"
      refine ⟨show 4 ≤ sizeLine by decide, fun t ht => ?_⟩
      have q0 : 0 ≤ w % ((S i).coin + 1) := Int.emod_nonneg _ (by omega)
      have q1 : w % ((S i).coin + 1) < (S i).coin + 1 := Int.emod_lt_of_pos _ (by omega)
      exact k t (.move i j (w % ((S i).coin + 1))) _ (Same.new ht) ht upd_same ⟨⟨i, x, rfl, hi16, hx⟩, j, y, rfl, hj16, hy⟩ trivial (fun _ _ _ e => by cases e; exact ⟨q0, by rw [Int.toNat_natCast]; omega⟩) ⟨i, x, rfl, hi16, hx⟩
    · repeat walk_at "rdk"
      refine ⟨show 1 ≤ sizeLine by decide, fun z1 hz1 => ?_⟩
      refine rd_cat (xs := ps.map V.int) (ys := [_]) ((Same.new hz1) _ _ hpl) upd_same (by rw [List.length_map, hp3]; show 3 + 1 ≤ _; decide) fun z2 hz2 => ?_
      have sm := (Same.new hz1 (o := .lst [V.int (c % 2 ^ Int.toNat 64)])).newT hz2 (o := .lst (ps.map V.int ++ [V.int (c % 2 ^ Int.toNat 64)]))
      have hz3 : (upd (upd H z1 (.lst [V.int (c % 2 ^ Int.toNat 64)])) z2 (.lst (ps.map V.int ++ [V.int (c % 2 ^ Int.toNat 64)]))) z2 = some (.lst ((ps ++ [c % 2 ^ Int.toNat 64]).map V.int)) := by rw [upd_same, List.map_append]; rfl
      generalize upd (upd H z1 _) z2 _ = H2 at sm hz3
      (revert H2 sm hz3; refine keepIt ?_; intro H2 sm hz3)
      have r2 := r.same sm
      have ax2 := r2.ac i x hi16 hx
      repeat walk_at "rdk"
      obtain ⟨pv, e1, e2⟩ := atI_some (xs := ps ++ [c % 2 ^ Int.toNat 64]) (i := z / 3 / 4 / ((slotV ss).length : Nat) % 4) (by omega) (by rw [List.length_append, hp3]; show _ < ((3 + 1 : Nat) : Int); omega)
      have e3 : ((ps ++ [c % 2 ^ Int.toNat 64]).map V.int)[(z / 3 / 4 / ((slotV ss).length : Nat) % 4).toNat]? = some (.int pv) := by rw [List.getElem?_map, e2]; rfl
      refine rd_ixL (sql_of hz3) (atI_nat' e3 (by omega)) ?_
      have fin : ∀ (w : Int) (t : Addr), H2 t = none → Q (.ref t) (upd H2 t (.tup [.str "save", .int i, .int pv, .int ((S i).store pv), .int w])) := fun w t ht =>
        k t (.save i pv ((S i).store pv) w) _ (sm.newT ht) (sm.fresh ht) upd_same ⟨i, x, rfl, hi16, hx⟩ rfl (fun _ _ _ e => by cases e) ⟨i, x, rfl, hi16, hx⟩
      repeat walk_at "rdk"
      · first | refine sp_gen fun zQ zq => ⟨_, rfl, fun w w0 w1 => zq _ _ ?_⟩ | refine ⟨_, rfl, fun w w0 w1 => ?_⟩
        repeat walk_at "rdk"
        refine rd_ixL (sql_of r2.ob) (r2.at hi16 hx) ?_
        refine rd_methA ax2.ob rfl ?_
        repeat walk_at "rdk"
        first | refine sp_gen fun zQ zq => ⟨x.a, x.dx, x.pr, x.st, _, _, _, _, _, _, pv, rfl, ax2, zq _ _ ?_⟩ | refine ⟨x.a, x.dx, x.pr, x.st, _, _, _, _, _, _, pv, rfl, ax2, ?_⟩
        repeat walk_at "rdk"
        refine ⟨show 5 ≤ sizeLine by decide, fun t ht => ?_⟩
        exact fin _ t ht
      · repeat walk_at "rdk"
        refine rd_ixL (sql_of r2.ob) (r2.at hi16 hx) ?_
        refine rd_methA ax2.ob rfl ?_
        repeat walk_at "rdk"
        first | refine sp_gen fun zQ zq => ⟨x.a, x.dx, x.pr, x.st, _, _, _, _, _, _, pv, rfl, ax2, zq _ _ ?_⟩ | refine ⟨x.a, x.dx, x.pr, x.st, _, _, _, _, _, _, pv, rfl, ax2, ?_⟩
        repeat walk_at "rdk"
        refine ⟨show 5 ≤ sizeLine by decide, fun t ht => ?_⟩
        exact fin _ t ht
theorem sc_Lshows : FnScope ["_law_rooms", "_law_told", "_law_room"] ["_law_rooms", "_law_told"] (defScope s_Lshows) := ⟨rfl, rfl, rfl, by decide +kernel, rfl, by decide +kernel, by decide +kernel⟩
theorem ok_Lshows   {cAccount : Addr} (D : DefAt K mg "_law_shows" s_Lshows) (tAccount : T_Account K mg cAccount) (m_Account_loaded : MCal P w K mg base 1 cAccount "loaded" (spLoaded K cAccount)) : Cal P w K mg base 2 "_law_shows" (spShows K cAccount) := by
  refine cal_of (N := ["_law_rooms", "_law_told", "_law_room"]) (ps := ["_law_rooms", "_law_told"]) D sc_Lshows (fun vs H Q E h => ?_) (fun _ _ _ _ _ _ us hl => bd2 (R := fun us => bindArgs _ ⟨us, []⟩ = pure (List.zip _ us)) (fun _ _ => rfl) us hl) (fun f cdv A outer s H vs Q E hr h => ?_)
  · obtain ⟨R, t, d, A, S, m, rfl, _⟩ := h; rfl
  · obtain ⟨R, t, d, Ar, S, m, rfl, r, hT, ⟨i, x, es, hi, hx⟩, k⟩ := h
    refine ⟨_, (pss_cons (ps_set (i := 2) sc_Lshows.nd rfl (by first | exact Or.inl rfl | exact Or.inr rfl) (pe_ix ix_list (pv 0) (pe_ix ix_tup (pv 1) pe_int (fun _ _ => rfl)) (fun _ _ => rfl)))
      (pss_cons (ps_if (pt_cmpR op_eq (pe_ix ix_tup (pv 1) pe_int (fun _ _ => rfl)) pe_str (nomark _)) (pss_one (ps_ret (pe_cmpR op_eq (pe_mcal m_Account_loaded (hr.mono (by decide)) (pv 2) (pa_cons (pe_ix ix_tup (pv 1) pe_int (fun _ _ => rfl)) pa_nil)) (pe_ix ix_tup (pv 1) pe_int (fun _ _ => rfl)) (nomark _)))) pss_nil)
      (pss_one (ps_ret pe_bl)))), ?_⟩
    try simp only [nox_K, nox_P, nox_w, nox_mg, nox_base, cxOf_K, cxOf_P, cxOf_w, cxOf_mg, cxOf_base]
    have ax := r.ac i x hi hx
    cases d with
    | save s0 p o n =>
      have es : s0 = ((i : Nat) : Int) := es
      subst es
      have hT : SqT K H t [.str "save", .int i, .int p, .int o, .int n] := hT
      repeat walk_at "rdx"
      refine rd_ixL (sql_of r.ob) (r.at hi hx) ?_
      repeat walk_at "rdx"
      refine rd_methA ax.ob rfl ?_
      repeat walk_at "rdx"
      first | refine sp_gen fun zQ zq => ⟨x.a, x.dx, x.pr, x.st, _, _, _, _, _, _, p, rfl, ax, zq _ _ ?_⟩ | refine ⟨x.a, x.dx, x.pr, x.st, _, _, _, _, _, _, p, rfl, ax, ?_⟩
      have e : (doneS S (.save i p o n) i).store p = n := by
        show (setS S _ _ i).store p = n
        rw [Int.toNat_natCast, setS_same]
        show putFn _ p n p = n
        unfold putFn
        rw [if_pos rfl]
      rw [e]
      repeat walk_at "rdx"
      rw [decide_eq_true rfl]
      exact k
    | move s0 t0 kk =>
      have es : s0 = ((i : Nat) : Int) := es
      subst es
      have hT : SqT K H t [.str "move", .int i, .int t0, .int kk] := hT
      repeat walk_at "rdx"
      refine rd_ixL (sql_of r.ob) (r.at hi hx) ?_
      repeat walk_at "rdx"
      exact k
    | note s0 n =>
      have es : s0 = ((i : Nat) : Int) := es
      subst es
      have hT : SqT K H t [.str "note", .int i, .int n] := hT
      repeat walk_at "rdx"
      refine rd_ixL (sql_of r.ob) (r.at hi hx) ?_
      repeat walk_at "rdx"
      exact k
theorem sc_Lpaid : FnScope ["_law_rooms", "_law_told", "_law_ahead", "_law_due"] ["_law_rooms", "_law_told", "_law_ahead"] (defScope s_Lpaid) := ⟨rfl, rfl, rfl, by decide +kernel, rfl, by decide +kernel, by decide +kernel⟩
theorem ok_Lpaid    (D : DefAt K mg "_law_paid" s_Lpaid) (c_Lcoins : Cal P w K mg base 1 "_law_coins" (spCoins K cAccount)) (n_list : mg "list" = none) : Cal P w K mg base 2 "_law_paid" (spPaid K cAccount) := by
  refine cal_of (N := ["_law_rooms", "_law_told", "_law_ahead", "_law_due"]) (ps := ["_law_rooms", "_law_told", "_law_ahead"]) D sc_Lpaid (fun vs H Q E h => ?_) (fun _ _ _ _ _ _ us hl => bd3 (R := fun us => bindArgs _ ⟨us, []⟩ = pure (List.zip _ us)) (fun _ _ _ => rfl) us hl) (fun f cdv A outer s H vs Q E hr h => ?_)
  · obtain ⟨R, t, ah, d, A, S, m, rfl, _⟩ := h; rfl
  · obtain ⟨R, t, ah, d, Ar, S, m, rfl, r, hT, fit, hah, k⟩ := h
    refine ⟨_, (pss_cons (ps_if (PW.pt (pw_or (pt_cmpR op_ne (pe_ix ix_tup (pv 1) pe_int (fun _ _ => rfl)) pe_str (nomark _)) (pw_or1 (pt_cmpR op_eq (pe_ix ix_tup (pv 1) pe_int (fun _ _ => rfl)) (pe_ix ix_tup (pv 1) pe_int (fun _ _ => rfl)) (nomark _))))) (pss_one (ps_ret (pe_cmpR (op_eqD hr.units) (pe_cal c_Lcoins (hr.mono (by decide)) rfl (pa_cons (pv 0) pa_nil)) (pv 2) (nomark _)))) pss_nil)
      (pss_cons (ps_set (i := 3) sc_Lpaid.nd rfl (by first | exact Or.inl rfl | exact Or.inr rfl) (pe_callTy ct_list rfl n_list PyProof.Rows.boot_list (pa_cons (pv 2) pa_nil)))
      (pss_cons (ps_asg (pe_op op_sub (pe_ix ix_list (pv 3) (pe_ix ix_tup (pv 1) pe_int (fun _ _ => rfl)) (fun _ _ => rfl)) (pe_ix ix_tup (pv 1) pe_int (fun _ _ => rfl))) (pg_sub (pv 3) (pe_ix ix_tup (pv 1) pe_int (fun _ _ => rfl)) set_list))
      (pss_cons (ps_asg (pe_op op_add (pe_ix ix_list (pv 3) (pe_ix ix_tup (pv 1) pe_int (fun _ _ => rfl)) (fun _ _ => rfl)) (pe_ix ix_tup (pv 1) pe_int (fun _ _ => rfl))) (pg_sub (pv 3) (pe_ix ix_tup (pv 1) pe_int (fun _ _ => rfl)) set_list))
      (pss_one (ps_ret (pe_cmpR (op_eqD hr.units) (pe_cal c_Lcoins (hr.mono (by decide)) rfl (pa_cons (pv 0) pa_nil)) (pv 3) (nomark _)))))))), ?_⟩
    try simp only [nox_K, nox_P, nox_w, nox_mg, nox_base, cxOf_K, cxOf_P, cxOf_w, cxOf_mg, cxOf_base]
    have easy : ∀ q, H q = none → coinsOf Ar (doneS S d) = coinsOf Ar S → rEqD K (.ref q) (.ref ah) (upd H q (.lst ((coinsOf Ar (doneS S d)).map V.int))) Q := fun q hq e => by
      refine rd_eqLI (sql_of upd_same) (sql_of ((Same.new hq) _ _ hah)) ?_
      rw [e, decide_eq_true rfl]
      exact k _ (Same.new hq)
    cases d with
    | save s0 p o n =>
      have hT : SqT K H t [.str "save", .int s0, .int p, .int o, .int n] := hT
      repeat walk_at "rdx"
      first | refine sp_gen fun zQ zq => ⟨R, Ar, _, m, rfl, r, fun q hq => zq _ _ ?_⟩ | refine ⟨R, Ar, _, m, rfl, r, fun q hq => ?_⟩
      repeat walk_at "rdx"
      exact easy q hq (coins_keep fun i => coin_save S s0 p o n i)
    | note s0 n =>
      have hT : SqT K H t [.str "note", .int s0, .int n] := hT
      repeat walk_at "rdx"
      first | refine sp_gen fun zQ zq => ⟨R, Ar, _, m, rfl, r, fun q hq => zq _ _ ?_⟩ | refine ⟨R, Ar, _, m, rfl, r, fun q hq => ?_⟩
      repeat walk_at "rdx"
      exact easy q hq rfl
    | move s0 t0 kk =>
      have hT : SqT K H t [.str "move", .int s0, .int t0, .int kk] := hT
      obtain ⟨⟨i, x, rfl, hi, hx⟩, j, y, rfl, hj, hy⟩ := fit
      repeat walk_at "rdx"
      · rename_i hij
        have hij : i = j := by omega
        subst hij
        first | refine sp_gen fun zQ zq => ⟨R, Ar, _, m, rfl, r, fun q hq => zq _ _ ?_⟩ | refine ⟨R, Ar, _, m, rfl, r, fun q hq => ?_⟩
        repeat walk_at "rdx"
        refine easy q hq (coins_keep fun n => ?_)
        show (moved S _ _ kk n).coin = _
        rw [moved_coin]
        dsimp only
        omega
      · rename_i hij
        have hij : i ≠ j := fun z => hij (by rw [z])
        have hl : (coinsOf Ar S).length = 16 := by unfold coinsOf; rw [List.length_map, List.length_range]
        repeat walk_at "rdx"
        rename_i du hdu
        have s1 := Same.new hdu (o := .lst ((coinsOf Ar S).map V.int))
        have g1 : (upd H du (.lst ((coinsOf Ar S).map V.int))) du = some (.lst ((coinsOf Ar S).map V.int)) := upd_same
        have fr1 : ∀ (o : HO), upd (upd H du (.lst ((coinsOf Ar S).map V.int))) du o = upd H du o := fun o => upd_upd ..
        have hT1 := s1.tup hT
        have r1 := r.same s1
        generalize upd H du _ = H1 at s1 g1 fr1 hT1 r1
        (revert H1 s1 g1 fr1 hT1 r1; refine keepIt ?_; intro H1 s1 g1 fr1 hT1 r1)
        repeat walk_at "rdx"
        refine rd_ixL (sql_of g1) (atI_nat' (i := i) (v := .int (S i).coin) (by rw [List.getElem?_map, coins_at hi hx]; rfl) rfl) ?_
        repeat walk_at "rdx"
        refine rd_setL g1 (ixN_nat (j := i) rfl (by rw [List.length_map, hl]; exact hi)) ?_
        rw [fr1]
        have em : ((coinsOf Ar S).map V.int).set i (.int ((S i).coin - kk)) = ((coinsOf Ar S).set i ((S i).coin - kk)).map V.int := by rw [List.map_set]
        rw [em]
        have s2 := Same.new hdu (o := .lst (((coinsOf Ar S).set i ((S i).coin - kk)).map V.int))
        have g2 : (upd H du (.lst (((coinsOf Ar S).set i ((S i).coin - kk)).map V.int))) du = some (.lst (((coinsOf Ar S).set i ((S i).coin - kk)).map V.int)) := upd_same
        have fr2 : ∀ (o : HO), upd (upd H du (.lst (((coinsOf Ar S).set i ((S i).coin - kk)).map V.int))) du o = upd H du o := fun o => upd_upd ..
        have hT2 := s2.tup hT
        generalize upd H du _ = H2 at s2 g2 fr2 hT2
        (revert H2 s2 g2 fr2 hT2; refine keepIt ?_; intro H2 s2 g2 fr2 hT2)
        dsimp only
        repeat walk_at "rdx"
        refine rd_ixL (sql_of g2) (atI_nat' (i := j) (v := .int (S j).coin) (by rw [List.getElem?_map, List.getElem?_set, if_neg hij, coins_at hj hy]; rfl) rfl) ?_
        repeat walk_at "rdx"
        refine rd_setL g2 (ixN_nat (j := j) rfl (by rw [List.length_map, List.length_set, hl]; exact hj)) ?_
        rw [fr2]
        have em2 : (((coinsOf Ar S).set i ((S i).coin - kk)).map V.int).set j (.int ((S j).coin + kk)) = (coinsOf Ar (doneS S (.move i j kk))).map V.int := by rw [coins_move hij hi hj hx hy]; simp only [List.map_set]
        rw [em2]
        have s3 := Same.new hdu (o := .lst ((coinsOf Ar (doneS S (.move i j kk))).map V.int))
        have g3 : (upd H du (.lst ((coinsOf Ar (doneS S (.move i j kk))).map V.int))) du = some (.lst ((coinsOf Ar (doneS S (.move i j kk))).map V.int)) := upd_same
        have r3 := r.same s3
        generalize upd H du _ = H3 at s3 g3 r3
        (revert H3 s3 g3 r3; refine keepIt ?_; intro H3 s3 g3 r3)
        dsimp only
        repeat walk_at "rdx"
        first | refine sp_gen fun zQ zq => ⟨R, Ar, _, m, rfl, r3, fun q hq => zq _ _ ?_⟩ | refine ⟨R, Ar, _, m, rfl, r3, fun q hq => ?_⟩
        repeat walk_at "rdx"
        refine rd_eqLI (sql_of upd_same) (sql_of ((Same.new hq) _ _ g3)) ?_
        rw [decide_eq_true rfl]
        exact k _ (s3.newT hq)

end
end My

namespace My
open PySem L2

theorem ar1 {m e i : Nat} (h1 : e ≤ i) (h2 : m ≤ 64 * i) (h3 : i < 63) : m + e ≤ 1000000 := by omega
theorem ar2 {m e i : Nat} (h1 : e ≤ i) (h2 : m ≤ 64 * i) (h3 : i < 63) : m + e ≤ 64 * (i + 1) := by omega
theorem ar3 {m i : Nat} (h2 : m ≤ 64 * i) (h3 : i < 63) : m ≤ 1000000 := by omega
theorem ar4 {m i : Nat} (h2 : m ≤ 64 * i) : m + 1 ≤ 64 * (i + 1) := by omega
theorem ar5 {e i k : Nat} (h1 : e ≤ i) (h3 : i < 63) (hk : 1000 < k) : e < k := by omega
theorem ar6 {n e i : Nat} (h1 : e ≤ i) : min n e ≤ i + 1 := by omega
theorem ar7 {n e : Nat} (h : ((n : Nat) : Int) < (e : Nat) + 1) : n ≤ e := by omega
theorem ar8 {z : Int} (h : 0 ≤ z) : z = ((z.toNat : Nat) : Int) := by omega
theorem ar9 (e : Nat) : ((e : Nat) : Int) + 1 ≠ 0 ∧ 0 < ((e : Nat) : Int) + 1 := by omega

noncomputable def wasD (A : Nat → Option AcI) (S0 : Nat → AcS) (ds : List Dd) : List Dt := (List.range (ds.length + 1)).map fun n => allD A (runS S0 (ds.take n))
theorem was_snoc (A : Nat → Option AcI) (S0 : Nat → AcS) (ds : List Dd) (d : Dd) : wasD A S0 (ds ++ [d]) = wasD A S0 ds ++ [allD A (runS S0 (ds ++ [d]))] := by
  unfold wasD
  rw [List.length_append]
  show (List.range (ds.length + 1 + 1)).map _ = _
  rw [List.range_succ, List.map_append]
  congr 1
  · refine List.map_congr_left fun n hn => ?_
    rw [List.take_append_of_le_length (by have := List.mem_range.mp hn; omega)]
  · show [allD A (runS S0 (List.take (ds.length + 1) (ds ++ [d])))] = [_]
    rw [List.take_of_length_le (by rw [List.length_append]; exact Nat.le_refl _)]
theorem was_take (A : Nat → Option AcI) (S0 : Nat → AcS) (ds : List Dd) (k : Nat) (hk : k ≤ ds.length) : wasD A S0 (ds.take k) = (wasD A S0 ds).take (k + 1) := by
  unfold wasD
  rw [← List.map_take, List.take_range, List.length_take, Nat.min_eq_left hk, Nat.min_eq_left (by omega)]
  refine List.map_congr_left fun n hn => ?_
  rw [List.take_take, Nat.min_eq_left (by have := List.mem_range.mp hn; omega)]
theorem was_last (A : Nat → Option AcI) (S0 : Nat → AcS) (ds : List Dd) : (wasD A S0 ds)[ds.length]? = some (allD A (runS S0 ds)) := by
  unfold wasD
  rw [List.getElem?_map, List.getElem?_range (by omega)]
  show some (allD A (runS S0 (ds.take ds.length))) = _
  rw [List.take_length]
theorem was_len (A : Nat → Option AcI) (S0 : Nat → AcS) (ds : List Dd) : (wasD A S0 ds).length = ds.length + 1 := by unfold wasD; rw [List.length_map, List.length_range]
structure KI (K : PySem.W.Frag) (C cJ cS cM cN : Addr) (HB Hs H : Hp) (j dx R L : Addr) (A : Nat → Option AcI) (S0 : Nat → AcS) (es : List DI) (m : Nat) (kp wa : Addr) (ts : List Addr) (ws : List V) : Prop where
  wk : Wk K C cJ cS cM cN (fun _ => none) H j dx R L A S0 es m
  sb : Same HB Hs
  pr : Prot A [L, kp, wa] Hs H
  hk : H kp = some (.lst (ts.map V.ref))
  tk : TupsAt H (es.map (·.d)) ts
  hw : H wa = some (.lst ws)
  dw : DVs K Hs (wasD A S0 (es.map (·.d))) ws
  nk : NL A R L kp
  nw : NL A R L wa
  kw : kp ≠ wa
section
variable {K : PySem.W.Frag} {C cJ cS cM cN : Addr} {HB Hs H H' : Hp} {j dx R L kp wa : Addr} {A : Nat → Option AcI} {S0 : Nat → AcS} {es : List DI} {m : Nat} {ts : List Addr} {ws : List V}
theorem KI.same (I : KI K C cJ cS cM cN HB Hs H j dx R L A S0 es m kp wa ts ws) (s : Same H H') : KI K C cJ cS cM cN HB Hs H' j dx R L A S0 es m kp wa ts ws :=
  ⟨I.wk.same s, I.sb, I.pr.same s, s _ _ I.hk, I.tk.mono fun b xs h => s _ _ h, s _ _ I.hw, I.dw, I.nk, I.nw, I.kw⟩
theorem KI.cut (I : KI K C cJ cS cM cN HB Hs H j dx R L A S0 es m kp wa ts ws) {n m' : Nat} {H2 : Hp} {kp2 wa2 : Addr} (hn : n ≤ es.length) (k : ∀ b, Out A b → b ≠ L → H' b = H b) (W' : Wk K C cJ cS cM cN (fun _ => none) H' j dx R L A S0 (es.take n) m') (s : Same H' H2) (h1 : H' kp2 = none) (h2 : H' wa2 = none) (h3 : H2 kp2 = some (.lst ((ts.take n).map V.ref))) (h4 : H2 wa2 = some (.lst (ws.take (n + 1)))) (h5 : kp2 ≠ wa2) : KI K C cJ cS cM cN HB Hs H2 j dx R L A S0 (es.take n) m' kp2 wa2 (ts.take n) (ws.take (n + 1)) := by
  have p1 : Prot A [L, kp, wa] Hs H' := I.pr.step fun b h1 h2 => k b h1 fun z => h2 (by simp [z])
  have p2 : Prot A [L, kp2, wa2] Hs H' := p1.to fun b hb => by
    rcases List.mem_cons.mp hb with rfl | hb
    · exact .inl (by simp)
    rcases List.mem_cons.mp hb with rfl | hb
    · exact .inr h1
    rw [List.mem_singleton.mp hb]
    exact .inr h2
  have t1 : TupsAt H' (es.map (·.d)) ts := I.tk.mono fun b xs h => by rw [k b (I.wk.ro.outT h) (ne_of h I.wk.jr.li (by intro z; cases z))]; exact h
  refine ⟨W'.same s, I.sb, p2.same s, h3, ?_, h4, ?_, NL.new W'.ro W'.jr h1, NL.new W'.ro W'.jr h2, h5⟩
  · rw [List.map_take]
    exact (t1.take n).mono fun b xs h => s _ _ h
  · rw [List.map_take, was_take _ _ _ _ (by rw [List.length_map]; exact hn)]
    exact DVs.take I.dw (n + 1)
theorem KI.grow (I : KI K C cJ cS cM cN HB Hs H j dx R L A S0 es m kp wa ts ws) {e : DI} {m' : Nat} {H1 H2 H3 : Hp} {t q : Addr} {vs : List V} (k : ∀ b, Out A b → b ≠ L → H1 b = H b) (W1 : Wk K C cJ cS cM cN (fun _ => none) H1 j dx R L A S0 (es ++ [e]) m') (s12 : Same H1 H2) (ht : H t = some (.tup (tellV e.d)))
    (s3 : Same (upd H2 kp (.lst (ts.map V.ref ++ [.ref t]))) H3) (q0 : (upd H2 kp (.lst (ts.map V.ref ++ [.ref t]))) q = none) (hq : H3 q = some (.lst vs)) (hl : vs.length = 16) (hE : ∀ n v, vs[n]? = some v → Elt A (runS S0 ((es ++ [e]).map (·.d))) (upd H2 kp (.lst (ts.map V.ref ++ [.ref t]))) H3 n v) :
    ∃ Hs', KI K C cJ cS cM cN HB Hs' (upd H3 wa (.lst (ws ++ [.ref q]))) j dx R L A S0 (es ++ [e]) m' kp wa (ts ++ [t]) (ws ++ [.ref q]) := by
  have p1 : Prot A [L, kp, wa] Hs H1 := I.pr.step fun b h1 h2 => k b h1 fun z => h2 (by simp [z])
  have mv : ∀ b xs, H b = some (.tup xs) → H1 b = some (.tup xs) := fun b xs h => by rw [k b (I.wk.ro.outT h) (ne_of h I.wk.jr.li (by intro z; cases z))]; exact h
  have hk1 : H1 kp = some (.lst (ts.map V.ref)) := by rw [k _ (I.wk.ro.outL I.hk) I.nk.1]; exact I.hk
  have hw1 : H1 wa = some (.lst ws) := by rw [k _ (I.wk.ro.outL I.hw) I.nw.1]; exact I.hw
  have hk2 := s12 _ _ hk1
  have hw2 := s12 _ _ hw1
  have W2 := W1.same s12
  have W2b := W2.lst (ys := ts.map V.ref ++ [.ref t]) hk2 I.nk
  have p2 : Prot A [L, kp, wa] Hs (upd H2 kp (.lst (ts.map V.ref ++ [.ref t]))) := (p1.same s12).wr (by simp)
  have hw2b : (upd H2 kp (.lst (ts.map V.ref ++ [.ref t]))) wa = some (.lst ws) := by rw [upd_ne (Ne.symm I.kw)]; exact hw2
  obtain ⟨Hs', p3, ss, nw⟩ := p2.new s3 (fun b h => W2b.ro.outN h) (fun b hb => by
    rcases List.mem_cons.mp hb with rfl | hb
    · exact ⟨_, W2b.jr.li⟩
    rcases List.mem_cons.mp hb with rfl | hb
    · exact ⟨_, upd_same⟩
    rw [List.mem_singleton.mp hb]
    exact ⟨_, hw2b⟩)
  have W3 := W2b.same s3
  have hw3 := s3 _ _ hw2b
  have hk3 := s3 _ _ (show (upd H2 kp (.lst (ts.map V.ref ++ [.ref t]))) kp = _ from upd_same)
  have mv3 : ∀ b xs, H b = some (.tup xs) → (upd H3 wa (.lst (ws ++ [.ref q]))) b = some (.tup xs) := fun b xs h => by
    have h1 := s12 _ _ (mv b xs h)
    have h2 : (upd H2 kp (.lst (ts.map V.ref ++ [.ref t]))) b = some (.tup xs) := by rw [upd_ne (ne_of h1 hk2 (by intro z; cases z))]; exact h1
    have h3 := s3 _ _ h2
    rw [upd_ne (ne_of h3 hw3 (by intro z; cases z))]
    exact h3
  have em : (es ++ [e]).map (·.d) = es.map (·.d) ++ [e.d] := by rw [List.map_append]; rfl
  refine ⟨Hs', W3.lst hw3 I.nw, fun b o h => ss b o (I.sb b o h), p3.wr (by simp), ?_, ?_, upd_same, ?_, I.nk, I.nw, I.kw⟩
  · rw [upd_ne I.kw, hk3, List.map_append]; rfl
  · rw [em]; exact (I.tk.mono mv3).snoc (mv3 _ _ ht)
  · rw [em, was_snoc]
    refine DVs.snoc (I.dw.keep ss) ?_
    rw [← em]
    exact all_dv (fun b o h1 h2 => by rw [nw b h1]; exact h2) q0 hq hl hE
end
section

end
end My

namespace My
open PySem L2

noncomputable def spLaw (K : PySem.W.Frag) : Sp := fun vs H Q _ => ∃ (a : Addr) (ns : List Int), vs = [.ref a] ∧ SqL K H a (ns.map V.int) ∧ ns.length ≤ 63 ∧ ∀ H', Q (.bl true) H'
structure Bd (K : PySem.W.Frag) (C : Addr) (H0 H : Hp) (R : Addr) (A : Nat → Option AcI) (S : Nat → AcS) : Prop where
  ro : Rooms K C H R A S 0
  ap : ∀ j y, j < 16 → A j = some y → y.pr ≠ R
  sv : ∀ j, 0 ≤ (S j).coin ∧ (S j).count = 0 ∧ (S j).store = (fun _ => 0) ∧ (S j).rows = []
  sa : Same H0 H
theorem Bd.add {K : PySem.W.Frag} {C : Addr} {H0 H H' : Hp} {R : Addr} {A : Nat → Option AcI} {S : Nat → AcS} (B : Bd K C H0 H R A S) {i : Nat} (hi : i < 16) {x : AcI} {c p : Int} (hc : 0 ≤ c)
    (e5 : H' R = some (.lst (((List.range 16).map fun j => roomV (A j)).set i (.ref x.a)))) (e6 : Acc K C H' x ⟨c, p, 0, [], fun _ => 0⟩ 0)
    (fr : ∀ b o, H b = some o → b ≠ R → H' b = some o) (n3 : H x.a = none) (n4 : H x.st = none) (n5 : H x.pr = none) (sm : Same H0 H') :
    Bd K C H0 H' R (setO A i x) (setS S i ⟨c, p, 0, [], fun _ => 0⟩) := by
  have hR := B.ro.ob
  refine ⟨B.ro.add hi e5 e6 (fun b o h h1 _ => fr b o h h1) (fun j y hj hy => ?_) (fun j y hj hy => B.ap j y hj hy) n3 n4, fun j y hj hy => ?_, fun j => ?_, sm⟩
  · obtain ⟨kvs, g, _⟩ := (B.ro.ac j y hj hy).sto
    rw [g]
    exact fr _ _ g (ne_of g hR (by intro z; cases z))
  · rcases setO_old j y hy with ⟨rfl, rfl⟩ | ⟨z, gy⟩
    · exact Ne.symm (ne_of_none hR n5)
    · exact B.ap j y hj gy
  · unfold setS
    by_cases z : j = i
    · rw [if_pos z]; exact ⟨hc, rfl, rfl, rfl⟩
    · rw [if_neg z]; exact B.sv j

section
variable {P : Program} {w : World} {K : PySem.W.Frag} {mg : Str → Option Value} {base : Heap}
theorem sc_law : FnScope ["_law_script", "_law_slots", "_law_places", "_law_rooms", "_law_k", "_law_coin", "_law_journal", "_law_other", "_law_kept", "_law_was", "_law_cell", "_law_mixed_here", "_law_mark", "_law_told", "_law_coins_here"] ["_law_script"] (defScope s_law) := ⟨rfl, rfl, rfl, by decide +kernel, rfl, by decide +kernel, by decide +kernel⟩
theorem ok_law   {cAccount : Addr} {cJournal : Addr} {cNote : Addr} {f : Addr} {fd : FuncData} (F : Fun K "law" "law" s_law f fd) (tAccount : T_Account K mg cAccount) (tJournal : T_Journal K mg cJournal) (tNote : T_Note K mg cNote) (i_Account : ICal P w K mg base 1 "Account" cAccount (spInit K cAccount)) (i_Journal : ICal P w K mg base 1 "Journal" cJournal (spJInit cJournal)) (m_Journal_write : MCal P w K mg base 3 cJournal "write" (spWrite K cAccount cJournal cSave cMove cNote)) (i_Note : ICal P w K mg base 1 "Note" cNote (spInitNt cNote)) (m_Journal_back : MCal P w K mg base 3 cJournal "back" (spBack K cAccount cJournal cSave cMove cNote)) (m_Journal_told : MCal P w K mg base 2 cJournal "told" (spJTold cJournal cSave cMove cNote)) (m_Journal_mark : MCal P w K mg base 1 cJournal "mark" (spMark cJournal)) (c_Lslots_by : Cal P w K mg base 2 "_law_slots_by" (spSlots K)) (c_Lplaces_by : Cal P w K mg base 2 "_law_places_by" (spPlaces K)) (c_Lall : Cal P w K mg base 3 "_law_all" (spAll K cAccount)) (c_Lmixed : Cal P w K mg base 1 "_law_mixed" spMixedC) (c_Lwide : Cal P w K mg base 1 "_law_wide" spWide) (c_Ldeed_by : Cal P w K mg base 2 "_law_deed_by" (spDeedBy K cAccount)) (c_Lcoins : Cal P w K mg base 1 "_law_coins" (spCoins K cAccount)) (c_Lmade : Cal P w K mg base 3 "_law_made" (spMade K cSave cMove cNote)) (c_Lwhole : Cal P w K mg base 1 "_law_whole" spWhole) (c_Lcell_at : Cal P w K mg base 1 "_law_cell_at" (spCell K)) (c_Lshows : Cal P w K mg base 2 "_law_shows" (spShows K cAccount)) (c_Lpaid : Cal P w K mg base 2 "_law_paid" (spPaid K cAccount)) (n_range : mg "range" = none) (n_len : mg "len" = none) : FnOk P w K mg base CX0 4 f fd ["_law_script"] (spLaw K) := by
  refine F.ok (N := ["_law_script", "_law_slots", "_law_places", "_law_rooms", "_law_k", "_law_coin", "_law_journal", "_law_other", "_law_kept", "_law_was", "_law_cell", "_law_mixed_here", "_law_mark", "_law_told", "_law_coins_here"]) sc_law (fun vs H Q E h => ?_) (fun cdv A outer s H vs Q E hr h => ?_)
  · obtain ⟨a, ns, rfl, _⟩ := h; rfl
  · obtain ⟨a, ns, rfl, hS, hlen, k⟩ := h
    refine ⟨_, (pss_cons (ps_set (i := 1) sc_law.nd rfl (by first | exact Or.inl rfl | exact Or.inr rfl) (pe_cal c_Lslots_by (hr.mono (by decide)) rfl (pa_cons (pv 0) pa_nil)))
      (pss_cons (ps_set (i := 2) sc_law.nd rfl (by first | exact Or.inl rfl | exact Or.inr rfl) (pe_cal c_Lplaces_by (hr.mono (by decide)) rfl (pa_cons (pv 0) pa_nil)))
      (pss_cons (ps_set (i := 3) sc_law.nd rfl (by first | exact Or.inl rfl | exact Or.inr rfl) (pe_op op_rep (pe_lst (pa_cons pe_non pa_nil)) pe_int))
      (pss_cons (ps_for PassesOwn.never rfl (pi_range1 rfl n_range (pa_cons (pe_callB cn_len rfl n_len PySem.boot_len (pa_cons (pv 1) pa_nil)) pa_nil)) (pg_name (i := 4) sc_law.nd rfl (by first | exact Or.inl rfl | exact Or.inr rfl))
      (pss_cons (ps_set (i := 5) sc_law.nd rfl (by first | exact Or.inl rfl | exact Or.inr rfl) (pe_op op_mod (pe_cal c_Lwide (hr.mono (by decide)) rfl (pa_cons (pe_op op_add (pe_cal c_Lcell_at (hr.mono (by decide)) rfl (pa_cons (pv 0) (pa_cons pe_int pa_nil))) (pe_op op_mul (pv 4) (pv 4))) pa_nil)) (pe_op op_pow pe_int pe_int)))
      (pss_one (ps_asg (pe_ical i_Account (hr.mono (by decide)) rfl (pa_cons (pv 5) (pa_cons (pe_op op_mod (pe_op op_add (pe_cal c_Lcell_at (hr.mono (by decide)) rfl (pa_cons (pv 0) (pa_cons pe_int pa_nil))) (pv 4)) (pe_op op_pow pe_int pe_int)) (pa_cons (pe_lst pa_nil) pa_nil)))) (pg_sub (pv 3) (pe_ix ix_list (pv 1) (pv 4) (fun _ _ => rfl)) set_list)))))
      (pss_cons (ps_set (i := 6) sc_law.nd rfl (by first | exact Or.inl rfl | exact Or.inr rfl) (pe_ical i_Journal (hr.mono (by decide)) rfl (pa_cons (pv 3) pa_nil)))
      (pss_cons (ps_set (i := 7) sc_law.nd rfl (by first | exact Or.inl rfl | exact Or.inr rfl) (pe_ical i_Journal (hr.mono (by decide)) rfl (pa_cons (pe_op op_cat (pe_op op_cat (pe_op op_rep (pe_lst (pa_cons pe_non pa_nil)) pe_int) (pe_lst (pa_cons (pe_ical i_Account (hr.mono (by decide)) rfl (pa_cons pe_int (pa_cons pe_int (pa_cons (pe_lst pa_nil) pa_nil)))) pa_nil))) (pe_op op_rep (pe_lst (pa_cons pe_non pa_nil)) pe_int)) pa_nil)))
      (pss_cons (ps_expr (pe_mcal m_Journal_write (hr.mono (by decide)) (pv 7) (pa_cons (pe_ical i_Note (hr.mono (by decide)) rfl (pa_cons pe_int (pa_cons pe_int pa_nil))) pa_nil)))
      (pss_cons (ps_set (i := 8) sc_law.nd rfl (by first | exact Or.inl rfl | exact Or.inr rfl) (pe_lst pa_nil))
      (pss_cons (ps_set (i := 9) sc_law.nd rfl (by first | exact Or.inl rfl | exact Or.inr rfl) (pe_lst (pa_cons (pe_cal c_Lall (hr.mono (by decide)) rfl (pa_cons (pv 3) pa_nil)) pa_nil)))
      (pss_cons (ps_for PassesOwn.never rfl (pi_list (pe_slice sl_list (pv 0) (po_some pe_int) (po_some pe_int))) (pg_name (i := 10) sc_law.nd rfl (by first | exact Or.inl rfl | exact Or.inr rfl))
      (pss_cons (ps_set (i := 11) sc_law.nd rfl (by first | exact Or.inl rfl | exact Or.inr rfl) (pe_cal c_Lmixed (hr.mono (by decide)) rfl (pa_cons (pv 10) pa_nil)))
      (pss_cons (ps_cut (ps_if (pt_cmpR op_eq (pe_op op_mod (pv 11) pe_int) pe_int (nomark _)) (pss_cons (ps_set (i := 12) sc_law.nd rfl (by first | exact Or.inl rfl | exact Or.inr rfl) (pe_op op_mod (pe_op op_fdivW (pv 11) pe_int) (pe_op op_add (pe_callB cn_len rfl n_len PySem.boot_len (pa_cons (pv 8) pa_nil)) pe_int)))
      (pss_cons (ps_expr (pe_mcal m_Journal_back (hr.mono (by decide)) (pv 6) (pa_cons (pv 12) pa_nil)))
      (pss_cons (ps_set (i := 8) sc_law.nd rfl (by first | exact Or.inl rfl | exact Or.inr rfl) (pe_slice sl_list (pv 8) po_none (po_some (pv 12))))
      (pss_one (ps_set (i := 9) sc_law.nd rfl (by first | exact Or.inl rfl | exact Or.inr rfl) (pe_slice sl_list (pv 9) po_none (po_some (pe_op op_add (pv 12) pe_int)))))))) (pss_cons (ps_set (i := 13) sc_law.nd rfl (by first | exact Or.inl rfl | exact Or.inr rfl) (pe_cal c_Ldeed_by (hr.mono (by decide)) rfl (pa_cons (pv 10) (pa_cons (pv 1) (pa_cons (pv 3) (pa_cons (pv 2) pa_nil))))))
      (pss_cons (ps_set (i := 14) sc_law.nd rfl (by first | exact Or.inl rfl | exact Or.inr rfl) (pe_cal c_Lcoins (hr.mono (by decide)) rfl (pa_cons (pv 3) pa_nil)))
      (pss_cons (ps_expr (pe_mcal m_Journal_write (hr.mono (by decide)) (pv 6) (pa_cons (pe_cal c_Lmade (hr.mono (by decide)) rfl (pa_cons (pv 13) pa_nil)) pa_nil)))
      (pss_cons (ps_if (PW.pt (pw_or (pt_not (pt_val (pe_cal c_Lshows (hr.mono (by decide)) rfl (pa_cons (pv 3) (pa_cons (pv 13) pa_nil))))) (pw_or1 (pt_not (pt_val (pe_cal c_Lpaid (hr.mono (by decide)) rfl (pa_cons (pv 3) (pa_cons (pv 13) (pa_cons (pv 14) pa_nil))))))))) (pss_one (ps_ret pe_bl)) pss_nil)
      (pss_cons (ps_expr (pe_bm PySem.F.plainAttrs_list PySem.F.slot_list_append PySem.F.type_list_append mt_append (pv 8) (pa_cons (pv 13) pa_nil)))
      (pss_one (ps_expr (pe_bm PySem.F.plainAttrs_list PySem.F.slot_list_append PySem.F.type_list_append mt_append (pv 9) (pa_cons (pe_cal c_Lall (hr.mono (by decide)) rfl (pa_cons (pv 3) pa_nil)) pa_nil)))))))))))
      (pss_one (ps_if (PW.pt (pw_or (pt_not (pt_val (pe_cal c_Lwhole (hr.mono (by decide)) rfl (pa_cons (pe_mcal0 m_Journal_mark (hr.mono (by decide)) (pv 6)) (pa_cons (pe_callB cn_len rfl n_len PySem.boot_len (pa_cons (pv 8) pa_nil)) pa_nil))))) (pw_or (pt_cmpR (op_neD hr.units) (pe_mcal0 m_Journal_told (hr.mono (by decide)) (pv 6)) (pv 8) (nomark _)) (pw_or1 (pt_cmpR (op_neD hr.units) (pe_cal c_Lall (hr.mono (by decide)) rfl (pa_cons (pv 3) pa_nil)) (pe_ix ix_list (pv 9) (pe_un un_neg pe_int) (fun _ _ => rfl)) (nomark _)))))) (pss_one (ps_ret pe_bl)) pss_nil)))))
      (pss_cons (ps_expr (pe_mcal m_Journal_back (hr.mono (by decide)) (pv 6) (pa_cons pe_int pa_nil)))
      (pss_one (ps_ret (pe_and (pe_cmpR (op_eqD hr.units) (pe_cal c_Lall (hr.mono (by decide)) rfl (pa_cons (pv 3) pa_nil)) (pe_ix ix_list (pv 9) pe_int (fun _ _ => rfl)) (nomark _)) (pe_and (pe_cmpR (op_eqD hr.units) (pe_mcal0 m_Journal_told (hr.mono (by decide)) (pv 6)) (pe_lst pa_nil) (nomark _)) (pe_and (pe_cmpR op_eq (pe_mcal0 m_Journal_mark (hr.mono (by decide)) (pv 6)) pe_int (nomark _)) (pe_one (pe_cmpR op_eq (pe_mcal0 m_Journal_mark (hr.mono (by decide)) (pv 7)) pe_int (nomark _))))))))))))))))))), ?_⟩
    try simp only [nox_K, nox_P, nox_w, nox_mg, nox_base, cxOf_K, cxOf_P, cxOf_w, cxOf_mg, cxOf_base]
    generalize hT1 : tFor (iRng1 _) _ _ = T1
    (revert T1 hT1; refine keepIt ?_; intro T1 hT1)
    generalize hT2 : tFor (iList _ _) _ _ = T2
    (revert T2 hT2; refine keepIt ?_; intro T2 hT2)
    generalize hT3 : tSeq (tDrop _) (tRet _) = T3
    (revert T3 hT3; refine keepIt ?_; intro T3 hT3)
    repeat walk_at "rdk"
    first | refine sp_gen fun zQ zq => ⟨a, ns, rfl, hS, fun sl ss H1 s1 hsl0 h2 h5 h16 hnd hsl => zq _ _ ?_⟩ | refine ⟨a, ns, rfl, hS, fun sl ss H1 s1 hsl0 h2 h5 h16 hnd hsl => ?_⟩
    have hS1 := s1.seq hS
    have hsl : H1 sl = some (.lst (slotV ss)) := hsl
    repeat walk_at "rdk"
    first | refine sp_gen fun zQ zq => ⟨a, ns, rfl, hS1, fun pl ps H2 s2 hpl0 hp3 hpl => zq _ _ ?_⟩ | refine ⟨a, ns, rfl, hS1, fun pl ps H2 s2 hpl0 hp3 hpl => ?_⟩
    have hS2 := s2.seq hS1
    have hsl2 := s2 _ _ hsl
    repeat walk_at "rdk"
    refine ⟨show 1 ≤ sizeLine by decide, fun z hz => ?_⟩
    repeat walk_at "rdk"
    first | refine sp_gen fun zQ zq => ⟨z, 16, [.non], rfl, rfl, upd_same, by decide, by decide, by decide, fun R hR0 => zq _ _ ?_⟩ | refine ⟨z, 16, [.non], rfl, rfl, upd_same, by decide, by decide, by decide, fun R hR0 => ?_⟩
    have e16 : (List.replicate (Int.toNat 16) [V.non]).flatten = (List.range 16).map fun i => roomV ((fun _ => none : Nat → Option AcI) i) := rfl
    rw [e16]
    have nR := none_upd hR0
    have sm0 : Same H2 (upd (upd H2 z (.lst [.non])) R (.lst ((List.range 16).map fun i => roomV ((fun _ => none : Nat → Option AcI) i)))) := (Same.new hz).newT hR0
    have f3 : (upd (upd H2 z (.lst [.non])) R (.lst ((List.range 16).map fun i => roomV ((fun _ => none : Nat → Option AcI) i)))) R = some (.lst ((List.range 16).map fun i => roomV ((fun _ => none : Nat → Option AcI) i))) := upd_same
    generalize upd (upd H2 z (.lst [.non])) R _ = H3 at sm0 f3
    (revert H3 sm0 f3; refine keepIt ?_; intro H3 sm0 f3)
    have hRN : H2 R = none := nR.2
    have B0 : Bd K cAccount H2 H3 R (fun _ => none) (fun _ => ⟨0, 0, 0, [], fun _ => 0⟩) := ⟨Rooms.empty f3 _, fun _ _ _ h => (nomatch h), fun _ => ⟨Int.le_refl _, rfl, rfl, rfl⟩, sm0⟩
    have hsl3 : SqL K H3 sl (slotV ss) := sql_of (sm0 _ _ hsl2)
    have hvl : (slotV ss).length = ss.length := List.length_map ..
    repeat walk_at "rdk"
    generalize hD : Ends.mk _ _ _ _ = D0
    (revert D0 hD; refine keepIt ?_; intro D0 hD)
    subst hT1
    refine rd_for (rd_iRng1 ?_)
    repeat walk_at "rdk"
    first | refine sp_gen fun zQ zq => ⟨_, rfl, by omega, by omega, zq _ _ ?_⟩ | refine ⟨_, rfl, by omega, by omega, ?_⟩
    have ent : (((slotV ss).length : Nat) : Int).toNat = ss.length := by rw [hvl]; omega
    rw [ent]
    refine for_range (n := ss.length) (fun i σ' H' => ∃ A S v4 v5, Bd K cAccount H2 H' R A S ∧ (∀ j, (∃ x, A j = some x) ↔ j ∈ ss.take i) ∧ σ' = [some (.ref a), some (.ref sl), some (.ref pl), some (.ref R), v4, v5, none, none, none, none, none, none, none, none, none]) ?_ ?_ ?_
    · exact ⟨_, _, _, _, B0, fun j => by simp, rfl⟩
    · rintro i σ' H' hi ⟨Ar, S, v4, v5, B, hAi, rfl⟩
      have hs16 := h16 _ (List.getElem_mem hi)
      have esl : atI (slotV ss) (i : Int) = some (.int ((ss[i] : Nat) : Int)) := atI_nat' (i := i) (by unfold slotV; rw [List.getElem?_map, List.getElem?_eq_getElem hi]; rfl) rfl
      have htk : ss.take (i + 1) = ss.take i ++ [ss[i]] := List.take_succ_eq_append_getElem hi
      generalize ss[i] = t0 at hs16 esl htk
      (revert t0 hs16 esl htk; refine keepIt ?_; intro t0 hs16 esl htk)
      have hS' := B.sa.seq hS2
      rw [Int.zero_add]
      repeat walk_at "rdk"
      first | refine sp_gen fun zQ zq => ⟨a, ns, 2, rfl, by decide, hS', fun c1 => zq _ _ ?_⟩ | refine ⟨a, ns, 2, rfl, by decide, hS', fun c1 => ?_⟩
      repeat walk_at "rdk"
      first | refine sp_gen fun zQ zq => ⟨_, rfl, fun w w0 w1 => zq _ _ ?_⟩ | refine ⟨_, rfl, fun w w0 w1 => ?_⟩
      repeat walk_at "rdk"
      have hc : 0 ≤ w % 2 ^ Int.toNat 61 := Int.emod_nonneg _ (by decide)
      generalize w % 2 ^ Int.toNat 61 = coin at hc ⊢
      (revert coin hc; refine keepIt ?_; intro coin hc)
      first | refine sp_gen fun zQ zq => ⟨a, ns, 3, rfl, by decide, hS', fun c3 => zq _ _ ?_⟩ | refine ⟨a, ns, 3, rfl, by decide, hS', fun c3 => ?_⟩
      repeat walk_at "rdk"
      generalize (c3 + (i : Int)) % 2 ^ Int.toNat 64 = pu
      (revert pu; refine keepIt ?_; intro pu)
      refine ⟨by decide, fun e he => ?_⟩
      have sE := Same.new he (o := .lst [])
      have ge : (upd H' e (.lst [])) e = some (.lst []) := upd_same
      generalize upd H' e _ = He at sE ge
      (revert He sE ge; refine keepIt ?_; intro He sE ge)
      repeat walk_at "rdk"
      intro x dx hx hdx hxd
      have smx : Same He (upd (upd He dx (.own x)) x (.ins cAccount dx [])) := (Same.new hdx).newT (by rw [upd_ne (Ne.symm hxd)]; exact hx)
      first | refine sp_gen fun zQ zq => ⟨x, dx, e, coin, pu, [], [], rfl, upd_same, smx.seq (sql_of ge), ⟨rfl, fun i r v h => by simp at h⟩, fun pr st H3' hpr hst hps AC kp => zq _ _ ⟨rfl, ?_⟩⟩ | refine ⟨x, dx, e, coin, pu, [], [], rfl, upd_same, smx.seq (sql_of ge), ⟨rfl, fun i r v h => by simp at h⟩, fun pr st H3' hpr hst hps AC kp => ⟨rfl, ?_⟩⟩
      have sF := Same.made hx hdx kp
      have sEF := sE.trans sF
      have hRo : H3' R = some (.lst ((List.range 16).map fun j => roomV (Ar j))) := sEF _ _ B.ro.ob
      have hslF : SqL K H3' sl (slotV ss) := sql_of (sEF _ _ (B.sa _ _ hsl2))
      have nx : H' x = none := sE.fresh hx
      have nst : H' st = none := sE.fresh (smx.fresh hst)
      have npr : H' pr = none := sE.fresh (smx.fresh hpr)
      have hob := AC.ob
      have nRx : x ≠ R := ne_of hob hRo (by intro z; cases z)
      have hRlen : ((List.range 16).map fun j => roomV (Ar j)).length = 16 := by rw [List.length_map, List.length_range]
      repeat walk_at "rdk"
      refine rd_ixL hslF esl ?_
      refine rd_setL hRo (ixN_nat (j := t0) rfl (by rw [hRlen]; exact hs16)) ?_
      have B2 := B.add (x := ⟨x, dx, pr, st⟩) (c := coin) (p := pu) (H' := upd H3' R (.lst (((List.range 16).map fun j => roomV (Ar j)).set t0 (.ref x)))) hs16 hc upd_same
        (by
          obtain ⟨xs, g1, g2⟩ := AC.pg
          obtain ⟨kvs, g3, g4⟩ := AC.sto
          refine ⟨by rw [upd_ne nRx]; exact hob, ⟨xs, by rw [upd_ne (Ne.symm (ne_of_none B.ro.ob npr))]; exact g1, ?_⟩, kvs, by rw [upd_ne (Ne.symm (ne_of_none B.ro.ob nst))]; exact g3, g4⟩
          exact g2.keep (SameI.upd hRo notImm_lst))
        (fun b o h h3 => by rw [upd_ne h3]; exact sEF _ _ h)
        nx nst npr ((B.sa.trans sEF).wr hRN)
      refine ⟨_, _, _, _, B2, fun j => ?_, rfl⟩
      rw [htk, List.mem_append, List.mem_singleton, ← hAi j]
      unfold setO
      by_cases z : j = t0
      · rw [if_pos z]; exact ⟨fun _ => .inr z, fun _ => ⟨_, rfl⟩⟩
      · rw [if_neg z]; exact ⟨fun q => .inl q, fun q => q.resolve_right z⟩
    · rintro σ' H5 ⟨Ar, S, v4, v5, B, hAi, rfl⟩
      subst hD
      rw [List.take_length] at hAi
      have hA : hasAll Ar ss := fun i hi => ⟨h16 i hi, (hAi i).mpr hi⟩
      dsimp only
      repeat walk_at "rdk"
      intro j dx hj hdx hne
      first | refine sp_gen fun zQ zq => ⟨j, dx, R, rfl, upd_same, fun L hL => zq _ _ ⟨rfl, ?_⟩⟩ | refine ⟨j, dx, R, rfl, upd_same, fun L hL => ⟨rfl, ?_⟩⟩
      have hj2 : (upd H5 dx (.own j)) j = none := by rw [upd_ne (Ne.symm hne)]; exact hj
      have nLj := none_upd hL
      have nLd := none_upd nLj.2
      have s6 : Same H5 (upd (upd (upd (upd H5 dx (.own j)) j (.ins cJournal dx [])) L (.lst [])) j (.ins cJournal dx (jF R L))) := fun b u e => by
        have n1 : b ≠ j := ne_of_none e hj
        rw [upd_ne n1, upd_ne (ne_of_none e nLd.2), upd_ne n1, upd_ne (ne_of_none e hdx)]
        exact e
      have gj : (upd (upd (upd (upd H5 dx (.own j)) j (.ins cJournal dx [])) L (.lst [])) j (.ins cJournal dx (jF R L))) j = some (.ins cJournal dx (jF R L)) := upd_same
      have gL : (upd (upd (upd (upd H5 dx (.own j)) j (.ins cJournal dx [])) L (.lst [])) j (.ins cJournal dx (jF R L))) L = some (.lst []) := by rw [upd_ne nLj.1]; exact upd_same
      have hLN := nLd.2
      generalize upd (upd (upd (upd H5 dx (.own j)) j (.ins cJournal dx [])) L (.lst [])) j _ = H6 at s6 gj gL
      (revert H6 s6 gj gL; refine keepIt ?_; intro H6 s6 gj gL)
      have r5 := B.ro
      have r6 := r5.same s6
      have J6 : Jr cJournal cSave cMove cNote H6 j dx R L Ar [] := ⟨gj, gL, fun e he => by simp at he, Ne.symm (ne_of_none r5.ob hLN), fun i x hi hx => let ⟨_, g, _⟩ := (r5.ac i x hi hx).pg; Ne.symm (ne_of_none g hLN)⟩
      have s26 := B.sa.trans s6
      have W6 : Wk K cAccount cJournal cSave cMove cNote (fun _ => none) H6 j dx R L Ar S [] 0 := ⟨J6, r6, trivial, fun q i => by rw [show (([] : List DI).map (·.d)).take q = [] from List.take_nil]; exact (B.sv i).1, fun b o _ _ h => (nomatch h)⟩
      clear gj gL r6 r5 J6
      -- the other journal
      repeat walk_at "rdk"
      refine ⟨show 1 ≤ sizeLine by decide, fun z1 hz1 => ?_⟩
      repeat walk_at "rdk"
      first | refine sp_gen fun zQ zq => ⟨z1, 3, [.non], rfl, rfl, upd_same, by decide, by decide, by decide, fun z2 hz2 => zq _ _ ?_⟩ | refine ⟨z1, 3, [.non], rfl, rfl, upd_same, by decide, by decide, by decide, fun z2 hz2 => ?_⟩
      have e3 : (List.replicate (Int.toNat 3) [V.non]).flatten = [.non, .non, .non] := rfl
      rw [e3]
      have t1 : Same H6 (upd (upd H6 z1 (.lst [.non])) z2 (.lst [.non, .non, .non])) := (Same.new hz1).newT hz2
      have g2 : (upd (upd H6 z1 (.lst [.non])) z2 (.lst [.non, .non, .non])) z2 = some (.lst [.non, .non, .non]) := upd_same
      generalize upd (upd H6 z1 _) z2 _ = H7 at t1 g2
      (revert H7 t1 g2; refine keepIt ?_; intro H7 t1 g2)
      repeat walk_at "rdk"
      refine ⟨by decide, fun e he => ?_⟩
      have sE := Same.new he (o := .lst [])
      have ge : (upd H7 e (.lst [])) e = some (.lst []) := upd_same
      generalize upd H7 e _ = H8 at sE ge
      (revert H8 sE ge; refine keepIt ?_; intro H8 sE ge)
      repeat walk_at "rdk"
      intro x dx2 hx hdx2 hxd
      have smx : Same H8 (upd (upd H8 dx2 (.own x)) x (.ins cAccount dx2 [])) := (Same.new hdx2).newT (by rw [upd_ne (Ne.symm hxd)]; exact hx)
      first | refine sp_gen fun zQ zq => ⟨x, dx2, e, 1, 2, [], [], rfl, upd_same, smx.seq (sql_of ge), ⟨rfl, fun i r v h => by simp at h⟩, fun pr st H9 hpr hst hps AC kp => zq _ _ ⟨rfl, ?_⟩⟩ | refine ⟨x, dx2, e, 1, 2, [], [], rfl, upd_same, smx.seq (sql_of ge), ⟨rfl, fun i r v h => by simp at h⟩, fun pr st H9 hpr hst hps AC kp => ⟨rfl, ?_⟩⟩
      have s89 := Same.made hx hdx2 kp
      have s69 := (t1.trans sE).trans s89
      have g2' := (sE.trans s89) _ _ g2
      have nx : H6 x = none := t1.fresh (sE.fresh hx)
      have nst : H6 st = none := t1.fresh (sE.fresh (smx.fresh hst))
      repeat walk_at "rdk"
      refine ⟨show 1 ≤ sizeLine by decide, fun z3 hz3 => ?_⟩
      refine rd_cat (xs := [.non, .non, .non]) (ys := [.ref x]) ((Same.new hz3) _ _ g2') upd_same (by show 3 + 1 ≤ sizeLine; decide) fun z4 hz4 => ?_
      have t2 : Same H9 (upd (upd H9 z3 (.lst [.ref x])) z4 (.lst ([.non, .non, .non] ++ [.ref x]))) := (Same.new hz3).newT hz4
      have g4 : (upd (upd H9 z3 (.lst [.ref x])) z4 (.lst ([.non, .non, .non] ++ [.ref x]))) z4 = some (.lst ([.non, .non, .non] ++ [.ref x])) := upd_same
      generalize upd (upd H9 z3 _) z4 _ = H10 at t2 g4
      (revert H10 t2 g4; refine keepIt ?_; intro H10 t2 g4)
      repeat walk_at "rdk"
      refine ⟨show 1 ≤ sizeLine by decide, fun z5 hz5 => ?_⟩
      repeat walk_at "rdk"
      first | refine sp_gen fun zQ zq => ⟨z5, 12, [.non], rfl, rfl, upd_same, by decide, by decide, by decide, fun z6 hz6 => zq _ _ ?_⟩ | refine ⟨z5, 12, [.non], rfl, rfl, upd_same, by decide, by decide, by decide, fun z6 hz6 => ?_⟩
      have t3 : Same H10 (upd (upd H10 z5 (.lst [.non])) z6 (.lst (List.replicate (Int.toNat 12) [V.non]).flatten)) := (Same.new hz5).newT hz6
      have g6 : (upd (upd H10 z5 (.lst [.non])) z6 (.lst (List.replicate (Int.toNat 12) [V.non]).flatten)) z6 = some (.lst (List.replicate (Int.toNat 12) [V.non]).flatten) := upd_same
      generalize upd (upd H10 z5 _) z6 _ = H11 at t3 g6
      (revert H11 t3 g6; refine keepIt ?_; intro H11 t3 g6)
      refine rd_cat (xs := [.non, .non, .non] ++ [.ref x]) (ys := (List.replicate (Int.toNat 12) [V.non]).flatten) (t3 _ _ g4) g6 (by show 4 + 12 ≤ sizeLine; decide) fun R2 hR2 => ?_
      have eR2 : [V.non, .non, .non] ++ [.ref x] ++ (List.replicate (Int.toNat 12) [V.non]).flatten = (List.range 16).map fun i => roomV ((fun i => if i = 3 then some ⟨x, dx2, pr, st⟩ else none : Nat → Option AcI) i) := rfl
      rw [eR2]
      have t4 := Same.new hR2 (o := .lst ((List.range 16).map fun i => roomV ((fun i => if i = 3 then some ⟨x, dx2, pr, st⟩ else none : Nat → Option AcI) i)))
      have gR2 : (upd H11 R2 (.lst ((List.range 16).map fun i => roomV ((fun i => if i = 3 then some ⟨x, dx2, pr, st⟩ else none : Nat → Option AcI) i)))) R2 = some (.lst ((List.range 16).map fun i => roomV ((fun i => if i = 3 then some ⟨x, dx2, pr, st⟩ else none : Nat → Option AcI) i))) := upd_same
      generalize upd H11 R2 _ = H12 at t4 gR2
      (revert H12 t4 gR2; refine keepIt ?_; intro H12 t4 gR2)
      generalize hA2 : (fun i => if i = 3 then some ⟨x, dx2, pr, st⟩ else none : Nat → Option AcI) = A2 at gR2
      (revert A2 hA2 gR2; refine keepIt ?_; intro A2 hA2 gR2)
      have a2 : ∀ i y, A2 i = some y → i = 3 ∧ y = ⟨x, dx2, pr, st⟩ := fun i y h => by
        rw [← hA2] at h
        dsimp only at h
        split at h
        · rename_i q; cases h; exact ⟨q, rfl⟩
        · cases h
      have s912 := (t2.trans t3).trans t4
      have r12 : Rooms K cAccount H12 R2 A2 (fun _ => ⟨1, 2, 0, [], fun _ => 0⟩) 0 := ⟨gR2, fun i y hi hy => by
        obtain ⟨rfl, rfl⟩ := a2 i y hy
        obtain ⟨xs, q1, q2⟩ := AC.pg
        obtain ⟨kvs, q3, q4⟩ := AC.sto
        exact ⟨s912 _ _ AC.ob, ⟨xs, s912 _ _ q1, q2.keep s912.imm⟩, kvs, s912 _ _ q3, q4⟩, fun i i' y y' _ _ hy hy' _ => by rw [(a2 i y hy).1, (a2 i' y' hy').1], fun i i' y y' _ _ hy hy' _ => by rw [(a2 i y hy).1, (a2 i' y' hy').1]⟩
      have s612 := s69.trans s912
      repeat walk_at "rdk"
      intro j2 dj2 hj2 hdj2 hne2
      first | refine sp_gen fun zQ zq => ⟨j2, dj2, R2, rfl, upd_same, fun L2 hL2 => zq _ _ ⟨rfl, ?_⟩⟩ | refine ⟨j2, dj2, R2, rfl, upd_same, fun L2 hL2 => ⟨rfl, ?_⟩⟩
      have nLj2 := none_upd hL2
      have nLd2 := none_upd nLj2.2
      have u1 : Same H12 (upd (upd (upd (upd H12 dj2 (.own j2)) j2 (.ins cJournal dj2 [])) L2 (.lst [])) j2 (.ins cJournal dj2 (jF R2 L2))) := fun b u e => by
        have n1 : b ≠ j2 := ne_of_none e hj2
        rw [upd_ne n1, upd_ne (ne_of_none e nLd2.2), upd_ne n1, upd_ne (ne_of_none e hdj2)]
        exact e
      have gj2 : (upd (upd (upd (upd H12 dj2 (.own j2)) j2 (.ins cJournal dj2 [])) L2 (.lst [])) j2 (.ins cJournal dj2 (jF R2 L2))) j2 = some (.ins cJournal dj2 (jF R2 L2)) := upd_same
      have gL2 : (upd (upd (upd (upd H12 dj2 (.own j2)) j2 (.ins cJournal dj2 [])) L2 (.lst [])) j2 (.ins cJournal dj2 (jF R2 L2))) L2 = some (.lst []) := by rw [upd_ne nLj2.1]; exact upd_same
      have hL2N := nLd2.2
      generalize upd (upd (upd (upd H12 dj2 (.own j2)) j2 (.ins cJournal dj2 [])) L2 (.lst [])) j2 _ = H13 at u1 gj2 gL2
      (revert H13 u1 gj2 gL2; refine keepIt ?_; intro H13 u1 gj2 gL2)
      have J13 : Jr cJournal cSave cMove cNote H13 j2 dj2 R2 L2 A2 [] := ⟨gj2, gL2, fun e he => by simp at he, Ne.symm (ne_of_none r12.ob hL2N), fun i x hi hx => let ⟨_, g, _⟩ := (r12.ac i x hi hx).pg; Ne.symm (ne_of_none g hL2N)⟩
      have r13 := r12.same u1
      have s613 := s612.trans u1
      repeat walk_at "rdk"
      refine rd_methA gj2 rfl ?_
      repeat walk_at "rdk"
      intro nt dn hnt hdn hnd2
      have hnt2 : (upd H13 dn (.own nt)) nt = none := by rw [upd_ne (Ne.symm hnd2)]; exact hnt
      first | refine sp_gen fun zQ zq => ⟨nt, dn, 3, 4, rfl, upd_same, rfl, zq _ _ ?_⟩ | refine ⟨nt, dn, 3, 4, rfl, upd_same, rfl, ?_⟩
      rw [upd_upd]
      have u2 : Same H13 (upd (upd H13 dn (.own nt)) nt (.ins cNote dn (noteF 3 4))) := (Same.new hdn).newT hnt2
      have gn : (upd (upd H13 dn (.own nt)) nt (.ins cNote dn (noteF 3 4))) nt = some (.ins cNote dn (noteF 3 4)) := upd_same
      generalize upd (upd H13 dn (.own nt)) nt _ = H14 at u2 gn
      (revert H14 u2 gn; refine keepIt ?_; intro H14 u2 gn)
      repeat walk_at "rdk"
      first | refine sp_gen fun zQ zq => ⟨j2, dj2, R2, L2, A2, _, 0, [], ⟨nt, dn, .note 3 4⟩, rfl, J13.same u2, r13.same u2, gn, trivial, by decide, by decide, fun H15 k15 r15 J15 => zq _ _ ?_⟩ | refine ⟨j2, dj2, R2, L2, A2, _, 0, [], ⟨nt, dn, .note 3 4⟩, rfl, J13.same u2, r13.same u2, gn, trivial, by decide, by decide, fun H15 k15 r15 J15 => ?_⟩
      have s614 := s613.trans u2
      have s615 : Same H6 H15 := fun b o h => by
        rw [k15 b (fun i y hi hy => by
          obtain ⟨rfl, rfl⟩ := a2 i y hy
          exact ⟨ne_of_none h nx, ne_of_none h nst⟩) (ne_of_none h (s612.fresh hL2N))]
        exact s614 _ _ h
      have W15 := W6.same s615
      have gj15 := J15.ob
      have gL15 := J15.li
      have hL26 : H6 L2 = none := s612.fresh hL2N
      have nL2 : L2 ≠ L := Ne.symm (ne_of_none W6.jr.li hL26)
      clear J15 r15 k15 gn J13 r13 gj2 gL2 r12
      have s215 := s26.trans s615
      repeat walk_at "rdk"
      refine ⟨by decide, fun kp hkp => ?_⟩
      have sK := Same.new hkp (o := .lst [])
      have gK : (upd H15 kp (.lst [])) kp = some (.lst []) := upd_same
      generalize upd H15 kp _ = H16 at sK gK
      (revert H16 sK gK; refine keepIt ?_; intro H16 sK gK)
      have W16 := W15.same sK
      have nr : ∀ es : List DI, NoRows Ar (runS S (es.map (·.d))) := fun es i x _ _ => by rw [(keeps_run _ S i).2.2]; exact (B.sv i).2.2.2
      have nz : ∀ i p, (S i).store p = 0 := fun i p => by rw [(B.sv i).2.2.1]
      repeat walk_at "rdk"
      first | refine sp_gen fun zQ zq => ⟨R, Ar, S, 0, rfl, W16.ro, by decide, nr [], fun q vs H17 s17 hq0 hq hql hqE => zq _ _ ?_⟩ | refine ⟨R, Ar, S, 0, rfl, W16.ro, by decide, nr [], fun q vs H17 s17 hq0 hq hql hqE => ?_⟩
      repeat walk_at "rdk"
      refine ⟨show 1 ≤ sizeLine by decide, fun wa hwa => ?_⟩
      have s18 := Same.new hwa (o := .lst [.ref q])
      have gW : (upd H17 wa (.lst [.ref q])) wa = some (.lst [.ref q]) := upd_same
      generalize upd H17 wa _ = H18 at s18 gW
      (revert H18 s18 gW; refine keepIt ?_; intro H18 s18 gW)
      have W18 := (W16.same s17).same s18
      have hS18 := ((((s215.trans sK).trans s17).trans s18)).seq hS2
      repeat walk_at "rdk"
      generalize hD : Ends.mk _ _ _ _ = D0
      (revert D0 hD; refine keepIt ?_; intro D0 hD)
      subst hT2
      refine rd_for (rd_iList ?_)
      repeat walk_at "rdk"
      intro u hu
      obtain ⟨ms, hms, hml⟩ := cutV_ints ns (some 4) (some 104)
      rw [hms]
      have s19 := Same.new hu (o := .lst (ms.map V.int))
      have gu : (upd H18 u (.lst (ms.map V.int))) u = some (.lst (ms.map V.int)) := upd_same
      generalize upd H18 u _ = H19 at s19 gu
      (revert H19 s19 gu; refine keepIt ?_; intro H19 s19 gu)
      have W19 := W18.same s19
      have sK9 := (s17.trans s18).trans s19
      have hkp9 := sK9 _ _ gK
      have hwa9 := s19 _ _ gW
      have nkp := NL.new W15.ro W15.jr hkp
      have nwa := NL.new (W16.same s17).ro (W16.same s17).jr hwa
      have nkw : kp ≠ wa := ne_of_none (s17 _ _ gK) hwa
      have hs19 := s215.trans (sK.trans sK9)
      have P0 := hold_prot (A := Ar) (ex := [L, kp, wa]) (H := H19)
      have inH : ∀ b o, H19 b = some o → Out Ar b → b ≠ L → b ≠ kp → b ≠ wa → hold Ar [L, kp, wa] H19 b = some o := fun b o h h1 h2 h3 h4 => by
        rw [hold_at h1 (by simp [h2, h3, h4])]; exact h
      have old : ∀ b o, H15 b = some o → b ≠ L → Out Ar b → hold Ar [L, kp, wa] H19 b = some o := fun b o h h2 h1 => inH b o (sK9 _ _ (sK _ _ h)) h1 h2 (ne_of_none h hkp) (ne_of_none (s17 _ _ (sK _ _ h)) hwa)
      have hslB : hold Ar [L, kp, wa] H19 sl = some (.lst (slotV ss)) := old sl _ (s215 _ _ hsl2) (ne_of_none (B.sa _ _ hsl2) hLN) (W15.ro.outL (s215 _ _ hsl2))
      have hplB : hold Ar [L, kp, wa] H19 pl = some (.lst (ps.map V.int)) := old pl _ (s215 _ _ hpl) (ne_of_none (B.sa _ _ hpl) hLN) (W15.ro.outL (s215 _ _ hpl))
      have hj2B : hold Ar [L, kp, wa] H19 j2 = _ := old j2 _ gj15 (ne_of gj15 W15.jr.li (by intro z; cases z)) (W15.ro.outI gj15 (by show 2 < 5; decide))
      have hL2B : hold Ar [L, kp, wa] H19 L2 = _ := old L2 _ gL15 nL2 (W15.ro.outL gL15)
      have huB : hold Ar [L, kp, wa] H19 u = some (.lst (ms.map V.int)) := inH u _ gu (W19.ro.outL gu) (Ne.symm (ne_of_none W18.jr.li hu)) (Ne.symm (ne_of_none (s18 _ _ (s17 _ _ gK)) hu)) (Ne.symm (ne_of_none gW hu))
      have I19 : KI K cAccount cJournal cSave cMove cNote (hold Ar [L, kp, wa] H19) (hold Ar [L, kp, wa] H19) H19 j dx R L Ar S [] 0 kp wa [] [.ref q] := ⟨W19, Same.refl _, P0, hkp9, TupsAt.nil, hwa9, dvs_cons (all_dv (H0 := H16) (H := H17) (S := S) (fun b o h1 h2 => inH b o (s19 _ _ (s18 _ _ h2)) (W16.ro.outN h1) (Ne.symm (ne_of_none W16.jr.li h1)) (Ne.symm (ne_of_none gK h1)) (ne_of_none h2 hwa)) hq0 hq hql hqE) dvs_nil, nkp, nwa, nkw⟩
      generalize hold Ar [L, kp, wa] H19 = HB at I19 hslB hplB hj2B hL2B huB
      (revert HB I19 hslB hplB hj2B hL2B huB; refine keepIt ?_; intro HB I19 hslB hplB hj2B hL2B huB)
      clear P0 inH old
      obtain ⟨PV, hPV⟩ : ∃ PV : Nat → St → Hp → Prop, PV = (fun i σ' H' => ∃ Hs es m kp wa ts ws v10 v11 v12 v13 v14, KI K cAccount cJournal cSave cMove cNote HB Hs H' j dx R L Ar S es m kp wa ts ws ∧ es.length ≤ i ∧ m ≤ 64 * i ∧ σ' = [some (.ref a), some (.ref sl), some (.ref pl), some (.ref R), v4, v5, some (.ref j), some (.ref j2), some (.ref kp), some (.ref wa), v10, v11, v12, v13, v14]) := ⟨_, rfl⟩
      refine ⟨u, rfl, ⟨_, sql_of gu⟩, for_list (xs := ms.map V.int) PV (by rw [hPV]; exact ⟨_, [], 0, kp, wa, [], _, _, _, _, _, _, I19, Nat.zero_le _, Nat.zero_le _, rfl⟩) (fun i σ' H' _ hz => by rw [hPV] at hz; obtain ⟨_, _, _, _, _, _, _, _, _, _, _, _, I, _⟩ := hz; exact sql_of (I.pr.sm _ _ (I.sb _ _ huB))) ?_ ?_⟩
      · clear I19 hkp9 hwa9 nkp nwa nkw W19 W18 W16 W15 W6 gW gK hwa hkp hu
        intro i xx σ' H' hxx hz
        rw [hPV] at hz
        obtain ⟨Hs, es, m, kp, wa, ts, ws, v10, v11, v12, v13, v14, I, hel, hm, rfl⟩ := hz
        rw [List.getElem?_map] at hxx
        obtain ⟨c, hc, rfl⟩ := Option.map_eq_some_iff.mp hxx
        obtain ⟨hi, _⟩ := List.getElem?_eq_some_iff.mp hc
        have hi9 : i < 63 := Nat.lt_of_lt_of_le hi (Nat.le_trans hml hlen)
        have hts : ts.length = es.length := by have := I.tk.1; rw [List.length_map] at this; exact this.symm
        have hkS : SqL K H' kp (ts.map V.ref) := sql_of I.hk
        have hkl : (ts.map V.ref).length = es.length := by rw [List.length_map, hts]
        have big : (1000 : Nat) < sizeLine := by decide
        repeat walk_at "rdk"
        first | refine sp_gen fun zQ zq => ⟨_, rfl, fun z z0 z1 => zq _ _ ?_⟩ | refine ⟨_, rfl, fun z z0 z1 => ?_⟩
        repeat walk_at "rdk"
        obtain ⟨PC, hPC⟩ : ∃ PC : St → Hp → Prop, PC = (fun σ' H4 => ∃ Hs2 es2 m2 kp2 wa2 ts2 ws2 v10 v11 v12 v13 v14, KI K cAccount cJournal cSave cMove cNote HB Hs2 H4 j dx R L Ar S es2 m2 kp2 wa2 ts2 ws2 ∧ es2.length ≤ i + 1 ∧ m2 ≤ 64 * (i + 1) ∧ σ' = [some (.ref a), some (.ref sl), some (.ref pl), some (.ref R), v4, v5, some (.ref j), some (.ref j2), some (.ref kp2), some (.ref wa2), v10, v11, v12, v13, v14]) := ⟨_, rfl⟩
        refine rd_cut PC ?_ ?_
        · dsimp only
          repeat walk_at "rdk"
          rw [hkl]
          have q0 : 0 ≤ z / 3 % ((es.length : Nat) + 1 : Int) := Int.emod_nonneg _ (ar9 _).1
          have q1 : z / 3 % ((es.length : Nat) + 1 : Int) < (es.length : Nat) + 1 := Int.emod_lt_of_pos _ (ar9 _).2
          generalize z / 3 % ((es.length : Nat) + 1 : Int) = mk at q0 q1 ⊢
          (revert mk q0 q1; refine keepIt ?_; intro mk q0 q1)
          repeat walk_at "rdk"
          refine rd_methA I.wk.jr.ob rfl ?_
          repeat walk_at "rdk"
          first | refine sp_gen fun zQ zq => ⟨j, dx, R, L, Ar, S, m, es, mk, rfl, I.wk.jr, I.wk.ro, I.wk.ri, ar1 hel hm hi9, fun H2' k2 r2 ri2 J2 => zq _ _ ?_⟩ | refine ⟨j, dx, R, L, Ar, S, m, es, mk, rfl, I.wk.jr, I.wk.ro, I.wk.ri, ar1 hel hm hi9, fun H2' k2 r2 ri2 J2 => ?_⟩
          obtain ⟨n, rfl⟩ : ∃ n : Nat, mk = (n : Int) := ⟨mk.toNat, ar8 q0⟩
          rw [Int.toNat_natCast] at r2 ri2 J2
          have W2 := I.wk.back k2 r2 ri2 J2
          have hk2 : H2' kp = some (.lst (ts.map V.ref)) := by rw [k2 _ (I.wk.ro.outL I.hk) I.nk.1]; exact I.hk
          have hw2 : H2' wa = some (.lst ws) := by rw [k2 _ (I.wk.ro.outL I.hw) I.nw.1]; exact I.hw
          repeat walk_at "rdk"
          intro kp2 hkp2
          rw [cutV_take, ← List.map_take]
          have sa := Same.new hkp2 (o := .lst ((ts.take n).map V.ref))
          have ga : (upd H2' kp2 (.lst ((ts.take n).map V.ref))) kp2 = some (.lst ((ts.take n).map V.ref)) := upd_same
          generalize upd H2' kp2 _ = H3' at sa ga
          have hw3 := sa _ _ hw2
          repeat walk_at "rdk"
          intro wa2 hwa2
          have ec : cutV ws none (some ((n : Int) + 1)) = ws.take (n + 1) := cutV_take (n := n + 1)
          rw [ec]
          have sb := Same.new hwa2 (o := .lst (ws.take (n + 1)))
          have gb : (upd H3' wa2 (.lst (ws.take (n + 1)))) wa2 = some (.lst (ws.take (n + 1))) := upd_same
          generalize upd H3' wa2 _ = H4 at sb gb
          (revert H4 sb gb; refine keepIt ?_; intro H4 sb gb)
          have I2 := I.cut (n := n) (ar7 q1) k2 W2 (sa.trans sb) hkp2 (sa.fresh hwa2) (sb _ _ ga) gb (ne_of_none ga hwa2)
          have hel2 : (es.take n).length ≤ i + 1 := by rw [List.length_take]; exact ar6 hel
          have hm2 : m + es.length ≤ 64 * (i + 1) := ar2 hel hm hi9
          show PC _ _
          rw [hPC]
          refine ⟨Hs, _, _, _, _, _, _, _, _, _, _, _, I2, hel2, hm2, rfl⟩
          repeat walk_at "rdk"
          first | refine sp_gen fun zQ zq => ⟨sl, R, pl, c, Ar, _, m, ss, ps, rfl, I.wk.ro, I.wk.now, I.pr.sm _ _ (I.sb _ _ hslB), h2, h5, hA, I.pr.sm _ _ (I.sb _ _ hplB), hp3, fun t d Ha sa ht0 ht fit rgt okm sok => zq _ _ ?_⟩ | refine ⟨sl, R, pl, c, Ar, _, m, ss, ps, rfl, I.wk.ro, I.wk.now, I.pr.sm _ _ (I.sb _ _ hslB), h2, h5, hA, I.pr.sm _ _ (I.sb _ _ hplB), hp3, fun t d Ha sa ht0 ht fit rgt okm sok => ?_⟩
          have Ia := I.same sa
          repeat walk_at "rdk"
          first | refine sp_gen fun zQ zq => ⟨R, Ar, _, m, rfl, Ia.wk.ro, fun ch hch => zq _ _ ?_⟩ | refine ⟨R, Ar, _, m, rfl, Ia.wk.ro, fun ch hch => ?_⟩
          have sb := Same.new hch (o := .lst ((coinsOf Ar (runS S (es.map (·.d)))).map V.int))
          have gch : (upd Ha ch (.lst ((coinsOf Ar (runS S (es.map (·.d)))).map V.int))) ch = some (.lst ((coinsOf Ar (runS S (es.map (·.d)))).map V.int)) := upd_same
          generalize upd Ha ch _ = Hb at sb gch
          (revert Hb sb gch; refine keepIt ?_; intro Hb sb gch)
          have Ib := Ia.same sb
          have htb := sb _ _ ht
          have nch : ch ≠ L := Ne.symm (ne_of_none Ia.wk.jr.li hch)
          repeat walk_at "rdk"
          refine rd_methA Ib.wk.jr.ob rfl ?_
          repeat walk_at "rdk"
          first | refine sp_gen fun zQ zq => ⟨t, d, rfl, sqt_of htb, fun o dxo Hc sc ho0 ho => zq _ _ ?_⟩ | refine ⟨t, d, rfl, sqt_of htb, fun o dxo Hc sc ho0 ho => ?_⟩
          have Ic := Ib.same sc
          have htc := sc _ _ htb
          have gcc := sc _ _ gch
          repeat walk_at "rdk"
          first | refine sp_gen fun zQ zq => ⟨j, dx, R, L, Ar, _, m, es, ⟨o, dxo, d⟩, rfl, Ic.wk.jr, Ic.wk.ro, ho, fit, ar3 hm hi9, ar5 hel hi9 (by decide), fun Hd kd rd Jd => zq _ _ ?_⟩ | refine ⟨j, dx, R, L, Ar, _, m, es, ⟨o, dxo, d⟩, rfl, Ic.wk.jr, Ic.wk.ro, ho, fit, ar3 hm hi9, ar5 hel hi9 (by decide), fun Hd kd rd Jd => ?_⟩
          have WD := Ic.wk.write kd rd Jd rgt (done_nn Ic.wk.now okm fit)
          have htd : Hd t = some (.tup (tellV d)) := by rw [kd _ (Ic.wk.ro.outT htc) (ne_of htc Ic.wk.jr.li (by intro z; cases z))]; exact htc
          have gcd : Hd ch = some (.lst ((coinsOf Ar (runS S (es.map (·.d)))).map V.int)) := by rw [kd _ (Ic.wk.ro.outL gcc) nch]; exact gcc
          have hkd : Hd kp = some (.lst (ts.map V.ref)) := by rw [kd _ (Ic.wk.ro.outL Ic.hk) Ic.nk.1]; exact Ic.hk
          have hwd : Hd wa = some (.lst ws) := by rw [kd _ (Ic.wk.ro.outL Ic.hw) Ic.nw.1]; exact Ic.hw
          repeat walk_at "rdk"
          first | refine sp_gen fun zQ zq => ⟨R, t, d, Ar, _, _, rfl, rd, sqt_of htd, sok, zq _ _ ?_⟩ | refine ⟨R, t, d, Ar, _, _, rfl, rd, sqt_of htd, sok, ?_⟩
          repeat walk_at "rdk"
          first | refine sp_gen fun zQ zq => ⟨R, t, ch, d, Ar, _, _, rfl, rd, sqt_of htd, fit, gcd, fun He se => zq _ _ ?_⟩ | refine ⟨R, t, ch, d, Ar, _, _, rfl, rd, sqt_of htd, fit, gcd, fun He se => ?_⟩
          have hke := se _ _ hkd
          have hwe := se _ _ hwd
          have hwl : ws.length ≤ 64 := by
            have := (dvs_at Ic.dw).1
            rw [was_len, List.length_map] at this
            omega
          repeat walk_at "rdk"
          refine ⟨ty_list (sql_of hke), ?_⟩
          repeat walk_at "rdk"
          refine rd_append hke (by omega) ?_
          have WF := (WD.same se).lst (ys := ts.map V.ref ++ [.ref t]) hke Ic.nk
          have hwf : (upd He kp (.lst (ts.map V.ref ++ [.ref t]))) wa = some (.lst ws) := by rw [upd_ne (Ne.symm Ic.kw)]; exact hwe
          repeat walk_at "rdk"
          refine ⟨ty_list (sql_of hwf), ?_⟩
          repeat walk_at "rdk"
          first | refine sp_gen fun zQ zq => ⟨R, Ar, _, _, rfl, WF.ro.tight nz, by rw [List.length_map, List.length_append]; show es.length + 1 < 64; omega, nr _, fun q vs Hg sg hq0 hq hl hE => zq _ _ ?_⟩ | refine ⟨R, Ar, _, _, rfl, WF.ro.tight nz, by rw [List.length_map, List.length_append]; show es.length + 1 < 64; omega, nr _, fun q vs Hg sg hq0 hq hl hE => ?_⟩
          repeat walk_at "rdk"
          refine rd_append (sg _ _ hwf) (by omega) ?_
          repeat walk_at "rdk"
          obtain ⟨Hs2, I2⟩ := Ic.grow (e := ⟨o, dxo, d⟩) kd WD se htc sg hq0 hq hl hE
          have hel2 : (es ++ [(⟨o, dxo, d⟩ : DI)]).length ≤ i + 1 := by rw [List.length_append]; exact Nat.succ_le_succ hel
          have hm2 : m + 1 ≤ 64 * (i + 1) := ar4 hm
          show PC _ _
          rw [hPC]
          exact ⟨Hs2, _, _, _, _, _, _, _, _, _, _, _, I2, hel2, hm2, rfl⟩
        · clear I
          intro σ' H4 hz
          rw [hPC] at hz
          obtain ⟨Hs2, es2, m2, kp2, wa2, ts2, ws2, v10, v11, v12, v13, v14, I2, hel2, hm2, rfl⟩ := hz
          clear hPC
          have hkS2 : SqL K H4 kp2 (ts2.map V.ref) := sql_of I2.hk
          have hts2 : ts2.length = es2.length := by have := I2.tk.1; rw [List.length_map] at this; exact this.symm
          obtain ⟨dl, da⟩ := dvs_at I2.dw
          rw [was_len, List.length_map] at dl
          have hlt : es2.length < ws2.length := by omega
          have hwl := List.getElem?_eq_getElem hlt
          have dvw := da es2.length _ _ (by have := was_last Ar S (es2.map (·.d)); rwa [List.length_map] at this) hwl
          generalize ws2[es2.length] = wv at hwl dvw
          (revert wv hwl dvw; refine keepIt ?_; intro wv hwl dvw)
          dsimp only
          repeat walk_at "rdk"
          refine rd_methA I2.wk.jr.ob rfl ?_
          repeat walk_at "rdk"
          first | refine sp_gen fun zQ zq => ⟨j, dx, R, L, _, rfl, I2.wk.jr.ob, I2.wk.jr.li, zq _ _ ?_⟩ | refine ⟨j, dx, R, L, _, rfl, I2.wk.jr.ob, I2.wk.jr.li, ?_⟩
          repeat walk_at "rdk"
          first | refine sp_gen fun zQ zq => ⟨_, _, rfl, zq _ _ ?_⟩ | refine ⟨_, _, rfl, ?_⟩
          rw [decide_eq_true (by rw [List.length_map, List.length_map, hts2])]
          repeat walk_at "rdk"
          refine rd_methA I2.wk.jr.ob rfl ?_
          repeat walk_at "rdk"
          first | refine sp_gen fun zQ zq => ⟨j, dx, R, L, Ar, es2, rfl, I2.wk.jr, by omega, fun q1 ts1 H5' s5 hq10 hq1 T1 => zq _ _ ?_⟩ | refine ⟨j, dx, R, L, Ar, es2, rfl, I2.wk.jr, by omega, fun q1 ts1 H5' s5 hq10 hq1 T1 => ?_⟩
          have I3 := I2.same s5
          repeat walk_at "rdk"
          refine rd_neD1 (T1.dv hq1) (I3.tk.dv I3.hk) (tell_dep _) ?_
          repeat walk_at "rdk"
          first | refine sp_gen fun zQ zq => ⟨R, Ar, _, _, rfl, I3.wk.ro.tight nz, by rw [List.length_map]; omega, nr _, fun q2 vs2 H6' s6 hq20 hq2 hl2 hE2 => zq _ _ ?_⟩ | refine ⟨R, Ar, _, _, rfl, I3.wk.ro.tight nz, by rw [List.length_map]; omega, nr _, fun q2 vs2 H6' s6 hq20 hq2 hl2 hE2 => ?_⟩
          have I4 := I3.same s6
          repeat walk_at "rdk"
          refine rd_ixL (sql_of I4.hw) (atI_end hwl (by omega)) ?_
          refine rd_neD1 (all_dv (Hs := H6') (fun b o _ h => h) hq20 hq2 hl2 hE2) (DV.keep I4.pr.sm dvw) (all_dep _ _) ?_
          repeat walk_at "rdk"
          show PV _ _ _
          rw [hPV]
          exact ⟨_, _, _, _, _, _, _, _, _, _, _, _, I4, hel2, hm2, rfl⟩
      · clear I19 hkp9 hwa9 nkp nwa nkw W19 W18 W16 W15 W6 gW gK hwa hkp hu
        intro σ' H' hz
        rw [hPV] at hz
        obtain ⟨Hs, es, m, kp, wa, ts, ws, v10, v11, v12, v13, v14, I, hel, hm, rfl⟩ := hz
        subst hD
        subst hT3
        rw [List.length_map] at hel hm
        dsimp only
        repeat walk_at "rdk"
        refine rd_methA I.wk.jr.ob rfl ?_
        repeat walk_at "rdk"
        first | refine sp_gen fun zQ zq => ⟨j, dx, R, L, Ar, S, m, es, 0, rfl, I.wk.jr, I.wk.ro, I.wk.ri, by omega, fun Ha k2 r2 ri2 J2 => zq _ _ ?_⟩ | refine ⟨j, dx, R, L, Ar, S, m, es, 0, rfl, I.wk.jr, I.wk.ro, I.wk.ri, by omega, fun Ha k2 r2 ri2 J2 => ?_⟩
        have W2 := I.wk.back (n := (0 : Int).toNat) k2 r2 ri2 J2
        have e0 : es.take (0 : Int).toNat = [] := rfl
        rw [e0] at W2
        have P2 : Prot Ar [L, kp, wa] Hs Ha := I.pr.step fun b h1 h2 => k2 b h1 fun z => h2 (by simp [z])
        have hw2 : Ha wa = some (.lst ws) := by rw [k2 _ (I.wk.ro.outL I.hw) I.nw.1]; exact I.hw
        obtain ⟨dl, da⟩ := dvs_at I.dw
        rw [was_len, List.length_map] at dl
        have hlt : 0 < ws.length := by omega
        have hwl := List.getElem?_eq_getElem hlt
        have dvw : DV K Hs (allD Ar S) ws[0] := da 0 (allD Ar S) _ (by unfold wasD; rw [List.getElem?_map, List.getElem?_range (by omega)]; rfl) hwl
        generalize ws[0] = wv at hwl dvw
        (revert wv hwl dvw; refine keepIt ?_; intro wv hwl dvw)
        repeat walk_at "rdk"
        first | refine sp_gen fun zQ zq => ⟨R, Ar, S, 0, rfl, W2.ro.tight (ds := []) nz, by decide, nr [], fun q vs Hb sb hq0 hq hl hE => zq _ _ ?_⟩ | refine ⟨R, Ar, S, 0, rfl, W2.ro.tight (ds := []) nz, by decide, nr [], fun q vs Hb sb hq0 hq hl hE => ?_⟩
        repeat walk_at "rdk"
        refine rd_ixL (sql_of (sb _ _ hw2)) (atI_nat' (i := 0) hwl rfl) ?_
        refine rd_eqD1 (all_dv (Hs := Hb) (fun b o _ h => h) hq0 hq hl hE) (DV.keep (P2.sm.trans sb) dvw) (all_dep _ _) ?_
        have J3 := W2.jr.same sb
        repeat walk_at "rdk"
        refine rd_methA J3.ob rfl ?_
        repeat walk_at "rdk"
        first | refine sp_gen fun zQ zq => ⟨j, dx, R, L, Ar, [], rfl, J3, by decide, fun q1 ts1 Hc sc hq10 hq1 T1 => zq _ _ ?_⟩ | refine ⟨j, dx, R, L, Ar, [], rfl, J3, by decide, fun q1 ts1 Hc sc hq10 hq1 T1 => ?_⟩
        repeat walk_at "rdk"
        refine ⟨by decide, fun e he => ?_⟩
        have sd := Same.new he (o := .lst [])
        refine rd_eqD1 (d := .lst []) (DV.keep sd (T1.dv hq1)) (dv_lst (sql_of upd_same) dvs_nil) (by decide) ?_
        have J4 := (J3.same sc).same sd
        generalize upd Hc e _ = Hd at sd J4
        (revert Hd sd J4; refine keepIt ?_; intro Hd sd J4)
        repeat walk_at "rdk"
        refine rd_methA J4.ob rfl ?_
        repeat walk_at "rdk"
        first | refine sp_gen fun zQ zq => ⟨j, dx, R, L, _, rfl, J4.ob, J4.li, zq _ _ ?_⟩ | refine ⟨j, dx, R, L, _, rfl, J4.ob, J4.li, ?_⟩
        repeat walk_at "rdk"
        have sad := (sb.trans sc).trans sd
        have oj2 := sad _ _ (P2.sm _ _ (I.sb _ _ hj2B))
        have oL2 := sad _ _ (P2.sm _ _ (I.sb _ _ hL2B))
        refine rd_methA oj2 rfl ?_
        repeat walk_at "rdk"
        first | refine sp_gen fun zQ zq => ⟨j2, _, R2, L2, _, rfl, oj2, oL2, zq _ _ ?_⟩ | refine ⟨j2, _, R2, L2, _, rfl, oj2, oL2, ?_⟩
        repeat walk_at "rdk"
        · exact k _
        · rename_i hx
          exact absurd rfl hx

end
end My


namespace L2
open PySem PySem.W
theorem walkX_of {q : Program} {loose : List Str} {XP : (Str → Option Value) → Heap → Prop} {r : RowW} {d : DefRec} {kwd : List (Str × PySem.Expr)} {run : Value → List Value → Sem Value} {K : Params → Frag} {as : List Addr} {n t : Nat} (e : ∀ P, as = (K P).map (·.1))
    (h : WalkO q loose XP (fun w h => (K w.params).In h) r d kwd run) : WalkX q loose XP (X.obsZ as) (X.valZ K n t) r d kwd run :=
  fun w s₀ s₁ mg mb G y a o pm cd doc dV kV h1 h2 h3 h4 h5 h6 args vals as' L => h w s₀ s₁ mg mb G (InK.keeps w s₀.heap s₁.heap (X.z_facts e y).2.1 (Laid.keeps L)) a o pm cd doc dV kV h1 h2 h3 h4 h5 h6 args vals as'
end L2
namespace My
open PySem L2
theorem mk_Account {K : PySem.W.Frag} {h : Heap} {mg : Str → Option Value} {C : Addr} {f0 : Addr} {oc0 kV0 dc0 pm0 cd0 ct0 : Value} {od0 an0 : Option Addr} {sl0 : Array (Option Value)} {f1 : Addr} {oc1 kV1 dc1 pm1 cd1 ct1 : Value} {od1 an1 : Option Addr} {sl1 : Array (Option Value)} {f2 : Addr} {oc2 kV2 dc2 pm2 cd2 ct2 : Value} {od2 an2 : Option Addr} {sl2 : Array (Option Value)} {f3 : Addr} {oc3 kV3 dc3 pm3 cd3 ct3 : Value} {od3 an3 : Option Addr} {sl3 : Array (Option Value)} (X : K.In h) (G : h.Ns mainGlobals mg) (aC : PySem.W.nsIn K mainGlobals "Account" = some (some (.ref C))) (pg : PySem.W.plainGet K C Str.empty = true) (hd : PySem.W.hasDictIn K C = true) (po : PySem.W.plainOver K C = true) (sa : PySem.W.findIn K (.ref C) "__setattr__" = some (some (.builtin "object.__setattr__"))) (mk : PySem.W.makesIn K C = true) (kc : PySem.W.keepIn K (.ref C) = true) (ncoin : PySem.W.findIn K (.ref C) "coin" = some none) (npurse : PySem.W.findIn K (.ref C) "purse" = some none) (ncount : PySem.W.findIn K (.ref C) "count" = some none) (nprogram : PySem.W.findIn K (.ref C) "program" = some none) (nstore : PySem.W.findIn K (.ref C) "store" = some none) (a__init__ : PySem.W.findIn K (.ref C) "__init__" = some (some (.ref f0))) (i__init__ : PySem.W.isFn K (.ref f0) = true) (l__init__ : K.lookup f0 = some ⟨oc0, od0, .func (PySem.W.fnOf "__init__" "Account.__init__" (defArgs s_Account___init__) (defBody s_Account___init__) (defScope s_Account___init__) .none kV0 dc0 pm0 an0 cd0 ct0), sl0⟩) (c__init__ : PySem.W.codeIn K cd0 "Account.__init__" = true) (k__init__ : PySem.W.keepIn K (.ref f0) = true) (aloaded : PySem.W.findIn K (.ref C) "loaded" = some (some (.ref f1))) (iloaded : PySem.W.isFn K (.ref f1) = true) (lloaded : K.lookup f1 = some ⟨oc1, od1, .func (PySem.W.fnOf "loaded" "Account.loaded" (defArgs s_Account_loaded) (defBody s_Account_loaded) (defScope s_Account_loaded) .none kV1 dc1 pm1 an1 cd1 ct1), sl1⟩) (cloaded : PySem.W.codeIn K cd1 "Account.loaded" = true) (kloaded : PySem.W.keepIn K (.ref f1) = true) (akeep : PySem.W.findIn K (.ref C) "keep" = some (some (.ref f2))) (ikeep : PySem.W.isFn K (.ref f2) = true) (lkeep : K.lookup f2 = some ⟨oc2, od2, .func (PySem.W.fnOf "keep" "Account.keep" (defArgs s_Account_keep) (defBody s_Account_keep) (defScope s_Account_keep) .none kV2 dc2 pm2 an2 cd2 ct2), sl2⟩) (ckeep : PySem.W.codeIn K cd2 "Account.keep" = true) (kkeep : PySem.W.keepIn K (.ref f2) = true) (aplain : PySem.W.findIn K (.ref C) "plain" = some (some (.ref f3))) (iplain : PySem.W.isFn K (.ref f3) = true) (lplain : K.lookup f3 = some ⟨oc3, od3, .func (PySem.W.fnOf "plain" "Account.plain" (defArgs s_Account_plain) (defBody s_Account_plain) (defScope s_Account_plain) .none kV3 dc3 pm3 an3 cd3 ct3), sl3⟩) (cplain : PySem.W.codeIn K cd3 "Account.plain" = true) (kplain : PySem.W.keepIn K (.ref f3) = true) : ∃ C, T_Account K mg C ∧ MethAt K C "__init__" "Account.__init__" s_Account___init__ ∧ MethAt K C "loaded" "Account.loaded" s_Account_loaded ∧ MethAt K C "keep" "Account.keep" s_Account_keep ∧ MethAt K C "plain" "Account.plain" s_Account_plain :=
  ⟨C, ⟨⟨⟨pg, hd, po, sa⟩, mk, kc, PySem.W.mg_of X G aC⟩, ncoin, npurse, ncount, nprogram, nstore⟩, methAt_mk a__init__ i__init__ l__init__ c__init__ k__init__, methAt_mk aloaded iloaded lloaded cloaded kloaded, methAt_mk akeep ikeep lkeep ckeep kkeep, methAt_mk aplain iplain lplain cplain kplain⟩
theorem mk_Save {K : PySem.W.Frag} {h : Heap} {mg : Str → Option Value} {C : Addr} {f0 : Addr} {oc0 kV0 dc0 pm0 cd0 ct0 : Value} {od0 an0 : Option Addr} {sl0 : Array (Option Value)} {f1 : Addr} {oc1 kV1 dc1 pm1 cd1 ct1 : Value} {od1 an1 : Option Addr} {sl1 : Array (Option Value)} {f2 : Addr} {oc2 kV2 dc2 pm2 cd2 ct2 : Value} {od2 an2 : Option Addr} {sl2 : Array (Option Value)} {f3 : Addr} {oc3 kV3 dc3 pm3 cd3 ct3 : Value} {od3 an3 : Option Addr} {sl3 : Array (Option Value)} (X : K.In h) (G : h.Ns mainGlobals mg) (aC : PySem.W.nsIn K mainGlobals "Save" = some (some (.ref C))) (pg : PySem.W.plainGet K C Str.empty = true) (hd : PySem.W.hasDictIn K C = true) (po : PySem.W.plainOver K C = true) (sa : PySem.W.findIn K (.ref C) "__setattr__" = some (some (.builtin "object.__setattr__"))) (mk : PySem.W.makesIn K C = true) (kc : PySem.W.keepIn K (.ref C) = true) (nslot : PySem.W.findIn K (.ref C) "slot" = some none) (nplace : PySem.W.findIn K (.ref C) "place" = some none) (nold : PySem.W.findIn K (.ref C) "old" = some none) (nnew : PySem.W.findIn K (.ref C) "new" = some none) (a__init__ : PySem.W.findIn K (.ref C) "__init__" = some (some (.ref f0))) (i__init__ : PySem.W.isFn K (.ref f0) = true) (l__init__ : K.lookup f0 = some ⟨oc0, od0, .func (PySem.W.fnOf "__init__" "Save.__init__" (defArgs s_Save___init__) (defBody s_Save___init__) (defScope s_Save___init__) .none kV0 dc0 pm0 an0 cd0 ct0), sl0⟩) (c__init__ : PySem.W.codeIn K cd0 "Save.__init__" = true) (k__init__ : PySem.W.keepIn K (.ref f0) = true) (ado : PySem.W.findIn K (.ref C) "do" = some (some (.ref f1))) (ido : PySem.W.isFn K (.ref f1) = true) (ldo : K.lookup f1 = some ⟨oc1, od1, .func (PySem.W.fnOf "do" "Save.do" (defArgs s_Save_do) (defBody s_Save_do) (defScope s_Save_do) .none kV1 dc1 pm1 an1 cd1 ct1), sl1⟩) (cdo : PySem.W.codeIn K cd1 "Save.do" = true) (kdo : PySem.W.keepIn K (.ref f1) = true) (aundo : PySem.W.findIn K (.ref C) "undo" = some (some (.ref f2))) (iundo : PySem.W.isFn K (.ref f2) = true) (lundo : K.lookup f2 = some ⟨oc2, od2, .func (PySem.W.fnOf "undo" "Save.undo" (defArgs s_Save_undo) (defBody s_Save_undo) (defScope s_Save_undo) .none kV2 dc2 pm2 an2 cd2 ct2), sl2⟩) (cundo : PySem.W.codeIn K cd2 "Save.undo" = true) (kundo : PySem.W.keepIn K (.ref f2) = true) (atold : PySem.W.findIn K (.ref C) "told" = some (some (.ref f3))) (itold : PySem.W.isFn K (.ref f3) = true) (ltold : K.lookup f3 = some ⟨oc3, od3, .func (PySem.W.fnOf "told" "Save.told" (defArgs s_Save_told) (defBody s_Save_told) (defScope s_Save_told) .none kV3 dc3 pm3 an3 cd3 ct3), sl3⟩) (ctold : PySem.W.codeIn K cd3 "Save.told" = true) (ktold : PySem.W.keepIn K (.ref f3) = true) : ∃ C, T_Save K mg C ∧ MethAt K C "__init__" "Save.__init__" s_Save___init__ ∧ MethAt K C "do" "Save.do" s_Save_do ∧ MethAt K C "undo" "Save.undo" s_Save_undo ∧ MethAt K C "told" "Save.told" s_Save_told :=
  ⟨C, ⟨⟨⟨pg, hd, po, sa⟩, mk, kc, PySem.W.mg_of X G aC⟩, nslot, nplace, nold, nnew⟩, methAt_mk a__init__ i__init__ l__init__ c__init__ k__init__, methAt_mk ado ido ldo cdo kdo, methAt_mk aundo iundo lundo cundo kundo, methAt_mk atold itold ltold ctold ktold⟩
theorem mk_Move {K : PySem.W.Frag} {h : Heap} {mg : Str → Option Value} {C : Addr} {f0 : Addr} {oc0 kV0 dc0 pm0 cd0 ct0 : Value} {od0 an0 : Option Addr} {sl0 : Array (Option Value)} {f1 : Addr} {oc1 kV1 dc1 pm1 cd1 ct1 : Value} {od1 an1 : Option Addr} {sl1 : Array (Option Value)} {f2 : Addr} {oc2 kV2 dc2 pm2 cd2 ct2 : Value} {od2 an2 : Option Addr} {sl2 : Array (Option Value)} {f3 : Addr} {oc3 kV3 dc3 pm3 cd3 ct3 : Value} {od3 an3 : Option Addr} {sl3 : Array (Option Value)} (X : K.In h) (G : h.Ns mainGlobals mg) (aC : PySem.W.nsIn K mainGlobals "Move" = some (some (.ref C))) (pg : PySem.W.plainGet K C Str.empty = true) (hd : PySem.W.hasDictIn K C = true) (po : PySem.W.plainOver K C = true) (sa : PySem.W.findIn K (.ref C) "__setattr__" = some (some (.builtin "object.__setattr__"))) (mk : PySem.W.makesIn K C = true) (kc : PySem.W.keepIn K (.ref C) = true) (nslot : PySem.W.findIn K (.ref C) "slot" = some none) (ntaker : PySem.W.findIn K (.ref C) "taker" = some none) (nmany : PySem.W.findIn K (.ref C) "many" = some none) (a__init__ : PySem.W.findIn K (.ref C) "__init__" = some (some (.ref f0))) (i__init__ : PySem.W.isFn K (.ref f0) = true) (l__init__ : K.lookup f0 = some ⟨oc0, od0, .func (PySem.W.fnOf "__init__" "Move.__init__" (defArgs s_Move___init__) (defBody s_Move___init__) (defScope s_Move___init__) .none kV0 dc0 pm0 an0 cd0 ct0), sl0⟩) (c__init__ : PySem.W.codeIn K cd0 "Move.__init__" = true) (k__init__ : PySem.W.keepIn K (.ref f0) = true) (ado : PySem.W.findIn K (.ref C) "do" = some (some (.ref f1))) (ido : PySem.W.isFn K (.ref f1) = true) (ldo : K.lookup f1 = some ⟨oc1, od1, .func (PySem.W.fnOf "do" "Move.do" (defArgs s_Move_do) (defBody s_Move_do) (defScope s_Move_do) .none kV1 dc1 pm1 an1 cd1 ct1), sl1⟩) (cdo : PySem.W.codeIn K cd1 "Move.do" = true) (kdo : PySem.W.keepIn K (.ref f1) = true) (aundo : PySem.W.findIn K (.ref C) "undo" = some (some (.ref f2))) (iundo : PySem.W.isFn K (.ref f2) = true) (lundo : K.lookup f2 = some ⟨oc2, od2, .func (PySem.W.fnOf "undo" "Move.undo" (defArgs s_Move_undo) (defBody s_Move_undo) (defScope s_Move_undo) .none kV2 dc2 pm2 an2 cd2 ct2), sl2⟩) (cundo : PySem.W.codeIn K cd2 "Move.undo" = true) (kundo : PySem.W.keepIn K (.ref f2) = true) (atold : PySem.W.findIn K (.ref C) "told" = some (some (.ref f3))) (itold : PySem.W.isFn K (.ref f3) = true) (ltold : K.lookup f3 = some ⟨oc3, od3, .func (PySem.W.fnOf "told" "Move.told" (defArgs s_Move_told) (defBody s_Move_told) (defScope s_Move_told) .none kV3 dc3 pm3 an3 cd3 ct3), sl3⟩) (ctold : PySem.W.codeIn K cd3 "Move.told" = true) (ktold : PySem.W.keepIn K (.ref f3) = true) : ∃ C, T_Move K mg C ∧ MethAt K C "__init__" "Move.__init__" s_Move___init__ ∧ MethAt K C "do" "Move.do" s_Move_do ∧ MethAt K C "undo" "Move.undo" s_Move_undo ∧ MethAt K C "told" "Move.told" s_Move_told :=
  ⟨C, ⟨⟨⟨pg, hd, po, sa⟩, mk, kc, PySem.W.mg_of X G aC⟩, nslot, ntaker, nmany⟩, methAt_mk a__init__ i__init__ l__init__ c__init__ k__init__, methAt_mk ado ido ldo cdo kdo, methAt_mk aundo iundo lundo cundo kundo, methAt_mk atold itold ltold ctold ktold⟩
theorem mk_Note {K : PySem.W.Frag} {h : Heap} {mg : Str → Option Value} {C : Addr} {f0 : Addr} {oc0 kV0 dc0 pm0 cd0 ct0 : Value} {od0 an0 : Option Addr} {sl0 : Array (Option Value)} {f1 : Addr} {oc1 kV1 dc1 pm1 cd1 ct1 : Value} {od1 an1 : Option Addr} {sl1 : Array (Option Value)} {f2 : Addr} {oc2 kV2 dc2 pm2 cd2 ct2 : Value} {od2 an2 : Option Addr} {sl2 : Array (Option Value)} {f3 : Addr} {oc3 kV3 dc3 pm3 cd3 ct3 : Value} {od3 an3 : Option Addr} {sl3 : Array (Option Value)} (X : K.In h) (G : h.Ns mainGlobals mg) (aC : PySem.W.nsIn K mainGlobals "Note" = some (some (.ref C))) (pg : PySem.W.plainGet K C Str.empty = true) (hd : PySem.W.hasDictIn K C = true) (po : PySem.W.plainOver K C = true) (sa : PySem.W.findIn K (.ref C) "__setattr__" = some (some (.builtin "object.__setattr__"))) (mk : PySem.W.makesIn K C = true) (kc : PySem.W.keepIn K (.ref C) = true) (nslot : PySem.W.findIn K (.ref C) "slot" = some none) (nnumber : PySem.W.findIn K (.ref C) "number" = some none) (a__init__ : PySem.W.findIn K (.ref C) "__init__" = some (some (.ref f0))) (i__init__ : PySem.W.isFn K (.ref f0) = true) (l__init__ : K.lookup f0 = some ⟨oc0, od0, .func (PySem.W.fnOf "__init__" "Note.__init__" (defArgs s_Note___init__) (defBody s_Note___init__) (defScope s_Note___init__) .none kV0 dc0 pm0 an0 cd0 ct0), sl0⟩) (c__init__ : PySem.W.codeIn K cd0 "Note.__init__" = true) (k__init__ : PySem.W.keepIn K (.ref f0) = true) (atold : PySem.W.findIn K (.ref C) "told" = some (some (.ref f1))) (itold : PySem.W.isFn K (.ref f1) = true) (ltold : K.lookup f1 = some ⟨oc1, od1, .func (PySem.W.fnOf "told" "Note.told" (defArgs s_Note_told) (defBody s_Note_told) (defScope s_Note_told) .none kV1 dc1 pm1 an1 cd1 ct1), sl1⟩) (ctold : PySem.W.codeIn K cd1 "Note.told" = true) (ktold : PySem.W.keepIn K (.ref f1) = true) (ado : PySem.W.findIn K (.ref C) "do" = some (some (.ref f2))) (ido : PySem.W.isFn K (.ref f2) = true) (ldo : K.lookup f2 = some ⟨oc2, od2, .func (PySem.W.fnOf "do" "Deed.do" (defArgs s_Note_do) (defBody s_Note_do) (defScope s_Note_do) .none kV2 dc2 pm2 an2 cd2 ct2), sl2⟩) (cdo : PySem.W.codeIn K cd2 "Deed.do" = true) (kdo : PySem.W.keepIn K (.ref f2) = true) (aundo : PySem.W.findIn K (.ref C) "undo" = some (some (.ref f3))) (iundo : PySem.W.isFn K (.ref f3) = true) (lundo : K.lookup f3 = some ⟨oc3, od3, .func (PySem.W.fnOf "undo" "Deed.undo" (defArgs s_Note_undo) (defBody s_Note_undo) (defScope s_Note_undo) .none kV3 dc3 pm3 an3 cd3 ct3), sl3⟩) (cundo : PySem.W.codeIn K cd3 "Deed.undo" = true) (kundo : PySem.W.keepIn K (.ref f3) = true) : ∃ C, T_Note K mg C ∧ MethAt K C "__init__" "Note.__init__" s_Note___init__ ∧ MethAt K C "told" "Note.told" s_Note_told ∧ MethAt K C "do" "Deed.do" s_Note_do ∧ MethAt K C "undo" "Deed.undo" s_Note_undo :=
  ⟨C, ⟨⟨⟨pg, hd, po, sa⟩, mk, kc, PySem.W.mg_of X G aC⟩, nslot, nnumber⟩, methAt_mk a__init__ i__init__ l__init__ c__init__ k__init__, methAt_mk atold itold ltold ctold ktold, methAt_mk ado ido ldo cdo kdo, methAt_mk aundo iundo lundo cundo kundo⟩
theorem mk_Journal {K : PySem.W.Frag} {h : Heap} {mg : Str → Option Value} {C : Addr} {f0 : Addr} {oc0 kV0 dc0 pm0 cd0 ct0 : Value} {od0 an0 : Option Addr} {sl0 : Array (Option Value)} {f1 : Addr} {oc1 kV1 dc1 pm1 cd1 ct1 : Value} {od1 an1 : Option Addr} {sl1 : Array (Option Value)} {f2 : Addr} {oc2 kV2 dc2 pm2 cd2 ct2 : Value} {od2 an2 : Option Addr} {sl2 : Array (Option Value)} {f3 : Addr} {oc3 kV3 dc3 pm3 cd3 ct3 : Value} {od3 an3 : Option Addr} {sl3 : Array (Option Value)} {f4 : Addr} {oc4 kV4 dc4 pm4 cd4 ct4 : Value} {od4 an4 : Option Addr} {sl4 : Array (Option Value)} (X : K.In h) (G : h.Ns mainGlobals mg) (aC : PySem.W.nsIn K mainGlobals "Journal" = some (some (.ref C))) (pg : PySem.W.plainGet K C Str.empty = true) (hd : PySem.W.hasDictIn K C = true) (po : PySem.W.plainOver K C = true) (sa : PySem.W.findIn K (.ref C) "__setattr__" = some (some (.builtin "object.__setattr__"))) (mk : PySem.W.makesIn K C = true) (kc : PySem.W.keepIn K (.ref C) = true) (nrooms : PySem.W.findIn K (.ref C) "rooms" = some none) (ndeeds : PySem.W.findIn K (.ref C) "deeds" = some none) (a__init__ : PySem.W.findIn K (.ref C) "__init__" = some (some (.ref f0))) (i__init__ : PySem.W.isFn K (.ref f0) = true) (l__init__ : K.lookup f0 = some ⟨oc0, od0, .func (PySem.W.fnOf "__init__" "Journal.__init__" (defArgs s_Journal___init__) (defBody s_Journal___init__) (defScope s_Journal___init__) .none kV0 dc0 pm0 an0 cd0 ct0), sl0⟩) (c__init__ : PySem.W.codeIn K cd0 "Journal.__init__" = true) (k__init__ : PySem.W.keepIn K (.ref f0) = true) (awrite : PySem.W.findIn K (.ref C) "write" = some (some (.ref f1))) (iwrite : PySem.W.isFn K (.ref f1) = true) (lwrite : K.lookup f1 = some ⟨oc1, od1, .func (PySem.W.fnOf "write" "Journal.write" (defArgs s_Journal_write) (defBody s_Journal_write) (defScope s_Journal_write) .none kV1 dc1 pm1 an1 cd1 ct1), sl1⟩) (cwrite : PySem.W.codeIn K cd1 "Journal.write" = true) (kwrite : PySem.W.keepIn K (.ref f1) = true) (amark : PySem.W.findIn K (.ref C) "mark" = some (some (.ref f2))) (imark : PySem.W.isFn K (.ref f2) = true) (lmark : K.lookup f2 = some ⟨oc2, od2, .func (PySem.W.fnOf "mark" "Journal.mark" (defArgs s_Journal_mark) (defBody s_Journal_mark) (defScope s_Journal_mark) .none kV2 dc2 pm2 an2 cd2 ct2), sl2⟩) (cmark : PySem.W.codeIn K cd2 "Journal.mark" = true) (kmark : PySem.W.keepIn K (.ref f2) = true) (aback : PySem.W.findIn K (.ref C) "back" = some (some (.ref f3))) (iback : PySem.W.isFn K (.ref f3) = true) (lback : K.lookup f3 = some ⟨oc3, od3, .func (PySem.W.fnOf "back" "Journal.back" (defArgs s_Journal_back) (defBody s_Journal_back) (defScope s_Journal_back) .none kV3 dc3 pm3 an3 cd3 ct3), sl3⟩) (cback : PySem.W.codeIn K cd3 "Journal.back" = true) (kback : PySem.W.keepIn K (.ref f3) = true) (atold : PySem.W.findIn K (.ref C) "told" = some (some (.ref f4))) (itold : PySem.W.isFn K (.ref f4) = true) (ltold : K.lookup f4 = some ⟨oc4, od4, .func (PySem.W.fnOf "told" "Journal.told" (defArgs s_Journal_told) (defBody s_Journal_told) (defScope s_Journal_told) .none kV4 dc4 pm4 an4 cd4 ct4), sl4⟩) (ctold : PySem.W.codeIn K cd4 "Journal.told" = true) (ktold : PySem.W.keepIn K (.ref f4) = true) : ∃ C, T_Journal K mg C ∧ MethAt K C "__init__" "Journal.__init__" s_Journal___init__ ∧ MethAt K C "write" "Journal.write" s_Journal_write ∧ MethAt K C "mark" "Journal.mark" s_Journal_mark ∧ MethAt K C "back" "Journal.back" s_Journal_back ∧ MethAt K C "told" "Journal.told" s_Journal_told :=
  ⟨C, ⟨⟨⟨pg, hd, po, sa⟩, mk, kc, PySem.W.mg_of X G aC⟩, nrooms, ndeeds⟩, methAt_mk a__init__ i__init__ l__init__ c__init__ k__init__, methAt_mk awrite iwrite lwrite cwrite kwrite, methAt_mk amark imark lmark cmark kmark, methAt_mk aback iback lback cback kback, methAt_mk atold itold ltold ctold ktold⟩
end My
open PySem PySem.W PyProof.Rows
local macro_rules | `(tactic| walk_at "vals") => `(tactic| first
  | exact L2.vals_nil
  | (refine L2.vals_int ?_; walk_at "vals")
  | (refine L2.vals_str ?_; walk_at "vals")
  | fail)
namespace PySem.W.Fast
theorem tw100020710767265530 : True := ⟨⟩
theorem tw10029869962554546894 : True := ⟨⟩
theorem tw10038127537623300510 : True := ⟨⟩
theorem tw10056943557974317835 : True := ⟨⟩
theorem tw10144637567969600057 : True := ⟨⟩
theorem tw1021407980487160905 : True := ⟨⟩
theorem tw10225329353568979551 : True := ⟨⟩
theorem tw10263409683640529508 : True := ⟨⟩
theorem tw10285377609264827303 : True := ⟨⟩
theorem tw10287091666518827511 : True := ⟨⟩
theorem tw10300429916878120311 : True := ⟨⟩
theorem tw10367699898168539056 : True := ⟨⟩
theorem tw10428748863910581362 : True := ⟨⟩
theorem tw10438405046346892874 : True := ⟨⟩
theorem tw10452518752087281486 : True := ⟨⟩
theorem tw10530761697061430036 : True := ⟨⟩
theorem tw10566959267946969731 : True := ⟨⟩
theorem tw10616396149412866694 : True := ⟨⟩
theorem tw10663544893259898320 : True := ⟨⟩
theorem tw10715716057342091332 : True := ⟨⟩
theorem tw10716545845352392349 : True := ⟨⟩
theorem tw107548049065526132 : True := ⟨⟩
theorem tw10755873843281324394 : True := ⟨⟩
theorem tw1076739740323724668 : True := ⟨⟩
theorem tw10777516656270912087 : True := ⟨⟩
theorem tw10800878479752955103 : True := ⟨⟩
theorem tw10894122627057240621 : True := ⟨⟩
theorem tw10919513509129415244 : True := ⟨⟩
theorem tw10948712005526777701 : True := ⟨⟩
theorem tw11002479927220977446 : True := ⟨⟩
theorem tw11097688010130444619 : True := ⟨⟩
theorem tw11107239485268590429 : True := ⟨⟩
theorem tw11210896625907760496 : True := ⟨⟩
theorem tw11283025035637209238 : True := ⟨⟩
theorem tw11313544462282784225 : True := ⟨⟩
theorem tw11344092999724465932 : True := ⟨⟩
theorem tw11407742141035800053 : True := ⟨⟩
theorem tw11468234905648992643 : True := ⟨⟩
theorem tw11595978978584897441 : True := ⟨⟩
theorem tw11624238718612609190 : True := ⟨⟩
theorem tw11642641009540238865 : True := ⟨⟩
theorem tw11695311558229831549 : True := ⟨⟩
theorem tw11712620340833027669 : True := ⟨⟩
theorem tw1180899472066105813 : True := ⟨⟩
theorem tw11822696747334796882 : True := ⟨⟩
theorem tw11862070167808962095 : True := ⟨⟩
theorem tw11869413784201234996 : True := ⟨⟩
theorem tw11919512289947088077 : True := ⟨⟩
theorem tw11962395908480983543 : True := ⟨⟩
theorem tw11988947544311777419 : True := ⟨⟩
theorem tw1199570262148028867 : True := ⟨⟩
theorem tw12035186864895139349 : True := ⟨⟩
theorem tw12050370268467324839 : True := ⟨⟩
theorem tw12094421716879873299 : True := ⟨⟩
theorem tw12185887213766014077 : True := ⟨⟩
theorem tw12190776591089313493 : True := ⟨⟩
theorem tw12225987165576922435 : True := ⟨⟩
theorem tw12233706844435098486 : True := ⟨⟩
theorem tw12238081200832275339 : True := ⟨⟩
theorem tw12325947456775391108 : True := ⟨⟩
theorem tw12358218263843039614 : True := ⟨⟩
theorem tw12365487941438773060 : True := ⟨⟩
theorem tw12404983649646454958 : True := ⟨⟩
theorem tw12459577104619048197 : True := ⟨⟩
theorem tw12484205848047751918 : True := ⟨⟩
theorem tw12525669034461439460 : True := ⟨⟩
theorem tw12536396679005531645 : True := ⟨⟩
theorem tw12592485688667634928 : True := ⟨⟩
theorem tw12677229239449106222 : True := ⟨⟩
theorem tw12690942532462144219 : True := ⟨⟩
theorem tw12723195747889908667 : True := ⟨⟩
theorem tw12735374994452936742 : True := ⟨⟩
theorem tw12758942042922489176 : True := ⟨⟩
theorem tw12801495179308787624 : True := ⟨⟩
theorem tw12813354820195150516 : True := ⟨⟩
theorem tw12817797772505987419 : True := ⟨⟩
theorem tw12887909680885999263 : True := ⟨⟩
theorem tw12897221901823579695 : True := ⟨⟩
theorem tw12948054009914329109 : True := ⟨⟩
theorem tw12949437340098807171 : True := ⟨⟩
theorem tw12954326403220522887 : True := ⟨⟩
theorem tw13069215404117338360 : True := ⟨⟩
theorem tw13201956411294481734 : True := ⟨⟩
theorem tw13226347984504854843 : True := ⟨⟩
theorem tw13271067517382421381 : True := ⟨⟩
theorem tw13298989015256085960 : True := ⟨⟩
theorem tw13353269489165280995 : True := ⟨⟩
theorem tw13368122108899390910 : True := ⟨⟩
theorem tw13376988270293745839 : True := ⟨⟩
theorem tw1341557481955746623 : True := ⟨⟩
theorem tw13438911636824458006 : True := ⟨⟩
theorem tw13614310027578896770 : True := ⟨⟩
theorem tw13621458010499385878 : True := ⟨⟩
theorem tw13699701576943580241 : True := ⟨⟩
theorem tw13708754354714869444 : True := ⟨⟩
theorem tw13782596219283573215 : True := ⟨⟩
theorem tw13845351090039042500 : True := ⟨⟩
theorem tw13847560411867733744 : True := ⟨⟩
theorem tw13879744591612819074 : True := ⟨⟩
theorem tw13968246601254222929 : True := ⟨⟩
theorem tw13979759604019016921 : True := ⟨⟩
theorem tw14026909173777105849 : True := ⟨⟩
theorem tw14087635179601599353 : True := ⟨⟩
theorem tw14134213087402848694 : True := ⟨⟩
theorem tw14185956537134863700 : True := ⟨⟩
theorem tw14269694494220238099 : True := ⟨⟩
theorem tw14284774663236127929 : True := ⟨⟩
theorem tw14291268438693579343 : True := ⟨⟩
theorem tw14296841274942347308 : True := ⟨⟩
theorem tw14324414517296104817 : True := ⟨⟩
theorem tw14463220376247601914 : True := ⟨⟩
theorem tw14476573666703652285 : True := ⟨⟩
theorem tw1452696825836747320 : True := ⟨⟩
theorem tw14560955742363109034 : True := ⟨⟩
theorem tw14629106749896924904 : True := ⟨⟩
theorem tw14636253998675525845 : True := ⟨⟩
theorem tw14667759688694620838 : True := ⟨⟩
theorem tw14677433674982431913 : True := ⟨⟩
theorem tw14763951997852539938 : True := ⟨⟩
theorem tw1485064652528720082 : True := ⟨⟩
theorem tw14864100001447344570 : True := ⟨⟩
theorem tw14945186536924386195 : True := ⟨⟩
theorem tw14960098988917155074 : True := ⟨⟩
theorem tw15022940376090093855 : True := ⟨⟩
theorem tw15028069973885805261 : True := ⟨⟩
theorem tw15084493479843850316 : True := ⟨⟩
theorem tw15112927107555793290 : True := ⟨⟩
theorem tw15119581338272638868 : True := ⟨⟩
theorem tw15172760633552800642 : True := ⟨⟩
theorem tw15222383111461674663 : True := ⟨⟩
theorem tw15254636330880275811 : True := ⟨⟩
theorem tw15442026023630937937 : True := ⟨⟩
theorem tw15449008649689801197 : True := ⟨⟩
theorem tw15457510069781721680 : True := ⟨⟩
theorem tw1547265257629533819 : True := ⟨⟩
theorem tw15517312853990272008 : True := ⟨⟩
theorem tw15585545867654385759 : True := ⟨⟩
theorem tw15625254064020589402 : True := ⟨⟩
theorem tw15646667829992373407 : True := ⟨⟩
theorem tw15672453442037529157 : True := ⟨⟩
theorem tw15776561696936040418 : True := ⟨⟩
theorem tw15778659116749057114 : True := ⟨⟩
theorem tw15853051260026319149 : True := ⟨⟩
theorem tw15908709169294052684 : True := ⟨⟩
theorem tw15947195611173618149 : True := ⟨⟩
theorem tw1595152950847604006 : True := ⟨⟩
theorem tw15955374259512331534 : True := ⟨⟩
theorem tw15965433340505082683 : True := ⟨⟩
theorem tw16142417498047843904 : True := ⟨⟩
theorem tw16218970175501410969 : True := ⟨⟩
theorem tw16227763074504657164 : True := ⟨⟩
theorem tw16256294201066561001 : True := ⟨⟩
theorem tw16302942663787135278 : True := ⟨⟩
theorem tw16411376361350139541 : True := ⟨⟩
theorem tw16412550461902210291 : True := ⟨⟩
theorem tw16429068005742219196 : True := ⟨⟩
theorem tw16438634765924345136 : True := ⟨⟩
theorem tw16483888468381430541 : True := ⟨⟩
theorem tw16487838005214339418 : True := ⟨⟩
theorem tw16489592131089793440 : True := ⟨⟩
theorem tw16543496419140698379 : True := ⟨⟩
theorem tw16620661874179505474 : True := ⟨⟩
theorem tw16648950013851010436 : True := ⟨⟩
theorem tw16655530331988177915 : True := ⟨⟩
theorem tw16659720693350228106 : True := ⟨⟩
theorem tw16668287896891932517 : True := ⟨⟩
theorem tw16682468043082225354 : True := ⟨⟩
theorem tw16770521724588661044 : True := ⟨⟩
theorem tw16783726254722632189 : True := ⟨⟩
theorem tw16842689797340001247 : True := ⟨⟩
theorem tw16906825859797241573 : True := ⟨⟩
theorem tw1691415268104724262 : True := ⟨⟩
theorem tw16935784228562268784 : True := ⟨⟩
theorem tw16990802287004484648 : True := ⟨⟩
theorem tw17049980057644396684 : True := ⟨⟩
theorem tw17129105891744596554 : True := ⟨⟩
theorem tw1715925864052882366 : True := ⟨⟩
theorem tw17166923365614799015 : True := ⟨⟩
theorem tw17190202413793581581 : True := ⟨⟩
theorem tw17217196046860171813 : True := ⟨⟩
theorem tw17232238814058375906 : True := ⟨⟩
theorem tw1724285180475266528 : True := ⟨⟩
theorem tw1736319451058522279 : True := ⟨⟩
theorem tw17368654308162251876 : True := ⟨⟩
theorem tw1739292387976187379 : True := ⟨⟩
theorem tw17403795669078410518 : True := ⟨⟩
theorem tw17406044535557303943 : True := ⟨⟩
theorem tw17419774805128177441 : True := ⟨⟩
theorem tw17464221397500005452 : True := ⟨⟩
theorem tw17489186743251798807 : True := ⟨⟩
theorem tw17495875531797152498 : True := ⟨⟩
theorem tw1757496394374258472 : True := ⟨⟩
theorem tw17599191169487200036 : True := ⟨⟩
theorem tw176727086071948705 : True := ⟨⟩
theorem tw17677848765793777672 : True := ⟨⟩
theorem tw17723422662206350827 : True := ⟨⟩
theorem tw1774329456205018554 : True := ⟨⟩
theorem tw17755057026411426883 : True := ⟨⟩
theorem tw17785212850499181392 : True := ⟨⟩
theorem tw17795101112215522642 : True := ⟨⟩
theorem tw17832062899339781703 : True := ⟨⟩
theorem tw17878693410506928946 : True := ⟨⟩
theorem tw17940621004257062170 : True := ⟨⟩
theorem tw17964033547826474350 : True := ⟨⟩
theorem tw1796890785020450440 : True := ⟨⟩
theorem tw18036353627163982523 : True := ⟨⟩
theorem tw18042826560049377654 : True := ⟨⟩
theorem tw18043333184316142166 : True := ⟨⟩
theorem tw18046133825032579093 : True := ⟨⟩
theorem tw18073794007670905651 : True := ⟨⟩
theorem tw18105207241569117561 : True := ⟨⟩
theorem tw18105952009077683460 : True := ⟨⟩
theorem tw18120882244694391692 : True := ⟨⟩
theorem tw18122274938909627093 : True := ⟨⟩
theorem tw1815104768521381565 : True := ⟨⟩
theorem tw18292571371058196703 : True := ⟨⟩
theorem tw18325052945627994657 : True := ⟨⟩
theorem tw18365440903099884464 : True := ⟨⟩
theorem tw18366611459369263942 : True := ⟨⟩
theorem tw189402226208216960 : True := ⟨⟩
theorem tw1914283348059072841 : True := ⟨⟩
theorem tw1927338173065440896 : True := ⟨⟩
theorem tw1990741868025429397 : True := ⟨⟩
theorem tw2037920706445988633 : True := ⟨⟩
theorem tw2045510391507351923 : True := ⟨⟩
theorem tw209799198548399720 : True := ⟨⟩
theorem tw2110545310423391787 : True := ⟨⟩
theorem tw2132361019290303454 : True := ⟨⟩
theorem tw2150927913486128345 : True := ⟨⟩
theorem tw2154370054054382782 : True := ⟨⟩
theorem tw2166761336267832955 : True := ⟨⟩
theorem tw2311510216310155857 : True := ⟨⟩
theorem tw2386539029642584122 : True := ⟨⟩
theorem tw239466900959867156 : True := ⟨⟩
theorem tw2430884012104219578 : True := ⟨⟩
theorem tw2486800114531068644 : True := ⟨⟩
theorem tw2522150075395802955 : True := ⟨⟩
theorem tw2585211040041271276 : True := ⟨⟩
theorem tw2731580672844409671 : True := ⟨⟩
theorem tw2742069722502249485 : True := ⟨⟩
theorem tw2798748655534587382 : True := ⟨⟩
theorem tw2817256586708285761 : True := ⟨⟩
theorem tw2836478544867521208 : True := ⟨⟩
theorem tw2841682936731761939 : True := ⟨⟩
theorem tw2849079603075025712 : True := ⟨⟩
theorem tw2857372488296550350 : True := ⟨⟩
theorem tw2946376988549388411 : True := ⟨⟩
theorem tw2975506523656432433 : True := ⟨⟩
theorem tw2992182007862193103 : True := ⟨⟩
theorem tw3007617043692026875 : True := ⟨⟩
theorem tw3019159818192733202 : True := ⟨⟩
theorem tw3034877808632610825 : True := ⟨⟩
theorem tw3053897670830942702 : True := ⟨⟩
theorem tw3095728200441118825 : True := ⟨⟩
theorem tw3097499798693012493 : True := ⟨⟩
theorem tw311770525493090532 : True := ⟨⟩
theorem tw3151309044836168586 : True := ⟨⟩
theorem tw3170550738459094125 : True := ⟨⟩
theorem tw3189176707699824481 : True := ⟨⟩
theorem tw3223556065025837789 : True := ⟨⟩
theorem tw3261972696075850975 : True := ⟨⟩
theorem tw3267693422101499367 : True := ⟨⟩
theorem tw3306455937454040641 : True := ⟨⟩
theorem tw3327556942698532854 : True := ⟨⟩
theorem tw3378896207635155250 : True := ⟨⟩
theorem tw3479089940698434259 : True := ⟨⟩
theorem tw3498256578400124272 : True := ⟨⟩
theorem tw3515770204645145572 : True := ⟨⟩
theorem tw3584965494499474118 : True := ⟨⟩
theorem tw3641500351029616553 : True := ⟨⟩
theorem tw3671923461733461199 : True := ⟨⟩
theorem tw3676526127905259002 : True := ⟨⟩
theorem tw3686000122931552501 : True := ⟨⟩
theorem tw3772858156925411609 : True := ⟨⟩
theorem tw3803770681105508399 : True := ⟨⟩
theorem tw3804229853659056660 : True := ⟨⟩
theorem tw3817127845889539204 : True := ⟨⟩
theorem tw3860983254223607371 : True := ⟨⟩
theorem tw3867316760559868073 : True := ⟨⟩
theorem tw3942037826749926267 : True := ⟨⟩
theorem tw3965567962821587336 : True := ⟨⟩
theorem tw3980824362050677826 : True := ⟨⟩
theorem tw3989255980294531466 : True := ⟨⟩
theorem tw408478511867942621 : True := ⟨⟩
theorem tw410858015408838591 : True := ⟨⟩
theorem tw4119843009135247332 : True := ⟨⟩
theorem tw4155816768949424310 : True := ⟨⟩
theorem tw4176311840110628268 : True := ⟨⟩
theorem tw4272897315634993329 : True := ⟨⟩
theorem tw4543584611873111147 : True := ⟨⟩
theorem tw4559164961990172219 : True := ⟨⟩
theorem tw4625676310715476308 : True := ⟨⟩
theorem tw4629742007161945859 : True := ⟨⟩
theorem tw4678112188388854105 : True := ⟨⟩
theorem tw4686451766097773305 : True := ⟨⟩
theorem tw4773719310878409082 : True := ⟨⟩
theorem tw4787088226563030147 : True := ⟨⟩
theorem tw4791460749561481825 : True := ⟨⟩
theorem tw480946682515119785 : True := ⟨⟩
theorem tw4834304711751197532 : True := ⟨⟩
theorem tw4884196805565349045 : True := ⟨⟩
theorem tw4890585681763610441 : True := ⟨⟩
theorem tw4932224419564159398 : True := ⟨⟩
theorem tw4969082869900731366 : True := ⟨⟩
theorem tw505413017428694458 : True := ⟨⟩
theorem tw5137088876090339267 : True := ⟨⟩
theorem tw515558047460048887 : True := ⟨⟩
theorem tw5176779006444382962 : True := ⟨⟩
theorem tw5237522573272891421 : True := ⟨⟩
theorem tw5280122443209080229 : True := ⟨⟩
theorem tw5333706287871025413 : True := ⟨⟩
theorem tw534938372519121754 : True := ⟨⟩
theorem tw5385405692805610169 : True := ⟨⟩
theorem tw5423143636676791986 : True := ⟨⟩
theorem tw5424645636803934826 : True := ⟨⟩
theorem tw5446485612324001510 : True := ⟨⟩
theorem tw5453263811466808411 : True := ⟨⟩
theorem tw5498843117761340708 : True := ⟨⟩
theorem tw5505723776758010836 : True := ⟨⟩
theorem tw5508910536592609656 : True := ⟨⟩
theorem tw5558793773508647282 : True := ⟨⟩
theorem tw5561086714702922763 : True := ⟨⟩
theorem tw5616605633970983270 : True := ⟨⟩
theorem tw569330930392050024 : True := ⟨⟩
theorem tw5848167901543149432 : True := ⟨⟩
theorem tw5880426334920519409 : True := ⟨⟩
theorem tw5899088034761728057 : True := ⟨⟩
theorem tw5910004497484012746 : True := ⟨⟩
theorem tw5927318313564582257 : True := ⟨⟩
theorem tw5929460841715125669 : True := ⟨⟩
theorem tw59591783445008381 : True := ⟨⟩
theorem tw5984395497914638422 : True := ⟨⟩
theorem tw6143208779615352542 : True := ⟨⟩
theorem tw6200636631239157549 : True := ⟨⟩
theorem tw6214133102223332639 : True := ⟨⟩
theorem tw6255663490672666900 : True := ⟨⟩
theorem tw6262952442982876867 : True := ⟨⟩
theorem tw6264423050879361443 : True := ⟨⟩
theorem tw6269249136367957803 : True := ⟨⟩
theorem tw6455320895579725497 : True := ⟨⟩
theorem tw6488272143766606091 : True := ⟨⟩
theorem tw650810659459663066 : True := ⟨⟩
theorem tw6518556761100158152 : True := ⟨⟩
theorem tw6555343510927036830 : True := ⟨⟩
theorem tw6603073029647429674 : True := ⟨⟩
theorem tw666810369021629500 : True := ⟨⟩
theorem tw6676522832788225694 : True := ⟨⟩
theorem tw669172662700568260 : True := ⟨⟩
theorem tw681482320547764178 : True := ⟨⟩
theorem tw6825185039310773984 : True := ⟨⟩
theorem tw6885903383555284104 : True := ⟨⟩
theorem tw6950408473406808103 : True := ⟨⟩
theorem tw7056106494607359121 : True := ⟨⟩
theorem tw7071245007380930873 : True := ⟨⟩
theorem tw7082947140175112066 : True := ⟨⟩
theorem tw7085946887991178968 : True := ⟨⟩
theorem tw70862662624163789 : True := ⟨⟩
theorem tw7113494542918440913 : True := ⟨⟩
theorem tw7248224539659811319 : True := ⟨⟩
theorem tw7263187334740112556 : True := ⟨⟩
theorem tw7292052591995522841 : True := ⟨⟩
theorem tw7294111698610794279 : True := ⟨⟩
theorem tw7299810755297792676 : True := ⟨⟩
theorem tw7382570153967738653 : True := ⟨⟩
theorem tw7441349870905407448 : True := ⟨⟩
theorem tw7477414677507239079 : True := ⟨⟩
theorem tw7478402021303687226 : True := ⟨⟩
theorem tw7490978699537252674 : True := ⟨⟩
theorem tw7493782816433124445 : True := ⟨⟩
theorem tw7495075059888177658 : True := ⟨⟩
theorem tw7500137023640913779 : True := ⟨⟩
theorem tw7500889861408457978 : True := ⟨⟩
theorem tw7568937427230105186 : True := ⟨⟩
theorem tw758720865672754956 : True := ⟨⟩
theorem tw7595219502557998043 : True := ⟨⟩
theorem tw7626662712420417525 : True := ⟨⟩
theorem tw7662980340362138594 : True := ⟨⟩
theorem tw7690974411370439923 : True := ⟨⟩
theorem tw7705316690800883762 : True := ⟨⟩
theorem tw7769845461950076462 : True := ⟨⟩
theorem tw7794627403935432174 : True := ⟨⟩
theorem tw7806754621969343956 : True := ⟨⟩
theorem tw7837953753453366577 : True := ⟨⟩
theorem tw7853655619355460154 : True := ⟨⟩
theorem tw7872726028771997659 : True := ⟨⟩
theorem tw7968051640291159540 : True := ⟨⟩
theorem tw8003529503844808813 : True := ⟨⟩
theorem tw8155396418170776936 : True := ⟨⟩
theorem tw8159694097836935547 : True := ⟨⟩
theorem tw8264234841079476153 : True := ⟨⟩
theorem tw8296161589390280367 : True := ⟨⟩
theorem tw8361578662225323991 : True := ⟨⟩
theorem tw8370821761629365925 : True := ⟨⟩
theorem tw8401660149685822490 : True := ⟨⟩
theorem tw8416632889505011324 : True := ⟨⟩
theorem tw8440191008979099696 : True := ⟨⟩
theorem tw8440745976884017657 : True := ⟨⟩
theorem tw8466665216986229497 : True := ⟨⟩
theorem tw8522603697782381718 : True := ⟨⟩
theorem tw8580859689094363379 : True := ⟨⟩
theorem tw8630549185126600883 : True := ⟨⟩
theorem tw8664010854450797086 : True := ⟨⟩
theorem tw8675174284021604194 : True := ⟨⟩
theorem tw870911755329233360 : True := ⟨⟩
theorem tw8711709831390604528 : True := ⟨⟩
theorem tw8722000359532358927 : True := ⟨⟩
theorem tw8793170198133877241 : True := ⟨⟩
theorem tw8799882374800584007 : True := ⟨⟩
theorem tw8836264038269601853 : True := ⟨⟩
theorem tw8881240150283707886 : True := ⟨⟩
theorem tw8887358215612289887 : True := ⟨⟩
theorem tw8940175532275285516 : True := ⟨⟩
theorem tw9007403181360791977 : True := ⟨⟩
theorem tw9085480597492618277 : True := ⟨⟩
theorem tw9144470377320625331 : True := ⟨⟩
theorem tw9163423130885108619 : True := ⟨⟩
theorem tw9193724484589624642 : True := ⟨⟩
theorem tw9263458661613577501 : True := ⟨⟩
theorem tw9276627213757641481 : True := ⟨⟩
theorem tw9351216682732621465 : True := ⟨⟩
theorem tw9441000857853125963 : True := ⟨⟩
theorem tw9447392725514996570 : True := ⟨⟩
theorem tw944959270524957217 : True := ⟨⟩
theorem tw9451624215425703366 : True := ⟨⟩
theorem tw9461105264534011491 : True := ⟨⟩
theorem tw9461655100787584559 : True := ⟨⟩
theorem tw9709466403986863743 : True := ⟨⟩
theorem tw9739255359075936555 : True := ⟨⟩
theorem tw9752356221943484376 : True := ⟨⟩
theorem tw9851977934994162969 : True := ⟨⟩
theorem tw9871735668137226630 : True := ⟨⟩
theorem tw988089479190013317 : True := ⟨⟩
theorem tw9908945481360298632 : True := ⟨⟩
theorem tw9917783588264259002 : True := ⟨⟩
theorem tw9939827705514385621 : True := ⟨⟩
theorem tw9971943481834011652 : True := ⟨⟩
theorem tw9973808645778242071 : True := ⟨⟩
end PySem.W.Fast
set_option maxRecDepth 100000 in
set_option maxHeartbeats 0 in
theorem PySem.Challenge.cw_meterhouse_k25_journal_back_holds : PySem.Challenge.rw_meterhouse_k25_journal_back.Holds := by
  w_on; o_law; z_head; (case hw => w_witness2)
  k_fill
  refine L2.walkX_of (fun _ => by kernel_rfl) ?_
  refine L2.walk_ofK (l := PySem.Challenge.rw_meterhouse_k25_journal_back) (n := 63) (k := 4) (x := "_law_script") (CX := L2.CX0) (sp := My.spLaw) rfl (by decide) rfl ⟨rfl, by decide, by decide⟩ (fun w h Y => Y) ?F ?S ?C
  case F =>
    intro w mg fa h KX G hmg
    have D_row_numbers : L2.DefAt (L2.KOf KX) mg "row_numbers" My.s_row_numbers := by
      dsimp only [L2.KOf]
      refine' L2.defAt_mk KX G ?a ?l ?c ?k
      (case a => k_is); (case l => k_is); (case c => k_is); (case k => k_is)
    have D_shift_coin : L2.DefAt (L2.KOf KX) mg "shift_coin" My.s_shift_coin := by
      dsimp only [L2.KOf]
      refine' L2.defAt_mk KX G ?a ?l ?c ?k
      (case a => k_is); (case l => k_is); (case c => k_is); (case k => k_is)
    have D_Lcell_at : L2.DefAt (L2.KOf KX) mg "_law_cell_at" My.s_Lcell_at := by
      dsimp only [L2.KOf]
      refine' L2.defAt_mk KX G ?a ?l ?c ?k
      (case a => k_is); (case l => k_is); (case c => k_is); (case k => k_is)
    have D_Lmixed : L2.DefAt (L2.KOf KX) mg "_law_mixed" My.s_Lmixed := by
      dsimp only [L2.KOf]
      refine' L2.defAt_mk KX G ?a ?l ?c ?k
      (case a => k_is); (case l => k_is); (case c => k_is); (case k => k_is)
    have D_Lwide : L2.DefAt (L2.KOf KX) mg "_law_wide" My.s_Lwide := by
      dsimp only [L2.KOf]
      refine' L2.defAt_mk KX G ?a ?l ?c ?k
      (case a => k_is); (case l => k_is); (case c => k_is); (case k => k_is)
    have D_Lslots_by : L2.DefAt (L2.KOf KX) mg "_law_slots_by" My.s_Lslots_by := by
      dsimp only [L2.KOf]
      refine' L2.defAt_mk KX G ?a ?l ?c ?k
      (case a => k_is); (case l => k_is); (case c => k_is); (case k => k_is)
    have D_Lplaces_by : L2.DefAt (L2.KOf KX) mg "_law_places_by" My.s_Lplaces_by := by
      dsimp only [L2.KOf]
      refine' L2.defAt_mk KX G ?a ?l ?c ?k
      (case a => k_is); (case l => k_is); (case c => k_is); (case k => k_is)
    have D_Lmade : L2.DefAt (L2.KOf KX) mg "_law_made" My.s_Lmade := by
      dsimp only [L2.KOf]
      refine' L2.defAt_mk KX G ?a ?l ?c ?k
      (case a => k_is); (case l => k_is); (case c => k_is); (case k => k_is)
    have D_Lwhole : L2.DefAt (L2.KOf KX) mg "_law_whole" My.s_Lwhole := by
      dsimp only [L2.KOf]
      refine' L2.defAt_mk KX G ?a ?l ?c ?k
      (case a => k_is); (case l => k_is); (case c => k_is); (case k => k_is)
    have D_Lcoins : L2.DefAt (L2.KOf KX) mg "_law_coins" My.s_Lcoins := by
      dsimp only [L2.KOf]
      refine' L2.defAt_mk KX G ?a ?l ?c ?k
      (case a => k_is); (case l => k_is); (case c => k_is); (case k => k_is)
    have D_Lall : L2.DefAt (L2.KOf KX) mg "_law_all" My.s_Lall := by
      dsimp only [L2.KOf]
      refine' L2.defAt_mk KX G ?a ?l ?c ?k
      (case a => k_is); (case l => k_is); (case c => k_is); (case k => k_is)
    have D_Ldeed_by : L2.DefAt (L2.KOf KX) mg "_law_deed_by" My.s_Ldeed_by := by
      dsimp only [L2.KOf]
      refine' L2.defAt_mk KX G ?a ?l ?c ?k
      (case a => k_is); (case l => k_is); (case c => k_is); (case k => k_is)
    have D_Lshows : L2.DefAt (L2.KOf KX) mg "_law_shows" My.s_Lshows := by
      dsimp only [L2.KOf]
      refine' L2.defAt_mk KX G ?a ?l ?c ?k
      (case a => k_is); (case l => k_is); (case c => k_is); (case k => k_is)
    have D_Lpaid : L2.DefAt (L2.KOf KX) mg "_law_paid" My.s_Lpaid := by
      dsimp only [L2.KOf]
      refine' L2.defAt_mk KX G ?a ?l ?c ?k
      (case a => k_is); (case l => k_is); (case c => k_is); (case k => k_is)
    have D_law : L2.DefAt (L2.KOf KX) mg "law" My.s_law := by
      dsimp only [L2.KOf]
      refine' L2.defAt_mk KX G ?a ?l ?c ?k
      (case a => k_is); (case l => k_is); (case c => k_is); (case k => k_is)
    have x_Account : ∃ C, My.T_Account (L2.KOf KX) mg C ∧ L2.MethAt (L2.KOf KX) C "__init__" "Account.__init__" My.s_Account___init__ ∧ L2.MethAt (L2.KOf KX) C "loaded" "Account.loaded" My.s_Account_loaded ∧ L2.MethAt (L2.KOf KX) C "keep" "Account.keep" My.s_Account_keep ∧ L2.MethAt (L2.KOf KX) C "plain" "Account.plain" My.s_Account_plain := by
      dsimp only [L2.KOf]
      refine' My.mk_Account KX G ?aC ?pg ?hd ?po ?sa ?mk ?kc ?ncoin ?npurse ?ncount ?nprogram ?nstore ?a__init__ ?i__init__ ?l__init__ ?c__init__ ?k__init__ ?aloaded ?iloaded ?lloaded ?cloaded ?kloaded ?akeep ?ikeep ?lkeep ?ckeep ?kkeep ?aplain ?iplain ?lplain ?cplain ?kplain
      (case aC => k_is); (case pg => k_is); (case hd => k_is); (case po => k_is); (case sa => k_is); (case mk => k_is); (case kc => k_is); (case ncoin => k_is); (case npurse => k_is); (case ncount => k_is); (case nprogram => k_is); (case nstore => k_is); (case a__init__ => k_is); (case i__init__ => k_is); (case l__init__ => k_is); (case c__init__ => k_is); (case k__init__ => k_is); (case aloaded => k_is); (case iloaded => k_is); (case lloaded => k_is); (case cloaded => k_is); (case kloaded => k_is); (case akeep => k_is); (case ikeep => k_is); (case lkeep => k_is); (case ckeep => k_is); (case kkeep => k_is); (case aplain => k_is); (case iplain => k_is); (case lplain => k_is); (case cplain => k_is); (case kplain => k_is)
    obtain ⟨cAccount, tAccount, D_Account___init__, D_Account_loaded, D_Account_keep, D_Account_plain⟩ := x_Account
    have x_Save : ∃ C, My.T_Save (L2.KOf KX) mg C ∧ L2.MethAt (L2.KOf KX) C "__init__" "Save.__init__" My.s_Save___init__ ∧ L2.MethAt (L2.KOf KX) C "do" "Save.do" My.s_Save_do ∧ L2.MethAt (L2.KOf KX) C "undo" "Save.undo" My.s_Save_undo ∧ L2.MethAt (L2.KOf KX) C "told" "Save.told" My.s_Save_told := by
      dsimp only [L2.KOf]
      refine' My.mk_Save KX G ?aC ?pg ?hd ?po ?sa ?mk ?kc ?nslot ?nplace ?nold ?nnew ?a__init__ ?i__init__ ?l__init__ ?c__init__ ?k__init__ ?ado ?ido ?ldo ?cdo ?kdo ?aundo ?iundo ?lundo ?cundo ?kundo ?atold ?itold ?ltold ?ctold ?ktold
      (case aC => k_is); (case pg => k_is); (case hd => k_is); (case po => k_is); (case sa => k_is); (case mk => k_is); (case kc => k_is); (case nslot => k_is); (case nplace => k_is); (case nold => k_is); (case nnew => k_is); (case a__init__ => k_is); (case i__init__ => k_is); (case l__init__ => k_is); (case c__init__ => k_is); (case k__init__ => k_is); (case ado => k_is); (case ido => k_is); (case ldo => k_is); (case cdo => k_is); (case kdo => k_is); (case aundo => k_is); (case iundo => k_is); (case lundo => k_is); (case cundo => k_is); (case kundo => k_is); (case atold => k_is); (case itold => k_is); (case ltold => k_is); (case ctold => k_is); (case ktold => k_is)
    obtain ⟨cSave, tSave, D_Save___init__, D_Save_do, D_Save_undo, D_Save_told⟩ := x_Save
    have x_Move : ∃ C, My.T_Move (L2.KOf KX) mg C ∧ L2.MethAt (L2.KOf KX) C "__init__" "Move.__init__" My.s_Move___init__ ∧ L2.MethAt (L2.KOf KX) C "do" "Move.do" My.s_Move_do ∧ L2.MethAt (L2.KOf KX) C "undo" "Move.undo" My.s_Move_undo ∧ L2.MethAt (L2.KOf KX) C "told" "Move.told" My.s_Move_told := by
      dsimp only [L2.KOf]
      refine' My.mk_Move KX G ?aC ?pg ?hd ?po ?sa ?mk ?kc ?nslot ?ntaker ?nmany ?a__init__ ?i__init__ ?l__init__ ?c__init__ ?k__init__ ?ado ?ido ?ldo ?cdo ?kdo ?aundo ?iundo ?lundo ?cundo ?kundo ?atold ?itold ?ltold ?ctold ?ktold
      (case aC => k_is); (case pg => k_is); (case hd => k_is); (case po => k_is); (case sa => k_is); (case mk => k_is); (case kc => k_is); (case nslot => k_is); (case ntaker => k_is); (case nmany => k_is); (case a__init__ => k_is); (case i__init__ => k_is); (case l__init__ => k_is); (case c__init__ => k_is); (case k__init__ => k_is); (case ado => k_is); (case ido => k_is); (case ldo => k_is); (case cdo => k_is); (case kdo => k_is); (case aundo => k_is); (case iundo => k_is); (case lundo => k_is); (case cundo => k_is); (case kundo => k_is); (case atold => k_is); (case itold => k_is); (case ltold => k_is); (case ctold => k_is); (case ktold => k_is)
    obtain ⟨cMove, tMove, D_Move___init__, D_Move_do, D_Move_undo, D_Move_told⟩ := x_Move
    have x_Note : ∃ C, My.T_Note (L2.KOf KX) mg C ∧ L2.MethAt (L2.KOf KX) C "__init__" "Note.__init__" My.s_Note___init__ ∧ L2.MethAt (L2.KOf KX) C "told" "Note.told" My.s_Note_told ∧ L2.MethAt (L2.KOf KX) C "do" "Deed.do" My.s_Note_do ∧ L2.MethAt (L2.KOf KX) C "undo" "Deed.undo" My.s_Note_undo := by
      dsimp only [L2.KOf]
      refine' My.mk_Note KX G ?aC ?pg ?hd ?po ?sa ?mk ?kc ?nslot ?nnumber ?a__init__ ?i__init__ ?l__init__ ?c__init__ ?k__init__ ?atold ?itold ?ltold ?ctold ?ktold ?ado ?ido ?ldo ?cdo ?kdo ?aundo ?iundo ?lundo ?cundo ?kundo
      (case aC => k_is); (case pg => k_is); (case hd => k_is); (case po => k_is); (case sa => k_is); (case mk => k_is); (case kc => k_is); (case nslot => k_is); (case nnumber => k_is); (case a__init__ => k_is); (case i__init__ => k_is); (case l__init__ => k_is); (case c__init__ => k_is); (case k__init__ => k_is); (case atold => k_is); (case itold => k_is); (case ltold => k_is); (case ctold => k_is); (case ktold => k_is); (case ado => k_is); (case ido => k_is); (case ldo => k_is); (case cdo => k_is); (case kdo => k_is); (case aundo => k_is); (case iundo => k_is); (case lundo => k_is); (case cundo => k_is); (case kundo => k_is)
    obtain ⟨cNote, tNote, D_Note___init__, D_Note_told, D_Note_do, D_Note_undo⟩ := x_Note
    have x_Journal : ∃ C, My.T_Journal (L2.KOf KX) mg C ∧ L2.MethAt (L2.KOf KX) C "__init__" "Journal.__init__" My.s_Journal___init__ ∧ L2.MethAt (L2.KOf KX) C "write" "Journal.write" My.s_Journal_write ∧ L2.MethAt (L2.KOf KX) C "mark" "Journal.mark" My.s_Journal_mark ∧ L2.MethAt (L2.KOf KX) C "back" "Journal.back" My.s_Journal_back ∧ L2.MethAt (L2.KOf KX) C "told" "Journal.told" My.s_Journal_told := by
      dsimp only [L2.KOf]
      refine' My.mk_Journal KX G ?aC ?pg ?hd ?po ?sa ?mk ?kc ?nrooms ?ndeeds ?a__init__ ?i__init__ ?l__init__ ?c__init__ ?k__init__ ?awrite ?iwrite ?lwrite ?cwrite ?kwrite ?amark ?imark ?lmark ?cmark ?kmark ?aback ?iback ?lback ?cback ?kback ?atold ?itold ?ltold ?ctold ?ktold
      (case aC => k_is); (case pg => k_is); (case hd => k_is); (case po => k_is); (case sa => k_is); (case mk => k_is); (case kc => k_is); (case nrooms => k_is); (case ndeeds => k_is); (case a__init__ => k_is); (case i__init__ => k_is); (case l__init__ => k_is); (case c__init__ => k_is); (case k__init__ => k_is); (case awrite => k_is); (case iwrite => k_is); (case lwrite => k_is); (case cwrite => k_is); (case kwrite => k_is); (case amark => k_is); (case imark => k_is); (case lmark => k_is); (case cmark => k_is); (case kmark => k_is); (case aback => k_is); (case iback => k_is); (case lback => k_is); (case cback => k_is); (case kback => k_is); (case atold => k_is); (case itold => k_is); (case ltold => k_is); (case ctold => k_is); (case ktold => k_is)
    obtain ⟨cJournal, tJournal, D_Journal___init__, D_Journal_write, D_Journal_mark, D_Journal_back, D_Journal_told⟩ := x_Journal
    have n_list : mg "list" = none := by
      refine' PySem.W.mg_none_of KX G ?a
      (case a => k_is)
    have n_sorted : mg "sorted" = none := by
      refine' PySem.W.mg_none_of KX G ?a
      (case a => k_is)
    have n_len : mg "len" = none := by
      refine' PySem.W.mg_none_of KX G ?a
      (case a => k_is)
    have n_max : mg "max" = none := by
      refine' PySem.W.mg_none_of KX G ?a
      (case a => k_is)
    have n_range : mg "range" = none := by
      refine' PySem.W.mg_none_of KX G ?a
      (case a => k_is)
    have n_isinstance : mg "isinstance" = none := by
      refine' PySem.W.mg_none_of KX G ?a
      (case a => k_is)
    have n_int : mg "int" = none := by
      refine' PySem.W.mg_none_of KX G ?a
      (case a => k_is)
    have n_bool : mg "bool" = none := by
      refine' PySem.W.mg_none_of KX G ?a
      (case a => k_is)

    obtain ⟨fl, fd, FL, ml⟩ := D_law
    have e0 := hmg.symm.trans ml
    cases e0
    refine ⟨fd, L2.fun_binds1 FL, fun base KB GB => ?_⟩
    have c_row_numbers := My.ok_row_numbers (P := PySem.Challenge.rw_meterhouse_k25_journal_back.prog) (w := w) (base := base)  D_row_numbers    
    have i_Account := My.ok_Account___init__ (P := PySem.Challenge.rw_meterhouse_k25_journal_back.prog) (w := w) (base := base)  D_Account___init__ tAccount   n_list
    have m_Account_loaded := My.ok_Account_loaded (P := PySem.Challenge.rw_meterhouse_k25_journal_back.prog) (w := w) (base := base)  D_Account_loaded tAccount   
    have m_Account_keep := My.ok_Account_keep (P := PySem.Challenge.rw_meterhouse_k25_journal_back.prog) (w := w) (base := base)  D_Account_keep tAccount   
    have m_Account_plain := My.ok_Account_plain (P := PySem.Challenge.rw_meterhouse_k25_journal_back.prog) (w := w) (base := base)  D_Account_plain tAccount   c_row_numbers n_sorted n_len
    have c_shift_coin := My.ok_shift_coin (P := PySem.Challenge.rw_meterhouse_k25_journal_back.prog) (w := w) (base := base)  D_shift_coin tAccount   
    have i_Save := My.ok_Save___init__ (P := PySem.Challenge.rw_meterhouse_k25_journal_back.prog) (w := w) (base := base)  D_Save___init__ tSave   
    have i_Move := My.ok_Move___init__ (P := PySem.Challenge.rw_meterhouse_k25_journal_back.prog) (w := w) (base := base)  D_Move___init__ tMove   
    have i_Note := My.ok_Note___init__ (P := PySem.Challenge.rw_meterhouse_k25_journal_back.prog) (w := w) (base := base)  D_Note___init__ tNote   
    have m_Save_do := My.ok_Save_do (P := PySem.Challenge.rw_meterhouse_k25_journal_back.prog) (w := w) (base := base)  D_Save_do tSave tAccount m_Account_keep  
    have m_Move_do := My.ok_Move_do (P := PySem.Challenge.rw_meterhouse_k25_journal_back.prog) (w := w) (base := base)  D_Move_do tMove   c_shift_coin
    have m_Note_do := My.ok_Note_do (P := PySem.Challenge.rw_meterhouse_k25_journal_back.prog) (w := w) (base := base) (cAccount := cAccount) D_Note_do tNote   
    have m_Save_undo := My.ok_Save_undo (P := PySem.Challenge.rw_meterhouse_k25_journal_back.prog) (w := w) (base := base)  D_Save_undo tSave tAccount m_Account_keep  
    have m_Move_undo := My.ok_Move_undo (P := PySem.Challenge.rw_meterhouse_k25_journal_back.prog) (w := w) (base := base)  D_Move_undo tMove   c_shift_coin
    have m_Note_undo := My.ok_Note_undo (P := PySem.Challenge.rw_meterhouse_k25_journal_back.prog) (w := w) (base := base) (cAccount := cAccount) D_Note_undo tNote   
    have m_Save_told := My.ok_Save_told (P := PySem.Challenge.rw_meterhouse_k25_journal_back.prog) (w := w) (base := base)  D_Save_told tSave   
    have m_Move_told := My.ok_Move_told (P := PySem.Challenge.rw_meterhouse_k25_journal_back.prog) (w := w) (base := base)  D_Move_told tMove   
    have m_Note_told := My.ok_Note_told (P := PySem.Challenge.rw_meterhouse_k25_journal_back.prog) (w := w) (base := base)  D_Note_told tNote   
    have i_Journal := My.ok_Journal___init__ (P := PySem.Challenge.rw_meterhouse_k25_journal_back.prog) (w := w) (base := base)  D_Journal___init__ tJournal   
    have m_Journal_mark := My.ok_Journal_mark (P := PySem.Challenge.rw_meterhouse_k25_journal_back.prog) (w := w) (base := base)  D_Journal_mark tJournal   n_len
    have m_Journal_write := My.ok_Journal_write (P := PySem.Challenge.rw_meterhouse_k25_journal_back.prog) (w := w) (base := base)  D_Journal_write tJournal tSave tMove tNote tAccount m_Save_do m_Move_do m_Note_do  
    have m_Journal_back := My.ok_Journal_back (P := PySem.Challenge.rw_meterhouse_k25_journal_back.prog) (w := w) (base := base)  D_Journal_back tJournal tSave tMove tNote tAccount m_Save_undo m_Move_undo m_Note_undo  n_len n_max
    have m_Journal_told := My.ok_Journal_told (P := PySem.Challenge.rw_meterhouse_k25_journal_back.prog) (w := w) (base := base)  D_Journal_told tJournal tSave tMove tNote m_Save_told m_Move_told m_Note_told  
    have c_Lcell_at := My.ok_Lcell_at (P := PySem.Challenge.rw_meterhouse_k25_journal_back.prog) (w := w) (base := base)  D_Lcell_at    n_len
    have c_Lmixed := My.ok_Lmixed (P := PySem.Challenge.rw_meterhouse_k25_journal_back.prog) (w := w) (base := base)  D_Lmixed    
    have c_Lwide := My.ok_Lwide (P := PySem.Challenge.rw_meterhouse_k25_journal_back.prog) (w := w) (base := base)  D_Lwide    
    have c_Lslots_by := My.ok_Lslots_by (P := PySem.Challenge.rw_meterhouse_k25_journal_back.prog) (w := w) (base := base)  D_Lslots_by    c_Lmixed c_Lcell_at n_range
    have c_Lplaces_by := My.ok_Lplaces_by (P := PySem.Challenge.rw_meterhouse_k25_journal_back.prog) (w := w) (base := base)  D_Lplaces_by    c_Lcell_at c_Lmixed
    have c_Lmade := My.ok_Lmade (P := PySem.Challenge.rw_meterhouse_k25_journal_back.prog) (w := w) (base := base)  D_Lmade tSave tMove tNote i_Save i_Move i_Note  
    have c_Lwhole := My.ok_Lwhole (P := PySem.Challenge.rw_meterhouse_k25_journal_back.prog) (w := w) (base := base)  D_Lwhole    n_isinstance n_int n_bool
    have c_Lcoins := My.ok_Lcoins (P := PySem.Challenge.rw_meterhouse_k25_journal_back.prog) (w := w) (base := base)  D_Lcoins tAccount   
    have c_Lall := My.ok_Lall (P := PySem.Challenge.rw_meterhouse_k25_journal_back.prog) (w := w) (base := base)  D_Lall tAccount m_Account_plain  
    have c_Ldeed_by := My.ok_Ldeed_by (P := PySem.Challenge.rw_meterhouse_k25_journal_back.prog) (w := w) (base := base)  D_Ldeed_by tAccount m_Account_loaded  c_Lmixed c_Lwide n_len
    have c_Lshows := My.ok_Lshows (P := PySem.Challenge.rw_meterhouse_k25_journal_back.prog) (w := w) (base := base)  D_Lshows tAccount m_Account_loaded  
    have c_Lpaid := My.ok_Lpaid (P := PySem.Challenge.rw_meterhouse_k25_journal_back.prog) (w := w) (base := base)  D_Lpaid    c_Lcoins n_list
    exact My.ok_law  FL tAccount tJournal tNote i_Account i_Journal m_Journal_write i_Note m_Journal_back m_Journal_told m_Journal_mark  c_Lslots_by c_Lplaces_by c_Lall c_Lmixed c_Lwide c_Ldeed_by c_Lcoins c_Lmade c_Lwhole c_Lcell_at c_Lshows c_Lpaid n_range n_len
  case S => exact fun K H a ns hl hO hS => ⟨a, ns, rfl, hS, hl, fun _ => rfl⟩
  case C => exact fun _ _ _ _ z => z

