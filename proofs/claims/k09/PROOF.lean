import PyProof.Rows.All
import Wide.All
import OpenK.AllK
import Wide.FinOn
import Lean
import PyProof.EqAt
import PyProof.EqKinds
import PyProof.TupleCall
import PySem.Challenge.RW_meterhouse_k09_texts_refused
set_option Elab.async false
set_option linter.all false
set_option maxRecDepth 100000
set_option maxHeartbeats 4000000
namespace L2
open PySem PySem.Spec PyProof.Rows

abbrev Key := Sum Int Str
def keyIs : Key → Value → Bool
  | .inl k, v => Value.isInt k v
  | .inr x, v => Value.isStrOf x v
def keyH (w : World) : Key → Int
  | .inl k => hashInt k
  | .inr x => hashStr w x
theorem keyIs_shape : ∀ {k : Key} {v : Value}, keyIs k v = true → (∃ i t, k = Sum.inl i ∧ v = Value.int i t) ∨ (∃ x t, k = Sum.inr x ∧ v = Value.str x t)
  | .inl i, v, h => by
    obtain ⟨t, e⟩ := Value.isInt_shape (k := i) (v := v) h
    exact .inl ⟨i, t, rfl, e⟩
  | .inr x, v, h => by
    obtain ⟨t, e⟩ := Value.isStrOf_shape (x := x) (v := v) h
    exact .inr ⟨x, t, rfl, e⟩
theorem key_ll (a b : Int) : decide ((Sum.inl a : Key) = Sum.inl b) = (a == b) := by
  by_cases e : a = b
  · subst e; simp
  · have h : ¬ (Sum.inl a : Key) = Sum.inl b := fun q => e (Sum.inl.inj q)
    rw [decide_eq_false h]
    exact (beq_eq_false_iff_ne.mpr e).symm
theorem key_rr (a b : Str) : decide ((Sum.inr a : Key) = Sum.inr b) = decide (a = b) := by
  by_cases e : a = b
  · subst e; simp
  · have h : ¬ (Sum.inr a : Key) = Sum.inr b := fun q => e (Sum.inr.inj q)
    rw [decide_eq_false h, decide_eq_false e]
theorem key_lr (a : Int) (b : Str) : decide ((Sum.inl a : Key) = Sum.inr b) = false := decide_eq_false (fun q => nomatch q)
theorem key_rl (a : Str) (b : Int) : decide ((Sum.inr a : Key) = Sum.inl b) = false := decide_eq_false (fun q => nomatch q)

def mixKind (prog : Program) (w : World) : PySem.KeyKind prog w Key where
  is := keyIs
  hash := keyH w
  inj := fun v a b ha hb => by
    rcases keyIs_shape ha with ⟨i, t, rfl, rfl⟩ | ⟨x, t, rfl, rfl⟩
    · rcases keyIs_shape hb with ⟨j, u, rfl, e⟩ | ⟨y, u, rfl, e⟩
      · injection e with e1 _; rw [e1]
      · exact nomatch e
    · rcases keyIs_shape hb with ⟨j, u, rfl, e⟩ | ⟨y, u, rfl, e⟩
      · exact nomatch e
      · injection e with e1 _; rw [e1]
  byValue := fun k v h => by
    rcases keyIs_shape h with ⟨i, t, rfl, rfl⟩ | ⟨x, t, rfl, rfl⟩ <;> rfl
  pyHash := fun hv h => by
    rcases keyIs_shape hv with ⟨i, t, rfl, rfl⟩ | ⟨x, t, rfl, rfl⟩
    · exact wpAny_pyHash_int h
    · exact wpAny_pyHash_str h
  eqBool := fun hu hv h => by
    rcases keyIs_shape hu with ⟨i, t, rfl, rfl⟩ | ⟨x, t, rfl, rfl⟩
    · rcases keyIs_shape hv with ⟨j, u, rfl, rfl⟩ | ⟨y, u, rfl, rfl⟩
      · rw [key_ll] at h; exact wpAny_eqBool_int h
      · rw [key_lr] at h; exact SeqAt.EqAt.int_str i t y u _ _ _ _ h
    · rcases keyIs_shape hv with ⟨j, u, rfl, rfl⟩ | ⟨y, u, rfl, rfl⟩
      · rw [key_rl] at h; exact SeqAt.EqAt.str_int x t j u _ _ _ _ h
      · rw [key_rr] at h; exact wpAny_eqBool_str h
  «strs» := fun k x t v h => by
    rcases keyIs_shape h with ⟨i, u, rfl, e⟩ | ⟨y, u, rfl, e⟩
    · exact nomatch e
    · injection e with e1 _
      subst e1
      cases v <;> rfl

end L2

namespace L2
open PySem PySem.Spec PyProof.Rows

inductive V where
  | non | bl (b : Bool) | int (i : Int) | str (x : Str) | byt (b : Array UInt8) | flt (b : UInt64) | ref (a : Addr) | ty (n : String)
  deriving DecidableEq

def RelV : V → Value → Prop
  | .non, u => u = Value.none
  | .bl b, u => u = Value.bool b
  | .int i, u => ∃ t, u = Value.int i t
  | .str x, u => ∃ t, u = Value.str x t
  | .byt b, u => ∃ t, u = Value.bytes b t
  | .flt b, u => ∃ t, u = Value.float b t
  | .ref a, u => u = Value.ref a
  | .ty n, u => u = Value.type n

abbrev Vals : List V → List Value → Prop := Paired RelV
theorem Vals.length {xs : List V} {us : List Value} (r : Vals xs us) : xs.length = us.length := Paired.length r
theorem Vals.get : ∀ {xs : List V} {us : List Value} {i : Nat} {x : V}, Vals xs us → xs[i]? = some x → ∃ u, us[i]? = some u ∧ RelV x u
  | _, _, _, _, .nil, e => by simp at e
  | _, _, 0, _, .cons r _, e => by simp at e; subst e; exact ⟨_, rfl, r⟩
  | _, _, i + 1, x, .cons _ t, e => by
    obtain ⟨u, h1, h2⟩ := Vals.get (i := i) (x := x) t (by simpa using e)
    exact ⟨u, by simpa using h1, h2⟩
theorem Vals.set {x : V} {u : Value} (r : RelV x u) : ∀ {xs : List V} {us : List Value} (i : Nat), Vals xs us → Vals (xs.set i x) (us.set i u)
  | _, _, _, .nil => .nil
  | _, _, 0, .cons _ t => .cons r t
  | _, _, i + 1, .cons q t => .cons q (Vals.set r i t)
theorem Vals.append : ∀ {xs ys : List V} {us ws : List Value}, Vals xs us → Vals ys ws → Vals (xs ++ ys) (us ++ ws)
  | _, _, _, _, .nil, s => s
  | _, _, _, _, .cons r t, s => .cons r (Vals.append t s)
theorem Vals.take : ∀ {xs : List V} {us : List Value} (n : Nat), Vals xs us → Vals (xs.take n) (us.take n)
  | _, _, 0, _ => .nil
  | _, _, _ + 1, .nil => .nil
  | _, _, n + 1, .cons r t => .cons r (Vals.take n t)
theorem Vals.drop : ∀ {xs : List V} {us : List Value} (n : Nat), Vals xs us → Vals (xs.drop n) (us.drop n)
  | _, _, 0, r => r
  | _, _, _ + 1, .nil => .nil
  | _, _, n + 1, .cons _ t => Vals.drop n t
def RelO : Option V → Option Value → Prop
  | some v, some u => RelV v u
  | none, none => True
  | _, _ => False
def KV {κ : Type} : List (κ × V) → List (κ × Value) → Prop := Paired fun (p : κ × V) (q : κ × Value) => p.1 = q.1 ∧ RelV p.2 q.2

def kV : Key → V
  | .inl i => .int i
  | .inr x => .str x

inductive HO where
  /-- a list -/
  | lst (xs : List V)
  /-- a tuple (never changes) -/
  | tup (xs : List V)
  /-- a dict whose keys are ints and texts; one whose keys are tuples of ints and texts (the empty one is both) -/
  | dK (kvs : List (Key × V)) | dT (kvs : List (List Key × V))
  /-- a set of ints: its members, its size -/
  | set (S : Int → Bool) (n : Nat)
  /-- an instance of the class at C, its dict at dx, its attributes -/
  | ins (C dx : Addr) (fs : List (Str × V))
  /-- the dict of the instance at x -/
  | own (x : Addr)
  /-- the dict of an exception -/
  | xd (fs : List (Str × V))
  /-- a bound method, f of x -/
  | met (f x : Addr)
  /-- a range object lo, lo + 1, .. below hi -/
  | rng (lo hi : Int)
  /-- a thing that is known to the object (the script; a dict while a loop walks it): read, never written while it is so -/
  | frz (o : Obj) (u : HO)
  /-- a code object's table -/
  | tbl (ps : Array Value)
  /-- any other thing, by what is true of its one object (a def of one's own: SetO a S n := HO.ext fun h => ..) -/
  | ext (φ : Heap → Prop)

abbrev Hp := Addr → Option HO
def upd (H : Hp) (a : Addr) (o : HO) : Hp := fun b => if b = a then some o else H b
theorem upd_same {H : Hp} {a : Addr} {o : HO} : upd H a o a = some o := by unfold upd; rw [if_pos rfl]
theorem upd_ne {H : Hp} {a b : Addr} {o : HO} (h : b ≠ a) : upd H a o b = H b := by unfold upd; rw [if_neg h]
theorem upd_upd {H : Hp} {a : Addr} {o u : HO} : upd (upd H a o) a u = upd H a u := by
  funext b; unfold upd; split <;> rfl
theorem ne_of {H : Hp} {a b : Addr} {o u : HO} (h : H a = some o) (h' : H b = some u) (d : o ≠ u) : a ≠ b := by
  intro e; subst e; rw [h] at h'; exact d (Option.some.inj h')
theorem ne_of_none {H : Hp} {a b : Addr} {o : HO} (h : H a = some o) (h' : H b = none) : a ≠ b := by
  intro e; subst e; rw [h] at h'; cases h'

section
variable (P : Program) (w : World)
def ObjOk (H : Hp) (h : Heap) (a : Addr) : HO → Prop
  | .lst xs => xs.length ≤ sizeLine ∧ ∃ (its : List Value) (n : Nat), Vals xs its ∧ h.get? a = some { cls := .type "list", data := .seq its.toArray n }
  | .tup xs => xs.length ≤ sizeLine ∧ ∃ its : List Value, Vals xs its ∧ IsTup h a its.toArray
  | .dK kvs => kvs.length ≤ sizeLine ∧ (a == sysModules) = false ∧ ∃ vs, KV kvs vs ∧ h.DictOf (mixKind P w) a vs
  | .dT kvs => kvs.length ≤ sizeLine ∧ (a == sysModules) = false ∧ ∃ xs : List (List Key × Addr × Value),
      Paired (fun (p : List Key × V) (q : List Key × Addr × Value) => p.1 = q.1 ∧ H q.2.1 = some (.tup (p.1.map kV)) ∧ RelV p.2 q.2.2) kvs xs ∧
      ∃ o es ep, h.get? a = some o ∧ o.ExactDict ∧ o.data = .dict es ep ∧ es.toList = xs.map (entryOfKey (tupleKind (mixKind P w))) ∧ (xs.map (·.1)).Nodup
  | .set S n => h.SetOf (intKind P w) a S n
  | .ins C dx fs => H dx = some (.own a) ∧ fs.length ≤ 1000 ∧ dx ≠ a ∧ h.get? a = some (PySem.W.instObj C dx) ∧
      ∃ mA, h.Ns1 dx mA ∧ (∀ f, RelO (fs.lookup f) (mA f)) ∧ PySem.Within mA (fs.map (·.1))
  | .own _ => ∃ o, h.get? a = some o
  | .xd fs => ∃ mA, h.Ns1 a mA ∧ ∀ f, RelO (fs.lookup f) (mA f)
  | .rng lo hi => ∃ t u v, h.get? a = some { cls := .type "range", data := .fields #[.int lo t, .int hi u, .int 1 v] }
  | .frz o u => h.get? a = some o ∧ ObjOk H h a u
  | .tbl ps => h.get? a = some { cls := .none, data := .fields ps }
  | .met f x => h.get? a = some (PySem.W.methodObj (.ref f) (.ref x))
  | .ext φ => φ h ∧ (∃ o, h.get? a = some o) ∧ ∀ h1 h2 : Heap, φ h1 → (∀ o, h1.get? a = some o → h2.get? a = some o) → φ h2
def HOk (H : Hp) (h : Heap) : Prop := ∀ a o, H a = some o → ObjOk P w H h a o
end

section
variable {P : Program} {w : World} {H H' : Hp} {h h' : Heap} {a : Addr} {o : HO}
theorem ObjOk.lt (x : ObjOk P w H h a o) : a < h.objs.size := by
  cases o with
  | lst xs => obtain ⟨_, _, _, _, e⟩ := x; exact Heap.lt_size e
  | tup xs => obtain ⟨_, _, _, p⟩ := x; exact p.lt
  | dK kvs => obtain ⟨_, _, _, _, o, _, _, e, _⟩ := x; exact Heap.lt_size e
  | dT kvs => obtain ⟨_, _, _, _, o, _, _, e, _⟩ := x; exact Heap.lt_size e
  | set S n => obtain ⟨o, _, _, _, e, _⟩ := x; exact Heap.lt_size e
  | ins C dx fs => obtain ⟨_, _, _, e, _⟩ := x; exact Heap.lt_size e
  | own y => obtain ⟨_, e⟩ := x; exact Heap.lt_size e
  | xd fs => obtain ⟨_, ⟨_, _, _, e, _⟩, _⟩ := x; exact Heap.lt_size e
  | rng lo hi => obtain ⟨_, _, _, e⟩ := x; exact Heap.lt_size e
  | frz ob u => obtain ⟨e, _⟩ := x; exact Heap.lt_size e
  | tbl ps => exact Heap.lt_size (show h.get? a = some _ from x)
  | met f y => exact Heap.lt_size (show h.get? a = some _ from x)
  | ext φ => obtain ⟨_, ⟨_, e⟩, _⟩ := x; exact Heap.lt_size e
theorem Paired.mapP {α β : Type} {F G : α → β → Prop} : ∀ {l₁ : List α} {l₂ : List β}, Paired F l₁ l₂ → (∀ a b, F a b → G a b) → Paired G l₁ l₂
  | _, _, .nil, _ => .nil
  | _, _, .cons r t, f => .cons (f _ _ r) (Paired.mapP t f)
theorem ObjOk.stay (x : ObjOk P w H h a o) (k : ∀ b u, (b = a ∨ H b = some (.own a)) → h.get? b = some u → h'.get? b = some u)
    (ho : ∀ b, H b = some (.own a) → H' b = some (.own a)) (ht : ∀ b xs, H b = some (.tup xs) → H' b = some (.tup xs)) : ObjOk P w H' h' a o := by
  induction o with
  | lst xs => obtain ⟨z, its, n, r, e⟩ := x; exact ⟨z, its, n, r, k _ _ (.inl rfl) e⟩
  | tup xs => obtain ⟨z, its, r, ob, e, c⟩ := x; exact ⟨z, its, r, ob, k _ _ (.inl rfl) e, c⟩
  | dK kvs => obtain ⟨z, y, vs, r, ob, es, ep, e, c⟩ := x; exact ⟨z, y, vs, r, ob, es, ep, k _ _ (.inl rfl) e, c⟩
  | dT kvs =>
    obtain ⟨z, y, xs, r, ob, es, ep, e, c⟩ := x
    exact ⟨z, y, xs, Paired.mapP r fun p q z => ⟨z.1, ht _ _ z.2.1, z.2.2⟩, ob, es, ep, k _ _ (.inl rfl) e, c⟩
  | set S n => obtain ⟨ob, es, ep, t, e, c⟩ := x; exact ⟨ob, es, ep, t, k _ _ (.inl rfl) e, c⟩
  | ins C dx fs =>
    obtain ⟨d, z, ne, e, mA, ⟨od, es, ep, e2, c⟩, r⟩ := x
    exact ⟨ho _ d, z, ne, k _ _ (.inl rfl) e, mA, ⟨od, es, ep, k _ _ (.inr d) e2, c⟩, r⟩
  | own y => obtain ⟨ob, e⟩ := x; exact ⟨ob, k _ _ (.inl rfl) e⟩
  | xd fs => obtain ⟨mA, ⟨od, es, ep, e, c⟩, r⟩ := x; exact ⟨mA, ⟨od, es, ep, k _ _ (.inl rfl) e, c⟩, r⟩
  | rng lo hi => obtain ⟨t, u, v, e⟩ := x; exact ⟨t, u, v, k _ _ (.inl rfl) e⟩
  | frz ob u ih => obtain ⟨e, q⟩ := x; exact ⟨k _ _ (.inl rfl) e, ih q⟩
  | tbl ps =>
    have e : h.get? a = some { cls := .none, data := .fields ps } := x
    show h'.get? a = some { cls := .none, data := .fields ps }
    exact k a _ (.inl rfl) e
  | met f y =>
    have e : h.get? a = some (PySem.W.methodObj (.ref f) (.ref y)) := x
    show h'.get? a = some (PySem.W.methodObj (.ref f) (.ref y))
    exact k a _ (.inl rfl) e
  | ext φ => obtain ⟨p, ⟨o, e⟩, st⟩ := x; exact ⟨st _ _ p fun o q => k _ _ (.inl rfl) q, ⟨o, k _ _ (.inl rfl) e⟩, st⟩
theorem HOk.lt (x : HOk P w H h) (e : H a = some o) : a < h.objs.size := (x a o e).lt
theorem HOk.fresh (x : HOk P w H h) (e : h.objs.size ≤ a) : H a = none := by
  cases q : H a with
  | none => rfl
  | some u => exact absurd (Nat.lt_of_lt_of_le (x.lt q) e) (Nat.lt_irrefl _)
theorem HOk.kept (x : HOk P w H h) (k : ∀ b u, h.get? b = some u → h'.get? b = some u) : HOk P w H h' := fun a o e =>
  (x a o e).stay (fun b u _ q => k b u q) (fun _ q => q) fun _ _ q => q
theorem HOk.laid (x : HOk P w H h) (k : ∀ b u, h.get? b = some u → h'.get? b = some u) (hp : h.objs.size ≤ a) (new : ObjOk P w (upd H a o) h' a o) : HOk P w (upd H a o) h' := fun b u e => by
  have hn := x.fresh hp
  by_cases hb : b = a
  · subst hb; rw [upd_same] at e; cases e; exact new
  · rw [upd_ne hb] at e
    exact (x b u e).stay (fun c v _ q => k c v q) (fun c q => by rw [upd_ne (ne_of_none q hn)]; exact q) fun c xs q => by rw [upd_ne (ne_of_none q hn)]; exact q
end

def Rd (H : Hp) (a : Addr) (u : HO) : Prop := H a = some u ∨ ∃ o, H a = some (.frz o u)
theorem Rd.of {H : Hp} {a : Addr} {u : HO} (h : H a = some u) : Rd H a u := .inl h
theorem Rd.ok {P : Program} {w : World} {H : Hp} {h : Heap} {a : Addr} {u : HO} (r : Rd H a u) (x : HOk P w H h) : ObjOk P w H h a u := by
  rcases r with r | ⟨o, r⟩
  · exact x a u r
  · obtain ⟨_, q⟩ := x a _ r
    exact q
def Mut : Option HO → Prop
  | some (.lst _) => True
  | some (.dK _) => True
  | some (.dT _) => True
  | some (.set _ _) => True
  | some (.ins _ _ _) => True
  | some (.ext _) => True
  | _ => False
section
variable {P : Program} {w : World} {H : Hp} {h h' : Heap} {x e : Addr} {o' : HO}
theorem HOk.write (ok : HOk P w H h) (mu : Mut (H x)) (he : e = x ∨ H e = some (.own x)) (k : ∀ b u, b ≠ e → h.get? b = some u → h'.get? b = some u) (heo : ∃ u, h'.get? e = some u)
    (new : ObjOk P w (upd H x o') h' x o') : HOk P w (upd H x o') h' := fun b u q => by
  have nown : ∀ c y, H c = some (.own y) → c ≠ x := fun c y r z => by subst z; rw [r] at mu; exact mu
  have ntup : ∀ c xs, H c = some (.tup xs) → c ≠ x := fun c xs r z => by subst z; rw [r] at mu; exact mu
  by_cases hb : b = x
  · subst hb; rw [upd_same] at q; cases q; exact new
  · rw [upd_ne hb] at q
    by_cases hbe : b = e
    · have q' : H b = some (.own x) := by
        rcases he with z | z
        · exact absurd (hbe.trans z) hb
        · rw [hbe]; exact z
      rw [q] at q'; cases q'
      obtain ⟨v, hv⟩ := heo
      exact ⟨v, by rw [hbe]; exact hv⟩
    · refine (ok b u q).stay (fun c v hc r => k c v ?_ r) (fun c r => by rw [upd_ne (nown c b r)]; exact r) fun c xs r => by rw [upd_ne (ntup c xs r)]; exact r
      rcases hc with rfl | hc
      · exact hbe
      · rintro rfl
        rcases he with z | z
        · exact nown c b hc z
        · rw [hc] at z; cases z; exact hb rfl
end

structure Un (fs ex : List Addr) (H H' : Hp) (h h' : Heap) : Prop where
  keep : ∀ b o, h.get? b = some o → H b = none → b ∉ fs → b ∉ ex → h'.get? b = some o
  slot : ∀ b o, h.get? b = some o → H b = none → b ∈ fs → b ∉ ex → ∃ sl, h'.get? b = some { o with slots := sl }
  free : ∀ b o, h.get? b = some o → H b = none → b ∉ ex → H' b = none
  there : ∀ b o, h.get? b = some o → b ∉ ex → ∃ o', h'.get? b = some o'
  tups : ∀ b xs, H b = some (.tup xs) → H' b = some (.tup xs)
  frzs : ∀ b o u, H b = some (.frz o u) → H' b = some (.frz o u)
  tbls : ∀ b ps, H b = some (.tbl ps) → ∃ more, H' b = some (.tbl (ps ++ more))
section
variable {fs fs' ex ex' : List Addr} {H H1 H2 : Hp} {h h1 h2 h' : Heap} {a x e : Addr} {o : HO}
theorem Un.any (u : Un fs ex H H1 h h1) {b : Addr} {ob : Obj} (q : h.get? b = some ob) (n : H b = none) (hx : b ∉ ex) : ∃ sl, h1.get? b = some { ob with slots := sl } := by
  by_cases hb : b ∈ fs
  · exact u.slot b ob q n hb hx
  · exact ⟨ob.slots, u.keep b ob q n hb hx⟩
theorem Un.trans (a : Un fs ex H H1 h h1) (b : Un fs ex H1 H2 h1 h2) : Un fs ex H H2 h h2 where
  keep := fun c ob q n hc hx => b.keep c ob (a.keep c ob q n hc hx) (a.free c ob q n hx) hc hx
  slot := fun c ob q n hc hx => by
    obtain ⟨sl, e1⟩ := a.slot c ob q n hc hx
    obtain ⟨sl', e2⟩ := b.slot c _ e1 (a.free c ob q n hx) hc hx
    exact ⟨sl', e2⟩
  free := fun c ob q n hx => by
    obtain ⟨o', e1⟩ := a.there c ob q hx
    exact b.free c o' e1 (a.free c ob q n hx) hx
  there := fun c ob q hx => by
    obtain ⟨o', e1⟩ := a.there c ob q hx
    exact b.there c o' e1 hx
  tups := fun c xs q => b.tups c xs (a.tups c xs q)
  frzs := fun c ob xs q => b.frzs c ob xs (a.frzs c ob xs q)
  tbls := fun c ps q => by
    obtain ⟨m1, e1⟩ := a.tbls c ps q
    obtain ⟨m2, e2⟩ := b.tbls c _ e1
    exact ⟨m1 ++ m2, by rw [e2, Array.append_assoc]⟩
theorem Un.kept (k : ∀ b u, h.get? b = some u → h'.get? b = some u) : Un fs ex H H h h' :=
  ⟨fun b ob q _ _ _ => k b ob q, fun b ob q _ _ _ => ⟨ob.slots, k b ob q⟩, fun _ _ _ n _ => n, fun b ob q _ => ⟨ob, k b ob q⟩, fun _ _ q => q, fun _ _ _ q => q, fun _ ps q => ⟨#[], by rw [q]; simp⟩⟩
theorem Un.refl : Un fs ex H H h h := Un.kept fun _ _ q => q
theorem Un.laid (k : ∀ b u, h.get? b = some u → h'.get? b = some u) (hp : h.objs.size ≤ a) (hn : H a = none) : Un fs ex H (upd H a o) h h' where
  keep := fun b u q _ _ _ => k b u q
  slot := fun b u q _ _ _ => ⟨u.slots, k b u q⟩
  free := fun b u q n _ => by rw [upd_ne (Nat.ne_of_lt (Nat.lt_of_lt_of_le (Heap.lt_size q) hp))]; exact n
  there := fun b u q _ => ⟨u, k b u q⟩
  tups := fun b xs q => by rw [upd_ne (ne_of_none q hn)]; exact q
  frzs := fun b u xs q => by rw [upd_ne (ne_of_none q hn)]; exact q
  tbls := fun b ps q => ⟨#[], by rw [upd_ne (ne_of_none q hn), q]; simp⟩
theorem Un.write (mu : Mut (H x)) (he : e = x ∨ H e = some (.own x)) (k : ∀ b u, b ≠ e → h.get? b = some u → h'.get? b = some u) (heo : ∃ u, h'.get? e = some u) : Un fs ex H (upd H x o) h h' := by
  have hx : ∀ b, H b = none → b ≠ x := fun b n z => by subst z; rw [n] at mu; exact mu
  have hb : ∀ b, H b = none → b ≠ e := fun b n z => by
    subst z
    rcases he with r | r
    · exact hx b n r
    · rw [n] at r; cases r
  have hm : ∀ b u, H b = some u → ¬ Mut (some u) → b ≠ x := fun b u q nm z => by subst z; rw [q] at mu; exact nm mu
  refine ⟨fun b u q n _ _ => k b u (hb b n) q, fun b u q n _ _ => ⟨u.slots, k b u (hb b n) q⟩, fun b u q n _ => by rw [upd_ne (hx b n)]; exact n, fun b u q _ => ?_,
    fun b xs q => by rw [upd_ne (hm b _ q fun z => z)]; exact q, fun b u xs q => by rw [upd_ne (hm b _ q fun z => z)]; exact q, fun b ps q => ⟨#[], by rw [upd_ne (hm b _ q fun z => z), q]; simp⟩⟩
  by_cases hbe : b = e
  · subst hbe; exact heo
  · exact ⟨u, k b u hbe q⟩
theorem Un.mono (u : Un fs ex H H1 h h1) (hs : ∀ b ∈ fs, b ∈ fs') (hx : ∀ b ∈ ex, b ∈ ex') : Un fs' ex' H H1 h h1 :=
  ⟨fun b ob q n hb he => u.keep b ob q n (fun z => hb (hs b z)) fun z => he (hx b z), fun _ _ q n _ he => u.any q n fun z => he (hx _ z), fun b ob q n he => u.free b ob q n fun z => he (hx b z), fun b ob q he => u.there b ob q fun z => he (hx b z), u.tups, u.frzs, u.tbls⟩
end

def trk (h : Heap) (H : Hp) : List Addr := (List.range h.objs.size).filter fun a => (H a).isSome
def hidT (h : Heap) (H : Hp) : Heap := PySem.W.hideAll h (trk h H)
theorem hidT_size (h : Heap) (H : Hp) : (hidT h H).objs.size = h.objs.size := PySem.W.hideAll_size _ _
theorem hidT_get {h : Heap} {H : Hp} {b : Addr} {o : Obj} (e : h.get? b = some o) (n : H b = none) : (hidT h H).get? b = some o :=
  PySem.W.hideAll_get _ e fun hm => by
    have q : (H b).isSome = true := (List.mem_filter.mp hm).2
    rw [n] at q; simp at q
theorem of_hidT {h : Heap} {H : Hp} {b : Addr} {o : Obj} (e : (hidT h H).get? b = some o) : h.get? b = some o ∧ H b = none := by
  have e' : h.get? b = some o := PySem.W.of_hideAll (trk h H) e
  refine ⟨e', ?_⟩
  cases q : H b with
  | none => rfl
  | some x =>
    have hm : b ∈ trk h H := List.mem_filter.mpr ⟨List.mem_range.mpr (Heap.lt_size e'), by simp [q]⟩
    have z : (hidT h H).get? b = none := PySem.W.hideAll_none (trk h H) hm
    rw [z] at e; cases e

def allNews (g h : Heap) (L : Addr) : List (Addr × Obj) := (List.range h.objs.size).filterMap fun a => if a = L ∨ (g.get? a).isSome = true then none else (h.get? a).map fun o => (a, o)
def rest (g h : Heap) (L d : Addr) : List (Addr × Obj) := (allNews g h L).filter fun p => decide (p.1 ≠ d)
end L2

namespace L2
open PySem PySem.Spec PyProof.Rows

structure Mod (K : PySem.W.Frag) (mg : Str → Option Value) (base : Heap) : Prop where
  kin : K.In base
  glob : base.Ns mainGlobals mg
  blt : ∃ mb, base.Ns builtinsNs mb ∧ ∀ x : Str, x ≠ "__name__" → mb x = bootBuiltins x
  nolimit : base.NoLimit

structure Cx where
  prog : Program
  w : World
  K : PySem.W.Frag
  mg : Str → Option Value
  base : Heap
  A : Around
  N : List Str
  s₀ : Shared
  H₀ : Hp
  env : Env
  outer : List Env
  stack : List Env
  ex : List Addr
  fn : Str → Bool
  calm : Bool
  pn : List (Addr × Obj)
  xe : Value → Shared → Prop
def frs (l : List Env) : List Addr := l.filterMap (·.frame)
abbrev Cx.fs (X : Cx) : List Addr := frs X.outer

def Vis (sc : Scope) (x : Str) : Prop := sc.names.lookup x = some .local ∨ sc.names.lookup x = some .cell ∨ sc.names.lookup x = some .free
def Loc (sc : Scope) (x : Str) : Prop := sc.names.lookup x = some .local ∨ sc.names.lookup x = some .cell
def Look (env : Env) (h : Heap) (m : Str → Option Value) (x : Str) (u : Value) : Prop :=
  (env.kindOf x = some .local ∧ m x = some u) ∨ ((env.kindOf x = some .cell ∨ env.kindOf x = some .free) ∧ ∃ c, env.cells.lookup x = some c ∧ h.IsCell c (some u))

structure Cx.Ok (X : Cx) : Prop where
  mod : Mod X.K X.mg X.base
  kind : X.env.scope.kind = .function
  glob : X.env.globals = mainGlobals
  blt : X.env.builtins = builtinsNs
  above : X.s₀.heap.objs.size ≤ X.env.locals
  inj : ∀ x y c, X.env.cells.lookup x = some c → X.env.cells.lookup y = some c → x = y
  has : ∀ x, (X.env.kindOf x = some .cell ∨ X.env.kindOf x = some .free) → ∃ c, X.env.cells.lookup x = some c
  cab : ∀ x c, X.fn x = true → X.env.cells.lookup x = some c → X.s₀.heap.objs.size ≤ c
  hd : X.calm = true → X.A.handled = none
  frames : X.A.frames = some X.stack
  stk : X.stack = X.outer ∨ (X.stack = X.env :: X.outer ∧ X.env.frame = some X.env.locals)
  exf : ∀ b ∈ X.ex, b ≠ X.env.locals ∧ ∀ x c, X.env.cells.lookup x = some c → c ≠ b
  bs : ∀ b o, X.base.get? b = some o → X.s₀.heap.get? b = some o ∧ X.H₀ b = none
  bsz : X.base.objs.size ≤ X.s₀.heap.objs.size
  noex : ∀ b o, X.base.get? b = some o → b ∉ X.ex
  exfs : ∀ b ∈ X.ex, b ∉ X.fs
  funs : X.s₀.heap.FunFrames X.base X.outer
  frf : ∀ b ∈ X.fs, X.H₀ b = none

structure Inv (X : Cx) (pins : List (Addr × Obj)) (σ : List (Option V)) (H : Hp) (s : Shared) : Prop where
  ok : X.Ok
  os : s.os = X.s₀.os
  bare : AllBare s.gens
  base : Un X.fs X.ex X.H₀ H X.s₀.heap s.heap
  loc : ∃ m, s.heap.Ns X.env.locals m ∧ ∀ (i : Nat) (x : Str) (v : V), X.N[i]? = some x → σ[i]? = some (some v) → Vis X.env.scope x → ∃ u, RelV v u ∧ Look X.env s.heap m x u
  cell : ∀ x c, X.env.cells.lookup x = some c → ∃ v, s.heap.IsCell c v
  free : H X.env.locals = none
  freeC : ∀ x c, X.env.cells.lookup x = some c → H c = none
  pin : ∀ p ∈ X.pn ++ pins, s.heap.get? p.1 = some p.2 ∧ H p.1 = none ∧ p.1 ≠ X.env.locals ∧ p.1 ∉ X.fs ∧ ∀ v, p.2.data ≠ .cell v
  hok : HOk X.prog X.w H s.heap
  len : σ.length = X.N.length

section
variable {X : Cx} {pins : List (Addr × Obj)} {σ : List (Option V)} {H H' : Hp} {s : Shared} {h' : Heap}

theorem Cx.Ok.nofr (ok : X.Ok) {b : Addr} {o : Obj} (e : X.base.get? b = some o) : b ∉ X.fs := fun hb => by
  have := (ok.funs.mem hb).1
  rw [e] at this; cases this
theorem Inv.bs (I : Inv X pins σ H s) : ∀ b o, X.base.get? b = some o → s.heap.get? b = some o ∧ H b = none := fun b o e =>
  ⟨I.base.keep b o (I.ok.bs b o e).1 (I.ok.bs b o e).2 (I.ok.nofr e) (I.ok.noex b o e), I.base.free b o (I.ok.bs b o e).1 (I.ok.bs b o e).2 (I.ok.noex b o e)⟩
theorem Inv.bk (I : Inv X pins σ H s) : ∀ b o, X.base.get? b = some o → s.heap.get? b = some o := fun b o e => (I.bs b o e).1
theorem Inv.mod (I : Inv X pins σ H s) : Mod X.K X.mg X.base := I.ok.mod
theorem Inv.kIn (I : Inv X pins σ H s) : X.K.In s.heap := I.ok.mod.kin.keeps I.bk
theorem Inv.nolimit (I : Inv X pins σ H s) : s.heap.NoLimit := I.ok.mod.nolimit.keeps I.bk
theorem Inv.fr (I : Inv X pins σ H s) : ∃ m, Fr X.base X.env.locals s.heap m :=
  let ⟨m, hn, _⟩ := I.loc
  ⟨m, hn, I.bk, Nat.le_trans I.ok.bsz I.ok.above⟩
theorem Inv.lt (I : Inv X pins σ H s) : X.env.locals < s.heap.objs.size := let ⟨_, hn, _⟩ := I.loc; hn.lt
theorem Inv.sz (I : Inv X pins σ H s) : X.s₀.heap.objs.size ≤ s.heap.objs.size := Nat.le_trans I.ok.above (Nat.le_of_lt I.lt)
theorem Inv.nofs (I : Inv X pins σ H s) {a : Addr} (h : s.heap.objs.size ≤ a) : a ∉ X.fs := fun hb => by
  obtain ⟨_, o, ho, _⟩ := I.ok.funs.mem hb
  exact absurd (Nat.lt_of_lt_of_le (Heap.lt_size ho) (Nat.le_trans I.sz h)) (Nat.lt_irrefl _)
theorem Inv.cne (I : Inv X pins σ H s) : ∀ x c, X.env.cells.lookup x = some c → c ≠ X.env.locals := fun x c e z => by
  obtain ⟨v, o, ho, hd⟩ := I.cell x c e
  obtain ⟨m, ⟨o', es, ep, ho', hd', _⟩, _⟩ := I.loc
  rw [z, ho'] at ho; cases ho; rw [hd'] at hd; cases hd
theorem Inv.funs (I : Inv X pins σ H s) : s.heap.FunFrames X.base X.outer := by
  have all : ∀ (l : List Env), (∀ b ∈ frs l, b ∈ X.fs) → X.s₀.heap.FunFrames X.base l → s.heap.FunFrames X.base l := by
    intro l
    induction l with
    | nil => intro _ _; trivial
    | cons env r ih =>
      intro hs hl
      obtain ⟨hk, ⟨L, o, hf, hn, ho, hd⟩, hr⟩ := hl
      have hL : L ∈ X.fs := hs L (by unfold frs; rw [List.filterMap_cons, hf]; exact List.mem_cons_self)
      obtain ⟨sl, e⟩ := I.base.slot L o ho (I.ok.frf L hL) hL fun z => I.ok.exfs L z hL
      exact ⟨hk, ⟨L, _, hf, hn, e, hd⟩, ih (fun b hb => hs b (by unfold frs; rw [List.filterMap_cons, hf]; exact List.mem_cons_of_mem _ hb)) hr⟩
  exact all X.outer (fun _ hb => hb) I.ok.funs

theorem Inv.stack (I : Inv X pins σ H s) : s.heap.FunFrames X.base X.stack := by
  rcases I.ok.stk with e | ⟨e, hf⟩
  · rw [e]; exact I.funs
  · rw [e]
    obtain ⟨m, hn, _⟩ := I.loc
    refine .cons (by rw [I.ok.kind]; decide) hf hn ?_ I.funs
    exact Heap.get?_none_of_le (Nat.le_trans I.ok.bsz I.ok.above)
theorem Inv.stkSub (I : Inv X pins σ H s) : ∀ b ∈ frs X.stack, b ∈ X.env.locals :: X.fs := fun b hb => by
  rcases I.ok.stk with e | ⟨e, hf⟩
  · rw [e] at hb; exact List.mem_cons_of_mem _ hb
  · rw [e] at hb
    unfold frs at hb
    rw [List.filterMap_cons, hf] at hb
    exact hb
theorem Inv.stkFree (I : Inv X pins σ H s) : ∀ b ∈ frs X.stack, H b = none := fun b hb => by
  rcases List.mem_cons.mp (I.stkSub b hb) with e | hb
  · rw [e]; exact I.free
  · obtain ⟨_, o, ho, _⟩ := I.ok.funs.mem hb
    exact I.base.free b o ho (I.ok.frf b hb) fun z => I.ok.exfs b z hb

theorem Inv.step {g' : Array GenState} {t' : Nat} {d' : Drawn} {ch : List Addr} (I : Inv X pins σ H s)
    (hch : ∀ b ∈ ch, (b ∈ X.ex ∨ X.s₀.heap.objs.size ≤ b) ∧ b ≠ X.env.locals ∧ (∀ x c, X.env.cells.lookup x = some c → c ≠ b) ∧ ∀ p ∈ X.pn ++ pins, p.1 ≠ b)
    (keep : ∀ b o, b ≠ X.env.locals → b ∉ X.fs → b ∉ ch → s.heap.get? b = some o → H b = none → h'.get? b = some o)
    (slot : ∀ b o, b ≠ X.env.locals → b ∈ X.fs → b ∉ ch → s.heap.get? b = some o → H b = none → ∃ sl, h'.get? b = some { o with slots := sl }) (free : ∀ b o, b ∉ ch → s.heap.get? b = some o → H b = none → H' b = none)
    (there : ∀ b o, b ∉ ch → s.heap.get? b = some o → ∃ o', h'.get? b = some o')
    (tups : ∀ b xs, H b = some (.tup xs) → H' b = some (.tup xs)) (frzs : ∀ b o u, H b = some (.frz o u) → H' b = some (.frz o u)) (tbls : ∀ b ps, H b = some (.tbl ps) → ∃ more, H' b = some (.tbl (ps ++ more)))
    (ns : ∀ m, s.heap.Ns X.env.locals m → h'.Ns X.env.locals m) (hok : HOk X.prog X.w H' h') (hg : AllBare g') :
    Inv X pins σ H' { s with heap := h', gens := g', drawn := d', toks := t' } := by
  have neL : ∀ b o, X.s₀.heap.get? b = some o → b ≠ X.env.locals := fun b o e => Nat.ne_of_lt (Nat.lt_of_lt_of_le (Heap.lt_size e) I.ok.above)
  have neC : ∀ b o, X.s₀.heap.get? b = some o → b ∉ X.ex → b ∉ ch := fun b o e hx hb => by
    rcases (hch b hb).1 with z | z
    · exact hx z
    · exact absurd (Nat.lt_of_lt_of_le (Heap.lt_size e) z) (Nat.lt_irrefl _)
  have cellK : ∀ x c, X.env.cells.lookup x = some c → ∀ v, s.heap.IsCell c v → h'.IsCell c v := fun x c e v ⟨o, ho, hd⟩ => by
    have nch : c ∉ ch := fun z => (hch c z).2.2.1 x c e rfl
    by_cases hc : c ∈ X.fs
    · obtain ⟨sl, q⟩ := slot c o (I.cne x c e) hc nch ho (I.freeC x c e)
      exact ⟨_, q, hd⟩
    · exact ⟨o, keep c o (I.cne x c e) hc nch ho (I.freeC x c e), hd⟩
  refine ⟨I.ok, I.os, hg, ⟨fun b o e n hb hx => ?_, fun b o e n hb hx => ?_, fun b o e n hx => ?_, fun b o e hx => ?_, fun b xs e => tups b xs (I.base.tups b xs e), fun b o xs e => frzs b o xs (I.base.frzs b o xs e), fun b ps e => ?_⟩, ?_, fun x c e => ?_, ?_, fun x c e => ?_, fun p hp => ?_, hok, I.len⟩
  · exact keep b o (neL b o e) hb (neC b o e hx) (I.base.keep b o e n hb hx) (I.base.free b o e n hx)
  · obtain ⟨sl, e1⟩ := I.base.slot b o e n hb hx
    obtain ⟨sl', e2⟩ := slot b _ (neL b o e) hb (neC b o e hx) e1 (I.base.free b o e n hx)
    exact ⟨sl', e2⟩
  · obtain ⟨o', e1⟩ := I.base.there b o e hx
    exact free b o' (neC b o e hx) e1 (I.base.free b o e n hx)
  · obtain ⟨o', e1⟩ := I.base.there b o e hx
    exact there b o' (neC b o e hx) e1
  · obtain ⟨m1, e1⟩ := I.base.tbls b ps e
    obtain ⟨m2, e2⟩ := tbls b _ e1
    exact ⟨m1 ++ m2, by rw [e2, Array.append_assoc]⟩
  · obtain ⟨m, hn, hl⟩ := I.loc
    refine ⟨m, ns m hn, fun i x v e1 e2 e3 => ?_⟩
    obtain ⟨u, r, l⟩ := hl i x v e1 e2 e3
    refine ⟨u, r, ?_⟩
    rcases l with l | ⟨k, c, e, z⟩
    · exact .inl l
    · exact .inr ⟨k, c, e, cellK x c e _ z⟩
  · obtain ⟨v, z⟩ := I.cell x c e
    exact ⟨v, cellK x c e v z⟩
  · obtain ⟨m, ⟨o, _, _, ho, _⟩, _⟩ := I.loc
    exact free _ o (fun z => (hch _ z).2.1 rfl) ho I.free
  · obtain ⟨v, o, ho, hd⟩ := I.cell x c e
    exact free c o (fun z => (hch c z).2.2.1 x c e rfl) ho (I.freeC x c e)
  · obtain ⟨e, n, ne, nf, d⟩ := I.pin p hp
    have nch : p.1 ∉ ch := fun z => (hch p.1 z).2.2.2 p hp rfl
    exact ⟨keep p.1 p.2 ne nf nch e n, free p.1 p.2 nch e n, ne, nf, d⟩
theorem Inv.un {t' : Nat} (I : Inv X pins σ H s) (u : Un X.fs [] H H' s.heap h') (hok : HOk X.prog X.w H' h') : Inv X pins σ H' { s with heap := h', toks := t' } := by
  obtain ⟨m, ⟨o, es, ep, ho, r⟩, _⟩ := id I.loc
  obtain ⟨sl, hL⟩ := u.any ho I.free (by simp)
  exact I.step (g' := s.gens) (d' := s.drawn) (ch := []) (fun _ z => nomatch z) (fun b o _ hb _ e n => u.keep b o e n hb (by simp)) (fun b o _ hb _ e n => u.slot b o e n hb (by simp)) (fun b o _ e n => u.free b o e n (by simp)) (fun b o _ e => u.there b o e (by simp)) u.tups u.frzs u.tbls (fun m' hm => by
    obtain ⟨o', es', ep', ho', r'⟩ := hm
    rw [ho] at ho'; cases ho'
    exact ⟨_, es', ep', hL, r'⟩) hok I.bare
theorem Inv.call {g' : Array GenState} {t' : Nat} {d' : Drawn} {ch : List Addr} (I : Inv X pins σ H s) (u : Un (frs X.stack) ch H H' s.heap h') (hok : HOk X.prog X.w H' h') (hg : AllBare g')
    (hch : ∀ b ∈ ch, (b ∈ X.ex ∨ X.s₀.heap.objs.size ≤ b) ∧ b ≠ X.env.locals ∧ (∀ x c, X.env.cells.lookup x = some c → c ≠ b) ∧ ∀ p ∈ X.pn ++ pins, p.1 ≠ b) :
    Inv X pins σ H' { s with heap := h', gens := g', drawn := d', toks := t' } := by
  obtain ⟨m, ⟨o, es, ep, ho, r⟩, _⟩ := id I.loc
  obtain ⟨sl, hL⟩ := u.any ho I.free fun z => (hch _ z).2.1 rfl
  exact I.step (ch := ch) hch (fun b o hL hb hc e n => u.keep b o e n (fun z => (List.mem_cons.mp (I.stkSub b z)).elim hL hb) hc) (fun b o _ _ hc e n => u.any e n hc) (fun b o hc e n => u.free b o e n hc) (fun b o hc e => u.there b o e hc) u.tups u.frzs u.tbls (fun m' hm => by
    obtain ⟨o', es', ep', ho', r'⟩ := hm
    rw [ho] at ho'; cases ho'
    exact ⟨_, es', ep', hL, r'⟩) hok hg
theorem Inv.turned {t' : Nat} {it : Addr} (I : Inv X pins σ H s) (k : ∀ b o, b ≠ it → s.heap.get? b = some o → h'.get? b = some o) (hn : H it = none) (hL : it ≠ X.env.locals)
    (h1 : it ∈ X.ex ∨ X.s₀.heap.objs.size ≤ it) (h2 : ∀ x c, X.env.cells.lookup x = some c → c ≠ it) (h3 : ∀ p ∈ X.pn ++ pins, p.1 ≠ it) : Inv X pins σ H { s with heap := h', toks := t' } := by
  have nit : ∀ b u, H b = some u → b ≠ it := fun b u e z => by rw [z, hn] at e; cases e
  refine I.step (g' := s.gens) (d' := s.drawn) (ch := [it]) (fun b hb => ?_) (fun b o _ _ hc e _ => k b o (fun z => hc (by simp [z])) e) (fun b o _ _ hc e _ => ⟨o.slots, k b o (fun z => hc (by simp [z])) e⟩) (fun _ _ _ _ n => n)
    (fun b o hc e => ⟨o, k b o (fun z => hc (by simp [z])) e⟩) (fun _ _ e => e) (fun _ _ _ e => e) (fun b ps e => ⟨#[], by rw [e]; simp⟩) (fun m hm => ?_) (fun b u e => ?_) I.bare
  · have e : b = it := by simpa using hb
    subst e
    exact ⟨h1, hL, h2, h3⟩
  · obtain ⟨o, es, ep, ho, r⟩ := hm
    exact ⟨o, es, ep, k _ o (Ne.symm hL) ho, r⟩
  · refine (I.hok b u e).stay (fun c v hc q => k c v ?_ q) (fun _ q => q) fun _ _ q => q
    rcases hc with z | z
    · rw [z]; exact nit b u e
    · exact nit c _ z
theorem Inv.tok (I : Inv X pins σ H s) (t : Nat) : Inv X pins σ H { s with toks := t } := I.un (h' := s.heap) (t' := t) Un.refl I.hok
theorem Inv.kept {t' : Nat} (I : Inv X pins σ H s) (k : ∀ b u, s.heap.get? b = some u → h'.get? b = some u) : Inv X pins σ H { s with heap := h', toks := t' } := I.un (Un.kept k) (I.hok.kept k)
theorem Inv.laid {a : Addr} {o : HO} {t' : Nat} (I : Inv X pins σ H s) (k : ∀ b u, s.heap.get? b = some u → h'.get? b = some u) (hp : s.heap.objs.size ≤ a) (new : ObjOk X.prog X.w (upd H a o) h' a o) :
    Inv X pins σ (upd H a o) { s with heap := h', toks := t' } := I.un (Un.laid k hp (I.hok.fresh hp)) (I.hok.laid k hp new)
theorem Inv.write {x e : Addr} {o : HO} {t' : Nat} (I : Inv X pins σ H s) (mu : Mut (H x)) (he : e = x ∨ H e = some (.own x)) (k : ∀ b u, b ≠ e → s.heap.get? b = some u → h'.get? b = some u) (heo : ∃ u, h'.get? e = some u)
    (new : ObjOk X.prog X.w (upd H x o) h' x o) : Inv X pins σ (upd H x o) { s with heap := h', toks := t' } := I.un (Un.write mu he k heo) (I.hok.write mu he k heo new)
theorem Inv.pins_of {pins' : List (Addr × Obj)} (I : Inv X pins σ H s) (h : ∀ p ∈ pins', s.heap.get? p.1 = some p.2 ∧ H p.1 = none ∧ p.1 ≠ X.env.locals ∧ p.1 ∉ X.fs ∧ ∀ v, p.2.data ≠ .cell v) : Inv X pins' σ H s :=
  ⟨I.ok, I.os, I.bare, I.base, I.loc, I.cell, I.free, I.freeC, fun p hp => (List.mem_append.mp hp).elim (fun z => I.pin p (List.mem_append_left _ z)) (h p), I.hok, I.len⟩

theorem nodup_ix {N : List Str} (hN : N.Nodup) {i j : Nat} {x : Str} (a : N[i]? = some x) (b : N[j]? = some x) : i = j := by
  obtain ⟨h1, e1⟩ := List.getElem?_eq_some_iff.mp a
  obtain ⟨h2, e2⟩ := List.getElem?_eq_some_iff.mp b
  exact (List.getElem_inj hN).mp (e1.trans e2.symm)

theorem store_ok2 {M : Model} {A : Around} {E : Value → Shared → Prop} {i : Nat} {x : Str} {v : V} {u : Value} {Q : Unit → Shared → Prop} (I : Inv X pins σ H s) (hN : X.N.Nodup) (hi : X.N[i]? = some x) (hx : Loc X.env.scope x) (r : RelV v u)
    (h : ∀ s', Inv X pins (σ.set i (some v)) H s' → (∃ a, Heap.SameBut a s.heap s'.heap ∧ (a = X.env.locals ∨ X.env.cells.lookup x = some a)) → Q () s') (hf : X.fn x = true ∨ X.env.scope.names.lookup x = some .local := by first | exact .inl rfl | exact .inr rfl | assumption) : wpAny M A (storeName X.env x u) Q E s := by
  obtain ⟨m, hn, hl⟩ := id I.loc
  have hcls : (X.env.scope.kind == .class || (X.env.scope.kind == .module && X.env.locals != X.env.globals)) = false := by rw [I.ok.kind]; rfl
  have hiσ : i < σ.length := by rw [I.len]; exact (List.getElem?_eq_some_iff.mp hi).1
  have cne := I.cne
  have tracked : ∀ {a : Addr} {h' : Heap}, (∃ o, s.heap.get? a = some o ∧ H a = none) → Heap.SameBut a s.heap h' → HOk X.prog X.w H h' := fun {a h'} ha hs b ob e => by
    obtain ⟨_, _, hfree⟩ := ha
    refine (I.hok b ob e).stay (fun c w' hc q => (hs.2 c ?_).trans q) (fun _ q => q) fun _ _ q => q
    rintro rfl
    rcases hc with rfl | hc
    · rw [hfree] at e; cases e
    · rw [hfree] at hc; cases hc
  rcases hx with hk | hk
  · refine wpAny_storeName_local hk hn (fun h' hn' hs => ?_) hcls
    obtain ⟨oL, _, _, hoL, _⟩ := id hn
    refine h _ ⟨I.ok, I.os, I.bare, ⟨fun b o e n hb hx => ?_, fun b o e n hb hx => ?_, I.base.free, fun b o e hx => ?_, I.base.tups, I.base.frzs, I.base.tbls⟩, ⟨_, hn', fun j y v' e1 e2 e3 => ?_⟩, fun y c e => ?_, I.free, I.freeC, fun p hp => ?_, tracked ⟨oL, hoL, I.free⟩ hs, by simpa using I.len⟩ ⟨_, hs, .inl rfl⟩
    · exact (hs.2 b (Nat.ne_of_lt (Nat.lt_of_lt_of_le (Heap.lt_size e) I.ok.above))).trans (I.base.keep b o e n hb hx)
    · obtain ⟨sl, e1⟩ := I.base.slot b o e n hb hx
      exact ⟨sl, (hs.2 b (Nat.ne_of_lt (Nat.lt_of_lt_of_le (Heap.lt_size e) I.ok.above))).trans e1⟩
    · obtain ⟨o', e1⟩ := I.base.there b o e hx
      exact ⟨o', (hs.2 b (Nat.ne_of_lt (Nat.lt_of_lt_of_le (Heap.lt_size e) I.ok.above))).trans e1⟩
    · by_cases hj : j = i
      · subst hj
        rw [hi] at e1; cases e1
        rw [List.getElem?_set_self hiσ] at e2
        cases e2
        exact ⟨u, r, .inl ⟨hk, by simp⟩⟩
      · rw [List.getElem?_set_ne (Ne.symm hj)] at e2
        obtain ⟨u', r', q⟩ := hl j y v' e1 e2 e3
        refine ⟨u', r', ?_⟩
        rcases q with ⟨k, e⟩ | ⟨k, c, e, z⟩
        · refine .inl ⟨k, ?_⟩
          have : y ≠ x := fun e => hj (nodup_ix hN e1 (e ▸ hi))
          simp [this, e]
        · exact .inr ⟨k, c, e, z.sameBut hs (cne y c e)⟩
    · obtain ⟨w', z⟩ := I.cell y c e
      exact ⟨w', z.sameBut hs (cne y c e)⟩
    · obtain ⟨e, n, ne, nf, d⟩ := I.pin p hp
      exact ⟨(hs.2 p.1 ne).trans e, n, ne, nf, d⟩
  · have hfn : X.fn x = true := by
      rcases hf with z | z
      · exact z
      · rw [z] at hk; cases hk
    obtain ⟨c, hc⟩ := I.ok.has x (.inl hk)
    obtain ⟨w', z⟩ := I.cell x c hc
    refine wpAny_storeName_cell I.ok.kind hk hc z (fun h' hc' hs => ?_)
    obtain ⟨oc, hoc, hocd⟩ := id z
    refine h { s with heap := h' } ⟨I.ok, I.os, I.bare, ⟨fun b o e n hb hx => ?_, fun b o e n hb hx => ?_, I.base.free, fun b o e hx => ?_, I.base.tups, I.base.frzs, I.base.tbls⟩, ⟨m, hn.sameBut hs (Ne.symm (cne x c hc)), fun j y v' e1 e2 e3 => ?_⟩, fun y c' e => ?_, I.free, I.freeC, fun p hp => ?_, tracked ⟨oc, hoc, I.freeC x c hc⟩ hs, by simpa using I.len⟩ ⟨c, hs, .inr hc⟩
    · exact (hs.2 b (Nat.ne_of_lt (Nat.lt_of_lt_of_le (Heap.lt_size e) (I.ok.cab x c hfn hc)))).trans (I.base.keep b o e n hb hx)
    · obtain ⟨sl, e1⟩ := I.base.slot b o e n hb hx
      exact ⟨sl, (hs.2 b (Nat.ne_of_lt (Nat.lt_of_lt_of_le (Heap.lt_size e) (I.ok.cab x c hfn hc)))).trans e1⟩
    · obtain ⟨o', e1⟩ := I.base.there b o e hx
      exact ⟨o', (hs.2 b (Nat.ne_of_lt (Nat.lt_of_lt_of_le (Heap.lt_size e) (I.ok.cab x c hfn hc)))).trans e1⟩
    · by_cases hj : j = i
      · subst hj
        rw [hi] at e1; cases e1
        rw [List.getElem?_set_self hiσ] at e2
        cases e2
        exact ⟨u, r, .inr ⟨.inl hk, c, hc, hc'⟩⟩
      · rw [List.getElem?_set_ne (Ne.symm hj)] at e2
        obtain ⟨u', r', q⟩ := hl j y v' e1 e2 e3
        refine ⟨u', r', ?_⟩
        rcases q with q | ⟨k, c', e, z'⟩
        · exact .inl q
        · refine .inr ⟨k, c', e, z'.sameBut hs ?_⟩
          rintro rfl
          exact hj (nodup_ix hN e1 (I.ok.inj _ _ _ e hc ▸ hi))
    · by_cases hcc : c' = c
      · subst hcc; exact ⟨_, hc'⟩
      · obtain ⟨w2, z2⟩ := I.cell y c' e
        exact ⟨w2, z2.sameBut hs hcc⟩
    · obtain ⟨e, n, ne, nf, d⟩ := I.pin p hp
      refine ⟨(hs.2 p.1 ?_).trans e, n, ne, nf, d⟩
      intro q
      rw [q, hoc] at e
      have q' : oc = p.2 := Option.some.inj e
      exact d w' (by rw [← q']; exact hocd)
theorem store_ok {M : Model} {A : Around} {E : Value → Shared → Prop} {i : Nat} {x : Str} {v : V} {u : Value} {Q : Unit → Shared → Prop} (I : Inv X pins σ H s) (hN : X.N.Nodup) (hi : X.N[i]? = some x) (hx : Loc X.env.scope x) (r : RelV v u)
    (h : ∀ s', Inv X pins (σ.set i (some v)) H s' → Q () s') (hf : X.fn x = true ∨ X.env.scope.names.lookup x = some .local := by first | exact .inl rfl | exact .inr rfl | assumption) : wpAny M A (storeName X.env x u) Q E s :=
  store_ok2 I hN hi hx r (fun s' I' _ => h s' I') hf
theorem Inv.call' {s' : Shared} {ch : List Addr} (I : Inv X pins σ H s) (ho : s'.os = s.os) (u : Un (frs X.stack) ch H H' s.heap s'.heap) (hok : HOk X.prog X.w H' s'.heap) (hg : AllBare s'.gens)
    (hch : ∀ b ∈ ch, (b ∈ X.ex ∨ X.s₀.heap.objs.size ≤ b) ∧ b ≠ X.env.locals ∧ (∀ x c, X.env.cells.lookup x = some c → c ≠ b) ∧ ∀ p ∈ X.pn ++ pins, p.1 ≠ b) : Inv X pins σ H' s' := by
  obtain ⟨h', g', d', t', o'⟩ := s'
  have e : o' = s.os := ho
  subst e
  exact I.call (g' := g') (t' := t') (d' := d') u hok hg hch
end

abbrev XK := Value → Option Addr → Hp → Prop
abbrev St := List (Option V)
abbrev VK := V → Hp → Prop
abbrev TE := St → Hp → VK → Prop
abbrev TT := St → Hp → (Bool → Hp → Prop) → Prop
abbrev TA := St → Hp → (List V → Hp → Prop) → Prop
structure Ends where
  nx : St → Hp → Prop
  rt : VK
  bk : St → Hp → Prop := fun _ _ => False
  ct : St → Hp → Prop := fun _ _ => False
abbrev TS := Ends → St → Hp → Prop

def EP (X : Cx) (pins : List (Addr × Obj)) (σ : St) (Q : VK) (u : Value) (s' : Shared) : Prop := ∃ v H', Inv X pins σ H' s' ∧ RelV v u ∧ Q v H'
def TP (X : Cx) (pins : List (Addr × Obj)) (σ : St) (Q : Bool → Hp → Prop) (b : Bool) (s' : Shared) : Prop := ∃ H', Inv X pins σ H' s' ∧ Q b H'
def AP (X : Cx) (pins : List (Addr × Obj)) (σ : St) (Q : List V → Hp → Prop) (us : List Value) (s' : Shared) : Prop := ∃ vs H', Inv X pins σ H' s' ∧ Vals vs us ∧ Q vs H'
def SP (X : Cx) (pins : List (Addr × Obj)) (D : Ends) (f : Flow) (s' : Shared) : Prop :=
  match f with
  | .next => ∃ σ' H', Inv X pins σ' H' s' ∧ D.nx σ' H'
  | .brk => ∃ σ' H', Inv X pins σ' H' s' ∧ D.bk σ' H'
  | .cont => ∃ σ' H', Inv X pins σ' H' s' ∧ D.ct σ' H'
  | .ret u => ∃ v σ' H', Inv X pins σ' H' s' ∧ RelV v u ∧ D.rt v H'

def PE (X : Cx) (e : Expr) (t : TE) : Prop :=
  ∀ (pins : List (Addr × Obj)) (s : Shared) (σ : St) (H : Hp) (Q : VK), Inv X pins σ H s → t σ H Q → wpAny (model X.prog X.w) X.A (eval e X.env) (EP X pins σ Q) X.xe s
def PT (X : Cx) (e : Expr) (t : TT) : Prop :=
  ∀ (pins : List (Addr × Obj)) (s : Shared) (σ : St) (H : Hp) (Q : Bool → Hp → Prop), Inv X pins σ H s → t σ H Q → wpAny (model X.prog X.w) X.A (isTrue e X.env (eval e X.env)) (TP X pins σ Q) X.xe s
def PW (X : Cx) (e : Expr) (t : TT) : Prop :=
  ∀ (whole : Sem Value) (pins : List (Addr × Obj)) (s : Shared) (σ : St) (H : Hp) (Q : Bool → Hp → Prop), Inv X pins σ H s → t σ H Q → wpAny (model X.prog X.w) X.A (isTrue e X.env whole) (TP X pins σ Q) X.xe s
theorem PW.pt {X : Cx} {e : Expr} {t : TT} (h : PW X e t) : PT X e t := h _
def PA (X : Cx) (es : List Expr) (t : TA) : Prop :=
  ∀ (pos : Pos) (pins : List (Addr × Obj)) (s : Shared) (σ : St) (H : Hp) (Q : List V → Hp → Prop), Inv X pins σ H s → t σ H Q → wpAny (model X.prog X.w) X.A (spliced (backTo pos (starEach es X.env))) (AP X pins σ Q) X.xe s
def PS (X : Cx) (st : Stmt) (t : TS) : Prop :=
  ∀ (pins : List (Addr × Obj)) (s : Shared) (σ : St) (H : Hp) (D : Ends), Inv X pins σ H s → t D σ H → wpAny (model X.prog X.w) X.A (exec st X.env) (SP X pins D) X.xe s
def PSs (X : Cx) (st : List Stmt) (t : TS) : Prop :=
  ∀ (pins : List (Addr × Obj)) (s : Shared) (σ : St) (H : Hp) (D : Ends), Inv X pins σ H s → t D σ H → wpAny (model X.prog X.w) X.A (execs st X.env) (SP X pins D) X.xe s
theorem thn {α : Type} {t : Sem α} {Q Q' : α → Shared → Prop} {M : Model} {A : Around} {E : Value → Shared → Prop} {s : Shared} (h : wpAny M A t Q E s) (hQ : ∀ a s, Q a s → Q' a s) : wpAny M A t Q' E s := wpAny_mono h hQ fun _ _ x => x
end L2

namespace L2
open PySem PySem.Spec PyProof.Rows
section
variable {X : Cx}

theorem bin {a b : Expr} {ta tb : TE} (ha : PE X a ta) (hb : PE X b tb) {pins : List (Addr × Obj)} {s : Shared} {σ : St} {H : Hp} {R : V → V → Hp → Prop} (I : Inv X pins σ H s) (h : ta σ H fun x H1 => tb σ H1 fun y H2 => R x y H2)
    {α : Type} {Q : α → Shared → Prop} {f : Value → Value → Sem α}
    (hf : ∀ v u s2 x y H2, Inv X pins σ H2 s2 → RelV x v → RelV y u → R x y H2 → wpAny (model X.prog X.w) X.A (f v u) Q X.xe s2) :
    wpAny (model X.prog X.w) X.A (eval a X.env) (fun v s₁ => wpAny (model X.prog X.w) X.A (eval b X.env) (fun u s₂ => wpAny (model X.prog X.w) X.A (f v u) Q X.xe s₂) X.xe s₁) X.xe s := by
  refine thn (ha pins s σ H _ I h) fun v s1 ⟨x, H1, I1, r1, q1⟩ => ?_
  refine thn (hb pins s1 σ H1 _ I1 q1) fun u s2 ⟨y, H2, I2, r2, q2⟩ => ?_
  exact hf v u s2 x y H2 I2 r1 r2 q2

def tVar (i : Nat) : TE := fun σ H Q => ∃ v, σ[i]? = some (some v) ∧ Q v H
def tC (v : V) : TE := fun _ H Q => Q v H
theorem pe_var {i : Nat} {x : Str} {pos : Pos} (hN : X.N[i]? = some x) (hv : Vis X.env.scope x) (hd : (x == ("__debug__" : Str)) = false := by decide) (hcd : (x == ("__classdict__" : Str)) = false := by decide) : PE X (.Name x pos) (tVar i) := by
  intro pins s σ H Q I h
  obtain ⟨v, e, h⟩ := h
  obtain ⟨m, hn, hl⟩ := I.loc
  obtain ⟨u, r, l⟩ := hl i x v hN e hv
  have fin : EP X pins σ Q u s := ⟨v, H, I, r, h⟩
  rcases l with ⟨hk, hm⟩ | ⟨hk, c, hc, hcell⟩
  · exact wpAny_Name (wpAny_loadName_local I.ok.kind hk hn hm fin) hd
  · rcases hk with hk | hk
    · exact wpAny_Name (wpAny_loadName_cell I.ok.kind hk hc hcell fin) hd
    · exact wpAny_Name (wpAny_loadName_free I.ok.kind hk hc hcell fin hcd) hd
theorem pe_int {i j pos} : PE X (.Constant (.int i) j pos) (tC (.int i)) := fun _ _ _ H _ I h => wpAny_Constant_int ⟨.int i, H, I.tok _, ⟨_, rfl⟩, h⟩
theorem pe_bl {b j pos} : PE X (.Constant (.bool b) j pos) (tC (.bl b)) := fun _ _ _ H _ I h => Constant_bool ⟨.bl b, H, I, rfl, h⟩
theorem pe_non {j pos} : PE X (.Constant .none j pos) (tC .non) := fun _ _ _ H _ I h => Constant_none ⟨.non, H, I, rfl, h⟩
theorem pe_str {x j pos} : PE X (.Constant (.str x) j pos) (tC (.str x)) := fun _ _ _ H _ I h => Calls.Constant_str ⟨.str x, H, I.tok _, ⟨_, rfl⟩, h⟩

def Gl (X : Cx) (x : Str) : Prop := X.env.kindOf x = some .globalImplicit
theorem ld_glob {E : Value → Shared → Prop} {pins : List (Addr × Obj)} {s : Shared} {σ : St} {H : Hp} {x : Str} {u : Value} {pos : Pos} {Q : Value → Shared → Prop} (I : Inv X pins σ H s) (hg : Gl X x) (hm : X.mg x = some u) (h : Q u s)
    (hd : (x == ("__debug__" : Str)) = false := by decide) : wpAny (model X.prog X.w) X.A (eval (.Name x pos) X.env) Q E s :=
  Calls.Name_function_global I.ok.kind hg (Calls.loadGlobal_global (by rw [I.ok.glob]; exact I.mod.glob.keeps I.bk) hm h) hd
theorem ld_blt {E : Value → Shared → Prop} {pins : List (Addr × Obj)} {s : Shared} {σ : St} {H : Hp} {x : Str} {u : Value} {pos : Pos} {Q : Value → Shared → Prop} (I : Inv X pins σ H s) (hg : Gl X x) (hm : X.mg x = none) (hv : bootBuiltins x = some u) (h : Q u s)
    (hn : x ≠ "__name__" := by decide) (hd : (x == ("__debug__" : Str)) = false := by decide) : wpAny (model X.prog X.w) X.A (eval (.Name x pos) X.env) Q E s := by
  obtain ⟨mb, h1, h2⟩ := I.mod.blt
  exact Calls.Name_function_global I.ok.kind hg (Calls.loadGlobal_builtin (by rw [I.ok.glob]; exact I.mod.glob.keeps I.bk) hm (by rw [I.ok.blt]; exact h1.keeps I.bk) ((h2 x hn).trans hv) h) hd
theorem pe_glob {x : Str} {v : V} {u : Value} {pos : Pos} (hg : Gl X x) (hm : X.mg x = some u) (r : RelV v u) (hd : (x == ("__debug__" : Str)) = false := by decide) : PE X (.Name x pos) (tC v) :=
  fun _ _ _ H _ I h => ld_glob I hg hm ⟨v, H, I, r, h⟩ hd
theorem pe_bltn {x : Str} {v : V} {u : Value} {pos : Pos} (hg : Gl X x) (hm : X.mg x = none) (hv : bootBuiltins x = some u) (r : RelV v u) (hn : x ≠ "__name__" := by decide) (hd : (x == ("__debug__" : Str)) = false := by decide) : PE X (.Name x pos) (tC v) :=
  fun _ _ _ H _ I h => ld_blt I hg hm hv ⟨v, H, I, r, h⟩ hn hd

def t2I (ta tb : TE) (k : Int → Int → Hp → Prop) : St → Hp → Prop := fun σ H => ta σ H fun x H1 => tb σ H1 fun y H2 => ∃ i j, x = .int i ∧ y = .int j ∧ k i j H2
variable {a b : Expr} {ta tb : TE} {pos : Pos}
def PC (X : Cx) (op : CmpOp) (a b : Expr) (t : TE) : Prop :=
  ∀ (pins : List (Addr × Obj)) (s : Shared) (σ : St) (H : Hp) (Q : VK), Inv X pins σ H s → t σ H Q →
    wpAny (model X.prog X.w) X.A (eval a X.env) (fun v s₁ => wpAny (model X.prog X.w) X.A (eval b X.env) (fun u s₂ => wpAny (model X.prog X.w) X.A (compareOp op v u) (EP X pins σ Q) X.xe s₂) X.xe s₁) X.xe s
theorem nobehind (b : Expr) {op : CmpOp} (h : op ≠ .In) (h2 : op ≠ .NotIn) : behindInMarks op b = false := by
  have e1 : (op == CmpOp.In) = false := by cases op <;> first | rfl | exact absurd rfl h
  have e2 : (op == CmpOp.NotIn) = false := by cases op <;> first | rfl | exact absurd rfl h2
  cases b <;> simp [behindInMarks, e1, e2]
def tCmp (p : Int → Int → Bool) (ta tb : TE) : TE := fun σ H Q => t2I ta tb (fun i j H2 => Q (.bl (p i j)) H2) σ H
abbrev tLt : TE → TE → TE := tCmp fun i j => decide (i < j)
abbrev tLe : TE → TE → TE := tCmp fun i j => decide (i ≤ j)
abbrev tGt : TE → TE → TE := tCmp fun i j => decide (j < i)
abbrev tGe : TE → TE → TE := tCmp fun i j => decide (j ≤ i)
abbrev tEqI : TE → TE → TE := tCmp fun i j => decide (i = j)
abbrev tNeI : TE → TE → TE := tCmp fun i j => !decide (i = j)
def tB (t : TE) : TT := fun σ H Q => t σ H fun x H1 => ∃ c, x = .bl c ∧ Q c H1
theorem pt_cmp {op : CmpOp} {t : TE} (h : PC X op a b t) (h1 : behindInMarks op b = false := by first | exact nobehind _ (by decide) (by decide) | rfl) : PT X (.Compare a [op] [b] pos) (tB t) := by
  intro pins s σ H Q I hw
  refine wpAny_isTrue_Compare1 (thn (h pins s σ H _ I hw) fun v s1 h1 => thn h1 fun u s2 h2 => thn h2 fun c s3 ⟨x, H1, I1, r1, q1⟩ => ?_) h1
  obtain ⟨d, rfl, q⟩ := q1
  cases r1
  exact wpAny_truthy_bool ⟨H1, I1, q⟩
theorem pt_val {e : Expr} {t : TE} (h : PE X e t) (he : ∀ whole, isTrue e X.env whole = (do let v ← whole; standAt e.pos; holding [v] (truthy v)) := by intro _; rfl) : PT X e (tB t) := by
  intro pins s σ H Q I hw
  refine isTrue_plain (thn (h pins s σ H _ I hw) fun v s1 ⟨x, H1, I1, r1, q1⟩ => ?_) (he _)
  obtain ⟨d, rfl, q⟩ := q1
  cases r1
  exact wpAny_truthy_bool ⟨H1, I1, q⟩

variable {tA tB' : TT} {rest : List Expr}
def tAnd (t u : TT) : TT := fun σ H Q => t σ H fun c H1 => if c = true then u σ H1 Q else Q false H1
def tOr (t u : TT) : TT := fun σ H Q => t σ H fun c H1 => if c = true then Q true H1 else u σ H1 Q
def tNot (t : TT) : TT := fun σ H Q => t σ H fun c H1 => Q (!c) H1
theorem pw_and1 (ha : PT X a tA) : PW X (.BoolOp .And [a] pos) tA := by
  intro wh pins s σ H Q I h
  refine isTrue_and (thn (ha pins s σ H Q I h) fun c s1 e => ?_)
  cases c with
  | true => exact isTrue_and_nil e
  | false => exact e
theorem pw_or1 (ha : PT X a tA) : PW X (.BoolOp .Or [a] pos) tA := by
  intro wh pins s σ H Q I h
  refine isTrue_or (thn (ha pins s σ H Q I h) fun c s1 e => ?_)
  cases c with
  | false => exact isTrue_or_nil e
  | true => exact e
theorem pw_and (ha : PT X a tA) (hb : PW X (.BoolOp .And (b :: rest) pos) tB') : PW X (.BoolOp .And (a :: b :: rest) pos) (tAnd tA tB') := by
  intro wh pins s σ H Q I h
  refine isTrue_and (thn (ha pins s σ H _ I h) fun c s1 ⟨H1, I1, q1⟩ => ?_)
  cases c with
  | true => exact hb wh pins s1 σ H1 Q I1 q1
  | false => exact ⟨H1, I1, q1⟩
theorem pw_or (ha : PT X a tA) (hb : PW X (.BoolOp .Or (b :: rest) pos) tB') : PW X (.BoolOp .Or (a :: b :: rest) pos) (tOr tA tB') := by
  intro wh pins s σ H Q I h
  refine isTrue_or (thn (ha pins s σ H _ I h) fun c s1 ⟨H1, I1, q1⟩ => ?_)
  cases c with
  | true => exact ⟨H1, I1, q1⟩
  | false => exact hb wh pins s1 σ H1 Q I1 q1
theorem pt_not (ha : PT X a tA) : PT X (.UnaryOp .Not a pos) (tNot tA) := by
  intro pins s σ H Q I h
  exact isTrue_not (ha pins s σ H (fun c H1 => Q (!c) H1) I h)
def tAndV (ta tb : TE) : TE := fun σ H Q => ta σ H fun x H1 => ∃ c, x = .bl c ∧ if c = true then tb σ H1 Q else Q (.bl false) H1
def tOrV (ta tb : TE) : TE := fun σ H Q => ta σ H fun x H1 => ∃ c, x = .bl c ∧ if c = true then Q (.bl true) H1 else tb σ H1 Q
def tNotV (ta : TE) : TE := fun σ H Q => ta σ H fun x H1 => ∃ c, x = .bl c ∧ Q (.bl (!c)) H1
theorem pe_one {op} {t : TE} (h : PE X a t) : PE X (.BoolOp op [a] pos) t := fun pins s σ H Q I hw => BoolOp_one (h pins s σ H Q I hw)
theorem pe_and (ha : PE X a ta) (hb : PE X (.BoolOp .And (b :: rest) pos) tb) : PE X (.BoolOp .And (a :: b :: rest) pos) (tAndV ta tb) := by
  intro pins s σ H Q I h
  refine BoolOp_and (thn (ha pins s σ H _ I h) fun v s1 ⟨x, H1, I1, r1, q1⟩ => ?_)
  obtain ⟨c, rfl, q1⟩ := q1
  cases r1
  refine wpAny_truthy_bool ?_
  cases c with
  | true => exact hb pins s1 σ H1 Q I1 q1
  | false => exact ⟨.bl false, H1, I1, rfl, q1⟩
theorem pe_or (ha : PE X a ta) (hb : PE X (.BoolOp .Or (b :: rest) pos) tb) : PE X (.BoolOp .Or (a :: b :: rest) pos) (tOrV ta tb) := by
  intro pins s σ H Q I h
  refine BoolOp_or (thn (ha pins s σ H _ I h) fun v s1 ⟨x, H1, I1, r1, q1⟩ => ?_)
  obtain ⟨c, rfl, q1⟩ := q1
  cases r1
  refine wpAny_truthy_bool ?_
  cases c with
  | false => exact hb pins s1 σ H1 Q I1 q1
  | true => exact ⟨.bl true, H1, I1, rfl, q1⟩
theorem pe_not (ha : PE X a ta) : PE X (.UnaryOp .Not a pos) (tNotV ta) := by
  intro pins s σ H Q I h
  refine UnaryOp_ (thn (ha pins s σ H _ I h) fun v s1 ⟨x, H1, I1, r1, q1⟩ => ?_)
  obtain ⟨c, rfl, q1⟩ := q1
  cases r1
  exact not_of (wpAny_truthy_bool ⟨.bl (!c), H1, I1, rfl, q1⟩)
end
end L2

namespace L2
open PySem PySem.Spec PyProof.Rows

def SqL (K : PySem.W.Frag) (H : Hp) (a : Addr) (xs : List V) : Prop :=
  Rd H a (.lst xs) ∨
    ∃ (o : Obj) (its : Array Value) (n : Nat), K.lookup a = some o ∧ o.cls = .type "list" ∧ o.dict = none ∧ o.data = .seq its n ∧ its.size ≤ sizeLine ∧ Vals xs its.toList
def SqT (K : PySem.W.Frag) (H : Hp) (a : Addr) (xs : List V) : Prop :=
  Rd H a (.tup xs) ∨
    ∃ (o : Obj) (its : Array Value) (n : Nat), K.lookup a = some o ∧ o.cls = .type "tuple" ∧ o.data = .seq its n ∧ its.size ≤ sizeLine ∧ Vals xs its.toList
def absV : Value → Option V
  | .none => some .non
  | .bool b => some (.bl b)
  | .int i _ => some (.int i)
  | .str x _ => some (.str x)
  | .bytes b _ => some (.byt b)
  | .float b _ => some (.flt b)
  | .ref a => some (.ref a)
  | .type n => some (.ty n)
  | _ => none
theorem RelV.abs {x : V} {u : Value} (r : RelV x u) : absV u = some x := by
  cases x with
  | non => cases r; rfl
  | bl _ => cases r; rfl
  | int _ => obtain ⟨t, rfl⟩ := r; rfl
  | str _ => obtain ⟨t, rfl⟩ := r; rfl
  | byt _ => obtain ⟨t, rfl⟩ := r; rfl
  | flt _ => obtain ⟨t, rfl⟩ := r; rfl
  | ref _ => cases r; rfl
  | ty _ => cases r; rfl
theorem RelV.inj {x y : V} {u : Value} (r : RelV x u) (q : RelV y u) : x = y := Option.some.inj (r.abs.symm.trans q.abs)
theorem Vals.inj : ∀ {xs ys : List V} {us : List Value}, Vals xs us → Vals ys us → xs = ys
  | _, _, _, .nil, .nil => rfl
  | _, _, _, .cons r t, .cons r' t' => by rw [r.inj r', Vals.inj t t']
section
variable {X : Cx} {pins : List (Addr × Obj)} {σ : St} {H : Hp} {s : Shared} {a : Addr} {xs ys : List V}
theorem SqL.of {K : PySem.W.Frag} (h : H a = some (.lst xs)) : SqL K H a xs := .inl (.inl h)
theorem SqT.of {K : PySem.W.Frag} (h : H a = some (.tup xs)) : SqT K H a xs := .inl (.inl h)
theorem Inv.list (I : Inv X pins σ H s) (h : SqL X.K H a xs) : ∃ its : List Value, Vals xs its ∧ PlainL s.heap a its.toArray ∧ xs.length ≤ sizeLine := by
  rcases h with h | ⟨o, its, n, hk, hc, hd, hs, hz, r⟩
  · obtain ⟨z, its, n, r, e⟩ := h.ok I.hok
    exact ⟨its, r, ⟨_, n, e, rfl, rfl, rfl⟩, z⟩
  · refine ⟨its.toList, r, ⟨o, n, I.kIn a o hk, hc, hd, by simpa using hs⟩, ?_⟩
    have e := r.length
    simp only [Array.length_toList] at e
    omega
theorem Inv.tuple (I : Inv X pins σ H s) (h : SqT X.K H a xs) : ∃ its : List Value, Vals xs its ∧ IsTup s.heap a its.toArray ∧ xs.length ≤ sizeLine := by
  rcases h with h | ⟨o, its, n, hk, hc, hs, hz, r⟩
  · obtain ⟨z, its, r, p⟩ := h.ok I.hok
    exact ⟨its, r, p, z⟩
  · refine ⟨its.toList, r, ⟨o, I.kIn a o hk, hc, n, by simpa using hs⟩, ?_⟩
    have e := r.length
    simp only [Array.length_toList] at e
    omega
theorem Inv.list_inj (I : Inv X pins σ H s) (h : SqL X.K H a xs) (h' : SqL X.K H a ys) : xs = ys := by
  obtain ⟨its, r, ⟨o, n, e, _, _, d⟩, _⟩ := I.list h
  obtain ⟨its', r', ⟨o', n', e', _, _, d'⟩, _⟩ := I.list h'
  rw [e] at e'; cases e'
  rw [d] at d'
  injection d' with d1 _
  have : its = its' := by simpa using congrArg Array.toList d1
  subst this
  exact r.inj r'
theorem Inv.tuple_inj (I : Inv X pins σ H s) (h : SqT X.K H a xs) (h' : SqT X.K H a ys) : xs = ys := by
  obtain ⟨its, r, ⟨o, e, _, n, d⟩, _⟩ := I.tuple h
  obtain ⟨its', r', ⟨o', e', _, n', d'⟩, _⟩ := I.tuple h'
  rw [e] at e'; cases e'
  rw [d] at d'
  injection d' with d1 _
  have : its = its' := by simpa using congrArg Array.toList d1
  subst this
  exact r.inj r'
end

abbrev Cx.wish (X : Cx) (E : Value → Shared → Prop) : Cx := { X with xe := E }
abbrev Cx.nox (X : Cx) : Cx := X.wish fun _ _ => False
theorem Cx.Ok.wish {X : Cx} (ok : X.Ok) (E : Value → Shared → Prop) : (X.wish E).Ok :=
  ⟨ok.mod, ok.kind, ok.glob, ok.blt, ok.above, ok.inj, ok.has, ok.cab, ok.hd, ok.frames, ok.stk, ok.exf, ok.bs, ok.bsz, ok.noex, ok.exfs, ok.funs, ok.frf⟩
theorem Cx.Ok.unwish {X : Cx} {E : Value → Shared → Prop} (ok : (X.wish E).Ok) : X.Ok :=
  ⟨ok.mod, ok.kind, ok.glob, ok.blt, ok.above, ok.inj, ok.has, ok.cab, ok.hd, ok.frames, ok.stk, ok.exf, ok.bs, ok.bsz, ok.noex, ok.exfs, ok.funs, ok.frf⟩
section
variable {X : Cx} {pins : List (Addr × Obj)} {σ : St} {H : Hp} {s : Shared} {E : Value → Shared → Prop}
theorem Inv.wish (I : Inv X pins σ H s) (E : Value → Shared → Prop) : Inv (X.wish E) pins σ H s := ⟨I.ok.wish E, I.os, I.bare, I.base, I.loc, I.cell, I.free, I.freeC, I.pin, I.hok, I.len⟩
theorem Inv.unwish (I : Inv (X.wish E) pins σ H s) : Inv X pins σ H s := ⟨I.ok.unwish, I.os, I.bare, I.base, I.loc, I.cell, I.free, I.freeC, I.pin, I.hok, I.len⟩
theorem SP.unwish {D : Ends} {f : Flow} {s' : Shared} (h : SP (X.wish E) pins D f s') : SP X pins D f s' := by
  cases f with
  | next => obtain ⟨σ', H', I, q⟩ := h; exact ⟨σ', H', I.unwish, q⟩
  | brk => obtain ⟨σ', H', I, q⟩ := h; exact ⟨σ', H', I.unwish, q⟩
  | cont => obtain ⟨σ', H', I, q⟩ := h; exact ⟨σ', H', I.unwish, q⟩
  | ret u => obtain ⟨v, σ', H', I, r, q⟩ := h; exact ⟨v, σ', H', I.unwish, r, q⟩
theorem PE.nox {e : Expr} {t : TE} (h : PE X.nox e t) : PE X e t := fun pins s σ H Q I hw =>
  wpAny_mono (h pins s σ H Q (I.wish _) hw) (fun _ _ ⟨v, H', I', r, q⟩ => ⟨v, H', I'.unwish, r, q⟩) fun _ _ z => False.elim z
theorem PT.nox {e : Expr} {t : TT} (h : PT X.nox e t) : PT X e t := fun pins s σ H Q I hw =>
  wpAny_mono (h pins s σ H Q (I.wish _) hw) (fun _ _ ⟨H', I', q⟩ => ⟨H', I'.unwish, q⟩) fun _ _ z => False.elim z
theorem PSs.nox {st : List Stmt} {t : TS} (h : PSs X.nox st t) : PSs X st t := fun pins s σ H D I hw =>
  wpAny_mono (h pins s σ H D (I.wish _) hw) (fun _ _ q => q.unwish) fun _ _ z => False.elim z
end

section
variable {X : Cx} {st : Stmt} {rest : List Stmt} {t u : TS} {e : Expr} {te : TE} {pos : Pos}
def tNext : TS := fun D σ H => D.nx σ H
def tSeq (t u : TS) : TS := fun D σ H => t { D with nx := u D } σ H
theorem pss_nil : PSs X [] tNext := fun _ _ σ H _ I h => wpAny_execs_nil ⟨σ, H, I, h⟩
theorem pss_cons (h1 : PS X st t) (h2 : PSs X rest u) : PSs X (st :: rest) (tSeq t u) := by
  intro pins s σ H D I h
  refine wpAny_execs_cons (thn (h1 pins s σ H { D with nx := u D } I h) fun f s1 q => ?_)
  cases f with
  | next =>
    obtain ⟨σ', H', I', q⟩ := q
    exact h2 pins s1 σ' H' D I' q
  | ret v => exact q
  | brk => exact q
  | cont => exact q
theorem pss_one (h1 : PS X st t) : PSs X [st] t := by
  intro pins s σ H D I h
  refine wpAny_execs_cons (thn (h1 pins s σ H D I h) fun f s1 q => ?_)
  cases f with
  | next => exact wpAny_execs_nil q
  | ret v => exact q
  | brk => exact q
  | cont => exact q
theorem Inv.quiet {pins : List (Addr × Obj)} {σ : St} {H : Hp} {s : Shared} (I : Inv X pins σ H s) : interactive X.env = false := by simp [interactive, I.ok.kind]
def tDrop (te : TE) : TS := fun D σ H => te σ H fun _ H1 => D.nx σ H1
theorem ps_expr (he : PE X e te) (hs : swapsWith e none pos.line X.env = pure false := by rfl) : PS X (.Expr e pos) (tDrop te) := by
  intro pins s σ H D I h
  exact wpAny_Expr_any (thn (he pins s σ H _ I h) fun v s1 ⟨x, H1, I1, r1, q1⟩ => ⟨σ, H1, I1, q1⟩) I.quiet hs
def tRet (te : TE) : TS := fun D σ H => te σ H D.rt
theorem ps_ret (he : PE X e te) : PS X (.Return (some e) pos) (tRet te) := by
  intro pins s σ H D I h
  exact wpAny_Return_some (thn (he pins s σ H _ I h) fun v s1 ⟨x, H1, I1, r1, q1⟩ => ⟨x, σ, H1, I1, r1, q1⟩)
def tIfS (c : TT) (t u : TS) : TS := fun D σ H => c σ H fun b H1 => if b = true then t D σ H1 else u D σ H1
theorem ps_if {c : Expr} {a b : List Stmt} {tc : TT} (hc : PT X c tc) (ha : PSs X a t) (hb : PSs X b u) : PS X (.If c a b pos) (tIfS tc t u) := by
  intro pins s σ H D I h
  refine wpAny_If (thn (hc pins s σ H _ I h) fun d s1 ⟨H1, I1, q1⟩ => ?_)
  cases d with
  | true => exact ha pins s1 σ H1 D I1 q1
  | false => exact hb pins s1 σ H1 D I1 q1
end

abbrev TG := V → St → Hp → (St → Hp → Prop) → Prop
abbrev TGs := List V → St → Hp → (St → Hp → Prop) → Prop
def PG (X : Cx) (target : Expr) (t : TG) : Prop :=
  ∀ (pins : List (Addr × Obj)) (s : Shared) (σ : St) (H : Hp) (v : V) (u : Value) (Q : St → Hp → Prop), Inv X pins σ H s → RelV v u → t v σ H Q →
    wpAny (model X.prog X.w) X.A (assign target X.env u) (fun _ s' => ∃ σ' H', Inv X pins σ' H' s' ∧ Q σ' H') X.xe s
abbrev TSet := V → V → V → Hp → (Hp → Prop) → Prop
abbrev TIp := V → V → Hp → VK → Prop
section
variable {X : Cx} {pos : Pos}
def gName (i : Nat) : TG := fun v σ H Q => Q (σ.set i (some v)) H
theorem pg_name {i : Nat} {x : Str} (hN : X.N.Nodup) (hi : X.N[i]? = some x) (hx : Loc X.env.scope x) (hf : X.fn x = true ∨ X.env.scope.names.lookup x = some .local := by first | exact .inl rfl | exact .inr rfl | assumption) : PG X (.Name x pos) (gName i) := by
  intro pins s σ H v u Q I r h
  exact wpAny_assign_Name (store_ok I hN hi hx r (fun s' I' => ⟨_, H, I', h⟩) hf)
def tAsg (te : TE) (g : TG) : TS := fun D σ H => te σ H fun x H1 => g x σ H1 D.nx
theorem ps_set {i : Nat} {x : Str} {e : Expr} {te : TE} {pos' : Pos} (hN : X.N.Nodup) (hi : X.N[i]? = some x) (hx : Loc X.env.scope x) (he : PE X e te) (hs : swapsWith e (some (.Name x pos')) pos.line X.env = pure false := by rfl) (hf : X.fn x = true ∨ X.env.scope.names.lookup x = some .local := by first | exact .inl rfl | exact .inr rfl | assumption) :
    PS X (.Assign [.Name x pos'] e pos) (tAsg te (gName i)) := by
  intro pins s σ H D I h
  refine wpAny_Assign_Name (thn (he pins s σ H _ I h) fun v s1 ⟨y, H1, I1, r1, q1⟩ => ?_) hs
  exact store_ok I1 hN hi hx r1 (fun s2 I2 => ⟨_, H1, I2, q1⟩) hf
end

section
variable {X : Cx} {pos : Pos}
end

structure It where
  go : Nat → Hp → Prop
  yld : Nat → Hp → V → Hp → Prop
  stop : Nat → Hp → Prop
def FpOk (X : Cx) (pins : List (Addr × Obj)) (H : Hp) (b : Addr) : Prop :=
  H b = none ∧ b ≠ X.env.locals ∧ b ∉ X.fs ∧ (b ∈ X.ex ∨ X.s₀.heap.objs.size ≤ b) ∧ (∀ x c, X.env.cells.lookup x = some c → c ≠ b) ∧ ∀ p ∈ X.pn ++ pins, p.1 ≠ b
theorem Inv.fpOk {X : Cx} {pins : List (Addr × Obj)} {σ : St} {H H' : Hp} {s : Shared} {b : Addr} (I : Inv X pins σ H s) (hb : s.heap.objs.size ≤ b) (hn : H' b = none) : FpOk X pins H' b := by
  refine ⟨hn, Nat.ne_of_gt (Nat.lt_of_lt_of_le I.lt hb), I.nofs hb, .inr (Nat.le_trans I.sz hb), fun x c e z => ?_, fun p hp z => ?_⟩
  · obtain ⟨v, q⟩ := I.cell x c e
    exact absurd (Nat.lt_of_lt_of_le q.lt (by rw [z]; exact hb)) (Nat.lt_irrefl _)
  · exact absurd (Nat.lt_of_lt_of_le (Heap.lt_size (I.pin p hp).1) (by rw [z]; exact hb)) (Nat.lt_irrefl _)
structure Turn (P : Program) (w : World) (K : PySem.W.Frag) (tg : Expr) (J : It) (fp : List Addr) (it : Addr) (tn : Nat → Heap → Prop) : Prop where
  mem : it ∈ fp
  obj : ∀ i h, tn i h → ∀ b ∈ fp, ∃ o, h.get? b = some o ∧ ∀ v, o.data ≠ .cell v
  keep : ∀ i h h', tn i h → (∀ b ∈ fp, ∀ o, h.get? b = some o → h'.get? b = some o) → tn i h'
  item : ∀ (X : Cx), X.prog = P → X.w = w → X.K = K → X.calm = true → ∀ (i : Nat) (pins : List (Addr × Obj)) (s : Shared) (σ : St) (H : Hp) (E : Value → Shared → Prop), Inv X pins σ H s → (∀ b ∈ fp, FpOk X pins H b) → tn i s.heap → J.go i H →
    wpAny (model P w) X.A (pyNext (.ref it)) (fun r s1 => ∃ u, r = some u ∧
      wpAny (model P w) X.A (letOwnedTupleGo tg (.ref it) u) (fun _ s2 => ∃ x H', Inv X pins σ H' s2 ∧ RelV x u ∧ J.yld i H x H' ∧ tn (i + 1) s2.heap ∧ ∀ b ∈ fp, H' b = none) E s1) E s
  done : ∀ (X : Cx), X.prog = P → X.w = w → X.K = K → X.calm = true → ∀ (i : Nat) (pins : List (Addr × Obj)) (s : Shared) (σ : St) (H : Hp) (E : Value → Shared → Prop), Inv X pins σ H s → (∀ b ∈ fp, FpOk X pins H b) → tn i s.heap → J.stop i H →
    wpAny (model P w) X.A (pyNext (.ref it)) (fun r s1 => r = none ∧ Inv X pins σ H s1) E s
  self : ∀ (A : Around) (i : Nat) (s : Shared) (Q : Value → Shared → Prop) (E : Value → Shared → Prop), tn i s.heap → Q (.ref it) s → wpAny (model P w) A (pyIter (.ref it)) Q E s
abbrev TI := St → Hp → (It → Hp → Prop) → Prop
def PIE (X : Cx) (pins : List (Addr × Obj)) (σ : St) (tg : Expr) (R : It → Hp → Prop) (itv : Value) (s2 : Shared) : Prop :=
  ∃ (it : Addr) (fp : List Addr) (tn : Nat → Heap → Prop) (J : It) (H' : Hp), itv = .ref it ∧ Inv X pins σ H' s2 ∧ Turn X.prog X.w X.K tg J fp it tn ∧ tn 0 s2.heap ∧ (∀ b ∈ fp, FpOk X pins H' b) ∧ R J H'
def PI (X : Cx) (tg iter : Expr) (wi : TI) : Prop :=
  ∀ (pins : List (Addr × Obj)) (s : Shared) (σ : St) (H : Hp) (R : It → Hp → Prop), Inv X pins σ H s → wi σ H R →
    wpAny (model X.prog X.w) X.A (eval iter X.env) (fun v s1 => wpAny (model X.prog X.w) X.A (pyIter v) (PIE X pins σ tg R) X.xe s1) X.xe s

theorem go_of {M : Model} {A : Around} {E : Value → Shared → Prop} {s : Shared} {tg : Expr} {it : Addr} {u : Value} {o : Obj} {n : String} {vs : Array Value} {Q : Unit → Shared → Prop} (ho : s.heap.get? it = some o) (hc : o.cls = .type n) (hd : o.data = .fields vs)
    (hn : ["enumerate", "zip", "dict_itemiterator", "dict_reverseitemiterator", "odict_iterator", "itertools.zip_longest", "itertools.pairwise"].contains n = false) (hQ : Q () s) : wpAny M A (letOwnedTupleGo tg (.ref it) u) Q E s := by
  unfold letOwnedTupleGo
  cases tg <;> first
    | exact wpAny_pure hQ
    | (cases u <;> first
        | exact wpAny_pure hQ
        | (refine wpAny_bind (wpAny_load ho ?_)
           rw [hc, hd]
           show wpAny M A (if (["enumerate", "zip", "dict_itemiterator", "dict_reverseitemiterator", "odict_iterator", "itertools.zip_longest", "itertools.pairwise"].contains n && vs[0]? == some (rawInt _)) = true then _ else _) Q E s
           rw [if_neg (by intro h; rw [hn, Bool.false_and] at h; cases h)]
           exact wpAny_pure hQ))

def Itl (K : PySem.W.Frag) (a : Addr) : It :=
  ⟨fun i H => ∃ xs x, SqL K H a xs ∧ xs[i]? = some x, fun i H x H' => H' = H ∧ ∀ xs, SqL K H a xs → xs[i]? = some x, fun i H => ∃ xs, SqL K H a xs ∧ xs.length ≤ i⟩
def Itr (lo : Int) (n : Nat) : It := ⟨fun i _ => i < n, fun i H x H' => H' = H ∧ x = .int (lo + i), fun i _ => n ≤ i⟩
theorem turn_list {P : Program} {w : World} {K : PySem.W.Frag} {tg : Expr} (a it : Addr) : Turn P w K tg (Itl K a) [it] it (fun i h => h.IsListIter it a i) where
  mem := by simp
  obj := fun i h st b hb => by
    have e : b = it := by simpa using hb
    subst e
    obtain ⟨o, e, c, d⟩ := st
    exact ⟨o, e, fun v z => by rw [d] at z; cases z⟩
  keep := fun i h h' st k => st.at fun o e => k it (by simp) o e
  item := by
    intro X hP hw hK hc i pins s σ H E I hf st hg
    subst hP hw hK
    obtain ⟨xs, x, hq, hx⟩ := hg
    obtain ⟨its, rv, p, hz⟩ := I.list hq
    obtain ⟨u, hu, ru⟩ := rv.get hx
    obtain ⟨f0, f1, f2, f3, f4, f5⟩ := hf it (by simp)
    refine wpAny_pyNext_list_item st p.isList (x := u) (by simpa using hu) fun h' st' sb => ?_
    have I1 : Inv X pins σ H { s with heap := h' } := I.turned (t' := s.toks) (fun b o hb e => (sb.2 b hb).trans e) f0 f1 f3 f4 f5
    obtain ⟨o, e, c, d⟩ := id st'
    exact ⟨u, rfl, go_of (s := { s with heap := h' }) e c d (by decide) ⟨x, H, I1, ru, ⟨rfl, fun ys hy => by rw [I.list_inj hy hq]; exact hx⟩, st', fun b hb => (hf b hb).1⟩⟩
  done := by
    intro X hP hw hK hc i pins s σ H E I hf st hg
    subst hP hw hK
    obtain ⟨xs, hq, hx⟩ := hg
    obtain ⟨its, rv, p, hz⟩ := I.list hq
    obtain ⟨f0, f1, f2, f3, f4, f5⟩ := hf it (by simp)
    have hl := rv.length
    exact wpAny_pyNext_list_end (I.ok.hd hc) st p.isList (by simp; omega) fun h' eb => ⟨rfl, I.turned (t' := s.toks) (fun b o hb e => eb b o hb e) f0 f1 f3 f4 f5⟩
  self := fun _ _ _ _ _ st h => wpAny_pyIter_listiter st h
theorem turn_range {P : Program} {w : World} {K : PySem.W.Frag} {tg : Expr} (it : Addr) (lo : Int) (n : Nat) : Turn P w K tg (Itr lo n) [it] it (fun i h => IsRangeIter h it (lo + (i : Nat) * 1) ((n : Int) - (i : Nat)) 1) where
  mem := by simp
  obj := fun i h st b hb => by
    have e : b = it := by simpa using hb
    subst e
    exact ⟨_, st, fun v z => by
      have z' : Data.fields _ = Data.cell v := z
      cases z'⟩
  keep := fun i h h' st k => k it (by simp) _ st
  item := by
    intro X hP hw hK hc i pins s σ H E I hf st hg
    subst hP hw hK
    obtain ⟨f0, f1, f2, f3, f4, f5⟩ := hf it (by simp)
    have W := Walks.range (prog := X.prog) (w := X.w) (I.ok.hd hc) it lo 1 n
    refine W.item i s _ _ hg st fun v h' tk hv st' kk => ?_
    obtain ⟨t, rfl⟩ := hv
    have I1 : Inv X pins σ H { s with heap := h', toks := tk } := I.turned (fun b o hb e => kk b o (by simpa using hb) e) f0 f1 f3 f4 f5
    refine ⟨_, rfl, go_of (s := { s with heap := h', toks := tk }) (n := "range_iterator") st' rfl rfl (by decide) ⟨.int (lo + i), H, I1, ⟨t, ?_⟩, ⟨rfl, rfl⟩, st', fun b hb => (hf b hb).1⟩⟩
    rw [Int.mul_one]
  done := by
    intro X hP hw hK hc i pins s σ H E I hf st hg
    subst hP hw hK
    obtain ⟨f0, f1, f2, f3, f4, f5⟩ := hf it (by simp)
    exact wpAny_pyNext_range_end (I.ok.hd hc) st (by have : n ≤ i := hg; omega) fun h' eb => ⟨rfl, I.turned (t' := s.toks) (fun b o hb e => eb b o hb e) f0 f1 f3 f4 f5⟩
  self := fun _ _ _ _ _ st h => wpAny_pyIter_rangeiter st h
end L2

namespace L2
open PySem PySem.Spec PyProof.Rows
section
variable {X : Cx} {tg : Expr}
def iList (K : PySem.W.Frag) (tl : TE) : TI := fun σ H R => tl σ H fun x H1 => ∃ a, x = .ref a ∧ (∃ xs, SqL K H1 a xs) ∧ R (Itl K a) H1
theorem pi_list {l : Expr} {tl : TE} (hl : PE X l tl) : PI X tg l (iList X.K tl) := by
  intro pins s σ H R I h
  refine thn (hl pins s σ H _ I h) fun v s1 ⟨x, H1, I1, r1, q1⟩ => ?_
  obtain ⟨a, e, ⟨xs, hq⟩, q⟩ := q1
  subst e
  cases r1
  obtain ⟨its, rv, p, hz⟩ := I1.list hq
  refine wpAny_pyIter_list p.isList ?_
  refine ⟨s1.heap.objs.size, [s1.heap.objs.size], _, _, H1, rfl, I1.kept (t' := s1.toks) fun b o e => Heap.get?_push_of_some _ e, turn_list a _, ⟨_, Heap.get?_push_size _ rfl, rfl, rfl⟩, fun b hb => ?_, q⟩
  have e : b = s1.heap.objs.size := by simpa using hb
  subst e
  exact I1.fpOk (Nat.le_refl _) (I1.hok.fresh (Nat.le_refl _))
theorem range_it {pins : List (Addr × Obj)} {σ : St} {H : Hp} {s : Shared} {R : It → Hp → Prop} {E : Value → Shared → Prop} {lo hi : Int} {t u v : Tok} {tk : Nat} (I : Inv X pins σ H s) (h1 : -(2 ^ 62) ≤ lo) (h2 : lo < 2 ^ 62) (h3 : -(2 ^ 62) ≤ hi) (h4 : hi < 2 ^ 62)
    (q : R (Itr lo (hi - lo).toNat) H) : wpAny (model X.prog X.w) X.A (pyIter (.ref s.heap.objs.size)) (PIE X pins σ tg R) E { s with heap := s.heap.push { cls := .type "range", data := .fields #[.int lo t, .int hi u, .int 1 v] }, toks := tk } := by
  refine wpAny_pyIter_range (IsRange.new ..) (small_one h1 h2 h3 h4) ?_
  have I1 : Inv X pins σ H { s with heap := s.heap.push { cls := .type "range", data := .fields #[.int lo t, .int hi u, .int 1 v] }, toks := tk } := I.kept fun b o e => Heap.get?_push_of_some _ e
  refine ⟨(s.heap.push { cls := .type "range", data := .fields #[.int lo t, .int hi u, .int 1 v] }).objs.size, [(s.heap.push { cls := .type "range", data := .fields #[.int lo t, .int hi u, .int 1 v] }).objs.size], _, _, H, rfl,
    I1.kept (t' := tk) fun b o e => Heap.get?_push_of_some _ e, turn_range _ lo (hi - lo).toNat, ?_, fun b hb => ?_, q⟩
  · have e1 : lo + ((0 : Nat) : Int) * 1 = lo := by simp
    have e2 : (((hi - lo).toNat : Nat) : Int) - ((0 : Nat) : Int) = Builtin.Range.rangeSize lo hi 1 := by rw [rangeSize_one]; split <;> omega
    show IsRangeIter _ _ (lo + ((0 : Nat) : Int) * 1) ((((hi - lo).toNat : Nat) : Int) - ((0 : Nat) : Int)) 1
    rw [e1, e2]
    exact Heap.get?_push_size _ rfl
  · have e : b = (s.heap.push { cls := .type "range", data := .fields #[.int lo t, .int hi u, .int 1 v] }).objs.size := by simpa using hb
    subst e
    exact I1.fpOk (Nat.le_refl _) (I1.hok.fresh (Nat.le_refl _))
def iRng1 (ta : TA) : TI := fun σ H R => ta σ H fun vs H1 => ∃ j : Int, vs = [.int j] ∧ -(2 ^ 62) ≤ j ∧ j < 2 ^ 62 ∧ R (Itr 0 j.toNat) H1
theorem pi_range1 {a : Expr} {ta : TA} {p pos : Pos} (hg : Gl X "range") (hm : X.mg "range" = none) (ha : PA X [a] ta) (hs : starEach [a] X.env = [(false, eval a X.env)] := by rfl) : PI X tg (.Call (.Name "range" p) [a] [] pos) (iRng1 ta) := by
  intro pins s σ H R I h
  refine Call_ (ld_blt I hg hm boot_range (PyProof.Rows.callWith_type1 (thn (ha pos pins s σ H _ I h) fun us s1 ⟨vs, H1, I1, r1, q1⟩ => ?_) hs rfl))
  obtain ⟨j, e, q1, q2, q⟩ := q1
  subst e
  cases r1 with
  | cons r rr =>
    cases rr
    obtain ⟨t, rfl⟩ := r
    exact call_range_1 (range_it I1 (by omega) (by omega) q1 q2 (by simpa using q))
def tFor (wi : TI) (g : TG) (tb : TS) : TS := fun D σ H => wi σ H fun J H1 => ∃ W : Nat → Nat → St → Hp → Prop, (∃ m, W 0 m σ H1) ∧ ∀ i m σ H, W i m σ H →
  (J.stop i H ∧ D.nx σ H) ∨ (J.go i H ∧ ∃ N : St → Hp → Prop, (∀ σ' H', N σ' H' → ∃ m', m' < m ∧ W (i + 1) m' σ' H') ∧ ∀ x H', J.yld i H x H' → g x σ H' fun σ2 H2 => tb { D with nx := N, ct := N, bk := D.nx } σ2 H2)
def pinsAt (fp : List Addr) (h : Heap) : List (Addr × Obj) := fp.filterMap fun b => (h.get? b).map fun o => (b, o)
theorem mem_pinsAt {fp : List Addr} {h : Heap} {b : Addr} {o : Obj} (hb : b ∈ fp) (e : h.get? b = some o) : (b, o) ∈ pinsAt fp h := List.mem_filterMap.mpr ⟨b, hb, by rw [e]; rfl⟩
theorem of_pinsAt {fp : List Addr} {h : Heap} {p : Addr × Obj} (hp : p ∈ pinsAt fp h) : p.1 ∈ fp ∧ h.get? p.1 = some p.2 := by
  obtain ⟨b, hb, e⟩ := List.mem_filterMap.mp hp
  cases q : h.get? b with
  | none => rw [q] at e; cases e
  | some o =>
    rw [q] at e
    have e' : (b, o) = p := Option.some.inj e
    subst e'
    exact ⟨hb, q⟩
theorem Inv.pinned {pins : List (Addr × Obj)} {σ : St} {H : Hp} {s : Shared} {fp : List Addr} (I : Inv X pins σ H s) (hf : ∀ b ∈ fp, FpOk X pins H b) (ho : ∀ b ∈ fp, ∃ o, s.heap.get? b = some o ∧ ∀ v, o.data ≠ .cell v) : Inv X (pins ++ pinsAt fp s.heap) σ H s :=
  I.pins_of fun p hp => (List.mem_append.mp hp).elim (fun z => I.pin p (List.mem_append_right _ z)) fun z => by
    obtain ⟨hb, e⟩ := of_pinsAt z
    obtain ⟨f0, f1, f2, _⟩ := hf p.1 hb
    obtain ⟨o, e', d⟩ := ho p.1 hb
    rw [e] at e'; cases e'
    exact ⟨e, f0, f1, f2, d⟩
theorem Inv.unpinned {pins pl : List (Addr × Obj)} {σ : St} {H : Hp} {s : Shared} (I : Inv X (pins ++ pl) σ H s) : Inv X pins σ H s := I.pins_of fun p hp => I.pin p (List.mem_append_right _ (List.mem_append_left _ hp))
theorem ps_for {iter : Expr} {body : List Stmt} {wi : TI} {g : TG} {tb : TS} {pos : Pos} (hp : PassesOwn (model X.prog X.w) X.A X.env X.xe) (hc : X.calm = true) (hi : PI X tg iter wi) (hg : PG X tg g) (hb : PSs X body tb)
    (hs : ∀ x, foldedSetIterable iter X.env x = pure x := by intro _; rfl) : PS X (.For tg iter body [] pos) (tFor wi g tb) := by
  intro pins s σ H D I h
  refine wpAny_For (thn (hi pins s σ H _ I h) fun v s1 h1 => thn h1 fun itv s2 h2 => ?_) hs
  obtain ⟨it, fp, tn, J, H2, e, I2, T, st2, f2, W, ⟨m0, w0⟩, turn⟩ := h2
  subst e
  -- what stays true of the iterator's objects through the loop
  have stat : ∀ {H' : Hp}, (∀ b ∈ fp, H' b = none) → ∀ b ∈ fp, FpOk X pins H' b := fun hn b hb => ⟨hn b hb, (f2 b hb).2⟩
  refine codeAny_forLoop_any (fun n s' => ∃ i σ' H', Inv X pins σ' H' s' ∧ tn i s'.heap ∧ (∀ b ∈ fp, H' b = none) ∧ W i n σ' H') ?_ m0 ⟨0, σ, H2, I2, st2, fun b hb => (f2 b hb).1, w0⟩
  rintro n s3 ⟨i, σ3, H3, I3, st3, fr3, w3⟩
  rcases turn i n σ3 H3 w3 with ⟨stop, qn⟩ | ⟨go, N, hN, step⟩
  · refine wpAny_passesOwn hp (thn (T.done X rfl rfl rfl hc i pins s3 σ3 H3 X.xe I3 (stat fr3) st3 stop) fun r s4 ⟨hr, I4⟩ => ?_)
    subst hr
    exact wpAny_execs_nil ⟨σ3, H3, I4, qn⟩
  · refine wpAny_passesOwn hp (thn (T.item X rfl rfl rfl hc i pins s3 σ3 H3 X.xe I3 (stat fr3) st3 go) fun r s4 ⟨u, hr, h4⟩ => ?_)
    subst hr
    refine wpAny_passesOwn hp (thn h4 fun _ s5 ⟨x, H5, I5, r5, y5, st5, fr5⟩ => ?_)
    have I5' := I5.pinned (stat fr5) (T.obj _ _ st5)
    refine wpAny_passesOwn hp (thn (hg _ s5 σ3 H5 x u _ I5' r5 (step x H5 y5)) fun _ s6 ⟨σ6, H6, I6, q6⟩ => ?_)
    refine wpAny_passesOwn hp (thn (hb _ s6 σ6 H6 _ I6 q6) fun f s7 q7 => ?_)
    have again : ∀ {σ7 : St} {H7 : Hp}, Inv X (pins ++ pinsAt fp s5.heap) σ7 H7 s7 → N σ7 H7 → ∃ m, m < n ∧ ∃ i σ' H', Inv X pins σ' H' s7 ∧ tn i s7.heap ∧ (∀ b ∈ fp, H' b = none) ∧ W i m σ' H' := fun {σ7 H7} I7 n7 => by
      obtain ⟨m', hm, w7⟩ := hN σ7 H7 n7
      refine ⟨m', hm, i + 1, σ7, H7, I7.unpinned, T.keep _ _ _ st5 fun b hb o e => (I7.pin (b, o) (List.mem_append_right _ (List.mem_append_right _ (mem_pinsAt hb e)))).1, fun b hb => ?_, w7⟩
      obtain ⟨o, e, d⟩ := T.obj _ _ st5 b hb
      exact (I7.pin (b, o) (List.mem_append_right _ (List.mem_append_right _ (mem_pinsAt hb e)))).2.1
    cases f with
    | next => obtain ⟨σ7, H7, I7, n7⟩ := q7; exact again I7 n7
    | cont => obtain ⟨σ7, H7, I7, n7⟩ := q7; exact again I7 n7
    | brk => obtain ⟨σ7, H7, I7, q7⟩ := q7; exact ⟨σ7, H7, I7.unpinned, q7⟩
    | ret v => obtain ⟨x7, σ7, H7, I7, r7, q7⟩ := q7; exact ⟨x7, σ7, H7, I7.unpinned, r7, q7⟩
end

theorem for_range {lo : Int} {n : Nat} {g : TG} {tb : TS} {D : Ends} {σ : St} {H : Hp} (Pv : Nat → St → Hp → Prop) (h0 : Pv 0 σ H)
    (hs : ∀ i σ H, i < n → Pv i σ H → g (.int (lo + i)) σ H fun σ2 H2 => tb { D with nx := Pv (i + 1), ct := Pv (i + 1), bk := D.nx } σ2 H2) (hd : ∀ σ H, Pv n σ H → D.nx σ H) :
    ∃ W : Nat → Nat → St → Hp → Prop, (∃ m, W 0 m σ H) ∧ ∀ i m σ H, W i m σ H →
      ((Itr lo n).stop i H ∧ D.nx σ H) ∨ ((Itr lo n).go i H ∧ ∃ N : St → Hp → Prop, (∀ σ' H', N σ' H' → ∃ m', m' < m ∧ W (i + 1) m' σ' H') ∧ ∀ x H', (Itr lo n).yld i H x H' → g x σ H' fun σ2 H2 => tb { D with nx := N, ct := N, bk := D.nx } σ2 H2) := by
  refine ⟨fun i m σ H => m = n - i ∧ i ≤ n ∧ Pv i σ H, ⟨n, by simp, Nat.zero_le _, h0⟩, ?_⟩
  rintro i m σ H ⟨rfl, hi, p⟩
  by_cases hlt : i < n
  · refine .inr ⟨hlt, Pv (i + 1), fun σ' H' p' => ⟨n - (i + 1), by omega, rfl, hlt, p'⟩, fun x H' y => ?_⟩
    obtain ⟨e, y⟩ := y
    subst e y
    exact hs i σ _ hlt p
  · have e : i = n := by omega
    subst e
    exact .inl ⟨Nat.le_refl _, hd σ H p⟩
end L2

namespace L2
open PySem PySem.Spec PyProof.Rows

abbrev R2 := V → V → Hp → VK → Prop
def OpR (X : Cx) (f : Value → Value → Sem Value) (r : R2) : Prop :=
  ∀ (pins : List (Addr × Obj)) (s : Shared) (σ : St) (H : Hp) (x y : V) (v u : Value) (Q : VK), Inv X pins σ H s → RelV x v → RelV y u → r x y H Q →
    wpAny (model X.prog X.w) X.A (f v u) (EP X pins σ Q) X.xe s
def CallR (X : Cx) (f : Value) (r : List V → Hp → VK → Prop) : Prop :=
  ∀ (pins : List (Addr × Obj)) (s : Shared) (σ : St) (H : Hp) (xs : List V) (us : List Value) (Q : VK), Inv X pins σ H s → Vals xs us → r xs H Q →
    wpAny (model X.prog X.w) X.A (call f us) (EP X pins σ Q) X.xe s
def tOp (r : R2) (ta tb : TE) : TE := fun σ H Q => ta σ H fun x H1 => tb σ H1 fun y H2 => r x y H2 Q
def rI (C : Int → Int → Prop) (g : Int → Int → V) : R2 := fun x y H Q => ∃ i j, x = .int i ∧ y = .int j ∧ C i j ∧ Q (g i j) H
def rI0 (g : Int → Int → V) : R2 := fun x y H Q => ∃ i j, x = .int i ∧ y = .int j ∧ Q (g i j) H
section
variable {X : Cx} {a b c : Expr} {ta tb tc : TE} {pos : Pos}

theorem binT (ha : PE X a ta) (hb : PE X b tb) {pins : List (Addr × Obj)} {s : Shared} {σ : St} {H : Hp} {R : V → V → Hp → Prop} (I : Inv X pins σ H s)
    (h : ta σ H fun x H1 => tb σ H1 fun y H2 => R x y H2) {Q : Value → Shared → Prop} {f : Value → Value → Sem Value}
    (hf : ∀ v u s2 x y H2, Inv X pins σ H2 s2 → RelV x v → RelV y u → R x y H2 → wpAny (model X.prog X.w) X.A (f v u) Q X.xe s2) :
    wpAny (model X.prog X.w) X.A (eval a X.env) (fun v s₁ => wpAny (model X.prog X.w) X.A (eval b X.env) (fun u s₂ => wpAny (model X.prog X.w) X.A (f v u) Q X.xe s₂) X.xe s₁) X.xe s := by
  refine thn (ha pins s σ H _ I h) fun v s1 ⟨x, H1, I1, r1, q1⟩ => ?_
  refine thn (hb pins s1 σ H1 _ I1 q1) fun u s2 ⟨y, H2, I2, r2, q2⟩ => ?_
  exact hf v u s2 x y H2 I2 r1 r2 q2

theorem pe_op {op : Operator} {r : R2} (ho : OpR X (binaryOp op) r) (ha : PE X a ta) (hb : PE X b tb) : PE X (.BinOp a op b pos) (tOp r ta tb) := by
  intro pins s σ H Q I h
  exact wpAny_BinOp (binT ha hb I h fun v u s2 x y H2 I2 rx ry q => ho pins s2 σ H2 x y v u Q I2 rx ry q)
theorem opI {f : Value → Value → Sem Value} {C : Int → Int → Prop} {g : Int → Int → Int}
    (rule : ∀ (i j : Int) (t u : Tok) (s : Shared) (Q : Value → Shared → Prop) (E : Value → Shared → Prop), C i j → Q (.int (g i j) s.toks) { s with toks := s.toks + 1 } → wpAny (model X.prog X.w) X.A (f (.int i t) (.int j u)) Q E s) :
    OpR X f (rI C fun i j => .int (g i j)) := by
  intro pins s σ H x y v u Q I rx ry h
  obtain ⟨i, j, rfl, rfl, hc, q⟩ := h
  obtain ⟨t, rfl⟩ := rx
  obtain ⟨t', rfl⟩ := ry
  exact rule i j t t' s _ _ hc ⟨.int (g i j), H, I.tok _, ⟨_, rfl⟩, q⟩
theorem opI0 {f : Value → Value → Sem Value} {g : Int → Int → Int}
    (rule : ∀ (i j : Int) (t u : Tok) (s : Shared) (Q : Value → Shared → Prop) (E : Value → Shared → Prop), Q (.int (g i j) s.toks) { s with toks := s.toks + 1 } → wpAny (model X.prog X.w) X.A (f (.int i t) (.int j u)) Q E s) :
    OpR X f (rI0 fun i j => .int (g i j)) := by
  intro pins s σ H x y v u Q I rx ry h
  obtain ⟨i, j, rfl, rfl, q⟩ := h
  obtain ⟨t, rfl⟩ := rx
  obtain ⟨t', rfl⟩ := ry
  exact rule i j t t' s _ _ ⟨.int (g i j), H, I.tok _, ⟨_, rfl⟩, q⟩
theorem opB0 {f : Value → Value → Sem Value} {g : Int → Int → Bool}
    (rule : ∀ (i j : Int) (t u : Tok) (s : Shared) (Q : Value → Shared → Prop) (E : Value → Shared → Prop), Q (.bool (g i j)) s → wpAny (model X.prog X.w) X.A (f (.int i t) (.int j u)) Q E s) :
    OpR X f (rI0 fun i j => .bl (g i j)) := by
  intro pins s σ H x y v u Q I rx ry h
  obtain ⟨i, j, rfl, rfl, q⟩ := h
  obtain ⟨t, rfl⟩ := rx
  obtain ⟨t', rfl⟩ := ry
  exact rule i j t t' s _ _ ⟨.bl (g i j), H, I, rfl, q⟩

def CPow (i j : Int) : Prop := 0 ≤ j ∧ j ≤ 1000000 ∧ i.natAbs < 2 ^ 64
def CMul (i j : Int) : Prop := (-(2 ^ 64) < i ∧ i < 2 ^ 64) ∨ (-(2 ^ 64) < j ∧ j < 2 ^ 64)
theorem CMul.ok {i j : Int} (h : CMul i j) : IntMulOk i j := by
  rcases h with ⟨h1, h2⟩ | ⟨h1, h2⟩
  · exact .of_left (intBits_le_64 h1 h2)
  · exact .of_right (intBits_le_64 h1 h2)
theorem op_add : OpR X (binaryOp .Add) (rI0 fun i j => .int (i + j)) := opI0 fun _ _ _ _ _ _ _ q => add_int q
theorem op_mod : OpR X (binaryOp .Mod) (rI (fun _ j => 0 < j) fun i j => .int (i % j)) := opI fun i j _ _ _ _ _ hc q => by
  have h1 : (0 : Int) < j := hc
  exact mod_int' (by omega) (by rw [Int.fmod_eq_emod_of_nonneg i (by omega)]; exact q)
theorem op_pow : OpR X (binaryOp .Pow) (rI CPow fun i j => .int (i ^ j.toNat)) := opI fun _ _ _ _ _ _ _ hc q => pow_int_small hc.1 hc.2.1 hc.2.2 q
end

def scal : V → V → Bool
  | .non, .non => true | .non, .int _ => true | .int _, .non => true | .non, .bl _ => true | .bl _, .non => true | .non, .str _ => true | .str _, .non => true
  | .int _, .int _ => true | .bl _, .bl _ => true | .str _, .str _ => true | .byt _, .byt _ => true
  | .int _, .str _ => true | .str _, .int _ => true | .bl _, .str _ => true | .str _, .bl _ => true
  | _, _ => false
def rEq : R2 := fun x y H Q => scal x y = true ∧ Q (.bl (decide (x = y))) H
def rNe : R2 := fun x y H Q => scal x y = true ∧ Q (.bl (!decide (x = y))) H

theorem dec_int {i j : Int} : decide (V.int i = V.int j) = (i == j) := by
  rw [Bool.eq_iff_iff]
  simp
theorem dec_bl {i j : Bool} : decide (V.bl i = V.bl j) = (i == j) := by
  rw [Bool.eq_iff_iff]
  simp
theorem dec_str {i j : Str} : decide (V.str i = V.str j) = (i == j) := by
  rw [Bool.eq_iff_iff]
  simp
theorem dec_byt {i j : Array UInt8} : decide (V.byt i = V.byt j) = (i.toList == j.toList) := by
  rw [Bool.eq_iff_iff]
  cases i
  cases j
  simp

section
variable {X : Cx} {a b c : Expr} {ta tb tc : TE} {pos : Pos}
theorem fin_bl {pins : List (Addr × Obj)} {σ : St} {H : Hp} {s : Shared} {Q : VK} {k k' : Bool} (I : Inv X pins σ H s) (q : Q (.bl k) H) (e : k = k') : EP X pins σ Q (.bool k') s := by
  subst e
  exact ⟨.bl k, H, I, rfl, q⟩
theorem op_eq : OpR X (compareOp .Eq) rEq := by
  intro pins s σ H x y v u Q I rx ry h
  obtain ⟨hs, q⟩ := h
  cases x with
  | non =>
    cases rx
    cases y with
    | non => cases ry; exact PySem.EqNone.eq_none_none (fin_bl I q (by simp))
    | bl j => cases ry; exact PySem.EqNone.eq_none_bool (fin_bl I q (by simp))
    | int j => obtain ⟨t', rfl⟩ := ry; exact PySem.EqNone.eq_none_int (fin_bl I q (by simp))
    | str j => obtain ⟨t', rfl⟩ := ry; exact PySem.EqNone.eq_none_str (fin_bl I q (by simp))
    | _ => exact absurd (show false = true from hs) Bool.false_ne_true
  | bl i =>
    cases rx
    cases y with
    | non => cases ry; exact PySem.EqNone.eq_bool_none (fin_bl I q (by simp))
    | bl j => cases ry; exact eq_bool (fin_bl I q dec_bl)
    | str j => obtain ⟨t', rfl⟩ := ry; exact PySem.EqMixed.eq_bool_str (fin_bl I q (by simp))
    | _ => exact absurd (show false = true from hs) Bool.false_ne_true
  | int i =>
    obtain ⟨t, rfl⟩ := rx
    cases y with
    | non => cases ry; exact PySem.EqNone.eq_int_none (fin_bl I q (by simp))
    | int j => obtain ⟨t', rfl⟩ := ry; exact eq_int (fin_bl I q dec_int)
    | str j => obtain ⟨t', rfl⟩ := ry; exact PySem.EqMixed.eq_int_str (fin_bl I q (by simp))
    | _ => exact absurd (show false = true from hs) Bool.false_ne_true
  | str i =>
    obtain ⟨t, rfl⟩ := rx
    cases y with
    | non => cases ry; exact PySem.EqNone.eq_str_none (fin_bl I q (by simp))
    | bl j => cases ry; exact PySem.EqMixed.eq_str_bool (fin_bl I q (by simp))
    | int j => obtain ⟨t', rfl⟩ := ry; exact PySem.EqMixed.eq_str_int (fin_bl I q (by simp))
    | str j => obtain ⟨t', rfl⟩ := ry; exact eq_str (fin_bl I q dec_str)
    | _ => exact absurd (show false = true from hs) Bool.false_ne_true
  | byt i =>
    obtain ⟨t, rfl⟩ := rx
    cases y with
    | byt j => obtain ⟨t', rfl⟩ := ry; exact PySem.W.eq_bytes (fin_bl I q dec_byt)
    | _ => exact absurd (show false = true from hs) Bool.false_ne_true
  | _ => cases y <;> exact absurd (show false = true from hs) Bool.false_ne_true
theorem op_ne : OpR X (compareOp .NotEq) rNe := by
  intro pins s σ H x y v u Q I rx ry h
  obtain ⟨hs, q⟩ := h
  cases x with
  | non =>
    cases rx
    cases y with
    | non => cases ry; exact PySem.EqNone.ne_none_none (fin_bl I q (by simp))
    | bl j => cases ry; exact PySem.EqNone.ne_none_bool (fin_bl I q (by simp))
    | int j => obtain ⟨t', rfl⟩ := ry; exact PySem.EqNone.ne_none_int (fin_bl I q (by simp))
    | str j => obtain ⟨t', rfl⟩ := ry; exact PySem.EqNone.ne_none_str (fin_bl I q (by simp))
    | _ => exact absurd (show false = true from hs) Bool.false_ne_true
  | bl i =>
    cases rx
    cases y with
    | non => cases ry; exact PySem.EqNone.ne_bool_none (fin_bl I q (by simp))
    | bl j => cases ry; exact ne_bool (fin_bl I q (congrArg not dec_bl))
    | str j => obtain ⟨t', rfl⟩ := ry; exact PySem.EqMixed.ne_bool_str (fin_bl I q (by simp))
    | _ => exact absurd (show false = true from hs) Bool.false_ne_true
  | int i =>
    obtain ⟨t, rfl⟩ := rx
    cases y with
    | non => cases ry; exact PySem.EqNone.ne_int_none (fin_bl I q (by simp))
    | int j => obtain ⟨t', rfl⟩ := ry; exact ne_int (fin_bl I q (congrArg not dec_int))
    | str j => obtain ⟨t', rfl⟩ := ry; exact PySem.EqMixed.ne_int_str (fin_bl I q (by simp))
    | _ => exact absurd (show false = true from hs) Bool.false_ne_true
  | str i =>
    obtain ⟨t, rfl⟩ := rx
    cases y with
    | non => cases ry; exact PySem.EqNone.ne_str_none (fin_bl I q (by simp))
    | bl j => cases ry; exact PySem.EqMixed.ne_str_bool (fin_bl I q (by simp))
    | int j => obtain ⟨t', rfl⟩ := ry; exact PySem.EqMixed.ne_str_int (fin_bl I q (by simp))
    | str j => obtain ⟨t', rfl⟩ := ry; exact ne_str (fin_bl I q (congrArg not dec_str))
    | _ => exact absurd (show false = true from hs) Bool.false_ne_true
  | byt i =>
    obtain ⟨t, rfl⟩ := rx
    cases y with
    | byt j => obtain ⟨t', rfl⟩ := ry; exact PySem.W.ne_bytes (fin_bl I q (congrArg not dec_byt))
    | _ => exact absurd (show false = true from hs) Bool.false_ne_true
  | _ => cases y <;> exact absurd (show false = true from hs) Bool.false_ne_true

theorem op_lt : OpR X (compareOp .Lt) (rI0 fun i j => .bl (decide (i < j))) := opB0 fun _ _ _ _ _ _ _ q => lt_int q
theorem op_le : OpR X (compareOp .LtE) (rI0 fun i j => .bl (decide (i ≤ j))) := opB0 fun _ _ _ _ _ _ _ q => le_int q
theorem op_gt : OpR X (compareOp .Gt) (rI0 fun i j => .bl (decide (j < i))) := opB0 fun _ _ _ _ _ _ _ q => gt_int q
theorem op_in_str : OpR X (compareOp .In) (fun x y H Q => ∃ i j, x = .str i ∧ y = .str j ∧ Q (.bl (!(Builtin.Str.occurrences j i 0 j.length 1).isEmpty)) H) := by
  intro pins s σ H x y v u Q I rx ry h
  obtain ⟨i, j, rfl, rfl, q⟩ := h
  obtain ⟨t, rfl⟩ := rx
  obtain ⟨t', rfl⟩ := ry
  exact in_str (fin_bl I q rfl)

theorem op_isN : OpR X (compareOp .Is) (fun x y H Q => y = .non ∧ Q (.bl (decide (x = .non))) H) := by
  intro pins s σ H x y v u Q I rx ry h
  obtain ⟨rfl, q⟩ := h
  cases ry
  refine is_none_gen (fin_bl I q ?_)
  cases x <;> first
    | (cases rx; rfl)
    | (obtain ⟨t, rfl⟩ := rx; rfl)
theorem OpR.or {f : Value → Value → Sem Value} {r r' : R2} (h : OpR X f r) (h' : OpR X f r') : OpR X f (fun x y H Q => r x y H Q ∨ r' x y H Q) := by
  intro pins s σ H x y v u Q I rx ry q
  rcases q with q | q
  · exact h pins s σ H x y v u Q I rx ry q
  · exact h' pins s σ H x y v u Q I rx ry q

theorem nomark (b : Expr) {op : CmpOp} (h : op ≠ .In := by decide) (h2 : op ≠ .NotIn := by decide) : behindInMarks op b = false := by
  have e1 : (op == CmpOp.In) = false := by cases op <;> first | rfl | exact absurd rfl h
  have e2 : (op == CmpOp.NotIn) = false := by cases op <;> first | rfl | exact absurd rfl h2
  cases b <;> simp [behindInMarks, e1, e2]
theorem pe_cmpR {op : CmpOp} {r : R2} (ho : OpR X (compareOp op) r) (ha : PE X a ta) (hb : PE X b tb) (hm : behindInMarks op b = false) : PE X (.Compare a [op] [b] pos) (tOp r ta tb) := by
  intro pins s σ H Q I h
  exact wpAny_Compare1 (binT ha hb I h fun v u s2 x y H2 I2 rx ry q => ho pins s2 σ H2 x y v u Q I2 rx ry q) hm
def tTest (t : TE) : TT := fun σ H Q => t σ H fun x H' => ∃ k, x = .bl k ∧ Q k H'
theorem pt_cmpR {op : CmpOp} {r : R2} (ho : OpR X (compareOp op) r) (ha : PE X a ta) (hb : PE X b tb) (hm : behindInMarks op b = false) : PT X (.Compare a [op] [b] pos) (tTest (tOp r ta tb)) := by
  intro pins s σ H Q I h
  refine wpAny_isTrue_Compare1 (thn (ha pins s σ H _ I h) fun v s1 ⟨x, H1, I1, r1, q1⟩ => thn (hb pins s1 σ H1 _ I1 q1) fun u s2 ⟨y, H2, I2, r2, q2⟩ =>
    thn (ho pins s2 σ H2 x y v u _ I2 r1 r2 q2) fun c s3 ⟨z, H3, I3, r3, k, e, q3⟩ => ?_) hm
  subst e
  cases r3
  exact wpAny_truthy_bool ⟨H3, I3, q3⟩
def tChain (r r' : R2) (ta tb tc : TE) : TE := fun σ H Q => ta σ H fun x H1 => tb σ H1 fun y H2 => r x y H2 fun z H3 => ∃ k, z = .bl k ∧
  (if k = true then tc σ H3 fun w' H4 => r' y w' H4 Q else Q (.bl false) H3)
theorem pe_chain {op op' : CmpOp} {r r' : R2} (ho : OpR X (compareOp op) r) (ho' : OpR X (compareOp op') r') (ha : PE X a ta) (hb : PE X b tb) (hc : PE X c tc)
    (hm : lastMarks [op, op'] [b, c] = false := by with_unfolding_all rfl) : PE X (.Compare a [op, op'] [b, c] pos) (tChain r r' ta tb tc) := by
  intro pins s σ H Q I h
  refine Compare_chain (thn (ha pins s σ H _ I h) fun v s1 ⟨x, H1, I1, r1, q1⟩ => chain_link (thn (hb pins s1 σ H1 _ I1 q1) fun u s2 ⟨y, H2, I2, r2, q2⟩ =>
    thn (ho pins s2 σ H2 x y v u _ I2 r1 r2 q2) fun d s3 ⟨z, H3, I3, r3, k, e, q3⟩ => ?_)) hm
  subst e
  cases r3
  refine wpAny_truthy_bool ?_
  cases k with
  | false => exact ite_ff ⟨.bl false, H3, I3, rfl, q3⟩
  | true => exact ite_tt (chain_last (thn (hc pins s3 σ H3 _ I3 q3) fun w' s4 ⟨z', H4, I4, r4, q4⟩ => ho' pins s4 σ H4 y z' u w' Q I4 r2 r4 q4))
theorem pt_chain {op op' : CmpOp} {r r' : R2} (ho : OpR X (compareOp op) r) (ho' : OpR X (compareOp op') r') (ha : PE X a ta) (hb : PE X b tb) (hc : PE X c tc)
    (hm : lastMarks [op, op'] [b, c] = false := by with_unfolding_all rfl) : PT X (.Compare a [op, op'] [b, c] pos) (tTest (tChain r r' ta tb tc)) := by
  intro pins s σ H Q I h
  refine isTrue_chain (thn (ha pins s σ H _ I h) fun v s1 ⟨x, H1, I1, r1, q1⟩ => test_link (thn (hb pins s1 σ H1 _ I1 q1) fun u s2 ⟨y, H2, I2, r2, q2⟩ =>
    thn (ho pins s2 σ H2 x y v u _ I2 r1 r2 q2) fun d s3 ⟨z, H3, I3, r3, k, e, q3⟩ => ?_)) hm
  subst e
  cases r3
  refine wpAny_truthy_bool ?_
  cases k with
  | false =>
    obtain ⟨k', e', q'⟩ := q3
    cases e'
    exact ite_ff ⟨H3, I3, q'⟩
  | true =>
    refine ite_tt (test_last (thn (hc pins s3 σ H3 _ I3 q3) fun w' s4 ⟨z', H4, I4, r4, q4⟩ => thn (ho' pins s4 σ H4 y z' u w' _ I4 r2 r4 q4) fun d' s5 ⟨z2, H5, I5, r5, k2, e2, q5⟩ => ?_))
    subst e2
    cases r5
    exact wpAny_truthy_bool ⟨H5, I5, q5⟩

theorem line63 : (sizeLine : Nat) < 2 ^ 63 := by rw [sizeLine_eq]; decide
theorem op_add_str : OpR X (binaryOp .Add) (fun x y H Q => ∃ i j, x = .str i ∧ y = .str j ∧ i.length + j.length ≤ sizeLine ∧ Q (.str (i ++ j)) H) := by
  intro pins s σ H x y v u Q I rx ry h
  obtain ⟨i, j, rfl, rfl, hz, q⟩ := h
  obtain ⟨t, rfl⟩ := rx
  obtain ⟨t', rfl⟩ := ry
  exact add_str (fun t' tk => ⟨.str (i ++ j), H, I.tok _, ⟨_, rfl⟩, q⟩) hz
theorem vals1 {x : V} {us : List Value} (r : Vals [x] us) : ∃ u, us = [u] ∧ RelV x u := by
  cases r with
  | cons r1 r2 => cases r2; exact ⟨_, rfl, r1⟩
theorem vals2 {x y : V} {us : List Value} (r : Vals [x, y] us) : ∃ u w', us = [u, w'] ∧ RelV x u ∧ RelV y w' := by
  cases r with
  | cons r1 r2 =>
    cases r2 with
    | cons r3 r4 => cases r4; exact ⟨_, _, rfl, r1, r3⟩
theorem call_int1 : CallR X (.type "int") (fun xs H Q => (∃ i, xs = [.int i] ∧ Q (.int i) H) ∨ ∃ k, xs = [.bl k] ∧ Q (.int (if k then 1 else 0)) H) := by
  intro pins s σ H xs us Q I r h
  rcases h with ⟨i, rfl, q⟩ | ⟨k, rfl, q⟩
  · obtain ⟨u, rfl, t, rfl⟩ := vals1 r
    exact call_int_int ⟨.int i, H, I, ⟨_, rfl⟩, q⟩
  · obtain ⟨u, rfl, r1⟩ := vals1 r
    cases r1
    exact call_int_bool ⟨.int (if k then 1 else 0), H, I.tok _, ⟨_, rfl⟩, q⟩
theorem call_str_int : CallR X (.type "str") (fun xs H Q => ∃ i, xs = [.int i] ∧ i.natAbs.log2 < 1920 ∧ Q (.str (toString i)) H) := by
  intro pins s σ H xs us Q I r h
  obtain ⟨i, rfl, hz, q⟩ := h
  obtain ⟨u, rfl, t, rfl⟩ := vals1 r
  exact PySem.P.str_of_int hz ⟨.str _, H, I.tok _, ⟨_, rfl⟩, q⟩
end
end L2

namespace L2
open PySem PySem.Spec PyProof.Rows

structure ObjM (h : Heap) (x dx C : Addr) (mA : Str → Option Value) : Prop where
  obj : h.get? x = some (PySem.W.instObj C dx)
  ns : h.Ns1 dx mA
  ne : dx ≠ x

theorem lookIn_ns {h : Heap} {dx : Addr} {mA : Str → Option Value} (n : h.Ns1 dx mA) : ∃ od, h.get? dx = some od ∧ ∀ name, PySem.W.lookIn name od = some (mA name) := by
  obtain ⟨o, es, ep, ho, hd, hk, _, hm⟩ := n
  refine ⟨o, ho, fun name => ?_⟩
  have e := hm name
  unfold nsFind findBy at e
  rw [← Array.find?_toList] at e
  unfold PySem.W.lookIn
  rw [hd]
  dsimp only
  split
  · rename_i y q
    rw [q] at e
    exact congrArg some e
  · rename_i q
    rw [q] at e
    have a : es.toList.any (·.refKey) = false := by
      rw [List.any_eq_false]
      intro y hy
      obtain ⟨z, t, hkey⟩ := hk y (Array.mem_toList_iff.mp hy)
      simp [DictEntry.refKey, hkey]
    have a' : ¬ es.toList.any (·.refKey) = true := by rw [a]; exact Bool.false_ne_true
    rw [if_neg a']
    exact congrArg some e

theorem ObjM.look {h : Heap} {x dx C : Addr} {mA : Str → Option Value} (I : ObjM h x dx C mA) : ∃ od, PySem.W.InstAt h x (PySem.W.instObj C dx) C (some od) ∧ ∀ name, PySem.W.lookIn name od = some (mA name) :=
  let ⟨od, ho, hl⟩ := lookIn_ns I.ns
  ⟨od, ⟨I.obj, rfl, rfl, ho⟩, hl⟩

section
variable {prog : Program} {w : World} {A : Around} {E : Value → Shared → Prop} {s : Shared} {K : PySem.W.Frag} {x dx C f : Addr} {mA : Str → Option Value} {name : Str} {v : Value}

end

section
variable {P : Program} {w : World} {H H' : Hp} {h h' : Heap} {a C dx : Addr} {fs fs' : List (Str × V)}
end

structure Cls (K : PySem.W.Frag) (C : Addr) : Prop where
  pg : PySem.W.plainGet K C Str.empty = true
  hd : PySem.W.hasDictIn K C = true
  po : PySem.W.plainOver K C = true
  sa : PySem.W.findIn K (.ref C) "__setattr__" = some (some (.builtin "object.__setattr__"))
theorem Cls.get {K : PySem.W.Frag} {C : Addr} (c : Cls K C) (f : Str) : PySem.W.plainGet K C f = true := c.pg
structure Con (K : PySem.W.Frag) (C : Addr) (f : Str) (v : V) (u : Value) : Prop where
  at_ : PySem.W.findIn K (.ref C) f = some (some u)
  rel : RelV v u
  get : PySem.W.specialIn K u "__get__" = some none
  cp : PySem.W.copiedNames.contains f = false
structure Meth (K : PySem.W.Frag) (C : Addr) (m : Str) (f : Addr) : Prop where
  at_ : PySem.W.findIn K (.ref C) m = some (some (.ref f))
  fn : PySem.W.isFn K (.ref f) = true
  kp : PySem.W.keepIn K (.ref f) = true

section
variable {X : Cx} {pins : List (Addr × Obj)} {σ : St} {H : Hp} {s : Shared} {a C dx : Addr} {fs : List (Str × V)} {f : Str} {v : V} {A : Around} {E : Value → Shared → Prop}

theorem Inv.made (I : Inv X pins σ H s) : Inv X pins σ (upd (upd H s.heap.objs.size (.own (s.heap.objs.size + 1))) (s.heap.objs.size + 1) (.ins C s.heap.objs.size []))
    { s with heap := (s.heap.push PySem.W.emptyDict).push (PySem.W.instObj C s.heap.objs.size) } := by
  have e1 : (s.heap.push PySem.W.emptyDict).get? s.heap.objs.size = some PySem.W.emptyDict := Heap.get?_push_size s.heap rfl
  have e2 : ((s.heap.push PySem.W.emptyDict).push (PySem.W.instObj C s.heap.objs.size)).get? (s.heap.objs.size + 1) = some (PySem.W.instObj C s.heap.objs.size) := by
    have := Heap.get?_push_size (s.heap.push PySem.W.emptyDict) (o := PySem.W.instObj C s.heap.objs.size) rfl
    rwa [Heap.size_push] at this
  have e3 : (s.heap.push PySem.W.emptyDict).Ns s.heap.objs.size (fun _ => none) := ⟨PySem.W.emptyDict, #[], _, e1, rfl, (fun e he => absurd he (by simp)), fun _ => rfl⟩
  have I1 := I.laid (a := s.heap.objs.size) (o := .own (s.heap.objs.size + 1)) (h' := s.heap.push PySem.W.emptyDict) (t' := s.toks) (fun b u q => Heap.get?_push_of_some _ q) (Nat.le_refl _) ⟨_, e1⟩
  refine I1.laid (a := s.heap.objs.size + 1) (o := .ins C s.heap.objs.size []) (t' := s.toks) (fun b u q => Heap.get?_push_of_some _ q) (Nat.le_of_eq (Heap.size_push _ _)) ?_
  have ne : s.heap.objs.size ≠ s.heap.objs.size + 1 := Nat.ne_of_lt (Nat.lt_succ_self _)
  refine ⟨by rw [upd_ne ne, upd_same], Nat.zero_le _, ne, e2, fun _ => none, (Heap.Ns1.of_empty e3).at fun o q => Heap.get?_push_of_some _ q, fun _ => True.intro, fun y hy => absurd rfl hy⟩

end

section
variable {X : Cx} {o e value : Expr} {f : Str} {pos pos' tpos : Pos} {ta tv : TE}
end

section
variable {X : Cx} {pins : List (Addr × Obj)} {σ : St} {H : Hp} {s : Shared} {A : Around} {E : Value → Shared → Prop} {Q : Value → Shared → Prop} {c : Value} {b : Bool}
inductive TyOf (K : PySem.W.Frag) (H : Hp) : V → Value → Prop where
  | non : TyOf K H .non (.type "NoneType")
  | bl (x : Bool) : TyOf K H (.bl x) (.type "bool")
  | int (i : Int) : TyOf K H (.int i) (.type "int")
  | str (x : Str) : TyOf K H (.str x) (.type "str")
  | flt (x : UInt64) : TyOf K H (.flt x) (.type "float")
  | lst {a : Addr} {xs : List V} (e : H a = some (.lst xs)) : TyOf K H (.ref a) (.type "list")
  | frz {a : Addr} {o : Obj} {xs : List V} (e : H a = some (.frz o (.lst xs))) : TyOf K H (.ref a) (.type "list")
  | tup {a : Addr} {xs : List V} (e : H a = some (.tup xs)) : TyOf K H (.ref a) (.type "tuple")
  | dK {a : Addr} {kvs : List (Key × V)} (e : H a = some (.dK kvs)) : TyOf K H (.ref a) (.type "dict")
  | dT {a : Addr} {kvs : List (List Key × V)} (e : H a = some (.dT kvs)) : TyOf K H (.ref a) (.type "dict")
  | ins {a C dx : Addr} {fs : List (Str × V)} (e : H a = some (.ins C dx fs)) (cl : Cls K C) (ha : PySem.W.findIn K (.ref C) "__class__" = some (some (.builtin "object.__class__")))
      (hn : PySem.W.specialIn K (.builtin "object.__class__") "__get__" = some (some (.builtin "getset_descriptor.__get__"))) (htk : PySem.W.takesIn K (.builtin "object.__class__") = some true)
      (hm : PySem.W.mroIn K C (.type "object") = some true) : TyOf K H (.ref a) (.ref C)
end
end L2

namespace L2
open PySem PySem.Spec PyProof.Rows

structure Room (k : Nat) (A : Around) : Prop where
  hd : A.handled = none
  dp : A.depth + 3 * k + 5 < recursionLimit
  un : A.units + 16 * k + 200 < cLine
theorem Room.mono {j k : Nat} {A : Around} (r : Room k A) (h : j ≤ k) : Room j A := ⟨r.hd, by have := r.dp; omega, by have := r.un; omega⟩
theorem Room.deeper {k : Nat} {A : Around} (r : Room (k + 1) A) (env : Env) : Room k (A.deeper env) :=
  ⟨r.hd, by have := r.dp; show A.depth + 1 + 3 * k + 5 < _; omega, by have := r.un; show A.units + 3 + 16 * k + 200 < _; omega⟩
theorem Room.in1 {k : Nat} {A : Around} (r : Room (k + 1) A) : Room k A.in1 :=
  ⟨r.hd, by have := r.dp; show A.depth + 3 * k + 5 < _; omega, by have := r.un; show A.units + 1 + 16 * k + 200 < _; omega⟩
theorem Room.depth {k : Nat} {A : Around} (r : Room k A) : A.depth < recursionLimit := by have := r.dp; omega
theorem Room.units {k : Nat} {A : Around} (r : Room k A) : A.units + 64 < cLine := by have := r.un; omega
def tNil : TA := fun _ H Q => Q [] H
def tCons (ta : TE) (tr : TA) : TA := fun σ H Q => ta σ H fun x H1 => tr σ H1 fun xs H2 => Q (x :: xs) H2
section
variable {X : Cx} {e : Expr} {es : List Expr} {te : TE} {t : TA} {pos : Pos}
theorem pa_nil : PA X [] tNil := fun _ _ _ _ H Q I h => Calls.spliced_nil ⟨[], H, I, .nil, h⟩
theorem pa_cons (ha : PE X e te) (hr : PA X es t) (hs : starEach (e :: es) X.env = (false, eval e X.env) :: starEach es X.env := by rfl) : PA X (e :: es) (tCons te t) := by
  intro pos pins s σ H Q I h
  rw [hs]
  show wpAny _ _ (spliced ((false, eval e X.env) :: backTo pos (starEach es X.env))) _ _ s
  refine Calls.spliced_cons (thn (ha pins s σ H _ I h) fun u s1 ⟨x, H1, I1, r1, q1⟩ => ?_)
  exact thn (hr pos pins s1 σ H1 _ I1 q1) fun us s2 ⟨xs, H2, I2, r2, q2⟩ => ⟨x :: xs, H2, I2, .cons r1 r2, q2⟩

def tTup (t : TA) : TE := fun σ H Q => t σ H fun xs H1 => xs.length ≤ sizeLine ∧ ∀ p, H1 p = none → Q (.ref p) (upd H1 p (.tup xs))
def tLst (t : TA) : TE := fun σ H Q => t σ H fun xs H1 => xs.length ≤ sizeLine ∧ ∀ p, H1 p = none → Q (.ref p) (upd H1 p (.lst xs))
theorem pe_tup {x1} (h : PA X es t) : PE X (.Tuple es x1 pos) (tTup t) := by
  intro pins s σ H Q I hq
  refine wpAny_Tuple_spliced (thn (h pos pins s σ H _ I hq) fun us s1 ⟨xs, H1, I1, r, z, q⟩ => ⟨by rw [← r.length]; exact z, ?_⟩)
  have hf : H1 s1.heap.objs.size = none := I1.hok.fresh (Nat.le_refl _)
  refine ⟨.ref s1.heap.objs.size, upd H1 s1.heap.objs.size (.tup xs), I1.laid (t' := s1.toks) (fun b u e => Heap.get?_push_of_some _ e) (Nat.le_refl _) ?_, rfl, q _ hf⟩
  exact ⟨z, us, r, ⟨_, Heap.get?_push_size _ rfl, rfl, _, rfl⟩⟩
theorem pe_lst (h : PA X es t) : PE X (.List es pos) (tLst t) := by
  intro pins s σ H Q I hq
  refine wpAny_List_spliced (thn (h pos pins s σ H _ I hq) fun us s1 ⟨xs, H1, I1, r, z, q⟩ => ⟨by rw [← r.length]; exact z, ?_⟩)
  have hf : H1 s1.heap.objs.size = none := I1.hok.fresh (Nat.le_refl _)
  refine ⟨.ref s1.heap.objs.size, upd H1 s1.heap.objs.size (.lst xs), I1.laid (t' := s1.toks) (fun b u e => Heap.get?_push_of_some _ e) (Nat.le_refl _) ?_, rfl, q _ hf⟩
  exact ⟨z, us, 0, r, Heap.get?_push_size _ rfl⟩
end

abbrev Sp := List V → Hp → VK → XK → Prop
abbrev CXT := List Env → Hp → Shared → XK → Value → Shared → Prop

structure Env0 (P : Program) (w : World) (K : PySem.W.Frag) (mg : Str → Option Value) (base : Heap) (A : Around) (outer : List Env) (s : Shared) (H : Hp) : Prop where
  frames : A.frames = some outer
  mod : Mod K mg base
  bs : ∀ b o, base.get? b = some o → s.heap.get? b = some o ∧ H b = none
  bsz : base.objs.size ≤ s.heap.objs.size
  funs : s.heap.FunFrames base outer
  frf : ∀ b ∈ frs outer, H b = none
  hok : HOk P w H s.heap
  bare : AllBare s.gens
def CE (outer : List Env) (P : Program) (w : World) (H : Hp) (s : Shared) (Q : VK) (u : Value) (s' : Shared) : Prop :=
  ∃ v H', s'.os = s.os ∧ AllBare s'.gens ∧ Un (frs outer) [] H H' s.heap s'.heap ∧ HOk P w H' s'.heap ∧ RelV v u ∧ Q v H'
def CR (CX : CXT) (outer : List Env) (P : Program) (w : World) (H : Hp) (s : Shared) (Q : VK) (E : XK) (r : Result) (s' : Shared) : Prop :=
  match r with
  | .ok (.ret u) => CE outer P w H s Q u s'
  | .ok _ => False
  | .error e => CX outer H s E e s'
structure FnOk (P : Program) (w : World) (K : PySem.W.Frag) (mg : Str → Option Value) (base : Heap) (CX : CXT) (k : Nat) (f : Addr) (fd : FuncData) (ps : List Str) (sp : Sp) : Prop where
  len : ∀ vs H Q E, sp vs H Q E → vs.length = ps.length
  run : ∀ (A : Around) (outer : List Env) (s : Shared) (H : Hp) (args : Args) (us : List Value) (vs : List V) (Q : VK) (E : XK), Room k A → Env0 P w K mg base A outer s H → BindsTo s fd args (ps.zip us) → Vals vs us → sp vs H Q E →
    codeAny (model P w) A (.call (.ref f) args) (CR CX outer P w H s Q E) s
theorem FnOk.mono {P : Program} {w : World} {K : PySem.W.Frag} {mg : Str → Option Value} {base : Heap} {CX : CXT} {j k : Nat} {f : Addr} {fd : FuncData} {ps : List Str} {sp : Sp} (F : FnOk P w K mg base CX j f fd ps sp) (h : j ≤ k) :
    FnOk P w K mg base CX k f fd ps sp := ⟨F.len, fun A outer s H args us vs Q E hr => F.run A outer s H args us vs Q E (hr.mono h)⟩
theorem Env0.in1 {P : Program} {w : World} {K : PySem.W.Frag} {mg : Str → Option Value} {base : Heap} {A : Around} {outer : List Env} {s : Shared} {H : Hp} (e : Env0 P w K mg base A outer s H) :
    Env0 P w K mg base A.in1 outer s H := ⟨e.frames, e.mod, e.bs, e.bsz, e.funs, e.frf, e.hok, e.bare⟩

section
variable {X : Cx} {pins : List (Addr × Obj)} {σ : St} {H : Hp} {s s' : Shared}
theorem Inv.env0 (I : Inv X pins σ H s) : Env0 X.prog X.w X.K X.mg X.base X.A X.stack s H :=
  ⟨I.ok.frames, I.ok.mod, I.bs, Nat.le_trans I.ok.bsz I.sz, I.stack, I.stkFree, I.hok, I.bare⟩
theorem Inv.after {Q : VK} {u : Value} (I : Inv X pins σ H s) (h : CE X.stack X.prog X.w H s Q u s') : EP X pins σ Q u s' := by
  obtain ⟨v, H', os, bare, un, hok, r, q⟩ := h
  obtain ⟨hh, g, d, t, os'⟩ := s'
  obtain rfl : os' = s.os := os
  exact ⟨v, H', I.call (h' := hh) (g' := g) (d' := d) (t' := t) (ch := []) un hok bare (fun b z => absurd z (by simp)), r, q⟩
end

def tCall (sp : Sp) (dvs : List V) (E : XK) (t : TA) : TE := fun σ H Q => t σ H fun vs H1 => sp (vs ++ dvs) H1 Q E
def Binds (K : PySem.W.Frag) (fd : FuncData) (ps : List Str) (ds : List Value) : Prop :=
  ∀ (s : Shared) (us : List Value), K.In s.heap → (us ++ ds).length = ps.length → BindsTo s fd ⟨us, []⟩ (ps.zip (us ++ ds))
theorem Binds.all {K : PySem.W.Frag} {fd : FuncData} {ps : List Str} (h : ∀ us : List Value, us.length = ps.length → bindArgs fd ⟨us, []⟩ = pure (ps.zip us)) : Binds K fd ps [] := fun s us _ hl => by
  rw [List.append_nil] at hl ⊢
  exact .of_eq (h us hl)

def Passes (CX : CXT) (X : Cx) (E : XK) : Prop := ∀ (pins : List (Addr × Obj)) (σ : St) (H : Hp) (s : Shared) (e : Value) (s' : Shared), Inv X pins σ H s → CX X.stack H s E e s' → X.xe e s'

section
variable {X : Cx} {CX : CXT} {k : Nat} {f C : Addr} {fd : FuncData} {ps : List Str} {sp : Sp} {dvs : List V} {ds : List Value} {E : XK} {x m : Str} {p pos apos : Pos} {e o : Expr} {es : List Expr} {ta : TE} {t : TA}

theorem run_fn {pins : List (Addr × Obj)} {σ : St} {H : Hp} {s : Shared} {Q : VK} {us : List Value} {vs : List V} (F : FnOk X.prog X.w X.K X.mg X.base CX k f fd ps sp) (hr : Room k X.A) (hb : Binds X.K fd ps ds) (hd : Vals dvs ds) (hx : Passes CX X E)
    (I : Inv X pins σ H s) (r : Vals vs us) (h : sp (vs ++ dvs) H Q E) : wpAny (model X.prog X.w) X.A (call (.ref f) us) (EP X pins σ Q) X.xe s := by
  have r2 : Vals (vs ++ dvs) (us ++ ds) := r.append hd
  have hl : (us ++ ds).length = ps.length := by rw [← r2.length]; exact F.len _ _ _ _ h
  refine wpAny_call (codeAny_mono (F.run X.A X.stack s H ⟨us, []⟩ (us ++ ds) (vs ++ dvs) Q E hr I.env0 (hb s us I.kIn hl) r2 h) fun r s' hq => ?_)
  cases r with
  | error e => exact hx pins σ H s e s' I hq
  | ok fl =>
    cases fl with
    | ret u => exact I.after hq
    | next => exact False.elim hq
    | brk => exact False.elim hq
    | cont => exact False.elim hq

theorem pe_call (F : FnOk X.prog X.w X.K X.mg X.base CX k f fd ps sp) (hr : Room k X.A) (hg : Gl X x) (hm : X.mg x = some (.ref f)) (hk : PySem.W.keepIn X.K (.ref f) = true) (hb : Binds X.K fd ps ds) (hd : Vals dvs ds) (hx : Passes CX X E)
    (ha : PA X (e :: es) t) (hdb : (x == ("__debug__" : Str)) = false := by decide) (he : starEach (e :: es) X.env = (false, eval e X.env) :: starEach es X.env := by rfl) (hpl : (backTo pos (starEach es X.env)).any (·.1) = false := by rfl) :
    PE X (.Call (.Name x p) (e :: es) [] pos) (tCall sp dvs E t) := by
  intro pins s σ H Q I h
  refine wpAny_Call_Name_kw (ld_glob I hg hm ?_ hdb)
  refine PySem.W.callWith_K (h₀ := X.base) I.ok.mod.kin hk (thn (ha pos pins s σ H _ I h) fun us s1 ⟨vs, H1, I1, r, q⟩ => ⟨I1.kIn, ?_⟩) he hpl
  exact run_fn F hr hb hd hx I1 r q
theorem pe_call0 (F : FnOk X.prog X.w X.K X.mg X.base CX k f fd ps sp) (hr : Room k X.A) (hg : Gl X x) (hm : X.mg x = some (.ref f)) (hk : PySem.W.keepIn X.K (.ref f) = true) (hb : Binds X.K fd ps ds) (hd : Vals dvs ds) (hx : Passes CX X E)
    (hdb : (x == ("__debug__" : Str)) = false := by decide) : PE X (.Call (.Name x p) [] [] pos) (tCall sp dvs E tNil) := by
  intro pins s σ H Q I h
  refine wpAny_Call_Name_kw (ld_glob I hg hm ?_ hdb)
  exact PySem.W.callWith_K0 I.kIn hk (run_fn (us := []) F hr hb hd hx I .nil h)

structure Mk (K : PySem.W.Frag) (C f : Addr) : Prop where
  makes : PySem.W.makesIn K C = true
  init : PySem.W.findIn K (.ref C) "__init__" = some (some (.ref f))
  fn : PySem.W.isFn K (.ref f) = true
  kp : PySem.W.keepIn K (.ref C) = true

end

section
variable {X : Cx} {CX : CXT} {k : Nat} {f C : Addr} {fd : FuncData} {ps ks : List Str} {sp : Sp} {E : XK} {x m : Str} {p pos apos kpos : Pos} {e o : Expr} {es : List Expr} {kws : List Keyword} {te ta : TE} {t tk : TA} {nm : Option Str}
structure KBinds (K : PySem.W.Frag) (fd : FuncData) (ps ks : List Str) (g : List Value → List Value → List Value) (gV : List V → List V → List V) : Prop where
  to : ∀ (s : Shared) (us ws : List Value), K.In s.heap → (g us ws).length = ps.length → BindsTo s fd ⟨us, ks.zip ws⟩ (ps.zip (g us ws))
  rel : ∀ {vs : List V} {us : List Value} {zs : List V} {ws : List Value}, Vals vs us → Vals zs ws → Vals (gV vs zs) (g us ws)
variable {g : List Value → List Value → List Value} {gV : List V → List V → List V}
end

structure FnScope (N P : List Str) (sc : Scope) : Prop where
  kind : sc.kind = .function
  co : sc.isCoroutine = false
  gen : sc.isGenerator = false
  nd : N.Nodup
  pre : N.take P.length = P
  par : ∀ x ∈ P, sc.names.lookup x = some .local ∨ sc.names.lookup x = some .cell
  nofree : ∀ y ∈ sc.names, y.2 ≠ .free

theorem bindL_out {kindOf : Str → Option NameKind} {x : Str} : ∀ {binds : List (Str × Value)} {m : Str → Option Value}, (∀ v, (x, v) ∉ binds) → bindL kindOf binds m x = m x
  | [], _, _ => rfl
  | (n, v) :: r, m, h => by
    unfold bindL
    rw [bindL_out fun w hw => h w (List.mem_cons_of_mem _ hw)]
    split
    · have : x ≠ n := by rintro rfl; exact h v List.mem_cons_self
      simp [this]
    · rfl
theorem bindC_out {kindOf : Str → Option NameKind} {x : Str} : ∀ {binds : List (Str × Value)} {m : Str → Option Value}, (∀ v, (x, v) ∉ binds) → bindC kindOf binds m x = m x
  | [], _, _ => rfl
  | (n, v) :: r, m, h => by
    unfold bindC
    rw [bindC_out fun w hw => h w (List.mem_cons_of_mem _ hw)]
    split
    · rfl
    · have : x ≠ n := by rintro rfl; exact h v List.mem_cons_self
      simp [this]
theorem bindL_get {kindOf : Str → Option NameKind} {x : Str} {v : Value} : ∀ {P : List Str} {vs : List Value} {i : Nat} {m : Str → Option Value}, P.Nodup → P[i]? = some x → vs[i]? = some v → kindOf x = some .local →
    bindL kindOf (P.zip vs) m x = some v
  | [], _, _, _, _, h, _, _ => by simp at h
  | _ :: _, [], _, _, _, _, h, _ => by simp at h
  | p :: P, w :: vs, 0, m, nd, h1, h2, hk => by
    simp at h1 h2; subst h1; subst h2
    show bindL kindOf ((p, w) :: P.zip vs) m p = _
    unfold bindL
    rw [bindL_out fun v hv => (List.nodup_cons.mp nd).1 (List.of_mem_zip hv).1, if_pos hk]
    simp
  | p :: P, w :: vs, i + 1, m, nd, h1, h2, hk => by
    show bindL kindOf ((p, w) :: P.zip vs) m x = _
    unfold bindL
    exact bindL_get (i := i) (List.nodup_cons.mp nd).2 (by simpa using h1) (by simpa using h2) hk
theorem bindC_get {kindOf : Str → Option NameKind} {x : Str} {v : Value} : ∀ {P : List Str} {vs : List Value} {i : Nat} {m : Str → Option Value}, P.Nodup → P[i]? = some x → vs[i]? = some v → kindOf x ≠ some .local →
    bindC kindOf (P.zip vs) m x = some v
  | [], _, _, _, _, h, _, _ => by simp at h
  | _ :: _, [], _, _, _, _, h, _ => by simp at h
  | p :: P, w :: vs, 0, m, nd, h1, h2, hk => by
    simp at h1 h2; subst h1; subst h2
    show bindC kindOf ((p, w) :: P.zip vs) m p = _
    unfold bindC
    rw [bindC_out fun v hv => (List.nodup_cons.mp nd).1 (List.of_mem_zip hv).1, if_neg hk]
    simp
  | p :: P, w :: vs, i + 1, m, nd, h1, h2, hk => by
    show bindC kindOf ((p, w) :: P.zip vs) m x = _
    unfold bindC
    exact bindC_get (i := i) (List.nodup_cons.mp nd).2 (by simpa using h1) (by simpa using h2) hk

def start (N : List Str) (vs : List V) : St := vs.map some ++ List.replicate (N.length - vs.length) none

def cxOf (CX : CXT) (P : Program) (w : World) (K : PySem.W.Frag) (mg : Str → Option Value) (base : Heap) (N : List Str) (qual : Str) (scope : Scope) (f : Addr) (cd : Value) (A : Around) (outer : List Env) (s : Shared) (H : Hp) (E : XK) : Cx where
  prog := P
  w := w
  K := K
  mg := mg
  base := base
  A := A.deeper (envOfC qual scope s.heap.objs.size f cd)
  N := N
  s₀ := s
  H₀ := H
  env := envOfC qual scope s.heap.objs.size f cd
  outer := outer
  stack := envOfC qual scope s.heap.objs.size f cd :: outer
  ex := []
  calm := true
  fn := fun _ => true
  pn := []
  xe := fun e s' => wpAny (model P w) (A.deeper (envOfC qual scope s.heap.objs.size f cd)) (leaving (envOfC qual scope s.heap.objs.size f cd) e) (fun _ s'' => CX outer H s E e s'') (fun e' s'' => CX outer H s E e' s'') s'

theorem cell_has {sc : Scope} {n : Nat} {x : Str} (h : sc.names.lookup x = some .cell) : ∃ c, (cellsFrom n sc.names []).lookup x = some c := by
  have q := PySem.W.cellsFrom_some sc.names n [] (.inl h)
  exact Option.isSome_iff_exists.mp q

theorem inv_start {CX : CXT} {P : Program} {w : World} {K : PySem.W.Frag} {mg : Str → Option Value} {base : Heap} {N ps : List Str} {qual : Str} {scope : Scope} {f : Addr} {cd : Value} {A : Around} {outer : List Env} {s s1 : Shared} {H : Hp} {E : XK} {us : List Value} {vs : List V}
    (S : FnScope N ps scope) (hd : A.handled = none) (e0 : Env0 P w K mg base A outer s H) (hl : vs.length = ps.length) (r : Vals vs us)
    (x : InCallC s s.heap.objs.size (bindL (envOfC qual scope s.heap.objs.size f cd).kindOf (ps.zip us) fun _ => none) (cellsFrom (s.heap.objs.size + 1) scope.names []) (bindC (envOfC qual scope s.heap.objs.size f cd).kindOf (ps.zip us) fun _ => none) s1) :
    Inv (cxOf CX P w K mg base N qual scope f cd A outer s H E) [] (start N vs) H s1 := by
  have hpl : ps.length ≤ N.length := by have := congrArg List.length S.pre; rw [List.length_take] at this; omega
  obtain ⟨h1, tk, rfl, hk⟩ := x.done
  have noA : ∀ b : Addr, b ∉ (cxOf CX P w K mg base N qual scope f cd A outer s H E).ex := fun b z => absurd (show b ∈ ([] : List Addr) from z) (by simp)
  refine ⟨⟨e0.mod, S.kind, rfl, rfl, Nat.le_refl _, fun y z c h1 h2 => ?_, fun y hy => ?_, fun y c _ h => ?_, fun _ => hd, Around.frames_deeper e0.frames, .inr ⟨rfl, rfl⟩, fun b z => absurd z (noA b), e0.bs, e0.bsz, fun b _ _ => noA b, fun b z => absurd z (noA b), e0.funs, e0.frf⟩,
    rfl, e0.bare, Un.kept hk, ⟨_, x.toInCall.ns, fun i y v h1 h2 h3 => ?_⟩, fun y c h => ⟨_, x.cell y c h⟩, e0.hok.fresh (Nat.le_refl _), fun y c h => ?_, fun p hp => absurd (show p ∈ ([] : List (Addr × Obj)) from hp) (by simp), e0.hok.kept hk, ?_⟩
  · exact name_of_addr x.apart (PySem.mem_of_lookup h1) (PySem.mem_of_lookup h2)
  · have hy : scope.names.lookup y = some .cell ∨ scope.names.lookup y = some .free := hy
    rcases hy with hy | hy
    · exact cell_has hy
    · exact absurd rfl (S.nofree _ (PySem.mem_of_lookup hy))
  · exact Nat.le_of_lt (x.above y c (PySem.mem_of_lookup h))
  · have hi : i < vs.length := by
      unfold start at h2
      by_cases hi : i < vs.length
      · exact hi
      · rw [List.getElem?_append_right (by simpa using hi)] at h2
        rw [List.getElem?_replicate] at h2
        split at h2 <;> cases h2
    have ha : vs[i]? = some v := by
      unfold start at h2
      rw [List.getElem?_append_left (by simpa using hi), List.getElem?_map] at h2
      cases e : vs[i]? with
      | none => rw [e] at h2; cases h2
      | some a => rw [e] at h2; cases h2; rfl
    obtain ⟨u, hu, rv⟩ := r.get ha
    have hp : ps[i]? = some y := by
      rw [← S.pre, List.getElem?_take_of_lt (by omega)]; exact h1
    have ndP : ps.Nodup := by rw [← S.pre]; exact S.nd.sublist (List.take_sublist _ _)
    refine ⟨u, rv, ?_⟩
    rcases S.par y (List.mem_of_getElem? hp) with k | k
    · exact .inl ⟨k, bindL_get ndP hp hu k⟩
    · obtain ⟨c, e⟩ := cell_has (n := s.heap.objs.size + 1) k
      refine .inr ⟨.inl k, c, e, ?_⟩
      have q := x.cell y c e
      rw [bindC_get ndP hp hu (by show scope.names.lookup y ≠ _; rw [k]; decide)] at q
      exact q
  · exact e0.hok.fresh (Nat.le_of_lt (x.above y c (PySem.mem_of_lookup h)))
  · unfold start
    show _ = N.length
    rw [List.length_append, List.length_map, List.length_replicate]
    omega

theorem fn_of {CX : CXT} {P : Program} {w : World} {K : PySem.W.Frag} {mg : Str → Option Value} {base : Heap} {k : Nat} {f : Addr} {name qual : Str} {params : Arguments} {body : List Stmt} {scope : Scope} {dV kV doc pm cdv ct oc : Value} {an od : Option Addr}
    {osl : Array (Option Value)} {N ps : List Str} {sp : Sp} (lk : K.lookup f = some ⟨oc, od, .func (PySem.W.fnOf name qual params body scope dV kV doc pm an cdv ct), osl⟩) (hcd : PySem.W.codeIn K cdv qual = true) (S : FnScope N ps scope)
    (len : ∀ vs H Q E, sp vs H Q E → vs.length = ps.length)
    (hbody : ∀ (A : Around) (outer : List Env) (s : Shared) (H : Hp) (vs : List V) (Q : VK) (E : XK), Room k (A.deeper (envOfC qual scope s.heap.objs.size f cdv)) → sp vs H Q E →
      ∃ t, PSs (cxOf CX P w K mg base N qual scope f cdv A outer s H E) body t ∧ t { nx := fun _ H' => Q .non H', rt := Q } (start N vs) H) :
    FnOk P w K mg base CX (k + 1) f (PySem.W.fnOf name qual params body scope dV kV doc pm an cdv ct) ps sp := by
  refine ⟨len, fun A outer s H args us vs Q E hr e0 hb r hsp => ?_⟩
  have hl := len _ _ _ _ hsp
  have KX : K.In s.heap := e0.mod.kin.keeps fun b o e => (e0.bs b o e).1
  have lim : s.heap.NoLimit := e0.mod.nolimit.keeps fun b o e => (e0.bs b o e).1
  have hkind : ∀ y ∈ ps.zip us, scope.names.lookup y.1 = some .local ∨ (scope.names.lookup y.1 = some .cell ∧ ((cellsFrom (s.heap.objs.size + 1) scope.names []).lookup y.1).isSome = true) := fun ⟨n, v⟩ hy => by
    rcases S.par n (List.of_mem_zip hy).1 with q | q
    · exact .inl q
    · exact .inr ⟨q, PySem.W.cellsFrom_some _ _ _ (.inl q)⟩
  refine codeAny_call_function hr.depth (KX _ _ lk) rfl S.co S.gen rfl (PySem.W.codeRec_of KX hcd) (hb _ _ _ _ ?_)
  refine wpAny_newFunctionEnv_cells S.kind hkind fun env he s1 x => ?_
  subst he
  refine ⟨lim.keeps x.toInCall.keep, codeAny_func ?_⟩
  obtain ⟨t, ht, hq⟩ := hbody A outer s H vs Q E (hr.deeper _) hsp
  have I : Inv (cxOf CX P w K mg base N qual scope f cdv A outer s H E) [] (start N vs) H s1 := inv_start S hr.hd e0 hl r x
  refine wpAny_mono (ht [] s1 (start N vs) H _ I hq) (fun fl s' hs => ?_) fun e s' hs => hs
  have fin : ∀ {σ' : St} {H' : Hp} {v : V} {u : Value}, Inv (cxOf CX P w K mg base N qual scope f cdv A outer s H E) [] σ' H' s' → RelV v u → Q v H' → CE outer P w H s Q u s' :=
    fun {σ' H' v u} J rv q => ⟨v, H', J.os, J.bare, J.base, J.hok, rv, q⟩
  cases fl with
  | ret u =>
    obtain ⟨v, σ', H', J, rv, q⟩ := hs
    exact fin J rv q
  | next =>
    obtain ⟨σ', H', J, q⟩ := hs
    exact fin (v := V.non) (u := Value.none) J rfl q
  | brk =>
    obtain ⟨_, _, _, q⟩ := hs
    exact False.elim q
  | cont =>
    obtain ⟨_, _, _, q⟩ := hs
    exact False.elim q
end L2

namespace L2
open PySem PySem.Spec PyProof.Rows
section
variable {X : Cx} {x : Str} {p pos : Pos} {e : Expr} {es : List Expr} {t : TA} {id T : String} {r : List V → Hp → VK → Prop}

def tCB (r : List V → Hp → VK → Prop) (t : TA) : TE := fun σ H Q => t σ H fun vs H1 => r vs H1 Q
theorem pe_callB (hc : CallR X (.builtin id) r) (hg : Gl X x) (hm : X.mg x = none) (hv : bootBuiltins x = some (.builtin id)) (ha : PA X (e :: es) t) (hn : x ≠ "__name__" := by decide) (hdb : (x == ("__debug__" : Str)) = false := by decide)
    (he : starEach (e :: es) X.env = (false, eval e X.env) :: starEach es X.env := by rfl) (hpl : (backTo pos (starEach es X.env)).any (·.1) = false := by rfl) : PE X (.Call (.Name x p) (e :: es) [] pos) (tCB r t) := by
  intro pins s σ H Q I h
  refine wpAny_Call_Name_kw (ld_blt I hg hm hv ?_ hn hdb)
  exact PyProof.Rows.callWith_builtin1 (thn (ha pos pins s σ H _ I h) fun us s1 ⟨vs, H1, I1, r1, q1⟩ => hc pins s1 σ H1 vs us Q I1 r1 q1) he hpl
theorem pe_callTy (hc : CallR X (.type T) r) (hg : Gl X x) (hm : X.mg x = none) (hv : bootBuiltins x = some (.type T)) (ha : PA X (e :: es) t) (hn : x ≠ "__name__" := by decide) (hdb : (x == ("__debug__" : Str)) = false := by decide)
    (he : starEach (e :: es) X.env = (false, eval e X.env) :: starEach es X.env := by rfl) (hpl : (backTo pos (starEach es X.env)).any (·.1) = false := by rfl) : PE X (.Call (.Name x p) (e :: es) [] pos) (tCB r t) := by
  intro pins s σ H Q I h
  refine wpAny_Call_Name_kw (ld_blt I hg hm hv ?_ hn hdb)
  exact PyProof.Rows.callWith_type1 (thn (ha pos pins s σ H _ I h) fun us s1 ⟨vs, H1, I1, r1, q1⟩ => hc pins s1 σ H1 vs us Q I1 r1 q1) he hpl
end
end L2

namespace HT
open PySem PyProof.Rows

section
open PySem.SeqAt
open PySem.AutoSeq1 (wpAny_loadPart')
open PySem.MeetsSeq PySem.MeetsSeq2 PySem.MeetsSeq3

end

section
variable {prog : Program} {w : World} {A : Around} {E : Value → Shared → Prop} {s : Shared}

def sIx (n d : Nat) : Option Int → Nat
  | none => d
  | some v => if v < 0 then (v + (n : Int)).toNat else min v.toNat n
end
end HT

namespace L2
open PySem PySem.Spec PyProof.Rows

abbrev TO := St → Hp → (Option Int → Hp → Prop) → Prop
def PO (X : Cx) (e : Option Expr) (t : TO) : Prop :=
  ∀ (pins : List (Addr × Obj)) (s : Shared) (σ : St) (H : Hp) (Q : Option Int → Hp → Prop), Inv X pins σ H s → t σ H Q →
    wpAny (model X.prog X.w) X.A (evalPart e X.env) (fun u s' => ∃ o H', Inv X pins σ H' s' ∧ IsPart u o ∧ Q o H') X.xe s
def tPart (t : TE) : TO := fun σ H Q => t σ H fun x H1 => ∃ i, x = .int i ∧ Q (some i) H1

section
variable {X : Cx} {e : Expr} {te : TE} {lo hi : Option Expr} {tl th : TO} {pos p2 : Pos}

theorem po_some (h : PE X e te) : PO X (some e) (tPart te) := by
  intro pins s σ H Q I hw
  rw [evalPart_some]
  refine thn (h pins s σ H _ I hw) fun u s1 ⟨x, H1, I1, r1, q1⟩ => ?_
  obtain ⟨i, rfl, q⟩ := q1
  obtain ⟨t, rfl⟩ := r1
  exact ⟨some i, H1, I1, .int i t, q⟩

def SlR (X : Cx) (r : V → Option Int → Option Int → Hp → VK → Prop) : Prop :=
  ∀ (pins : List (Addr × Obj)) (s : Shared) (σ : St) (H : Hp) (x : V) (v vl vu : Value) (lo hi : Option Int) (sl : Addr) (Q : VK), Inv X pins σ H s → RelV x v → s.heap.IsSliceOf sl vl vu .none → IsPart vl lo → IsPart vu hi → r x lo hi H Q →
    ∃ T id, typeLookup (.type T) "__getitem__" = pure (some (.builtin id)) ∧ s.TypeIs v T ∧ wpAny (model X.prog X.w) X.A (getItem v (.ref sl)) (EP X pins σ Q) X.xe s
theorem SlR.or {r r' : V → Option Int → Option Int → Hp → VK → Prop} (h : SlR X r) (h' : SlR X r') : SlR X (fun x lo hi H Q => r x lo hi H Q ∨ r' x lo hi H Q) := by
  intro pins s σ H x v vl vu lo hi sl Q I rx hs pl pu q
  rcases q with q | q
  · exact h pins s σ H x v vl vu lo hi sl Q I rx hs pl pu q
  · exact h' pins s σ H x v vl vu lo hi sl Q I rx hs pl pu q
def tSl (r : V → Option Int → Option Int → Hp → VK → Prop) (te : TE) (tl th : TO) : TE := fun σ H Q => te σ H fun x H1 => tl σ H1 fun l H2 => th σ H2 fun u H3 => r x l u H3 Q
theorem pe_slice {r : V → Option Int → Option Int → Hp → VK → Prop} (hr : SlR X r) (he : PE X e te) (hl : PO X lo tl) (hu : PO X hi th) : PE X (.Subscript e (.Slice lo hi none p2) pos) (tSl r te tl th) := by
  intro pins s σ H Q I h
  refine Subscript_ (thn (he pins s σ H _ I h) fun v s1 ⟨x, H1, I1, r1, q1⟩ => ?_)
  refine wpAny_Slice (thn (hl pins s1 σ H1 _ I1 q1) fun vl s2 ⟨l, H2, I2, pl, q2⟩ => thn (hu pins s2 σ H2 _ I2 q2) fun vu s3 ⟨u, H3, I3, pu, q3⟩ => ?_)
  rw [evalPart_none]
  refine wpAny_pure ?_
  have I4 : Inv X pins σ H3 { s3 with heap := s3.heap.push { cls := .type "slice", data := .fields #[vl, vu, .none] } } := I3.kept (t' := s3.toks) fun b ob q => Heap.get?_push_of_some _ q
  obtain ⟨T, id, hT, ht, hg⟩ := hr pins { s3 with heap := s3.heap.push { cls := .type "slice", data := .fields #[vl, vu, .none] } } σ H3 x v vl vu l u s3.heap.objs.size Q I4 r1 (Heap.IsSliceOf.new ..) pl pu q3
  show wpAny (model X.prog X.w) X.A (subscriptTail e (.Slice lo hi none p2) v (.ref s3.heap.objs.size)) (EP X pins σ Q) X.xe { s3 with heap := s3.heap.push { cls := .type "slice", data := .fields #[vl, vu, .none] } }
  exact tail_any (ops := [.ref s3.heap.objs.size, v]) ht hT hg (by with_unfolding_all rfl)

def cutV (xs : List V) (lo hi : Option Int) : List V := (xs.drop (HT.sIx xs.length 0 lo)).take (HT.sIx xs.length xs.length hi - HT.sIx xs.length 0 lo)
theorem cutV_length (xs : List V) (lo hi : Option Int) : (cutV xs lo hi).length ≤ xs.length := by
  unfold cutV
  rw [List.length_take, List.length_drop]
  omega
end
end L2

namespace L2
open PySem PySem.Spec PyProof.Rows

def ixN (n : Nat) (i : Int) : Option Nat := if 0 ≤ i then (if i < n then some i.toNat else none) else if -(n : Int) ≤ i then some (i + n).toNat else none
def atI {α : Type} (xs : List α) (i : Int) : Option α := (ixN xs.length i).bind fun j => xs[j]?
theorem ixN_seq {n : Nat} {i : Int} {j : Nat} (h : ixN n i = some j) : seqIndex? i n = some j ∧ j < n ∧ -(n : Int) ≤ i ∧ i < n := by
  unfold ixN at h
  by_cases h0 : 0 ≤ i
  · rw [if_pos h0] at h
    by_cases h1 : i < n
    · rw [if_pos h1] at h
      have e : i.toNat = j := Option.some.inj h
      exact ⟨by rw [seqIndex_of h0 h1, e], by omega, by omega, h1⟩
    · rw [if_neg h1] at h; cases h
  · rw [if_neg h0] at h
    by_cases h1 : -(n : Int) ≤ i
    · rw [if_pos h1] at h
      have e : (i + n).toNat = j := Option.some.inj h
      exact ⟨by rw [seqIndex_neg (by omega) h1, e], by omega, h1, by omega⟩
    · rw [if_neg h1] at h; cases h
theorem atI_get {α : Type} {xs : List α} {i : Int} {v : α} (h : atI xs i = some v) : ∃ j, seqIndex? i xs.length = some j ∧ xs[j]? = some v ∧ j < xs.length ∧ -(xs.length : Int) ≤ i ∧ i < xs.length := by
  unfold atI at h
  cases e : ixN xs.length i with
  | none => rw [e] at h; cases h
  | some j =>
    rw [e] at h
    obtain ⟨h1, h2, h3, h4⟩ := ixN_seq e
    exact ⟨j, h1, h, h2, h3, h4⟩
theorem atI_nat {α : Type} {xs : List α} {j : Nat} {v : α} (h : xs[j]? = some v) : atI xs (j : Int) = some v := by
  have hj : j < xs.length := (List.getElem?_eq_some_iff.mp h).1
  have e : ixN xs.length (j : Int) = some j := by
    unfold ixN
    rw [if_pos (by omega), if_pos (by omega)]; simp
  unfold atI; rw [e]; exact h
def PlainIx (b : Expr) : Prop := ∀ o i, subscripted b false o i = operate [o, i] (getItem o i)
def IxR (X : Cx) (r : R2) : Prop :=
  ∀ (value slice : Expr) (pins : List (Addr × Obj)) (s : Shared) (σ : St) (H : Hp) (x y : V) (v u : Value) (Q : VK), Inv X pins σ H s → RelV x v → RelV y u → r x y H Q →
    subscripted slice false v u = operate [v, u] (getItem v u) → wpAny (model X.prog X.w) X.A (subscriptTail value slice v u) (EP X pins σ Q) X.xe s
def MtR (X : Cx) (id : String) (r : V → List V → Hp → VK → Prop) : Prop :=
  ∀ (pins : List (Addr × Obj)) (s : Shared) (σ : St) (H : Hp) (x : V) (xs : List V) (v : Value) (us : List Value) (Q : VK), Inv X pins σ H s → RelV x v → Vals xs us → r x xs H Q →
    wpAny (model X.prog X.w) X.A (call (.builtin id) (v :: us)) (EP X pins σ Q) X.xe s
section
variable {X : Cx} {a b : Expr} {ta tb : TE} {pos : Pos}
theorem IxR.or {r r' : R2} (h : IxR X r) (h' : IxR X r') : IxR X (fun x y H Q => r x y H Q ∨ r' x y H Q) := by
  intro value slice pins s σ H x y v u Q I rx ry q hs
  rcases q with q | q
  · exact h value slice pins s σ H x y v u Q I rx ry q hs
  · exact h' value slice pins s σ H x y v u Q I rx ry q hs
theorem MtR.or {id : String} {r r' : V → List V → Hp → VK → Prop} (h : MtR X id r) (h' : MtR X id r') : MtR X id (fun x xs H Q => r x xs H Q ∨ r' x xs H Q) := by
  intro pins s σ H x xs v us Q I rx rs q
  rcases q with q | q
  · exact h pins s σ H x xs v us Q I rx rs q
  · exact h' pins s σ H x xs v us Q I rx rs q
theorem pe_ix {r : R2} (hr : IxR X r) (ha : PE X a ta) (hb : PE X b tb) (hs : PlainIx b) : PE X (.Subscript a b pos) (tOp r ta tb) := by
  intro pins s σ H Q I h
  exact Subscript_ (binT ha hb I h fun v u s2 x y H2 I2 rx ry q => hr a b pins s2 σ H2 x y v u Q I2 rx ry q (hs _ _))

def rIxL (K : PySem.W.Frag) : R2 := fun x y H Q => ∃ p xs i v, x = .ref p ∧ y = .int i ∧ SqL K H p xs ∧ atI xs i = some v ∧ Q v H
def rIxT (K : PySem.W.Frag) : R2 := fun x y H Q => ∃ p xs i v, x = .ref p ∧ y = .int i ∧ SqT K H p xs ∧ atI xs i = some v ∧ Q v H
def rIxS : R2 := fun x y H Q => ∃ z i c, x = .str z ∧ y = .int i ∧ z.length ≤ sizeLine ∧ atI z.cps.toList i = some c ∧ Q (.str ⟨#[c]⟩) H
theorem ix_list : IxR X (rIxL X.K) := by
  intro value slice pins s σ H x y v u Q I rx ry h hs
  obtain ⟨p, xs, i, z, rfl, rfl, hq, he, q⟩ := h
  cases rx
  obtain ⟨t, rfl⟩ := ry
  obtain ⟨its, r, pl, hz⟩ := I.list hq
  obtain ⟨j, h1, h2, h3, h4, h5⟩ := atI_get he
  obtain ⟨w, ew, rw'⟩ := r.get h2
  have hl := r.length
  have hn := line63
  have fin : EP X pins σ Q w s := ⟨z, H, I, rw', q⟩
  by_cases h0 : 0 ≤ i
  · have hj : i.toNat = j := by
      rw [seqIndex_of h0 h5] at h1
      exact Option.some.inj h1
    exact item_listR pl.isList h0 (by omega) (by rw [hj]; simpa using ew) fin hs
  · have hj : (i + (its.toArray.size : Int)).toNat = j := by
      rw [seqIndex_neg (by omega) h4] at h1
      rw [List.size_toArray, ← hl]
      exact Option.some.inj h1
    exact subscriptTail_builtinR (x := w) pl.isList.typeIs slot_list_getitem.lookup
      (wpAny_getItem_list_neg (Q := fun r s' => r = w ∧ EP X pins σ Q r s') pl.isList (by omega) (by rw [List.size_toArray] <;> omega) (by omega) (by rw [hj]; simpa using ew) ⟨rfl, fin⟩) hs
theorem ix_tup : IxR X (rIxT X.K) := by
  intro value slice pins s σ H x y v u Q I rx ry h hs
  obtain ⟨p, xs, i, z, rfl, rfl, hq, he, q⟩ := h
  cases rx
  obtain ⟨t, rfl⟩ := ry
  obtain ⟨its, r, pl, hz⟩ := I.tuple hq
  obtain ⟨j, h1, h2, h3, h4, h5⟩ := atI_get he
  obtain ⟨w, ew, rw'⟩ := r.get h2
  have hl := r.length
  have hn := line63
  have fin : EP X pins σ Q w s := ⟨z, H, I, rw', q⟩
  exact subscriptTail_builtinR (x := w) pl.typeIs slot_tuple_getitem.lookup
    (getItem_tuple (j := j) (Q := fun r s' => r = w ∧ EP X pins σ Q r s') pl (by omega) (by omega) (by rw [List.size_toArray, ← hl]; exact h1) (by simpa using ew) ⟨rfl, fin⟩) hs
theorem ix_str : IxR X rIxS := by
  intro value slice pins s σ H x y v u Q I rx ry h hs
  obtain ⟨z, i, c, rfl, rfl, hz, he, q⟩ := h
  obtain ⟨t, rfl⟩ := rx
  obtain ⟨t', rfl⟩ := ry
  obtain ⟨j, h1, h2, h3, h4, h5⟩ := atI_get he
  have hl : z.cps.toList.length = z.length := by simp [Str.length]
  rw [hl] at h1 h4 h5
  have hn := line63
  exact tail_any (typeIs_str s z t) slot_str_getitem.lookup (getItem_str (c := c) (by
    have e1 : decide (i < -(2 ^ 63 : Int)) = false := decide_eq_false (by omega)
    have e2 : decide (i ≥ 2 ^ 63) = false := decide_eq_false (by omega)
    rw [e1, e2, Bool.or_false]) (by rw [h1]; simpa using h2) ⟨.str ⟨#[c]⟩, H, I.tok _, ⟨_, rfl⟩, q⟩) hs
theorem Inv.lst {pins : List (Addr × Obj)} {σ : St} {H : Hp} {s : Shared} {p : Addr} {xs : List V} (I : Inv X pins σ H s) (h : H p = some (.lst xs)) :
    ∃ (its : List Value) (n : Nat), Vals xs its ∧ s.heap.get? p = some { cls := .type "list", data := .seq its.toArray n } ∧ xs.length ≤ sizeLine := by
  obtain ⟨z, its, n, r, e⟩ := I.hok p _ h
  exact ⟨its, n, r, e, z⟩
theorem slice_bounds (lo hi : Option Int) (n : Nat) : (sliceBounds lo hi none n).1 = ((HT.sIx n 0 lo : Nat) : Int) ∧ (sliceBounds lo hi none n).2.1 = ((HT.sIx n n hi : Nat) : Int) ∧ (sliceBounds lo hi none n).2.2 = 1 := by
  refine ⟨?_, ?_, rfl⟩
  · cases lo with
    | none => simp [sliceBounds, HT.sIx]
    | some i =>
      simp only [sliceBounds, HT.sIx, Option.getD_none, show (1 : Int) > 0 by decide, if_true]
      by_cases h : i < 0
      · simp only [h, if_true] <;> omega
      · simp only [h, if_false] <;> omega
  · cases hi with
    | none => simp [sliceBounds, HT.sIx]
    | some i =>
      simp only [sliceBounds, HT.sIx, Option.getD_none, show (1 : Int) > 0 by decide, if_true]
      by_cases h : i < 0
      · simp only [h, if_true] <;> omega
      · simp only [h, if_false] <;> omega
theorem slicePick_cut (its : List Value) (lo hi : Option Int) : slicePick its.toArray lo hi none = ((its.drop (HT.sIx its.length 0 lo)).take (HT.sIx its.length its.length hi - HT.sIx its.length 0 lo)).toArray := by
  obtain ⟨h1, h2, h3⟩ := slice_bounds lo hi its.toArray.size
  unfold slicePick
  rw [h1, h2, h3]
  simp only [sliceRange_one, pick_run, List.size_toArray] <;> rfl
def rSlL (K : PySem.W.Frag) : V → Option Int → Option Int → Hp → VK → Prop := fun x lo hi H Q => ∃ a xs, x = .ref a ∧ SqL K H a xs ∧ ∀ p, H p = none → Q (.ref p) (upd H p (.lst (cutV xs lo hi)))
theorem sl_list : SlR X (rSlL X.K) := by
  intro pins s σ H x v vl vu lo hi sl Q I rx hs pl pu h
  obtain ⟨a, xs, rfl, hx, q⟩ := h
  cases rx
  obtain ⟨its, r, ht, hz⟩ := I.list hx
  have hlen := r.length
  refine ⟨"list", _, slot_list_getitem.lookup, ht.isList.typeIs, ?_⟩
  refine wpAny_getItem_list_slice ht.isList hs pl pu .none (by simp) ?_ (by rw [List.size_toArray] <;> omega)
  rw [slicePick_cut, ← hlen]
  refine ⟨.ref s.heap.objs.size, _, I.laid (t' := s.toks) (o := .lst (cutV xs lo hi)) (fun b ob q => Heap.get?_push_of_some _ q) (Nat.le_refl _) ?_, rfl, q _ (I.hok.fresh (Nat.le_refl _))⟩
  exact ⟨Nat.le_trans (cutV_length xs lo hi) hz, _, 0, (r.drop (HT.sIx xs.length 0 lo)).take (HT.sIx xs.length xs.length hi - HT.sIx xs.length 0 lo), Heap.get?_push_size _ rfl⟩

def flatV : V → Bool
  | .non => true
  | .bl _ => true
  | .int _ => true
  | .str _ => true
  | _ => false
def eqV : V → V → Bool
  | .non, .non => true
  | .bl a, .bl b => a == b
  | .bl a, .int b => (if a then 1 else 0) == b
  | .int a, .bl b => a == (if b then 1 else 0)
  | .int a, .int b => a == b
  | .str a, .str b => a == b
  | _, _ => false
theorem eqAt_V {A : Around} {s : Shared} {y x : V} {u v : Value} (ry : RelV y u) (rx : RelV x v) (fy : flatV y = true) (fx : flatV x = true) : SeqAt.EqAt A s u v (eqV y x) := by
  cases y with
  | non =>
    cases ry
    cases x with
    | non => cases rx; exact SeqAt.EqAt.same _
    | bl b => cases rx; exact SeqAt.EqAt.none_bool b
    | int b => obtain ⟨t, rfl⟩ := rx; exact SeqAt.EqAt.none_int b t
    | str b => obtain ⟨t, rfl⟩ := rx; exact SeqAt.EqAt.none_str b t
    | _ => exact absurd (show false = true from fx) Bool.false_ne_true
  | bl a =>
    cases ry
    cases x with
    | non => cases rx; exact SeqAt.EqAt.bool_none a
    | bl b => cases rx; exact SeqAt.EqAt.bool_bool a b
    | int b => obtain ⟨t, rfl⟩ := rx; exact SeqAt.EqAt.bool_int a b t
    | str b => obtain ⟨t, rfl⟩ := rx; exact SeqAt.EqAt.bool_str a b t
    | _ => exact absurd (show false = true from fx) Bool.false_ne_true
  | int a =>
    obtain ⟨t', rfl⟩ := ry
    cases x with
    | non => cases rx; exact SeqAt.EqAt.int_none a t'
    | bl b => cases rx; exact SeqAt.EqAt.int_bool a t' b
    | int b => obtain ⟨t, rfl⟩ := rx; exact SeqAt.EqAt.int_int a t' b t
    | str b => obtain ⟨t, rfl⟩ := rx; exact SeqAt.EqAt.int_str a t' b t
    | _ => exact absurd (show false = true from fx) Bool.false_ne_true
  | str a =>
    obtain ⟨t', rfl⟩ := ry
    cases x with
    | non => cases rx; exact SeqAt.EqAt.str_none a t'
    | bl b => cases rx; exact SeqAt.EqAt.str_bool a t' b
    | int b => obtain ⟨t, rfl⟩ := rx; exact SeqAt.EqAt.str_int a t' b t
    | str b => obtain ⟨t, rfl⟩ := rx; exact SeqAt.EqAt.str_str a t' b t
    | _ => exact absurd (show false = true from fx) Bool.false_ne_true
  | _ => exact absurd (show false = true from fy) Bool.false_ne_true
def eqU (x : V) (u : Value) : Bool := match u with
  | .none => eqV .non x
  | .bool b => eqV (.bl b) x
  | .int i _ => eqV (.int i) x
  | .str z _ => eqV (.str z) x
  | _ => false
theorem eqU_of {x y : V} {u : Value} (r : RelV y u) (f : flatV y = true) : eqU x u = eqV y x := by
  cases y with
  | non => cases r; rfl
  | bl b => cases r; rfl
  | int i => obtain ⟨t, rfl⟩ := r; rfl
  | str z => obtain ⟨t, rfl⟩ := r; rfl
  | _ => exact absurd (show false = true from f) Bool.false_ne_true
theorem any_eqU {x : V} : ∀ {xs : List V} {us : List Value}, Vals xs us → xs.all flatV = true → us.any (eqU x) = xs.any fun y => eqV y x
  | _, _, .nil, _ => rfl
  | y :: xs, u :: us, .cons r t, f => by
    rw [List.all_cons, Bool.and_eq_true] at f
    rw [List.any_cons, List.any_cons, eqU_of r f.1, any_eqU t f.2]
theorem mem_eqAt {A : Around} {s : Shared} {x : V} {v : Value} (rx : RelV x v) (fx : flatV x = true) : ∀ {xs : List V} {us : List Value}, Vals xs us → xs.all flatV = true → ∀ u ∈ us, SeqAt.EqAt A s u v (eqU x u)
  | _, _, .nil, _ => fun u hu => by cases hu
  | y :: xs, u :: us, .cons r t, f => fun u' hu => by
    rw [List.all_cons, Bool.and_eq_true] at f
    rcases List.mem_cons.mp hu with rfl | hu
    · rw [eqU_of r f.1]; exact eqAt_V r rx f.1 fx
    · exact mem_eqAt rx fx t f.2 u' hu
def inV (x : V) (xs : List V) : Bool := xs.any fun y => eqV y x
def rIn (K : PySem.W.Frag) (neg : Bool) : R2 := fun x y H Q => ∃ p xs, y = .ref p ∧ (SqL K H p xs ∨ SqT K H p xs) ∧ flatV x = true ∧ xs.all flatV = true ∧ Q (.bl (if neg then !inV x xs else inV x xs)) H
theorem op_in_seq : OpR X (compareOp .In) (rIn X.K false) := by
  intro pins s σ H x y v u Q I rx ry h
  obtain ⟨p, xs, rfl, hq, fx, fs, q⟩ := h
  cases ry
  rcases hq with hq | hq
  · obtain ⟨its, r, pl, hz⟩ := I.list hq
    refine SeqAt.in_listAt (eqU x) pl.isList (fun w hw => mem_eqAt rx fx r fs w (by simpa using hw)) ⟨.bl _, H, I, rfl, ?_⟩
    rw [show its.toArray.any (eqU x) = its.any (eqU x) by simp, any_eqU r fs]
    exact q
  · obtain ⟨its, r, pl, hz⟩ := I.tuple hq
    refine SeqAt.in_tupleAt (eqU x) pl (fun w hw => mem_eqAt rx fx r fs w (by simpa using hw)) ⟨.bl _, H, I, rfl, ?_⟩
    rw [show its.toArray.any (eqU x) = its.any (eqU x) by simp, any_eqU r fs]
    exact q
theorem op_notIn_seq : OpR X (compareOp .NotIn) (rIn X.K true) := by
  intro pins s σ H x y v u Q I rx ry h
  obtain ⟨p, xs, rfl, hq, fx, fs, q⟩ := h
  cases ry
  rcases hq with hq | hq
  · obtain ⟨its, r, pl, hz⟩ := I.list hq
    refine SeqAt.notIn_listAt (eqU x) pl.isList (fun w hw => mem_eqAt rx fx r fs w (by simpa using hw)) ⟨.bl _, H, I, rfl, ?_⟩
    rw [show its.toArray.any (eqU x) = its.any (eqU x) by simp, any_eqU r fs]
    exact q
  · obtain ⟨its, r, pl, hz⟩ := I.tuple hq
    refine SeqAt.notIn_tupleAt (eqU x) pl (fun w hw => mem_eqAt rx fx r fs w (by simpa using hw)) ⟨.bl _, H, I, rfl, ?_⟩
    rw [show its.toArray.any (eqU x) = its.any (eqU x) by simp, any_eqU r fs]
    exact q
theorem call_len_seq : CallR X (.builtin "len") (fun xs H Q => ∃ p ys, xs = [.ref p] ∧ (SqL X.K H p ys ∨ SqT X.K H p ys) ∧ Q (.int ys.length) H) := by
  intro pins s σ H xs us Q I r h
  obtain ⟨p, ys, rfl, hq, q⟩ := h
  obtain ⟨u, rfl, rx⟩ := vals1 r
  cases rx
  have hn := line63
  rcases hq with hq | hq
  · obtain ⟨its, r', pl, hz⟩ := I.list hq
    have hlen := r'.length
    exact Calls.call_len_list pl.isList (by simp only [List.size_toArray] <;> omega) ⟨.int ys.length, H, I.tok _, ⟨s.toks + 1, by rw [List.size_toArray, hlen]⟩, q⟩
  · obtain ⟨its, r', pl, hz⟩ := I.tuple hq
    have hlen := r'.length
    exact len_tuple pl (by simp only [List.size_toArray] <;> omega) ⟨.int ys.length, H, I.tok _, ⟨s.toks + 1, by rw [List.size_toArray, hlen]⟩, q⟩
theorem call_len_str : CallR X (.builtin "len") (fun xs H Q => ∃ z, xs = [.str z] ∧ z.length ≤ sizeLine ∧ Q (.int z.length) H) := by
  intro pins s σ H xs us Q I r h
  obtain ⟨z, rfl, hz, q⟩ := h
  obtain ⟨u, rfl, t, rfl⟩ := vals1 r
  have hn := line63
  exact len_str (by omega) ⟨.int z.length, H, I.tok _, ⟨_, rfl⟩, q⟩
theorem CallR.or {f : Value} {r r' : List V → Hp → VK → Prop} (h : CallR X f r) (h' : CallR X f r') : CallR X f (fun xs H Q => r xs H Q ∨ r' xs H Q) := by
  intro pins s σ H xs us Q I rs q
  rcases q with q | q
  · exact h pins s σ H xs us Q I rs q
  · exact h' pins s σ H xs us Q I rs q
theorem call_list_of : CallR X (.type "list") (fun xs H Q => ∃ p ys, xs = [.ref p] ∧ (SqL X.K H p ys ∨ SqT X.K H p ys) ∧ ∀ l, H l = none → Q (.ref l) (upd H l (.lst ys))) := by
  intro pins s σ H xs us Q I r h
  obtain ⟨p, ys, rfl, hq, q⟩ := h
  obtain ⟨u, rfl, rx⟩ := vals1 r
  cases rx
  have fin : ∀ (its : List Value), Vals ys its → ys.length ≤ sizeLine → ∀ (h' : Heap) (c' : Nat), (∀ b o', s.heap.get? b = some o' → h'.get? b = some o') →
      h'.get? s.heap.objs.size = some { cls := .type "list", dict := none, data := .seq its.toArray c', slots := #[] } → EP X pins σ Q (.ref s.heap.objs.size) { s with heap := h' } := fun its r' hz h' c' kp e =>
    ⟨.ref s.heap.objs.size, _, I.laid (t' := s.toks) kp (Nat.le_refl _) (show ObjOk X.prog X.w _ h' _ (.lst ys) from ⟨hz, its, c', r', e⟩), rfl, q _ (I.hok.fresh (Nat.le_refl _))⟩
  rcases hq with hq | hq
  · obtain ⟨its, r', pl, hz⟩ := I.list hq
    have hlen := r'.length
    obtain ⟨o, ho, hc, n, hd⟩ := pl.isList
    exact call_list_seq p (.inl rfl) ho hc hd (fun h' c' kp e => fin its r' hz h' c' kp e) (by simp only [List.size_toArray] <;> omega)
  · obtain ⟨its, r', pl, hz⟩ := I.tuple hq
    have hlen := r'.length
    obtain ⟨o, ho, hc, n, hd⟩ := pl
    exact call_list_seq p (.inr rfl) ho hc hd (fun h' c' kp e => fin its r' hz h' c' kp e) (by simp only [List.size_toArray] <;> omega)
def tyV (K : PySem.W.Frag) (T : String) (x : V) (H : Hp) : Prop := match x with
  | .str _ => T = "str"
  | .int _ => T = "int"
  | .ref p => (T = "list" ∧ ∃ xs, SqL K H p xs) ∨ (T = "tuple" ∧ ∃ o, K.lookup p = some o ∧ o.cls = .type "tuple" ∧ o.dict = none) ∨
      (T = "dict" ∧ ((∃ kvs, H p = some (.dK kvs)) ∨ ∃ kvs, H p = some (.dT kvs))) ∨ (T = "set" ∧ ∃ S n, H p = some (.set S n))
  | _ => False
theorem tyV_is {pins : List (Addr × Obj)} {σ : St} {H : Hp} {s : Shared} {T : String} {x : V} {v : Value} (I : Inv X pins σ H s) (r : RelV x v) (ty : tyV X.K T x H) :
    s.TypeIs v T ∧ ∀ a, v = .ref a → ∃ ob, s.heap.get? a = some ob ∧ ob.dict = none := by
  cases x with
  | str z =>
    obtain ⟨t, rfl⟩ := r
    cases (show T = "str" from ty)
    exact ⟨typeIs_str s z t, fun _ e => nomatch e⟩
  | int i =>
    obtain ⟨t, rfl⟩ := r
    cases (show T = "int" from ty)
    exact ⟨typeIs_int s i t, fun _ e => nomatch e⟩
  | ref p =>
    cases r
    rcases ty with ⟨rfl, xs, hq⟩ | ⟨rfl, o, hk, hc, hd⟩ | ⟨rfl, hk⟩ | ⟨rfl, S, n, hk⟩
    · obtain ⟨its, _, pl, _⟩ := I.list hq
      refine ⟨pl.isList.typeIs, fun a e => ?_⟩
      cases e
      obtain ⟨o, n, e, c, hd, _⟩ := pl
      exact ⟨o, e, hd⟩
    · refine ⟨⟨o, I.kIn p o hk, hc⟩, fun a e => ?_⟩
      cases e
      exact ⟨o, I.kIn _ o hk, hd⟩
    · have z : ∃ o, s.heap.get? p = some o ∧ o.ExactDict := by
        rcases hk with ⟨kvs, hk⟩ | ⟨kvs, hk⟩
        · obtain ⟨_, _, _, _, o, _, _, e, ex, _⟩ := I.hok p _ hk
          exact ⟨o, e, ex⟩
        · obtain ⟨_, _, _, _, o, _, _, e, ex, _⟩ := I.hok p _ hk
          exact ⟨o, e, ex⟩
      obtain ⟨o, e, ex⟩ := z
      refine ⟨⟨o, e, ex.1⟩, fun a e2 => ?_⟩
      cases e2
      exact ⟨o, e, ex.2.1⟩
    · obtain ⟨o, _, _, _, e, ex, _⟩ := I.hok p _ hk
      refine ⟨⟨o, e, ex.1⟩, fun a e2 => ?_⟩
      cases e2
      exact ⟨o, e, ex.2.1⟩
  | _ => exact False.elim ty
def tBM (K : PySem.W.Frag) (T : String) (r : V → List V → Hp → VK → Prop) (to : TE) (t : TA) : TE := fun σ H Q => to σ H fun x H1 => tyV K T x H1 ∧ t σ H1 fun xs H2 => r x xs H2 Q
variable {o e : Expr} {es : List Expr} {to : TE} {t : TA} {name : Str} {apos cpos : Pos} {T id : String} {r : V → List V → Hp → VK → Prop}
theorem pe_bm (pa : PlainAttrs T) (slot : Slot T name id) (hty : typeOf (.builtin id) = pure (.type "method_descriptor")) (hm : MtR X id r) (ho : PE X o to) (ha : PA X (e :: es) t)
    (hbase : attributeBase o name X.env (eval o X.env) = eval o X.env := by rfl)
    (hfew : ((backTo cpos (starEach (e :: es) X.env)).all (fun x => !x.1) && (backToKw cpos (keywordEach [] X.env)).all (fun x => x.1.isSome)
      && decide ((e :: es).length + ([] : List Keyword).length + (if ([] : List Keyword).isEmpty then 0 else 1) < 30)) = true := by rfl)
    (hline : (apos.endLine == cpos.line) = true := by rfl) (hs : starEach (e :: es) X.env = (false, eval e X.env) :: starEach es X.env := by rfl) (hplain : (backTo cpos (starEach es X.env)).any (·.1) = false := by rfl) :
    PE X (.Call (.Attribute o name apos) (e :: es) [] cpos) (tBM X.K T r to t) := by
  intro pins s σ H Q I h
  refine wpAny_Call_method_late hbase hfew hline rfl (thn (ho pins s σ H _ I h) fun v s1 ⟨x, H1, I1, r1, ty, q1⟩ => ?_)
  obtain ⟨h1, h2⟩ := tyV_is I1 r1 ty
  refine ⟨T, id, pa, slot, hty, h1, h2, ?_⟩
  have hA := ha cpos pins s1 σ H1 _ I1 q1
  rw [hs] at hA ⊢
  refine Calls.callWith_builtin (by show (false || (backTo cpos (starEach es X.env)).any (·.1)) = false; rw [hplain] <;> rfl) (Calls.evalArgs_plain ?_)
  exact thn hA fun us s2 ⟨vs, H2, I2, r2, q2⟩ => hm pins s2 σ H2 x vs v us Q I2 r1 r2 q2
end
end L2

namespace L2
open PySem PySem.Spec PyProof.Rows

def MtM (X : Cx) (id : String) (r : V → List V → Hp → VK → Prop) : Prop :=
  ∀ (pins : List (Addr × Obj)) (s : Shared) (σ : St) (H : Hp) (x : V) (xs : List V) (v : Value) (us : List Value) (Q : VK), Inv X pins σ H s → RelV x v → Vals xs us → r x xs H Q →
    wpAny (model X.prog X.w) X.A (call (.builtin id) (v :: us)) (EP X pins σ Q) X.xe s

theorem Vals.one : ∀ {x : V} {us : List Value}, Vals [x] us → ∃ u, us = [u] ∧ RelV x u
  | _, _, .cons r .nil => ⟨_, rfl, r⟩
theorem Vals.two : ∀ {x y : V} {us : List Value}, Vals [x, y] us → ∃ u v, us = [u, v] ∧ RelV x u ∧ RelV y v
  | _, _, _, .cons r (.cons q .nil) => ⟨_, _, rfl, r, q⟩
theorem Vals.zero : ∀ {us : List Value}, Vals [] us → us = []
  | _, .nil => rfl
section
variable {X : Cx} {pins : List (Addr × Obj)} {σ : St} {H : Hp} {s : Shared} {l b : Addr} {xs ys zs : List V}

theorem Inv.lset {its its' : List Value} {n : Nat} {f : Array Value → Array Value} {t' : Nat} (I : Inv X pins σ H s) (hH : H l = some (.lst xs))
    (e : s.heap.get? l = some { cls := .type "list", data := .seq its.toArray n }) (hf : f its.toArray = its'.toArray) (hv : Vals ys its') (hz : ys.length ≤ sizeLine) :
    Inv X pins σ (upd H l (.lst ys)) { s with heap := s.heap.update l (Obj.mapSeq f), toks := t' } := by
  have q := PySem.IsL.update e f
  rw [hf] at q
  refine I.write (x := l) (e := l) (by rw [hH]; exact trivial) (.inl rfl) (fun b' u hb hu => (Heap.get?_update_other s.heap (Obj.mapSeq f) (Ne.symm hb)).trans hu) ⟨_, q⟩ ?_
  exact ⟨hz, its', _, hv, q⟩
theorem Inv.lnew {its : List Value} {t' : Nat} (I : Inv X pins σ H s) (hv : Vals ys its) (hz : ys.length ≤ sizeLine) :
    Inv X pins σ (upd H s.heap.objs.size (.lst ys)) { s with heap := s.heap.push { cls := .type "list", data := .seq its.toArray }, toks := t' } :=
  I.laid (fun _ _ q => Heap.get?_push_of_some _ q) (Nat.le_refl _) ⟨hz, its, 0, hv, Heap.get?_push_size _ rfl⟩
theorem Inv.fresh (I : Inv X pins σ H s) : H s.heap.objs.size = none := I.hok.fresh (Nat.le_refl _)
theorem Inv.lstM (I : Inv X pins σ H s) (hH : H l = some (.lst xs)) : xs.length ≤ sizeLine ∧ ∃ (its : List Value) (n : Nat), Vals xs its ∧ xs.length = its.length ∧ s.heap.get? l = some { cls := .type "list", data := .seq its.toArray n } := by
  obtain ⟨z, its, n, r, e⟩ := I.hok l _ hH
  exact ⟨z, its, n, r, r.length, e⟩

theorem notLongL {n : Nat} (h : n ≤ sizeLine) : Builtin.List.listTooLong n = false := by
  unfold Builtin.List.listTooLong
  exact decide_eq_false (by omega)
end

section
variable {X : Cx}

def rAppend : V → List V → Hp → VK → Prop := fun x vs H Q => ∃ l xs y, x = .ref l ∧ vs = [y] ∧ H l = some (.lst xs) ∧ xs.length < sizeLine ∧ Q .non (upd H l (.lst (xs ++ [y])))
theorem mt_append : MtM X "list.append" rAppend := by
  intro pins s σ H x vs v us Q I rx rv h
  obtain ⟨l, xs, y, rfl, rfl, hH, hz, q⟩ := h
  cases rx
  obtain ⟨u, rfl, ru⟩ := rv.one
  obtain ⟨z, its, n, r, hl, e⟩ := I.lstM hH
  refine call_meets F.slot_list_append ⟨_, e, rfl⟩ F.entry_list_append (F.args_list_append_2 _ _) (PySem.list_append l its.toArray n u (by rw [List.size_toArray]; omega)) ⟨e, ?_⟩
  refine ⟨.non, _, I.lset (its' := its ++ [u]) hH e (by simp) (r.append (.cons ru .nil)) ?_, rfl, q⟩
  rw [List.length_append, List.length_singleton]
  omega

def rExtend : V → List V → Hp → VK → Prop := fun x vs H Q => ∃ l b xs zs, x = .ref l ∧ vs = [.ref b] ∧ H l = some (.lst xs) ∧ H b = some (.lst zs) ∧ xs.length + zs.length ≤ sizeLine ∧ Q .non (upd H l (.lst (xs ++ zs)))
theorem mt_extend : MtM X "list.extend" rExtend := by
  intro pins s σ H x vs v us Q I rx rv h
  obtain ⟨l, b, xs, zs, rfl, rfl, hH, hB, hz, q⟩ := h
  cases rx
  obtain ⟨u, rfl, ru⟩ := rv.one
  cases ru
  obtain ⟨z, its, n, r, hl, e⟩ := I.lstM hH
  obtain ⟨z2, its2, n2, r2, hl2, e2⟩ := I.lstM hB
  have hsz : its.toArray.size + its2.toArray.size ≤ sizeLine := by rw [List.size_toArray, List.size_toArray]; omega
  have hlong : ¬ (!its.toArray.isEmpty && Builtin.List.listTooLong (its.toArray.size + its2.toArray.size)) = true := by
    rw [notLongL hsz, Bool.and_false]
    exact Bool.false_ne_true
  refine call_meets F.slot_list_extend ⟨_, e, rfl⟩ F.entry_list_extend (F.args_list_extend_2 _ _)
    (AutoSeq1.list_extend_list_list_0 l its.toArray n b its2.toArray n2 hlong (by rw [List.size_toArray]; omega) (by omega)) ⟨e, e2, ?_⟩
  refine ⟨.non, _, I.lset (its' := its ++ its2) hH e (by simp) (r.append r2) ?_, rfl, q⟩
  rw [List.length_append]
  omega

def rCat : R2 := fun x y H Q => ∃ l b xs zs, x = .ref l ∧ y = .ref b ∧ H l = some (.lst xs) ∧ H b = some (.lst zs) ∧ xs.length + zs.length ≤ sizeLine ∧ ∀ p, H p = none → Q (.ref p) (upd H p (.lst (xs ++ zs)))
theorem op_cat : OpR X (binaryOp .Add) rCat := by
  intro pins s σ H x y v u Q I rx ry h
  obtain ⟨l, b, xs, zs, rfl, rfl, hH, hB, hz, q⟩ := h
  cases rx
  cases ry
  obtain ⟨z, its, n, r, hl, e⟩ := I.lstM hH
  obtain ⟨z2, its2, n2, r2, hl2, e2⟩ := I.lstM hB
  refine PySem.P.add_list e e2 ?_ (by rw [List.size_toArray, List.size_toArray]; omega)
  have ea : its.toArray ++ its2.toArray = (its ++ its2).toArray := by simp
  rw [ea]
  exact ⟨.ref _, _, I.lnew (t' := s.toks) (r.append r2) (by rw [List.length_append]; omega), rfl, q _ I.fresh⟩
end

section
variable {prog : Program} {w : World} {A : Around} {E : Value → Shared → Prop} {s : Shared}
end

section
variable {X : Cx}
end
end L2

namespace L2
open PySem PySem.Spec PyProof.Rows

section
variable {κ : Type} [DecidableEq κ]
def valV (kvs : List (κ × V)) (k : κ) : Option V := (kvs.find? fun kv => decide (kv.1 = k)).map (·.2)
def putK (kvs : List (κ × V)) (k : κ) (v : V) : List (κ × V) :=
  if (kvs.any fun kv => decide (kv.1 = k)) = true then kvs.map (fun kv => if kv.1 = k then (kv.1, v) else kv) else kvs ++ [(k, v)]
def dropK (kvs : List (κ × V)) (k : κ) : List (κ × V) := kvs.filter fun kv => decide (kv.1 ≠ k)

theorem valV_nil {k : κ} : valV ([] : List (κ × V)) k = none := rfl
theorem valV_pos {p : κ × V} {r : List (κ × V)} {k : κ} (e : p.1 = k) : valV (p :: r) k = some p.2 := by simp [valV, List.find?_cons, e]
theorem valV_neg {p : κ × V} {r : List (κ × V)} {k : κ} (e : ¬ p.1 = k) : valV (p :: r) k = valV r k := by simp [valV, List.find?_cons, e]
theorem RelO.getD {o : Option V} {u : Option Value} {d : V} {d' : Value} (r : RelO o u) (rd : RelV d d') : RelV (o.getD d) (u.getD d') := by
  cases o with
  | none => cases u with
    | none => exact rd
    | some _ => exact (show False from r).elim
  | some _ => cases u with
    | none => exact (show False from r).elim
    | some _ => exact r

theorem KV.val {kvs : List (κ × V)} {vs : List (κ × Value)} (r : KV kvs vs) (k : κ) : RelO (valV kvs k) (valueAt vs k) := by
  unfold KV at r
  induction r with
  | nil => exact True.intro
  | @cons p q ps qs h t ih =>
    obtain ⟨h1, h2⟩ := h
    by_cases e : p.1 = k
    · have e' : q.1 = k := h1.symm.trans e
      have b : valueAt (q :: qs) k = some q.2 := by simp [valueAt, List.find?_cons, e']
      rw [valV_pos e, b]; exact h2
    · have e' : ¬ q.1 = k := fun z => e (h1.trans z)
      have b : valueAt (q :: qs) k = valueAt qs k := by simp [valueAt, List.find?_cons, e']
      rw [valV_neg e, b]; exact ih
theorem KV.any {kvs : List (κ × V)} {vs : List (κ × Value)} (r : KV kvs vs) (k : κ) : (kvs.any fun kv => decide (kv.1 = k)) = vs.any fun kv => decide (kv.1 = k) := by
  unfold KV at r
  induction r with
  | nil => rfl
  | cons h t ih => rw [List.any_cons, List.any_cons, ih, h.1]
theorem KV.drop {kvs : List (κ × V)} {vs : List (κ × Value)} (r : KV kvs vs) (k : κ) : KV (dropK kvs k) (without vs k) := by
  unfold KV at r ⊢
  unfold dropK without
  induction r with
  | nil => exact .nil
  | @cons p q ps qs h t ih =>
    obtain ⟨h1, h2⟩ := h
    rw [List.filter_cons, List.filter_cons]
    by_cases e : p.1 = k
    · have a : ¬ decide (p.1 ≠ k) = true := by simp [e]
      have b : ¬ decide (q.1 ≠ k) = true := by simp [h1.symm.trans e]
      rw [if_neg a, if_neg b]; exact ih
    · have e' : ¬ q.1 = k := fun z => e (h1.trans z)
      have a : decide (p.1 ≠ k) = true := by simp [e]
      have b : decide (q.1 ≠ k) = true := by simp [e']
      rw [if_pos a, if_pos b]; exact .cons ⟨h1, h2⟩ ih
theorem KV.keys {kvs : List (κ × V)} {vs : List (κ × Value)} (r : KV kvs vs) : kvs.map (·.1) = vs.map (·.1) := by
  unfold KV at r
  induction r with
  | nil => rfl
  | cons h t ih => rw [List.map_cons, List.map_cons, ih, h.1]
theorem KV.length {kvs : List (κ × V)} {vs : List (κ × Value)} (r : KV kvs vs) : kvs.length = vs.length := Paired.length r
theorem dropK_le (kvs : List (κ × V)) (k : κ) : (dropK kvs k).length ≤ kvs.length := List.length_filter_le _ _
end


abbrev KT (H : Hp) : List (List Key × V) → List (List Key × Addr × Value) → Prop := Paired fun p q => p.1 = q.1 ∧ H q.2.1 = some (.tup (p.1.map kV)) ∧ RelV p.2 q.2.2
theorem KT.val {H : Hp} {kvs : List (List Key × V)} {xs : List (List Key × Addr × Value)} (r : KT H kvs xs) (k : List Key) : RelO (valV kvs k) ((atKey xs k).map (·.2)) := by
  induction r with
  | nil => exact True.intro
  | @cons p q ps qs h t ih =>
    obtain ⟨h1, _, h2⟩ := h
    by_cases e : p.1 = k
    · have e' : q.1 = k := h1.symm.trans e
      have b : atKey (q :: qs) k = some q.2 := by simp [atKey, List.find?_cons, e']
      rw [valV_pos e, b]; exact h2
    · have e' : ¬ q.1 = k := fun z => e (h1.trans z)
      have b : atKey (q :: qs) k = atKey qs k := by simp [atKey, List.find?_cons, e']
      rw [valV_neg e, b]; exact ih
theorem KT.keeps {H H' : Hp} {kvs : List (List Key × V)} {xs : List (List Key × Addr × Value)} (r : KT H kvs xs) (ht : ∀ b ys, H b = some (.tup ys) → H' b = some (.tup ys)) : KT H' kvs xs :=
  Paired.mapP r fun _ _ z => ⟨z.1, ht _ _ z.2.1, z.2.2⟩

section
variable {P : Program} {w : World} {H : Hp} {h : Heap} {a : Addr}
end

def DGet (H : Hp) (a : Addr) (y : V) (r : Option V) : Prop :=
  (∃ kvs k, Rd H a (.dK kvs) ∧ y = kV k ∧ r = valV kvs k) ∨ ∃ kvs k b, Rd H a (.dT kvs) ∧ y = .ref b ∧ H b = some (.tup (k.map kV)) ∧ r = valV kvs k
def DPut (H : Hp) (a : Addr) (y v : V) (H' : Hp) : Prop :=
  (∃ kvs k, H a = some (.dK kvs) ∧ y = kV k ∧ kvs.length < sizeLine ∧ H' = upd H a (.dK (putK kvs k v))) ∨
  ∃ kvs k b, H a = some (.dT kvs) ∧ y = .ref b ∧ H b = some (.tup (k.map kV)) ∧ kvs.length < sizeLine ∧ H' = upd H a (.dT (putK kvs k v))
theorem DGet.k {H : Hp} {a : Addr} {kvs : List (Key × V)} {k : Key} (e : H a = some (.dK kvs)) : DGet H a (kV k) (valV kvs k) := .inl ⟨kvs, k, .inl e, rfl, rfl⟩
theorem DGet.t {H : Hp} {a b : Addr} {kvs : List (List Key × V)} {k : List Key} (e : H a = some (.dT kvs)) (eb : H b = some (.tup (k.map kV))) : DGet H a (.ref b) (valV kvs k) := .inr ⟨kvs, k, b, .inl e, rfl, eb, rfl⟩
theorem DPut.k {H : Hp} {a : Addr} {kvs : List (Key × V)} {k : Key} {v : V} (e : H a = some (.dK kvs)) (hl : kvs.length < sizeLine) : DPut H a (kV k) v (upd H a (.dK (putK kvs k v))) := .inl ⟨kvs, k, e, rfl, hl, rfl⟩
theorem DPut.t {H : Hp} {a b : Addr} {kvs : List (List Key × V)} {k : List Key} {v : V} (e : H a = some (.dT kvs)) (eb : H b = some (.tup (k.map kV))) (hl : kvs.length < sizeLine) :
    DPut H a (.ref b) v (upd H a (.dT (putK kvs k v))) := .inr ⟨kvs, k, b, e, rfl, eb, hl, rfl⟩


section
variable {X : Cx} {pins : List (Addr × Obj)} {σ : St} {H : Hp} {s : Shared} {a : Addr} {y v : V} {u r : Value} {o : Option V} {A : Around} {E : Value → Shared → Prop}

theorem Inv.big (I : Inv X pins σ H s) : sysModules < s.heap.objs.size := by
  have h : mainGlobals < s.heap.objs.size := (I.mod.glob.keeps I.bk).lt
  exact Nat.lt_trans (by decide) h

end

section
variable {X : Cx} {pins : List (Addr × Obj)} {σ : St} {H : Hp} {s : Shared} {a : Addr} {kvs : List (Key × V)} {k : Key} {u : Value} {A : Around} {E : Value → Shared → Prop}
end


section
variable {X : Cx} {o i e value : Expr} {pos pos' tpos : Pos} {td ty tv : TE}
end


section
variable {X : Cx} {pos : Pos}
end

abbrev VV : List (V × V) → List (Value × Value) → Prop := Paired fun p q => RelV p.1 q.1 ∧ RelV p.2 q.2
structure M1 (X : Cx) (o : Expr) (m : Str) (apos : Pos) (e : Expr) (cpos : Pos) : Prop where
  base : attributeBase o m X.env (eval o X.env) = eval o X.env
  few : ((backTo cpos (starEach [e] X.env)).all (fun x => !x.1) && (backToKw cpos (keywordEach [] X.env)).all (fun x => x.1.isSome)
    && decide (([e] : List Expr).length + ([] : List Keyword).length + (if ([] : List Keyword).isEmpty then 0 else 1) < 30)) = true
  line : (apos.endLine == cpos.line) = true
  trees : backTo cpos (starEach [e] X.env) = [(false, eval e X.env)]
structure M2 (X : Cx) (o : Expr) (m : Str) (apos : Pos) (e f : Expr) (cpos : Pos) : Prop where
  base : attributeBase o m X.env (eval o X.env) = eval o X.env
  few : ((backTo cpos (starEach [e, f] X.env)).all (fun x => !x.1) && (backToKw cpos (keywordEach [] X.env)).all (fun x => x.1.isSome)
    && decide (([e, f] : List Expr).length + ([] : List Keyword).length + (if ([] : List Keyword).isEmpty then 0 else 1) < 30)) = true
  line : (apos.endLine == cpos.line) = true
  trees : backTo cpos (starEach [e, f] X.env) = [(false, eval e X.env), (false, eval f X.env)]

section
variable {X : Cx} {pins : List (Addr × Obj)} {σ : St} {H : Hp} {s : Shared} {a : Addr} {y d : V} {u r : Value} {o : Option V} {A : Around} {E : Value → Shared → Prop}
end

section
variable {X : Cx} {o e f : Expr} {apos cpos : Pos} {td ty tx : TE}
end

section
variable {X : Cx} {pins : List (Addr × Obj)} {σ : St} {H : Hp} {s : Shared} {a : Addr} {kvs : List (Key × V)} {A : Around} {E : Value → Shared → Prop}
end


section
variable {X : Cx} {pins : List (Addr × Obj)} {σ : St} {H : Hp} {s : Shared} {a : Addr} {y : V} {u : Value} {A : Around} {E : Value → Shared → Prop}
end
end L2

namespace Att
open PySem PySem.W PySem.Calls PyProof.Rows

theorem ints_of_wellAll {P : Params} {h : Heap} : ∀ (ns : List Int) (vs : List Value), WellAll P h vs (ns.map WData.int) → IntsAre vs ns := by
  intro ns
  induction ns with
  | nil =>
    intro vs w
    rw [List.map_nil] at w
    cases w
    exact .nil
  | cons n ns ih =>
    intro vs w
    rw [List.map_cons] at w
    cases w with
    | cons a b =>
      cases a
      exact .cons _ _ (ih _ b)

theorem script_of {l : OpenLaw} {n : Nat} (hn : l.most = some n) {P : Params} {h : Heap} {args : List WData} {vals : List Value}
    (hpre : l.row.toRowW.claim.pre args = true) (hwl : WellAll P h vals args) :
    ∃ a vs ns, vals = [Value.ref a] ∧ args = [WData.list (ns.map WData.int)] ∧ h.get? a = some { cls := .type "list", data := .seq vs.toArray } ∧ IntsAre vs ns ∧ ns.length ≤ n := by
  have hsh : WShape.hasAll [] args [.list .int] = true := (pre_splitW hpre).1
  have hc : l.pre.holds [] { args := args } = true := (pre_splitW hpre).2
  obtain ⟨d, r, rfl, h1, h2⟩ := hasAllW_cons hsh
  obtain rfl := hasAllW_nil h2
  obtain ⟨xs, rfl, h3⟩ := hasW_list h1
  obtain ⟨ns, rfl⟩ := items_int h3
  have hlen : ns.length ≤ n := by
    unfold OpenLaw.pre at hc
    have h4 : (WTm.not (.lt (.lit (.int (n : Int))) (.len (.arg 0)))).holds [] { args := [.list (ns.map .int)] } = true := by
      have h4 := (holds_andW hc).1
      rw [hn] at h4
      exact h4
    have h5 := condW_of h4 (w_not (w_lt w_lit (w_len_list (w_arg rfl))))
    rw [List.length_map] at h5
    refine Nat.le_of_not_lt fun q => ?_
    have q' : (n : Int) < ((ns.length : Nat) : Int) := by omega
    first
      | (rw [decide_eq_true q'] at h5; exact absurd h5 (by decide))
      | (simp at h5; omega)
  cases hwl with
  | cons w1 w2 =>
    cases w2
    cases w1 with
    | list ho hall => exact ⟨_, _, ns, rfl, rfl, ho, ints_of_wellAll ns _ hall, hlen⟩

theorem post_true (l : OpenLaw) (args : List WData) : l.row.toRowW.claim.post args (.bool true) args = true :=
  postW_of (r := l.row.toRowW) (X := (true == true))
    (show WShape.has [] (.bool true) .bool = true by first | rfl | decide | simp [WShape.has, WShape.arms, WShape.armsAll])
    (show (WTm.eq .res (.lit (.bool true))).value [] { args := args, res := some (.bool true), after := args } = some (.bool (true == true)) from w_eq_bool (w_res rfl) w_lit) rfl

theorem attach {l : OpenLaw} {n : Nat} {q : Program} {loose : List Str} {XP : (Str → Option Value) → Heap → Prop} {YP : World → Heap → Prop} {d : DefRec} {x : Str}
    (hn : l.most = some n) (hdf : d.params.defaults = [])
    (hbind : ∀ pm cd doc v : Value, bindArgs (docDef d.name d.params d.body d.scope pm cd doc) ⟨[v], []⟩ = pure [(x, v)])
    (hx : d.scope.names.lookup x = some .local ∨ d.scope.names.lookup x = some .cell)
    (hk : d.scope.kind = .function) (hco : d.scope.isCoroutine = false) (hgen : d.scope.isGenerator = false)
    (body : ∀ (w : World) (s₀ s₁ s : Shared) (mg mb : Str → Option Value) (fa : Addr) (o : Obj) (pm cd doc : Value) (a : Addr) (vs : List Value) (ns : List Int),
      Ground q loose [] XP w s₀ mg mb s₁.heap → YP w s₁.heap →
      s₁.heap.get? fa = some o → o.data = .func (docDef d.name d.params d.body d.scope pm cd doc) → s₁.heap.CodeRec cd d.name → mg d.name = some (.ref fa) →
      s₁.heap.get? a = some { cls := .type "list", data := .seq vs.toArray } → IntsAre vs ns → ns.length ≤ n →
      s.gens = #[] → s.os = s₁.os →
      Fr s₁.heap s₁.heap.objs.size s.heap (bindL (envOfC d.name d.scope s₁.heap.objs.size fa cd).kindOf [(x, .ref a)] fun _ => none) →
      Cl s₁.heap.objs.size (cellsFrom (s₁.heap.objs.size + 1) d.scope.names []) s.heap (bindC (envOfC d.name d.scope s₁.heap.objs.size fa cd).kindOf [(x, .ref a)] fun _ => none) →
      wpAny (model l.prog w) (callerA.deeper (envOfC d.name d.scope s₁.heap.objs.size fa cd)) (execs d.body (envOfC d.name d.scope s₁.heap.objs.size fa cd))
        (fun f s' => f = .ret (.bool true) ∧ OldK s₁.heap s'.heap ∧ s'.os = s₁.os ∧ AllBare s'.gens) (fun _ _ => False) s) :
    WalkO q loose XP YP l.row.toRowW d [] (fun f vs => PySem.call f vs) := by
  intro w s₀ s₁ mg mb G Y fa o pm cd doc dV kV ho hd hcd hD hmg hg args vals as hpre hlay hrd hwl hlo
  obtain rfl : dV = .none := Dflts.none hD hdf
  obtain rfl : kV = .none := Dflts.noKw hD
  obtain ⟨a, vs, ns, rfl, rfl, hobj, hints, hlen⟩ := script_of hn hpre hwl
  refine enter_call ?_
  refine call_cells_ret (o := o) (by rw [depth_caller]; decide) ho (fd_plain hd) G.T.nolimit hcd (hbind pm cd doc (.ref a)) (fun y hy => ?_) (fun h₁ tk F X => ?_) hco hgen hk
  · obtain rfl : y = (x, Value.ref a) := List.mem_singleton.mp hy
    rcases hx with e | e
    · exact .inl e
    · exact .inr ⟨e, cellsFrom_some _ _ _ (.inl e)⟩
  · refine wpAny_mono (body w s₀ s₁ { s₁ with heap := h₁, toks := tk } mg mb fa o pm cd doc a vs ns G Y ho (fd_plain hd) hcd hmg hobj hints hlen hg rfl F X) (fun f s' hq => ?_) (fun _ _ hq => hq)
    obtain ⟨rfl, h2, h3, h4⟩ := hq
    exact ⟨.inl ⟨.bool true, .bool true, [], rfl, fun _ => rfl, .bool true, post_true l _, fun _ => ⟨List.Pairwise.nil, fun _ hm => (nomatch hm)⟩⟩, h2, h3, h4⟩

theorem attach_call {l : OpenLaw} {n : Nat} {q : Program} {loose : List Str} {XP : (Str → Option Value) → Heap → Prop} {YP : World → Heap → Prop} {d : DefRec}
    (hn : l.most = some n) (hdf : d.params.defaults = [])
    (call : ∀ (w : World) (s₀ s₁ : Shared) (mg mb : Str → Option Value) (fa : Addr) (o : Obj) (pm cd doc : Value) (a : Addr) (vs : List Value) (ns : List Int),
      Ground q loose [] XP w s₀ mg mb s₁.heap → YP w s₁.heap →
      s₁.heap.get? fa = some o → o.data = .func (docDef d.name d.params d.body d.scope pm cd doc) → s₁.heap.CodeRec cd d.name → mg d.name = some (.ref fa) →
      s₁.heap.get? a = some { cls := .type "list", data := .seq vs.toArray } → IntsAre vs ns → ns.length ≤ n → s₁.gens = #[] →
      codeAny (model l.prog w) callerA (.call (.ref fa) ⟨[.ref a], []⟩) (fun r s' => r = .ok (.ret (.bool true)) ∧ OldK s₁.heap s'.heap ∧ s'.os = s₁.os ∧ AllBare s'.gens) s₁) :
    WalkO q loose XP YP l.row.toRowW d [] (fun f vs => PySem.call f vs) := by
  intro w s₀ s₁ mg mb G Y fa o pm cd doc dV kV ho hd hcd hD hmg hg args vals as hpre hlay hrd hwl hlo
  obtain rfl : dV = .none := Dflts.none hD hdf
  obtain rfl : kV = .none := Dflts.noKw hD
  obtain ⟨a, vs, ns, rfl, rfl, hobj, hints, hlen⟩ := script_of hn hpre hwl
  refine enter_call (codeAny_mono (call w s₀ s₁ mg mb fa o pm cd doc a vs ns G Y ho (fd_plain hd) hcd hmg hobj hints hlen hg) fun r s' hq => ?_)
  obtain ⟨rfl, h2, h3, h4⟩ := hq
  exact ⟨.inl ⟨.bool true, .bool true, [], rfl, fun _ => rfl, .bool true, post_true l _, fun _ => ⟨List.Pairwise.nil, fun _ hm => (nomatch hm)⟩⟩, h2, h3, h4⟩

section
variable {prog : Program} {w : World} {A : Around} {E : Value → Shared → Prop} {s : Shared} {K : Frag}

end
end Att

namespace L2
open PySem PySem.Spec PyProof.Rows

theorem vals_ints : ∀ {vs : List Value} {ns : List Int}, IntsAre vs ns → Vals (ns.map V.int) vs
  | _, _, .nil => .nil
  | _, _, .cons n t h => .cons ⟨t, rfl⟩ (vals_ints h)

def Only (H : Hp) : Prop := ∀ b, H b = none ∨ ∃ o xs, H b = some (.frz o (.lst xs))

theorem law_call {P : Program} {w : World} {K : PySem.W.Frag} {mg mb : Str → Option Value} {CX : CXT} {k : Nat} {fa a : Addr} {fd : FuncData} {x : Str} {sp : Sp} {s₁ : Shared} {vs : List Value} {ns : List Int}
    (KX : K.In s₁.heap) (hns : s₁.heap.Ns mainGlobals mg) (hb : s₁.heap.Ns builtinsNs mb) (hbb : ∀ x : Str, x ≠ "__name__" → mb x = bootBuiltins x) (hlim : s₁.heap.NoLimit) (hg : s₁.gens = #[])
    (ha : s₁.heap.get? a = some { cls := .type "list", data := .seq vs.toArray }) (hi : IntsAre vs ns) (hl : ns.length ≤ sizeLine) (hr : Room k callerA)
    (F : ∀ base : Heap, K.In base → base.Ns mainGlobals mg → FnOk P w K mg base CX k fa fd [x] sp) (hbind : ∀ (s : Shared) (u : Value), BindsTo s fd ⟨[u], []⟩ [(x, u)])
    (hsp : ∀ H : Hp, Only H → SqL K H a (ns.map V.int) → sp [.ref a] H (fun v _ => v = .bl true) fun _ _ _ => False)
    (hCX : ∀ H e s', CX [] H s₁ (fun _ _ _ => False) e s' → False) :
    codeAny (model P w) callerA (.call (.ref fa) ⟨[.ref a], []⟩) (fun r s' => r = .ok (.ret (.bool true)) ∧ OldK s₁.heap s'.heap ∧ s'.os = s₁.os ∧ AllBare s'.gens) s₁ := by
  have rv := vals_ints hi
  have lenV := hi.length
  -- from an abstract heap in which nothing but the script may be tracked
  have core : ∀ H : Hp, Only H → SqL K H a (ns.map V.int) → HOk P w H s₁.heap → (∀ b, H b ≠ none → b = a) → (H a ≠ none → K.lookup a = none) →
      codeAny (model P w) callerA (.call (.ref fa) ⟨[.ref a], []⟩) (fun r s' => r = .ok (.ret (.bool true)) ∧ OldK s₁.heap s'.heap ∧ s'.os = s₁.os ∧ AllBare s'.gens) s₁ := by
    intro H hO hS hok hA hK
    have base_of : ∀ {b : Addr} {o : Obj}, s₁.heap.get? b = some o → H b = none → (hidT s₁.heap H).get? b = some o := fun e n => hidT_get e n
    have noA : ∀ {b : Addr} {o : Obj} {es : Array DictEntry} {ep : Nat}, s₁.heap.get? b = some o → o.data = .dict es ep → H b = none := fun {b o es ep} e d => by
      cases q : H b with
      | none => rfl
      | some u =>
        have e' : b = a := hA b (by rw [q]; simp)
        subst e'
        rw [ha] at e; cases e
        have d' : Data.seq vs.toArray _ = Data.dict es ep := d
        cases d'
    have nsK : ∀ {b : Addr} {m : Str → Option Value}, s₁.heap.Ns b m → (hidT s₁.heap H).Ns b m := fun {b m} ⟨o, es, ep, e, d, r⟩ => ⟨o, es, ep, base_of e (noA e d), d, r⟩
    have hKb : K.In (hidT s₁.heap H) := fun b o e => base_of (KX b o e) (by
      cases q : H b with
      | none => rfl
      | some u =>
        have e' : b = a := hA b (by rw [q]; simp)
        subst e'
        rw [hK (by rw [q]; simp)] at e; cases e)
    have hM : Mod K mg (hidT s₁.heap H) := ⟨hKb, nsK hns, ⟨mb, nsK hb, hbb⟩, let ⟨mc, h1, h2⟩ := hlim; ⟨mc, nsK h1, h2⟩⟩
    have e0 : Env0 P w K mg (hidT s₁.heap H) callerA [] s₁ H := ⟨rfl, hM, fun b o e => of_hidT e, Nat.le_of_eq (hidT_size _ _), trivial, fun b hb => absurd (show b ∈ ([] : List Addr) from hb) (by simp), hok, .of_eq hg⟩
    refine codeAny_mono ((F _ hKb (nsK hns)).run callerA [] s₁ H ⟨[.ref a], []⟩ [.ref a] [.ref a] _ _ hr e0 (hbind s₁ (.ref a)) (.cons rfl .nil) (hsp H hO hS)) fun r s' h => ?_
    cases r with
    | error e => exact (hCX H e s' h).elim
    | ok fl =>
      cases fl with
      | next => exact False.elim h
      | brk => exact False.elim h
      | cont => exact False.elim h
      | ret u =>
        obtain ⟨v, H', os, bare, un, hok', r', q⟩ := h
        have q' : v = .bl true := q
        subst q'
        obtain rfl : u = Value.bool true := r'
        refine ⟨rfl, OldK.of_keep fun b o e => ?_, os, bare⟩
        cases q : H b with
        | none => exact un.keep b o e q (by intro z; exact absurd (show b ∈ ([] : List Addr) from z) (by simp)) (by simp)
        | some u =>
          rcases hO b with z | ⟨ob, xs, z⟩
          · rw [q] at z; cases z
          · have z2 := un.frzs b ob _ z
            obtain ⟨e1, _⟩ := hok b _ z
            obtain ⟨e2, _⟩ := hok' b _ z2
            rw [e] at e1; cases e1
            exact e2
  cases hk : K.lookup a with
  | some o =>
    -- the script is one of the module's own objects
    have e := KX a o hk
    rw [ha] at e
    cases e
    refine core (fun _ => none) (fun _ => .inl rfl) (.inr ⟨_, vs.toArray, _, hk, rfl, rfl, rfl, by rw [List.size_toArray, lenV]; exact hl, by simpa using rv⟩) (fun b u z => by have z' : (none : Option HO) = some u := z; cases z') (fun b z => absurd rfl z) fun z => absurd rfl z
  | none =>
    refine core (fun b => if b = a then some (.frz { cls := .type "list", data := .seq vs.toArray } (.lst (ns.map V.int))) else none) (fun b => ?_) (.inl (.inr ⟨{ cls := .type "list", data := .seq vs.toArray }, if_pos rfl⟩)) (fun b u z => ?_) (fun b z => ?_) fun _ => hk
    · by_cases hb : b = a
      · exact .inr ⟨_, _, if_pos hb⟩
      · exact .inl (if_neg hb)
    · by_cases hb : b = a
      · have z' := (if_pos hb).symm.trans z
        cases z'
        subst hb
        exact ⟨ha, by rw [List.length_map]; exact hl, vs, _, rv, ha⟩
      · have z' := (if_neg hb).symm.trans z
        cases z'
    · by_cases hb : b = a
      · exact hb
      · exact absurd (if_neg hb) z
end L2

namespace L2
open PySem PySem.Spec PyProof.Rows

abbrev KOf {K : PySem.W.Frag} {h : Heap} (_ : K.In h) : PySem.W.Frag := K

theorem walk_of {l : PySem.W.OpenLaw} {n k : Nat} {q : Program} {loose : List Str} {XP : (Str → Option Value) → Heap → Prop} {YP : World → Heap → Prop} {d : DefRec} {K : Params → PySem.W.Frag} {CX : World → CXT} {sp : World → Sp} {x : Str}
    (hn : l.most = some n) (hn2 : n ≤ sizeLine) (hdf : d.params.defaults = []) (hr : Room k callerA)
    (hY : ∀ (w : World) (h : Heap), YP w h → (K w.params).In h)
    (F : ∀ (w : World) (mg : Str → Option Value) (fa : Addr) (h : Heap), (K w.params).In h → h.Ns mainGlobals mg → mg d.name = some (.ref fa) →
      ∃ fd : FuncData, (∀ (s : Shared) (u : Value), BindsTo s fd ⟨[u], []⟩ [(x, u)]) ∧
        ∀ base : Heap, (K w.params).In base → base.Ns mainGlobals mg → FnOk l.prog w (K w.params) mg base (CX w) k fa fd [x] (sp w))
    (hsp : ∀ (w : World) (H : Hp) (a : Addr) (ns : List Int), ns.length ≤ n → Only H → SqL (K w.params) H a (ns.map V.int) → sp w [.ref a] H (fun v _ => v = .bl true) fun _ _ _ => False)
    (hCX : ∀ (w : World) (H : Hp) (s : Shared) (e : Value) (s' : Shared), CX w [] H s (fun _ _ _ => False) e s' → False) :
    PySem.W.WalkO q loose XP YP l.row.toRowW d [] (fun f vs => PySem.call f vs) := by
  refine Att.attach_call hn hdf fun w s₀ s₁ mg mb fa o pm cd doc a vs ns G Y ho hd hcd hmg hobj hints hlen hg => ?_
  have KX := hY w _ Y
  obtain ⟨fd, hb, hF⟩ := F w mg fa _ KX G.T.g hmg
  exact law_call KX G.T.g G.T.b G.T.builtins G.T.nolimit hg hobj hints (Nat.le_trans hlen hn2) hr hF hb (fun H hO hS => hsp w H a ns hlen hO hS) fun H e s' => hCX w H s₁ e s'
theorem walk_ofK {l : PySem.W.OpenLaw} {n k : Nat} {q : Program} {loose : List Str} {XP : (Str → Option Value) → Heap → Prop} {YP : World → Heap → Prop} {d : DefRec} {K : Params → PySem.W.Frag} {CX : CXT} {sp : PySem.W.Frag → Sp} {x : Str}
    (hn : l.most = some n) (hn2 : n ≤ sizeLine) (hdf : d.params.defaults = []) (hr : Room k callerA)
    (hY : ∀ (w : World) (h : Heap), YP w h → (K w.params).In h)
    (F : ∀ (w : World) (mg : Str → Option Value) (fa : Addr) (h : Heap), (K w.params).In h → h.Ns mainGlobals mg → mg d.name = some (.ref fa) →
      ∃ fd : FuncData, (∀ (s : Shared) (u : Value), BindsTo s fd ⟨[u], []⟩ [(x, u)]) ∧
        ∀ base : Heap, (K w.params).In base → base.Ns mainGlobals mg → FnOk l.prog w (K w.params) mg base CX k fa fd [x] (sp (K w.params)))
    (hsp : ∀ (K : PySem.W.Frag) (H : Hp) (a : Addr) (ns : List Int), ns.length ≤ n → Only H → SqL K H a (ns.map V.int) → sp K [.ref a] H (fun v _ => v = .bl true) fun _ _ _ => False)
    (hCX : ∀ (H : Hp) (s : Shared) (e : Value) (s' : Shared), CX [] H s (fun _ _ _ => False) e s' → False) :
    PySem.W.WalkO q loose XP YP l.row.toRowW d [] (fun f vs => PySem.call f vs) :=
  walk_of (K := K) (CX := fun _ => CX) (sp := fun w => sp (K w.params)) hn hn2 hdf hr hY F (fun w H a ns h1 h2 h3 => hsp (K w.params) H a ns h1 h2 h3) fun _ H s e s' => hCX H s e s'
end L2

namespace L2
open PySem PySem.Spec PyProof.Rows

def defArgs (s : Stmt) : Arguments := match s with
  | .FunctionDef _ a _ _ _ _ _ _ _ _ => a
  | _ => { posonlyargs := [], args := [], vararg := none, kwonlyargs := [], kw_defaults := [], kwarg := none, defaults := [] }
def defBody (s : Stmt) : List Stmt := match s with
  | .FunctionDef _ _ b _ _ _ _ _ _ _ => b
  | _ => []
def defScope (s : Stmt) : Scope := match s with
  | .FunctionDef _ _ _ _ _ _ sc _ _ _ => sc
  | _ => { kind := .function, names := [], isGenerator := false, isCoroutine := false }

abbrev CX0 : CXT := fun _ _ _ _ _ _ => False
abbrev E0 : XK := fun _ _ _ => False
theorem pass0 {X : Cx} : Passes CX0 X E0 := fun _ _ _ _ _ _ _ h => h.elim

structure Fun (K : PySem.W.Frag) (x qual : Str) (st : Stmt) (f : Addr) (fd : FuncData) : Prop where
  ex : ∃ (oc : Value) (od : Option Addr) (kV doc pm : Value) (an : Option Addr) (cdv ct : Value) (osl : Array (Option Value)),
    fd = PySem.W.fnOf x qual (defArgs st) (defBody st) (defScope st) .none kV doc pm an cdv ct ∧ K.lookup f = some ⟨oc, od, .func fd, osl⟩ ∧ PySem.W.codeIn K cdv qual = true
  kp : PySem.W.keepIn K (.ref f) = true
section
variable {P : Program} {w : World} {K : PySem.W.Frag} {mg : Str → Option Value} {base : Heap}
theorem Fun.ok {x qual : Str} {st : Stmt} {f : Addr} {fd : FuncData} {N ps : List Str} {k : Nat} {sp : Sp} (F : Fun K x qual st f fd) (S : FnScope N ps (defScope st)) (len : ∀ vs H Q E, sp vs H Q E → vs.length = ps.length)
    (hbody : ∀ (cdv : Value) (A : Around) (outer : List Env) (s : Shared) (H : Hp) (vs : List V) (Q : VK) (E : XK), Room k (A.deeper (envOfC qual (defScope st) s.heap.objs.size f cdv)) → sp vs H Q E →
      ∃ t, PSs (cxOf CX0 P w K mg base N qual (defScope st) f cdv A outer s H E).nox (defBody st) t ∧ t { nx := fun _ H' => Q .non H', rt := Q } (start N vs) H) : FnOk P w K mg base CX0 (k + 1) f fd ps sp := by
  obtain ⟨oc, od, kV, doc, pm, an, cdv, ct, osl, rfl, lk, hcd⟩ := F.ex
  refine fn_of lk hcd S len fun A outer s H vs Q E hr hsp => ?_
  obtain ⟨t, h, q⟩ := hbody cdv A outer s H vs Q E hr hsp
  exact ⟨t, h.nox, q⟩
theorem Fun.binds {x qual : Str} {st : Stmt} {f : Addr} {fd : FuncData} {ps : List Str} (F : Fun K x qual st f fd)
    (h : ∀ (kV doc pm : Value) (an : Option Addr) (cdv ct : Value) (us : List Value), us.length = ps.length → bindArgs (PySem.W.fnOf x qual (defArgs st) (defBody st) (defScope st) .none kV doc pm an cdv ct) ⟨us, []⟩ = pure (ps.zip us)) : Binds K fd ps [] := by
  obtain ⟨oc, od, kV, doc, pm, an, cdv, ct, osl, rfl, lk, hcd⟩ := F.ex
  exact .all (h kV doc pm an cdv ct)
theorem fun_mk {x qual : Str} {st : Stmt} {f : Addr} {oc : Value} {od an : Option Addr} {osl : Array (Option Value)} {kV doc pm cdv ct : Value} (l : K.lookup f = some ⟨oc, od, .func (PySem.W.fnOf x qual (defArgs st) (defBody st) (defScope st) .none kV doc pm an cdv ct), osl⟩)
    (c : PySem.W.codeIn K cdv qual = true) (k : PySem.W.keepIn K (.ref f) = true) : Fun K x qual st f (PySem.W.fnOf x qual (defArgs st) (defBody st) (defScope st) .none kV doc pm an cdv ct) := ⟨⟨oc, od, kV, doc, pm, an, cdv, ct, osl, rfl, l, c⟩, k⟩
end
section
variable {X : Cx}
theorem pv (i : Nat) {x : Str} {pos : Pos} (hN : X.N[i]? = some x := by rfl) (hv : Vis X.env.scope x := by first | exact Or.inl rfl | exact Or.inr (Or.inl rfl) | exact Or.inr (Or.inr rfl)) (hd : (x == ("__debug__" : Str)) = false := by decide)
    (hcd : (x == ("__classdict__" : Str)) = false := by decide) : PE X (.Name x pos) (tVar i) := pe_var hN hv hd hcd
end

theorem iteF {A B : Prop} (h : B) : if false = true then A else B := by
  rw [if_neg Bool.false_ne_true]
  exact h
theorem iteT {A B : Prop} (h : A) : if true = true then A else B := by
  rw [if_pos rfl]
  exact h
def Same (H H' : Hp) : Prop := ∀ b o, H b = some o → H' b = some o
theorem Same.refl (H : Hp) : Same H H := fun _ _ h => h
theorem Same.trans {H H1 H2 : Hp} (a : Same H H1) (b : Same H1 H2) : Same H H2 := fun c o h => b c o (a c o h)
theorem Same.free {H H' : Hp} (e : Same H H') {l : Addr} (h : H' l = Option.none) : H l = Option.none := by
  cases q : H l with
  | none => rfl
  | some o =>
    rw [e l o q] at h
    cases h
theorem Same.seq {K : PySem.W.Frag} {H H' : Hp} {a : Addr} {xs : List V} (e : Same H H') (h : SqL K H a xs) : SqL K H' a xs := by
  rcases h with (h | ⟨o, h⟩) | h
  · exact .inl (.inl (e _ _ h))
  · exact .inl (.inr ⟨o, e _ _ h⟩)
  · exact .inr h

section
variable {κ : Type} [DecidableEq κ]
theorem dropK_pos {p : κ × V} {r : List (κ × V)} {k : κ} (e : p.1 = k) : dropK (p :: r) k = dropK r k := by
  unfold dropK
  rw [List.filter_cons, if_neg (by simp [e])]
theorem dropK_neg {p : κ × V} {r : List (κ × V)} {k : κ} (e : ¬ p.1 = k) : dropK (p :: r) k = p :: dropK r k := by
  unfold dropK
  rw [List.filter_cons, if_pos (by simp [e])]
theorem dropK_mem {kvs : List (κ × V)} {k : κ} {p : κ × V} (h : p ∈ dropK kvs k) : p ∈ kvs := (List.mem_filter.mp h).1
theorem nd_dropK : ∀ {kvs : List (κ × V)} {k : κ}, (kvs.map (·.1)).Nodup → ((dropK kvs k).map (·.1)).Nodup
  | [], _, _ => List.nodup_nil
  | p :: r, k, h => by
    have h : (p.1 :: r.map (·.1)).Nodup := h
    obtain ⟨h1, h2⟩ := List.nodup_cons.mp h
    by_cases e : p.1 = k
    · rw [dropK_pos e]
      exact nd_dropK h2
    · rw [dropK_neg e]
      show (p.1 :: (dropK r k).map (·.1)).Nodup
      refine List.nodup_cons.mpr ⟨fun m => h1 ?_, nd_dropK h2⟩
      obtain ⟨q, hq, eq⟩ := List.mem_map.mp m
      exact List.mem_map.mpr ⟨q, dropK_mem hq, eq⟩
end
end L2

namespace L2
open PySem PySem.Spec PyProof.Rows

def hid (own : List Str) (x : Str) : Str := if own.contains x = true then "" else x
structure CompScope (sc : Scope) (N own : List Str) (scope : Scope) : Prop where
  kind : scope.kind = .function
  nocell : ∀ y ∈ scope.names, y.2 ≠ .cell
  names : ∀ y ∈ scope.names, y.2 = .local → scope.names.lookup y.1 = some .local
  free : ∀ y ∈ scope.names, y.2 = .free → sc.names.lookup y.1 = some .cell ∨ sc.names.lookup y.1 = some .free
  dis : ∀ x ∈ N, scope.names.lookup x = some .local → own.contains x = true
  no : scope.names.lookup ("" : Str) = none

def cxComp (X : Cx) (own : List Str) (scope : Scope) (cl : List (Str × Addr)) (C : Addr) (s : Shared) (H : Hp) (ex : List Addr) : Cx :=
  { X with N := own ++ X.N.map (hid own), s₀ := s, H₀ := H, env := compEnvC scope cl C X.env, outer := X.stack, stack := X.stack, ex := ex, fn := fun _ => false, pn := [], xe := fun _ _ => False }

theorem closure_of {scope : Scope} {env : Env} (h : ∀ y ∈ scope.names, y.2 = .free → ∃ c, env.cells.lookup y.1 = some c) :
    ∃ cl, closureFor scope env = pure cl ∧ (∀ x c, cl.lookup x = some c → env.cells.lookup x = some c) ∧ ∀ y ∈ scope.names, y.2 = .free → ∃ c, cl.lookup y.1 = some c := by
  have gen : ∀ (names : List (Str × NameKind)) (acc : List (Str × Addr)), (∀ y ∈ names, y.2 = .free → ∃ c, env.cells.lookup y.1 = some c) → (∀ x c, acc.lookup x = some c → env.cells.lookup x = some c) →
      ∃ cl, (forIn names acc fun (x : Str × NameKind) (r : List (Str × Addr)) => if (x.2 == NameKind.free) = true then (do let a ← cellOf env x.1; pure (ForInStep.yield ((x.1, a) :: r))) else pure (ForInStep.yield r) : Sem (List (Str × Addr))) = pure cl ∧ (∀ x c, cl.lookup x = some c → env.cells.lookup x = some c) ∧
        (∀ y ∈ names, y.2 = .free → ∃ c, cl.lookup y.1 = some c) ∧ ∀ x c, acc.lookup x = some c → ∃ c', cl.lookup x = some c' := by
    intro names
    induction names with
    | nil => intro acc _ ha; exact ⟨acc, by simp [List.forIn_nil], ha, fun y hy => by simp at hy, fun x c e => ⟨c, e⟩⟩
    | cons y r ih =>
      intro acc hn ha
      rw [List.forIn_cons]
      by_cases hf : y.2 = .free
      · obtain ⟨c, hc⟩ := hn y List.mem_cons_self hf
        have e1 : (y.2 == NameKind.free) = true := by rw [hf]; rfl
        have ce : cellOf env y.1 = pure c := by unfold cellOf; rw [hc]
        obtain ⟨cl, h1, h2, h3, h4⟩ := ih ((y.1, c) :: acc) (fun z hz => hn z (List.mem_cons_of_mem _ hz)) (fun x c' e => by
          rw [List.lookup_cons] at e
          cases q : x == y.1 with
          | true => rw [q] at e; cases e; rw [eq_of_beq q]; exact hc
          | false => rw [q] at e; exact ha x c' e)
        refine ⟨cl, ?_, h2, ?_, ?_⟩
        · rw [if_pos e1, ce]
          simpa using h1
        · intro z hz zf
          rcases List.mem_cons.mp hz with rfl | hz
          · exact h4 z.1 c (by rw [List.lookup_cons]; simp)
          · exact h3 z hz zf
        · intro x c' e
          cases q : x == y.1 with
          | true => exact h4 x c (by rw [List.lookup_cons, q])
          | false => exact h4 x c' (by rw [List.lookup_cons, q]; exact e)
      · have e1 : ¬ (y.2 == NameKind.free) = true := by intro z; exact hf (by simpa using z)
        obtain ⟨cl, h1, h2, h3, h4⟩ := ih acc (fun z hz => hn z (List.mem_cons_of_mem _ hz)) ha
        refine ⟨cl, ?_, h2, ?_, h4⟩
        · rw [if_neg e1]
          simpa using h1
        · intro z hz zf
          rcases List.mem_cons.mp hz with rfl | hz
          · exact absurd zf hf
          · exact h3 z hz zf
  obtain ⟨cl, h1, h2, h3, _⟩ := gen scope.names [] h (fun x c e => by simp at e)
  refine ⟨cl, ?_, h2, h3⟩
  unfold closureFor
  simpa using h1

theorem relabel_local {scope : Scope} {env : Env} : ∀ {names : List (Str × NameKind)} {x : Str}, (∀ y ∈ names, y.2 ≠ .cell) →
    (names.map fun (n, k) => if (k == NameKind.free && env.scope.kind == .function && env.kindOf n == some .cell) = true then (n, NameKind.cell) else (n, k)).lookup x = some .local → names.lookup x = some .local
  | [], _, _, h => by simp at h
  | (n, k) :: r, x, hc, h => by
    rw [List.map_cons, List.lookup_cons] at h
    rw [List.lookup_cons]
    by_cases q : (k == NameKind.free && env.scope.kind == .function && env.kindOf n == some .cell) = true
    · simp only [q, if_true] at h
      cases e : x == n with
      | true => rw [e] at h; cases h
      | false => rw [e] at h; exact relabel_local (scope := scope) (env := env) (fun y hy => hc y (List.mem_cons_of_mem _ hy)) h
    · simp only [q] at h
      cases e : x == n with
      | true => simpa [e] using h
      | false =>
        have h' : (r.map fun (n, k) => if (k == NameKind.free && env.scope.kind == .function && env.kindOf n == some .cell) = true then (n, NameKind.cell) else (n, k)).lookup x = some .local := by simpa [e] using h
        exact relabel_local (scope := scope) (env := env) (fun y hy => hc y (List.mem_cons_of_mem _ hy)) h'
theorem relabel_outer {scope : Scope} {env : Env} : ∀ {names : List (Str × NameKind)} {x : Str}, (∀ y ∈ names, y.2 ≠ .cell) →
    ((names.map fun (n, k) => if (k == NameKind.free && env.scope.kind == .function && env.kindOf n == some .cell) = true then (n, NameKind.cell) else (n, k)).lookup x = some .cell ∨
     (names.map fun (n, k) => if (k == NameKind.free && env.scope.kind == .function && env.kindOf n == some .cell) = true then (n, NameKind.cell) else (n, k)).lookup x = some .free) → (x, NameKind.free) ∈ names
  | [], _, _, h => by simp at h
  | (n, k) :: r, x, hc, h => by
    rw [List.map_cons, List.lookup_cons] at h
    by_cases q : (k == NameKind.free && env.scope.kind == .function && env.kindOf n == some .cell) = true
    · have kf : k = .free := by
        simp only [Bool.and_eq_true, beq_iff_eq] at q
        exact q.1.1
      simp only [q, if_true] at h
      cases e : x == n with
      | true => rw [eq_of_beq e, kf]; exact List.mem_cons_self
      | false =>
        rw [e] at h
        exact List.mem_cons_of_mem _ (relabel_outer (scope := scope) (env := env) (fun y hy => hc y (List.mem_cons_of_mem _ hy)) h)
    · simp only [q] at h
      cases e : x == n with
      | true =>
        have h' : k = .cell ∨ k = .free := by simpa [e] using h
        rcases h' with z | z
        · exact absurd z (hc (n, k) List.mem_cons_self)
        · rw [eq_of_beq e, z]; exact List.mem_cons_self
      | false =>
        have h' : ((r.map fun (n, k) => if (k == NameKind.free && env.scope.kind == .function && env.kindOf n == some .cell) = true then (n, NameKind.cell) else (n, k)).lookup x = some .cell ∨
     (r.map fun (n, k) => if (k == NameKind.free && env.scope.kind == .function && env.kindOf n == some .cell) = true then (n, NameKind.cell) else (n, k)).lookup x = some .free) := by simpa [e] using h
        exact List.mem_cons_of_mem _ (relabel_outer (scope := scope) (env := env) (fun y hy => hc y (List.mem_cons_of_mem _ hy)) h')

theorem relabel_none {env : Env} : ∀ {names : List (Str × NameKind)} {x : Str}, names.lookup x = none →
    (names.map fun (n, k) => if (k == NameKind.free && env.scope.kind == .function && env.kindOf n == some .cell) = true then (n, NameKind.cell) else (n, k)).lookup x = none
  | [], _, _ => rfl
  | (n, k) :: r, x, h => by
    rw [List.lookup_cons] at h
    rw [List.map_cons, List.lookup_cons]
    cases e : x == n with
    | true => rw [e] at h; cases h
    | false =>
      rw [e] at h
      by_cases q : (k == NameKind.free && env.scope.kind == .function && env.kindOf n == some .cell) = true
      · simp only [q, if_true, e]
        exact relabel_none h
      · simp only [q, e]
        simpa [e] using relabel_none (env := env) h
theorem Inv.block {X : Cx} {pins : List (Addr × Obj)} {σ : St} {H : Hp} {s : Shared} {own : List Str} {scope : Scope} {cl : List (Str × Addr)} {fp : List Addr} {h' : Heap}
    (I : Inv X pins σ H s) (S : CompScope X.env.scope X.N own scope)
    (c1 : ∀ x c, cl.lookup x = some c → X.env.cells.lookup x = some c) (c2 : ∀ y ∈ scope.names, y.2 = .free → ∃ c, cl.lookup y.1 = some c)
    (f : ∀ b ∈ fp, FpOk X pins H b) (fo : ∀ b ∈ fp, b < s.heap.objs.size)
    (ns : h'.Ns s.heap.objs.size (fun _ => none)) (k : ∀ b o, s.heap.get? b = some o → h'.get? b = some o) {t' : Nat} :
    Inv (cxComp X own scope cl s.heap.objs.size s H fp) [] (List.replicate own.length none ++ σ) H { s with heap := h', toks := t' } := by
  have kd : ∀ x, (compEnvC scope cl s.heap.objs.size X.env).kindOf x = some .cell ∨ (compEnvC scope cl s.heap.objs.size X.env).kindOf x = some .free → (x, NameKind.free) ∈ scope.names := fun x h => relabel_outer (scope := scope) (env := X.env) S.nocell h
  have okY : (cxComp X own scope cl s.heap.objs.size s H fp).Ok := by
    refine ⟨I.ok.mod, S.kind, I.ok.glob, I.ok.blt, Nat.le_refl _, fun x y c hx hy => I.ok.inj x y c (c1 x c hx) (c1 y c hy), fun x hx => ?_, fun x c hf => (nomatch hf), I.ok.hd, I.ok.frames, .inl rfl, fun b hb => ⟨?_, fun x c hc => ?_⟩, I.bs, Nat.le_trans I.ok.bsz I.sz, fun b o e hb => ?_, fun b hb hfs => ?_, I.stack, I.stkFree⟩
    · exact c2 (x, .free) (kd x hx) rfl
    · exact Nat.ne_of_lt (fo b hb)
    · exact (f b hb).2.2.2.2.1 x c (c1 x c hc)
    · rcases (f b hb).2.2.2.1 with z | z
      · exact I.ok.noex b o e z
      · exact absurd (Nat.lt_of_lt_of_le (Heap.lt_size e) (Nat.le_trans I.ok.bsz z)) (Nat.lt_irrefl _)
    · obtain ⟨_, f1, f2, _⟩ := f b hb
      rcases List.mem_cons.mp (I.stkSub b hfs) with z | z
      · exact f1 z
      · exact f2 z
  refine ⟨okY, rfl, I.bare, Un.kept k, ⟨_, ns, fun i x v e1 e2 e3 => ?_⟩, fun x c hc => ?_, I.hok.fresh (Nat.le_refl _), fun x c hc => I.freeC x c (c1 x c hc), fun p hp => by simp [cxComp] at hp, I.hok.kept k, ?_⟩
  · by_cases hi : i < own.length
    · have e2' : (List.replicate own.length (none : Option V) ++ σ)[i]? = some (some v) := e2
      rw [List.getElem?_append_left (by simpa using hi), List.getElem?_replicate, if_pos hi] at e2'
      cases e2'
    · have hle : own.length ≤ i := Nat.le_of_not_lt hi
      have e2' : σ[i - own.length]? = some (some v) := by
        have e2' : (List.replicate own.length (none : Option V) ++ σ)[i]? = some (some v) := e2
        rw [List.getElem?_append_right (by simpa using hle)] at e2'
        simpa using e2'
      have e1'' : (X.N.map (hid own))[i - own.length]? = some x := by
        have e1' : (own ++ X.N.map (hid own))[i]? = some x := e1
        rwa [List.getElem?_append_right hle] at e1'
      rw [List.getElem?_map] at e1''
      obtain ⟨y, e1', ey⟩ := Option.map_eq_some_iff.mp e1''
      have hy : own.contains y = false := by
        cases hc : own.contains y with
        | false => rfl
        | true =>
          unfold hid at ey
          rw [if_pos hc] at ey
          subst ey
          have e3' : (scope.names.map fun (n, k) => if (k == NameKind.free && X.env.scope.kind == .function && X.env.kindOf n == some .cell) = true then (n, NameKind.cell) else (n, k)).lookup ("" : Str) ≠ none := by
            rcases e3 with z | z | z <;> (intro q; have z' : (scope.names.map fun (n, k) => if (k == NameKind.free && X.env.scope.kind == .function && X.env.kindOf n == some .cell) = true then (n, NameKind.cell) else (n, k)).lookup ("" : Str) = _ := z; rw [q] at z'; cases z')
          exact absurd (relabel_none S.no) e3'
      have exy : y = x := by
        unfold hid at ey
        rw [if_neg (by rw [hy]; exact Bool.false_ne_true)] at ey
        exact ey
      subst exy
      have hm : y ∈ X.N := List.mem_of_getElem? e1'
      have h3 : (compEnvC scope cl s.heap.objs.size X.env).kindOf y = some .cell ∨ (compEnvC scope cl s.heap.objs.size X.env).kindOf y = some .free := by
        rcases e3 with z | z
        · have := S.dis y hm (relabel_local (scope := scope) (env := X.env) S.nocell z)
          rw [hy] at this
          cases this
        · exact z
      have hfree := kd y h3
      obtain ⟨c, hc⟩ := c2 (y, .free) hfree rfl
      have hout := S.free (y, .free) hfree rfl
      obtain ⟨m, hn, hl⟩ := I.loc
      obtain ⟨u, r, l⟩ := hl _ y v e1' e2' (hout.elim (fun z => .inr (.inl z)) (fun z => .inr (.inr z)))
      refine ⟨u, r, .inr ⟨h3, c, hc, ?_⟩⟩
      rcases l with ⟨kl, _⟩ | ⟨_, c', hc', hcell⟩
      · rcases hout with z | z
        · rw [show X.env.kindOf y = X.env.scope.names.lookup y from rfl, z] at kl; cases kl
        · rw [show X.env.kindOf y = X.env.scope.names.lookup y from rfl, z] at kl; cases kl
      · rw [c1 y c hc] at hc'
        cases hc'
        obtain ⟨o, ho, hd⟩ := hcell
        exact ⟨o, k c o ho, hd⟩
  · obtain ⟨v, o, ho, hd⟩ := I.cell x c (c1 x c hc)
    exact ⟨v, o, k c o ho, hd⟩
  · show (List.replicate own.length (none : Option V) ++ σ).length = (own ++ X.N.map (hid own)).length
    rw [List.length_append, List.length_append, List.length_replicate, List.length_map, I.len]

def PIf (X : Cx) (ifs : List Expr) (tc : TT) : Prop :=
  ∀ (pins : List (Addr × Obj)) (s : Shared) (σ : St) (H : Hp) (Q : Bool → Hp → Prop), Inv X pins σ H s → tc σ H Q →
    wpAny (model X.prog X.w) X.A (forIn ifs true fun c r => if r = true then do let ok ← isTrue c X.env (eval c X.env); pure (ForInStep.yield ok) else pure (ForInStep.yield r)) (TP X pins σ Q) X.xe s
def tNoIf : TT := fun _ H Q => Q true H
theorem pif_nil {X : Cx} : PIf X [] tNoIf := by
  intro pins s σ H Q I h
  rw [List.forIn_nil]
  exact wpAny_pure ⟨H, I, h⟩
def tLoopC (k : Nat) (g : TG) (tc : TT) (te : TE) (J : It) (p : Addr) (R : Hp → Prop) (σ : St) (H : Hp) : Prop :=
  ∃ W : Nat → Nat → St → Hp → Prop, (∃ m, W 0 m (List.replicate k none ++ σ) (upd H p (.lst []))) ∧ ∀ i m σ' H', W i m σ' H' →
    (J.stop i H' ∧ R H') ∨ (J.go i H' ∧ ∃ N : St → Hp → Prop, (∀ σ2 H2, N σ2 H2 → ∃ m', m' < m ∧ W (i + 1) m' σ2 H2) ∧ ∀ x H1, J.yld i H' x H1 → g x σ' H1 fun σ2 H2 => tc σ2 H2 fun b H3 =>
      if b = true then te σ2 H3 fun v H4 => ∃ ys, H4 p = some (.lst ys) ∧ ys.length < sizeLine ∧ N σ2 (upd H4 p (.lst (ys ++ [v]))) else N σ2 H3)
def tComp (k : Nat) (wi : TI) (g : TG) (tc : TT) (te : TE) : TE := fun σ H Q => wi σ H fun J H1 => ∀ p, H1 p = none → tLoopC k g tc te J p (fun H' => Q (.ref p) H') σ H1

theorem comp_core {X : Cx} {tg elt iter : Expr} {ifs : List Expr} {scope : Scope} {pos : Pos} {own : List Str} {wi : TI} {g : TG} {tc : TT} {te : TE} {pins : List (Addr × Obj)} {σ : St} {H : Hp} {s : Shared} {use : Option (Value → Sem Unit)} {Q : Value → Shared → Prop} {R : Addr → Hp → Prop}
    (hc : X.calm = true) (S : CompScope X.env.scope X.N own scope) (hi : PI X tg iter wi)
    (hg : ∀ cl C s₀ H₀ ex, PG (cxComp X own scope cl C s₀ H₀ ex) tg g) (ht : ∀ cl C s₀ H₀ ex, PIf (cxComp X own scope cl C s₀ H₀ ex) ifs tc) (he : ∀ cl C s₀ H₀ ex, PE (cxComp X own scope cl C s₀ H₀ ex) elt te)
    (hs : ∀ x, foldedSetIterable iter X.env x = pure x)
    (I : Inv X pins σ H s) (h : wi σ H fun J H1 => ∀ p, H1 p = none → tLoopC own.length g tc te J p (R p) σ H1)
    (fin : ∀ (p : Addr) (H' : Hp) (s' : Shared) (C : Addr) (m : Str → Option Value), Inv X pins σ H' s' → FpOk X pins H' C → s'.heap.Ns C m → R p H' → compPost (model X.prog X.w) X.A X.xe use Q (.ref p) C (.ok .next) s') :
    wpAny (model X.prog X.w) X.A (comprehension (.ListComp elt [⟨tg, iter, ifs, 0⟩] scope pos) scope X.env (firstIterPos [⟨tg, iter, ifs, 0⟩] pos) (newList []) false (eval iter X.env) use) Q X.xe s := by
  obtain ⟨cl, hcl, c1, c2⟩ := closure_of (scope := scope) (env := X.env) fun y hy hf => I.ok.has y.1 (S.free y hy hf)
  refine wpAny_comprehension_free (use := use) rfl hs hcl S.kind S.names (thn (hi pins s σ H _ I h) fun xv s1 h1 => thn h1 fun itv s2 h2 => ?_)
  obtain ⟨it, fp, tn, J, H2, e, I2, T, st2, f2, q2⟩ := h2
  subst e
  -- the list that is made
  refine wpAny_newObj_type ?_
  have hp : H2 s2.heap.objs.size = none := I2.hok.fresh (Nat.le_refl _)
  obtain ⟨W, ⟨m0, w0⟩, turn⟩ := q2 _ hp
  generalize hP : s2.heap.objs.size = P at hp W w0 turn ⊢
  have kP : ∀ b u, s2.heap.get? b = some u → (s2.heap.push { cls := .type "list", dict := none, data := .seq ([] : List Value).toArray }).get? b = some u := fun b u e => Heap.get?_push_of_some _ e
  have I3 : Inv X pins σ (upd H2 P (.lst [])) { s2 with heap := s2.heap.push { cls := .type "list", dict := none, data := .seq ([] : List Value).toArray }, toks := s2.toks } :=
    I2.laid (a := P) (o := .lst []) (t' := s2.toks) kP (by rw [hP]; exact Nat.le_refl _) ⟨Nat.zero_le _, [], 0, .nil, by rw [← hP]; exact Heap.get?_push_size _ rfl⟩
  have fP : ∀ b ∈ fp, b ≠ P := fun b hb z => by
    obtain ⟨o, ho, _⟩ := T.obj _ _ st2 b hb
    have q := Heap.lt_size ho
    rw [hP, z] at q
    exact Nat.lt_irrefl _ q
  have f3 : ∀ b ∈ fp, FpOk X pins (upd H2 P (.lst [])) b := fun b hb => ⟨by rw [upd_ne (fP b hb)]; exact (f2 b hb).1, (f2 b hb).2⟩
  have st3 : tn 0 (s2.heap.push { cls := .type "list", dict := none, data := .seq ([] : List Value).toArray }) := T.keep _ _ _ st2 fun b _ o e => kP b o e
  generalize hS3 : ({ s2 with heap := s2.heap.push { cls := .type "list", dict := none, data := .seq ([] : List Value).toArray }, toks := s2.toks } : Shared) = s3 at I3
  have st3' : tn 0 s3.heap := by rw [← hS3]; exact st3
  have fo : ∀ b ∈ fp, b < s3.heap.objs.size := fun b hb => by
    obtain ⟨o, ho, _⟩ := T.obj _ _ st3' b hb
    exact Heap.lt_size ho
  refine wpAny_newFunctionEnv S.nocell (by intro y hy; simp at hy) (fun h4 hns hsb => ?_) S.kind
  try dsimp only at hns hsb ⊢
  have k4 : ∀ b o, s3.heap.get? b = some o → h4.get? b = some o := fun b o e => hsb.extBut b o (Nat.ne_of_lt (Heap.lt_size e)) (Heap.get?_push_of_some _ e)
  have I4 := Inv.block (own := own) (h' := h4) (t' := s3.toks + ([] : List (Str × Value)).length) I3 S c1 c2 f3 fo (by simpa using hns) k4
  -- what is true of the iterator within the block
  have fpY : ∀ {H' : Hp}, (∀ b ∈ fp, H' b = none) → ∀ b ∈ fp, FpOk (cxComp X own scope cl s3.heap.objs.size s3 (upd H2 P (.lst [])) fp) [] H' b := fun hn b hb => by
    refine ⟨hn b hb, Nat.ne_of_lt (fo b hb), ?_, .inl hb, fun x c hx => (f3 b hb).2.2.2.2.1 x c (c1 x c hx), fun p hp => by simp [cxComp] at hp⟩
    intro hfs
    rcases List.mem_cons.mp (I3.stkSub b hfs) with z | z
    · exact (f3 b hb).2.1 z
    · exact (f3 b hb).2.2.1 z
  have loop : codeAny (model X.prog X.w) X.A (.compLoop (.ListComp elt [⟨tg, iter, ifs, 0⟩] scope pos) 0 (.ref it) (.ref P) (compEnvC scope cl s3.heap.objs.size X.env)) (compPost (model X.prog X.w) X.A X.xe use Q (.ref P) s3.heap.objs.size) { s3 with heap := h4, toks := s3.toks + ([] : List (Str × Value)).length } := by
    refine codeAny_loop rfl (fun n s' => ∃ i σ' H', Inv (cxComp X own scope cl s3.heap.objs.size s3 (upd H2 P (.lst [])) fp) [] σ' H' s' ∧ tn i s'.heap ∧ (∀ b ∈ fp, H' b = none) ∧ W i n σ' H') ?_ m0 ⟨0, _, _, I4, T.keep _ _ _ st3' fun b _ o e => k4 b o e, fun b hb => (f3 b hb).1, w0⟩
    rintro n s5 ⟨i, σ5, H5, I5, st5, fr5, w5⟩
    show wpAny _ _ ((compTurn (.ListComp elt [⟨tg, iter, ifs, 0⟩] scope pos) 0 (.ref it) (.ref P) (compEnvC scope cl s3.heap.objs.size X.env)).onRaise (fun x => do noteFrame x (compEnvC scope cl s3.heap.objs.size X.env); theTreesLotGoes x)) _ _ s5
    refine wpAny_noted ?_
    rw [compTurn_list]
    have nE : ∀ {α : Type} {t : Sem α} {QQ : α → Shared → Prop} {E' : Value → Shared → Prop} {ss : Shared}, wpAny (model X.prog X.w) X.A t QQ (fun _ _ => False) ss → wpAny (model X.prog X.w) X.A t QQ E' ss := fun h => wpAny_mono h (fun _ _ q => q) fun _ _ z => z.elim
    refine wpAny_bind (wpAny_standAt (wpAny_bind ?_))
    rcases turn i n σ5 H5 w5 with ⟨stop, qn⟩ | ⟨go, N, hN, step⟩
    · refine thn (T.done (cxComp X own scope cl s3.heap.objs.size s3 (upd H2 P (.lst [])) fp) rfl rfl rfl hc i [] s5 σ5 H5 _ I5 (fpY fr5) st5 stop) fun r s6 ⟨hr, I6⟩ => ?_
      subst hr
      refine wpAny_pure ?_
      have back : ∀ h', Heap.SameBut s3.heap.objs.size s6.heap h' → Inv X pins σ H5 { s6 with heap := h' } := fun h' sb => by
        have nC : ∀ b o, s3.heap.get? b = some o → b ≠ s3.heap.objs.size := fun b o e => Nat.ne_of_lt (Heap.lt_size e)
        have nH : ∀ b u, H5 b = some u → b ≠ s3.heap.objs.size := fun b u e z => by
          have : H5 s3.heap.objs.size = none := I6.free
          rw [z, this] at e; cases e
        refine I3.call' (s' := { s6 with heap := h' }) (ch := fp) I6.os ⟨fun b o e n hb hx => ?_, fun b o e n hb hx => ?_, I6.base.free, fun b o e hx => ?_, I6.base.tups, I6.base.frzs, I6.base.tbls⟩ ?_ I6.bare fun b hb => ?_
        · exact (sb.2 b (nC b o e)).trans (I6.base.keep b o e n hb hx)
        · obtain ⟨sl, z⟩ := I6.base.slot b o e n hb hx
          exact ⟨sl, (sb.2 b (nC b o e)).trans z⟩
        · obtain ⟨o', z⟩ := I6.base.there b o e hx
          exact ⟨o', (sb.2 b (nC b o e)).trans z⟩
        · intro b u e
          refine (I6.hok b u e).stay (fun c v hc q => (sb.2 c ?_).trans q) (fun _ q => q) fun _ _ q => q
          rcases hc with z | z
          · rw [z]; exact nH b u e
          · exact nH c _ z
        · obtain ⟨_, g1, g2, g3, g4, g5⟩ := f3 b hb
          exact ⟨g3, g1, g4, g5⟩
      obtain ⟨m, hn, _⟩ := I6.loc
      exact fin P H5 s6 s3.heap.objs.size m (back s6.heap (.refl ..)) (I3.fpOk (Nat.le_refl _) I6.free) hn qn
    · refine thn (T.item (cxComp X own scope cl s3.heap.objs.size s3 (upd H2 P (.lst [])) fp) rfl rfl rfl hc i [] s5 σ5 H5 _ I5 (fpY fr5) st5 go) fun r s6 ⟨u, hr, h6⟩ => ?_
      subst hr
      refine wpAny_bind (thn h6 fun _ s7 ⟨x, H7, I7, r7, y7, st7, fr7⟩ => ?_)
      have I7' := I7.pinned (fpY fr7) (T.obj _ _ st7)
      refine wpAny_bind (nE (thn (hg cl s3.heap.objs.size s3 (upd H2 P (.lst [])) fp _ s7 σ5 H7 x u _ I7' r7 (step x H7 y7)) fun _ s8 ⟨σ8, H8, I8, q8⟩ => ?_))
      have again : ∀ {s9 : Shared} {H9 : Hp}, Inv (cxComp X own scope cl s3.heap.objs.size s3 (upd H2 P (.lst [])) fp) ([] ++ pinsAt fp s7.heap) σ8 H9 s9 → N σ8 H9 → ∃ m, m < n ∧ ∃ i σ' H', Inv (cxComp X own scope cl s3.heap.objs.size s3 (upd H2 P (.lst [])) fp) [] σ' H' s9 ∧ tn i s9.heap ∧ (∀ b ∈ fp, H' b = none) ∧ W i m σ' H' := fun {s9 H9} I9 n9 => by
        obtain ⟨m', hm, w9⟩ := hN σ8 H9 n9
        refine ⟨m', hm, i + 1, σ8, H9, I9.unpinned, T.keep _ _ _ st7 fun b hb o e => (I9.pin (b, o) (List.mem_append_right _ (List.mem_append_right _ (mem_pinsAt hb e)))).1, fun b hb => ?_, w9⟩
        obtain ⟨o, e, d⟩ := T.obj _ _ st7 b hb
        exact (I9.pin (b, o) (List.mem_append_right _ (List.mem_append_right _ (mem_pinsAt hb e)))).2.1
      refine wpAny_bind (nE (thn (ht cl s3.heap.objs.size s3 (upd H2 P (.lst [])) fp _ s8 σ8 H8 _ I8 q8) fun ok s9 ⟨H9, I9, q9⟩ => ?_))
      cases ok with
      | false =>
        rw [if_neg (by decide)] at q9
        exact wpAny_pure ⟨rfl, again I9 q9⟩
      | true =>
        rw [if_pos rfl] at q9
        refine wpAny_bind (wpAny_bind (nE (thn (he cl s3.heap.objs.size s3 (upd H2 P (.lst [])) fp _ s9 σ8 H9 _ I9 q9) fun y s10 ⟨v, H10, I10, r10, ys, e10, l10, q10⟩ => ?_)))
        refine wpAny_bind (nE (thn (mt_append (X := cxComp X own scope cl s3.heap.objs.size s3 (upd H2 P (.lst [])) fp) _ s10 σ8 H10 (.ref P) [v] (.ref P) [y] (fun _ H' => N σ8 H') I10 rfl (.cons r10 .nil) ⟨P, ys, v, rfl, rfl, e10, l10, q10⟩) fun _ s11 ⟨_, H11, I11, _, q11⟩ => ?_))
        exact wpAny_pure (wpAny_pure ⟨rfl, again I11 q11⟩)
  have lself := T.self X.A 0 ({ s3 with heap := h4, toks := s3.toks + ([] : List (Str × Value)).length } : Shared) (fun it' s' => codeAny (model X.prog X.w) X.A (.compLoop (.ListComp elt [⟨tg, iter, ifs, 0⟩] scope pos) 0 it' (.ref P) (compEnvC scope cl s3.heap.objs.size X.env)) (compPost (model X.prog X.w) X.A X.xe use Q (.ref P) s3.heap.objs.size) s')
    (notedBy (model X.prog X.w) X.A (compEnvC scope cl s3.heap.objs.size X.env) fun x s' => compPost (model X.prog X.w) X.A X.xe use Q (.ref P) s3.heap.objs.size (.error x) s') (T.keep _ _ _ st3' fun b _ o e => k4 b o e) loop
  exact codeAny_compStart_list loop lself

theorem pe_comp {X : Cx} {tg elt iter : Expr} {ifs : List Expr} {scope : Scope} {pos : Pos} (own : List Str) {wi : TI} {g : TG} {tc : TT} {te : TE}
    (hc : X.calm = true) (S : CompScope X.env.scope X.N own scope) (hi : PI X tg iter wi)
    (hg : ∀ cl C s₀ H₀ ex, PG (cxComp X own scope cl C s₀ H₀ ex) tg g) (ht : ∀ cl C s₀ H₀ ex, PIf (cxComp X own scope cl C s₀ H₀ ex) ifs tc) (he : ∀ cl C s₀ H₀ ex, PE (cxComp X own scope cl C s₀ H₀ ex) elt te)
    (hs : ∀ x, foldedSetIterable iter X.env x = pure x := by intro _; rfl) :
    PE X (.ListComp elt [⟨tg, iter, ifs, 0⟩] scope pos) (tComp own.length wi g tc te) := by
  intro pins s σ H Q I h
  rw [eval_ListComp]
  refine comp_core (use := none) (R := fun p H' => Q (.ref p) H') hc S hi hg ht he hs I h fun p H' s' C m I' f hn q => ?_
  obtain ⟨f0, f1, f2, f3, f4, f5⟩ := f
  exact ⟨m, hn, fun h' sb => ⟨.ref p, H', I'.turned (t' := s'.toks) (fun b o hb e => (sb.2 b hb).trans e) f0 f1 f3 f4 f5, rfl, q⟩⟩
theorem ps_setC {X : Cx} {tg elt iter : Expr} {ifs : List Expr} {scope : Scope} {pos : Pos} (own : List Str) {wi : TI} {g : TG} {tc : TT} {te : TE} {i : Nat} {x : Str} {pos' spos : Pos}
    (hN : X.N.Nodup) (hx0 : X.N[i]? = some x) (hx : X.env.scope.names.lookup x = some .local) (hc : X.calm = true) (S : CompScope X.env.scope X.N own scope) (hi : PI X tg iter wi)
    (hg : ∀ cl C s₀ H₀ ex, PG (cxComp X own scope cl C s₀ H₀ ex) tg g) (ht : ∀ cl C s₀ H₀ ex, PIf (cxComp X own scope cl C s₀ H₀ ex) ifs tc) (he : ∀ cl C s₀ H₀ ex, PE (cxComp X own scope cl C s₀ H₀ ex) elt te)
    (hsw : swapsWith (.ListComp elt [⟨tg, iter, ifs, 0⟩] scope pos) (some (.Name x pos')) spos.line X.env = pure true := by rfl)
    (hs : ∀ x, foldedSetIterable iter X.env x = pure x := by intro _; rfl) :
    PS X (.Assign [.Name x pos'] (.ListComp elt [⟨tg, iter, ifs, 0⟩] scope pos) spos) (tAsg (tComp own.length wi g tc te) (gName i)) := by
  intro pins s σ H D I h
  rw [exec_Assign_Name_used _ _ _ _ hsw]
  refine wpAny_bind (wpAny_standAt (wpAny_bind ?_))
  show wpAny _ X.A (do let _ ← comprehension (.ListComp elt [⟨tg, iter, ifs, 0⟩] scope pos) scope X.env _ (newList []) false (eval iter X.env) (some (assign (.Name x pos') X.env))) _ _ s
  refine wpAny_bind (thn (comp_core (use := some (assign (.Name x pos') X.env)) (Q := fun _ s' => SP X pins D .next s') (R := fun p H' => D.nx (σ.set i (some (.ref p))) H') hc S hi hg ht he hs I h fun p H' s' C m I' f hn q => ?_) fun _ s' hq => wpAny_pure (wpAny_pure hq))
  obtain ⟨f0, f1, f2, f3, f4, f5⟩ := f
  show wpAny _ X.A (assign (.Name x pos') X.env (.ref p)) _ _ s'
  refine wpAny_assign_Name (store_ok2 I' hN hx0 (.inl hx) (v := .ref p) rfl (fun s2 I2 ⟨a, sb, ha⟩ => ?_) (.inr hx))
  have hCa : C ≠ a := by
    rcases ha with z | z
    · rw [z]; exact f1
    · exact fun e => f4 x a z e.symm
  exact ⟨m, hn.sameBut sb hCa, fun h' sb' => ⟨_, H', I2.turned (t' := s2.toks) (fun b o hb e => (sb'.2 b hb).trans e) f0 f1 f3 f4 f5, q⟩⟩
end L2
namespace L2
open PySem PySem.Spec PyProof.Rows

def DefAt (K : PySem.W.Frag) (mg : Str → Option Value) (x : Str) (st : Stmt) : Prop := ∃ f fd, Fun K x x st f fd ∧ mg x = some (.ref f)
theorem defAt_mk {K : PySem.W.Frag} {h : Heap} {mg : Str → Option Value} {x : Str} {st : Stmt} {f : Addr} {oc : Value} {od an : Option Addr} {osl : Array (Option Value)} {kV doc pm cdv ct : Value} (X : K.In h) (G : h.Ns mainGlobals mg)
    (a : PySem.W.nsIn K mainGlobals x = some (some (.ref f))) (l : K.lookup f = some ⟨oc, od, .func (PySem.W.fnOf x x (defArgs st) (defBody st) (defScope st) .none kV doc pm an cdv ct), osl⟩)
    (c : PySem.W.codeIn K cdv x = true) (k : PySem.W.keepIn K (.ref f) = true) : DefAt K mg x st :=
  ⟨f, _, fun_mk l c k, PySem.W.mg_of X G a⟩
def CalF (P : Program) (w : World) (K : PySem.W.Frag) (mg : Str → Option Value) (base : Heap) (k : Nat) (f : Addr) (sp : Sp) : Prop :=
  ∃ fd ps, FnOk P w K mg base CX0 k f fd ps sp ∧ PySem.W.keepIn K (.ref f) = true ∧ Binds K fd ps []
def Cal (P : Program) (w : World) (K : PySem.W.Frag) (mg : Str → Option Value) (base : Heap) (k : Nat) (x : Str) (sp : Sp) : Prop :=
  ∃ f, mg x = some (.ref f) ∧ CalF P w K mg base k f sp
section
variable {P : Program} {w : World} {K : PySem.W.Frag} {mg : Str → Option Value} {base : Heap}
theorem CalF.mono {j k : Nat} {f : Addr} {sp : Sp} (c : CalF P w K mg base j f sp) (h : j ≤ k) : CalF P w K mg base k f sp :=
  let ⟨fd, ps, F, kp, b⟩ := c
  ⟨fd, ps, F.mono h, kp, b⟩
theorem Cal.mono {j k : Nat} {x : Str} {sp : Sp} (c : Cal P w K mg base j x sp) (h : j ≤ k) : Cal P w K mg base k x sp :=
  let ⟨f, m, c⟩ := c
  ⟨f, m, c.mono h⟩
theorem cal_of {x : Str} {st : Stmt} {N ps : List Str} {k : Nat} {sp : Sp} (D : DefAt K mg x st) (S : FnScope N ps (defScope st)) (len : ∀ vs H Q E, sp vs H Q E → vs.length = ps.length)
    (hb : ∀ (kV doc pm : Value) (an : Option Addr) (cdv ct : Value) (us : List Value), us.length = ps.length → bindArgs (PySem.W.fnOf x x (defArgs st) (defBody st) (defScope st) .none kV doc pm an cdv ct) ⟨us, []⟩ = pure (ps.zip us))
    (hbody : ∀ (f : Addr) (cdv : Value) (A : Around) (outer : List Env) (s : Shared) (H : Hp) (vs : List V) (Q : VK) (E : XK), Room k (A.deeper (envOfC x (defScope st) s.heap.objs.size f cdv)) → sp vs H Q E →
      ∃ t, PSs (cxOf CX0 P w K mg base N x (defScope st) f cdv A outer s H E).nox (defBody st) t ∧ t { nx := fun _ H' => Q .non H', rt := Q } (start N vs) H) : Cal P w K mg base (k + 1) x sp := by
  obtain ⟨f, fd, F, m⟩ := D
  exact ⟨f, m, fd, ps, F.ok S len (hbody f), F.kp, F.binds hb⟩
end

section
variable {X : Cx} {k : Nat} {x : Str} {sp : Sp} {p pos : Pos} {e func : Expr} {es : List Expr} {t : TA} {tf : TE}
theorem pe_cal (c : Cal X.prog X.w X.K X.mg X.base k x sp) (hr : Room k X.A) (hg : Gl X x) (ha : PA X (e :: es) t) (hdb : (x == ("__debug__" : Str)) = false := by decide)
    (he : starEach (e :: es) X.env = (false, eval e X.env) :: starEach es X.env := by rfl) (hpl : (backTo pos (starEach es X.env)).any (·.1) = false := by rfl) :
    PE X (.Call (.Name x p) (e :: es) [] pos) (tCall sp [] E0 t) := by
  obtain ⟨f, m, fd, ps, F, kp, b⟩ := c
  exact pe_call F hr hg m kp b .nil pass0 ha hdb he hpl
theorem pe_cal0 (c : Cal X.prog X.w X.K X.mg X.base k x sp) (hr : Room k X.A) (hg : Gl X x) (hdb : (x == ("__debug__" : Str)) = false := by decide) :
    PE X (.Call (.Name x p) [] [] pos) (tCall sp [] E0 tNil) := by
  obtain ⟨f, m, fd, ps, F, kp, b⟩ := c
  exact pe_call0 F hr hg m kp b .nil pass0 hdb
end

def CDivW (i j : Int) : Prop := 0 < j ∧ j < 2 ^ 200
section
variable {X : Cx}
theorem log2_small {n : Nat} (h : n < 2 ^ 200) : n.log2 < 9000 := by
  by_cases z : n = 0
  · subst z; decide
  · have := (Nat.log2_lt z).mpr h
    omega
theorem op_fdivW : OpR X (binaryOp .FloorDiv) (rI CDivW fun i j => .int (i / j)) := opI fun i j _ _ _ _ _ hc q => by
  refine floordiv_int (by have := hc.1; omega) ?_ (.inl (PyProof.noPylong_of_log2 (log2_small ?_)))
  · rw [Int.fdiv_eq_ediv_of_nonneg _ (Int.le_of_lt hc.1)]
    exact q
  · have h1 := hc.1
    have h2 := hc.2
    have e : ((j.natAbs : Nat) : Int) = j := Int.natAbs_of_nonneg (Int.le_of_lt h1)
    have : ((j.natAbs : Nat) : Int) < ((2 ^ 200 : Nat) : Int) := by rw [e]; exact h2
    exact Int.ofNat_lt.mp this
end

def isiV : V → String → Option Bool
  | .int _, "int" => some true
  | .int _, "bool" => some false
  | .int _, "str" => some false
  | .int _, "tuple" => some false
  | .int _, "list" => some false
  | .bl _, "bool" => some true
  | .bl _, "int" => some true
  | .bl _, "str" => some false
  | .str _, "str" => some true
  | .str _, "int" => some false
  | .str _, "bool" => some false
  | .str _, "tuple" => some false
  | .str _, "list" => some false
  | _, _ => none
section
variable {X : Cx}
theorem call_isi : CallR X (.builtin "isinstance") (fun xs H Q => ∃ x T b, xs = [x, .ty T] ∧ isiV x T = some b ∧ Q (.bl b) H) := by
  intro pins s σ H xs us Q I r h
  obtain ⟨x, T, b, rfl, e, q⟩ := h
  obtain ⟨u, v, rfl, ru, rv⟩ := vals2 r
  obtain rfl : v = Value.type T := rv
  unfold isiV at e
  split at e <;> first
    | (cases e; obtain ⟨t, rfl⟩ := ru; first
        | exact IsiPair.int_int ⟨.bl true, H, I, rfl, q⟩
        | exact IsiPair.int_bool ⟨.bl false, H, I.tok _, rfl, q⟩
        | exact IsiPair.int_str ⟨.bl false, H, I.tok _, rfl, q⟩
        | exact IsiPair.int_tuple ⟨.bl false, H, I.tok _, rfl, q⟩
        | exact IsiPair.int_list ⟨.bl false, H, I.tok _, rfl, q⟩
        | exact IsiPair.str_str ⟨.bl true, H, I, rfl, q⟩
        | exact IsiPair.str_int ⟨.bl false, H, I.tok _, rfl, q⟩
        | exact IsiPair.str_bool ⟨.bl false, H, I.tok _, rfl, q⟩
        | exact IsiPair.str_tuple ⟨.bl false, H, I.tok _, rfl, q⟩
        | exact IsiPair.str_list ⟨.bl false, H, I.tok _, rfl, q⟩)
    | (cases e; cases ru; first
        | exact IsiPair.bool_bool ⟨.bl true, H, I, rfl, q⟩
        | exact IsiPair.bool_int ⟨.bl true, H, I, rfl, q⟩
        | exact IsiPair.bool_str ⟨.bl false, H, I.tok _, rfl, q⟩)
    | cases e
end

section
variable {X : Cx} {o i : Expr} {td ty : TE} {pos : Pos}
end

section
variable {σ : St} {H : Hp} {Q : VK} {D : Ends} {i : Nat} {v : V}
theorem rd_C (q : Q v H) : tC v σ H Q := q
theorem rd_V (e : σ[i]? = some (some v)) (q : Q v H) : tVar i σ H Q := ⟨v, e, q⟩
theorem rd_op {r : R2} {ta tb : TE} (q : ta σ H fun x H1 => tb σ H1 fun y H2 => r x y H2 Q) : tOp r ta tb σ H Q := q
theorem rd_I {C : Int → Int → Prop} {g : Int → Int → V} {a b : Int} (c : C a b) (q : Q (g a b) H) : rI C g (.int a) (.int b) H Q := ⟨a, b, rfl, rfl, c, q⟩
theorem rd_I0 {g : Int → Int → V} {a b : Int} (q : Q (g a b) H) : rI0 g (.int a) (.int b) H Q := ⟨a, b, rfl, rfl, q⟩
theorem rd_eqI {a b : Int} (q : Q (.bl (decide (a = b))) H) : rEq (.int a) (.int b) H Q := by
  refine ⟨rfl, ?_⟩
  have e : decide (V.int a = V.int b) = decide (a = b) := decide_eq_decide.mpr ⟨fun h => V.int.inj h, fun h => by rw [h]⟩
  rw [e]; exact q
theorem rd_neI {a b : Int} (q : Q (.bl (!decide (a = b))) H) : rNe (.int a) (.int b) H Q := by
  refine ⟨rfl, ?_⟩
  have e : decide (V.int a = V.int b) = decide (a = b) := decide_eq_decide.mpr ⟨fun h => V.int.inj h, fun h => by rw [h]⟩
  rw [e]; exact q
theorem rd_eqS {a b : Str} (q : Q (.bl (decide (a = b))) H) : rEq (.str a) (.str b) H Q := by
  refine ⟨rfl, ?_⟩
  have e : decide (V.str a = V.str b) = decide (a = b) := decide_eq_decide.mpr ⟨fun h => V.str.inj h, fun h => by rw [h]⟩
  rw [e]; exact q
theorem rd_neS {a b : Str} (q : Q (.bl (!decide (a = b))) H) : rNe (.str a) (.str b) H Q := by
  refine ⟨rfl, ?_⟩
  have e : decide (V.str a = V.str b) = decide (a = b) := decide_eq_decide.mpr ⟨fun h => V.str.inj h, fun h => by rw [h]⟩
  rw [e]; exact q
theorem rd_seq {t u : TS} (q : t { D with nx := u D } σ H) : tSeq t u D σ H := q
theorem rd_asg {te : TE} {g : TG} (q : te σ H fun x H1 => g x σ H1 D.nx) : tAsg te g D σ H := q
theorem rd_name {R : St → Hp → Prop} (q : R (σ.set i (some v)) H) : gName i v σ H R := q
theorem rd_ret {te : TE} (q : te σ H D.rt) : tRet te D σ H := q
theorem rd_next (q : D.nx σ H) : tNext D σ H := q
theorem rd_drop {te : TE} (q : te σ H fun _ H1 => D.nx σ H1) : tDrop te D σ H := q
theorem rd_ifS {c : TT} {t u : TS} (q : c σ H fun b H1 => if b = true then t D σ H1 else u D σ H1) : tIfS c t u D σ H := q
theorem rd_test {te : TE} {R : Bool → Hp → Prop} (q : te σ H fun x H' => ∃ k, x = .bl k ∧ R k H') : tTest te σ H R := q
theorem rd_B {te : TE} {R : Bool → Hp → Prop} (q : te σ H fun x H' => ∃ k, x = .bl k ∧ R k H') : tB te σ H R := q
theorem rd_bl {b : Bool} {R : Bool → Prop} (q : R b) : ∃ k, V.bl b = .bl k ∧ R k := ⟨b, rfl, q⟩
theorem rd_and {t u : TT} {R : Bool → Hp → Prop} (q : t σ H fun c H1 => if c = true then u σ H1 R else R false H1) : tAnd t u σ H R := q
theorem rd_or {t u : TT} {R : Bool → Hp → Prop} (q : t σ H fun c H1 => if c = true then R true H1 else u σ H1 R) : tOr t u σ H R := q
theorem rd_not {t : TT} {R : Bool → Hp → Prop} (q : t σ H fun c H1 => R (!c) H1) : tNot t σ H R := q
theorem rd_andV {ta tb : TE} (q : ta σ H fun x H1 => ∃ c, x = .bl c ∧ if c = true then tb σ H1 Q else Q (.bl false) H1) : tAndV ta tb σ H Q := q
theorem rd_orV {ta tb : TE} (q : ta σ H fun x H1 => ∃ c, x = .bl c ∧ if c = true then Q (.bl true) H1 else tb σ H1 Q) : tOrV ta tb σ H Q := q
theorem rd_notV {ta : TE} (q : ta σ H fun x H1 => ∃ c, x = .bl c ∧ Q (.bl (!c)) H1) : tNotV ta σ H Q := q
theorem rd_cons {ta : TE} {tr : TA} {R : List V → Hp → Prop} (q : ta σ H fun x H1 => tr σ H1 fun xs H2 => R (x :: xs) H2) : tCons ta tr σ H R := q
theorem rd_nil {R : List V → Hp → Prop} (q : R [] H) : tNil σ H R := q
theorem rd_call {sp : Sp} {t : TA} (q : t σ H fun vs H1 => sp vs H1 Q E0) : tCall sp [] E0 t σ H Q := by
  unfold tCall
  have e : (fun (vs : List V) H1 => sp (vs ++ []) H1 Q E0) = fun vs H1 => sp vs H1 Q E0 := by funext vs H1; rw [List.append_nil]
  rw [e]
  exact q
theorem rd_CB {r : List V → Hp → VK → Prop} {t : TA} (q : t σ H fun vs H1 => r vs H1 Q) : tCB r t σ H Q := q
theorem rd_chain {r r' : R2} {ta tb tc : TE} (q : ta σ H fun x H1 => tb σ H1 fun y H2 => r x y H2 fun z H3 => ∃ k, z = .bl k ∧ if k = true then tc σ H3 fun u H4 => r' y u H4 Q else Q (.bl false) H3) : tChain r r' ta tb tc σ H Q := q
theorem rd_tup {t : TA} (q : t σ H fun xs H1 => xs.length ≤ sizeLine ∧ ∀ p, H1 p = none → Q (.ref p) (upd H1 p (.tup xs))) : tTup t σ H Q := q
theorem rd_lst {t : TA} (q : t σ H fun xs H1 => xs.length ≤ sizeLine ∧ ∀ p, H1 p = none → Q (.ref p) (upd H1 p (.lst xs))) : tLst t σ H Q := q
theorem rd_iteD {c A B : Prop} [Decidable c] (h1 : c → A) (h2 : ¬ c → B) : if decide c = true then A else B := by
  by_cases h : c
  · rw [if_pos (decide_eq_true h)]; exact h1 h
  · rw [if_neg (by rw [decide_eq_false h]; exact Bool.false_ne_true)]; exact h2 h
theorem rd_iteND {c A B : Prop} [Decidable c] (h1 : ¬ c → A) (h2 : c → B) : if (!decide c) = true then A else B := by
  by_cases h : c
  · rw [decide_eq_true h]; exact iteF (h2 h)
  · rw [decide_eq_false h]; exact iteT (h1 h)
theorem rd_fin {u : V} (e : u = v) (q : Q v H) : Q u H := by rw [e]; exact q
end

def GlobAt (mg : Str → Option Value) (x : Str) (v : V) : Prop := ∃ u, mg x = some u ∧ RelV v u
section
variable {X : Cx} {x : Str} {v : V} {T : String} {pos : Pos}
theorem pe_glA (hg : Gl X x) (h : GlobAt X.mg x v) (hd : (x == ("__debug__" : Str)) = false := by decide) : PE X (.Name x pos) (tC v) :=
  let ⟨_, m, r⟩ := h
  pe_glob hg m r hd
theorem pe_blA (hg : Gl X x) (hm : X.mg x = none) (hv : bootBuiltins x = some (.type T)) (hn : x ≠ "__name__" := by decide) (hd : (x == ("__debug__" : Str)) = false := by decide) : PE X (.Name x pos) (tC (.ty T)) :=
  pe_bltn hg hm hv rfl hn hd
end

end L2
namespace L2
open PySem PySem.Spec PyProof.Rows

theorem SqL.updN {K : PySem.W.Frag} {H : Hp} {a p : Addr} {xs : List V} {o : HO} (h : SqL K H a xs) (n : H p = none) : SqL K (upd H p o) a xs := by
  rcases h with (h | ⟨ob, h⟩) | h
  · exact .inl (.inl (by rw [upd_ne (ne_of_none h n)]; exact h))
  · exact .inl (.inr ⟨ob, by rw [upd_ne (ne_of_none h n)]; exact h⟩)
  · exact .inr h
theorem SqT.updN {K : PySem.W.Frag} {H : Hp} {a p : Addr} {xs : List V} {o : HO} (h : SqT K H a xs) (n : H p = none) : SqT K (upd H p o) a xs := by
  rcases h with (h | ⟨ob, h⟩) | h
  · exact .inl (.inl (by rw [upd_ne (ne_of_none h n)]; exact h))
  · exact .inl (.inr ⟨ob, by rw [upd_ne (ne_of_none h n)]; exact h⟩)
  · exact .inr h
theorem Same.tup {K : PySem.W.Frag} {H H' : Hp} {a : Addr} {xs : List V} (e : Same H H') (h : SqT K H a xs) : SqT K H' a xs := by
  rcases h with (h | ⟨o, h⟩) | h
  · exact .inl (.inl (e _ _ h))
  · exact .inl (.inr ⟨o, e _ _ h⟩)
  · exact .inr h
theorem Same.new {H : Hp} {p : Addr} {o : HO} (n : H p = none) : Same H (upd H p o) := fun b u e => by rw [upd_ne (ne_of_none e n)]; exact e
theorem Same.newT {H H' : Hp} {p : Addr} {o : HO} (s : Same H H') (n : H' p = none) : Same H (upd H' p o) := s.trans (Same.new n)
theorem sql_new {K : PySem.W.Frag} {H : Hp} {p : Addr} {xs : List V} : SqL K (upd H p (.lst xs)) p xs := .inl (.inl upd_same)
theorem sql_of {K : PySem.W.Frag} {H : Hp} {p : Addr} {xs : List V} (h : H p = some (.lst xs)) : SqL K H p xs := .inl (.inl h)
theorem sqt_of {K : PySem.W.Frag} {H : Hp} {p : Addr} {xs : List V} (h : H p = some (.tup xs)) : SqT K H p xs := .inl (.inl h)
theorem atI_nat' {α : Type} {xs : List α} {i : Nat} {j : Int} {v : α} (h : xs[i]? = some v) (e : j = (i : Int)) : atI xs j = some v := by rw [e]; exact atI_nat h
section
variable {σ : St} {H : Hp} {Q : VK} {K : PySem.W.Frag} {p a b : Addr} {xs ys : List V} {v : V}
theorem rd_ixL {i : Int} (h : SqL K H p xs) (e : atI xs i = some v) (q : Q v H) : rIxL K (.ref p) (.int i) H Q := ⟨p, xs, i, v, rfl, rfl, h, e, q⟩
theorem rd_ixT {i : Int} (h : SqT K H p xs) (e : atI xs i = some v) (q : Q v H) : rIxT K (.ref p) (.int i) H Q := ⟨p, xs, i, v, rfl, rfl, h, e, q⟩
theorem rd_slL {lo hi : Option Int} (h : SqL K H a xs) (q : ∀ p, H p = none → Q (.ref p) (upd H p (.lst (cutV xs lo hi)))) : rSlL K (.ref a) lo hi H Q := ⟨a, xs, rfl, h, q⟩
theorem rd_sl {r : V → Option Int → Option Int → Hp → VK → Prop} {te : TE} {tl th : TO} (q : te σ H fun x H1 => tl σ H1 fun l H2 => th σ H2 fun u H3 => r x l u H3 Q) : tSl r te tl th σ H Q := q
theorem rd_part {R : Option Int → Hp → Prop} {t : TE} (q : t σ H fun x H1 => ∃ i, x = .int i ∧ R (some i) H1) : tPart t σ H R := q
theorem rd_ei {R : Int → Prop} {i : Int} (q : R i) : ∃ j, V.int i = .int j ∧ R j := ⟨i, rfl, q⟩
theorem rd_cat (h1 : H a = some (.lst xs)) (h2 : H b = some (.lst ys)) (hz : xs.length + ys.length ≤ sizeLine) (q : ∀ p, H p = none → Q (.ref p) (upd H p (.lst (xs ++ ys)))) : rCat (.ref a) (.ref b) H Q := ⟨a, b, xs, ys, rfl, rfl, h1, h2, hz, q⟩
theorem comp_map {te : TE} {R : Hp → Prop} (hl : SqL K H a xs) (hp : H p = none) (hn : ys.length = xs.length) (hz : xs.length ≤ sizeLine)
    (he : ∀ (i : Nat) (x y : V) (H' : Hp) (Q : VK), xs[i]? = some x → ys[i]? = some y → Same H H' → Q y H' → te (some x :: σ) H' Q) (fin : R (upd H p (.lst ys))) :
    tLoopC 1 (gName 0) tNoIf te (Itl K a) p R σ H := by
  refine ⟨fun i m σ' H' => m = xs.length - i ∧ i ≤ xs.length ∧ H' = upd H p (.lst (ys.take i)) ∧ ∃ v, σ' = v :: σ, ⟨xs.length, by omega, Nat.zero_le _, rfl, none, rfl⟩, ?_⟩
  rintro i m σ' H' ⟨rfl, hi, rfl, v, rfl⟩
  have hs : SqL K (upd H p (.lst (ys.take i))) a xs := hl.updN hp
  by_cases hlt : i < xs.length
  · refine .inr ⟨⟨xs, xs[i], hs, by simp [hlt]⟩, fun σ2 H2 => H2 = upd H p (.lst (ys.take (i + 1))) ∧ ∃ v, σ2 = v :: σ, fun σ2 H2 ⟨e, v', e'⟩ => ⟨xs.length - (i + 1), by omega, rfl, hlt, e, v', e'⟩, fun x H1 ⟨e, y⟩ => ?_⟩
    subst e
    have hx := y xs hs
    refine rd_name ?_
    simp only [tNoIf, if_true, List.set_cons_zero]
    have hyl : i < ys.length := by omega
    refine he i x ys[i] _ _ hx (by simp [hyl]) (Same.new hp) ?_
    refine ⟨ys.take i, upd_same, ?_, ?_, some x, rfl⟩
    · rw [List.length_take]; omega
    · rw [upd_upd, List.take_succ_eq_append_getElem hyl]
  · have e : i = xs.length := by omega
    subst e
    refine .inl ⟨⟨xs, hs, Nat.le_refl _⟩, ?_⟩
    rw [← hn, List.take_length]
    exact fin
end
theorem iteNT {A B : Prop} (h : B) : if (!true) = true then A else B := iteF h
theorem iteNF {A B : Prop} (h : A) : if (!false) = true then A else B := iteT h
section
variable {σ : St} {H : Hp} {Q : VK} {D : Ends}
theorem rd_comp {k : Nat} {wi : TI} {g : TG} {tc : TT} {te : TE} (q : wi σ H fun J H1 => ∀ p, H1 p = none → tLoopC k g tc te J p (fun H' => Q (.ref p) H') σ H1) : tComp k wi g tc te σ H Q := q
theorem rd_iList {K : PySem.W.Frag} {tl : TE} {R : It → Hp → Prop} (q : tl σ H fun x H1 => ∃ a, x = .ref a ∧ (∃ xs, SqL K H1 a xs) ∧ R (Itl K a) H1) : iList K tl σ H R := q
theorem rd_iRng1 {ta : TA} {R : It → Hp → Prop} (q : ta σ H fun vs H1 => ∃ j : Int, vs = [.int j] ∧ -(2 ^ 62) ≤ j ∧ j < 2 ^ 62 ∧ R (Itr 0 j.toNat) H1) : iRng1 ta σ H R := q
theorem rd_for {wi : TI} {g : TG} {tb : TS} (q : wi σ H fun J H1 => ∃ W : Nat → Nat → St → Hp → Prop, (∃ m, W 0 m σ H1) ∧ ∀ i m σ H, W i m σ H →
  (J.stop i H ∧ D.nx σ H) ∨ (J.go i H ∧ ∃ N : St → Hp → Prop, (∀ σ' H', N σ' H' → ∃ m', m' < m ∧ W (i + 1) m' σ' H') ∧ ∀ x H', J.yld i H x H' → g x σ H' fun σ2 H2 => tb { D with nx := N, ct := N, bk := D.nx } σ2 H2)) : tFor wi g tb D σ H := q
end
section
variable {CX : CXT} {P : Program} {w : World} {K : PySem.W.Frag} {mg : Str → Option Value} {base : Heap} {N : List Str} {q : Str} {sc : Scope} {f : Addr} {cd : Value} {A : Around} {outer : List Env} {s : Shared} {H : Hp} {E : XK}
theorem nox_K : (cxOf CX P w K mg base N q sc f cd A outer s H E).nox.K = K := rfl
theorem nox_P : (cxOf CX P w K mg base N q sc f cd A outer s H E).nox.prog = P := rfl
theorem nox_w : (cxOf CX P w K mg base N q sc f cd A outer s H E).nox.w = w := rfl
theorem nox_mg : (cxOf CX P w K mg base N q sc f cd A outer s H E).nox.mg = mg := rfl
theorem nox_base : (cxOf CX P w K mg base N q sc f cd A outer s H E).nox.base = base := rfl
end
theorem globAt_int {K : PySem.W.Frag} {h : Heap} {mg : Str → Option Value} {x : Str} {i : Int} {t : Tok} (X : K.In h) (G : h.Ns mainGlobals mg) (a : PySem.W.nsIn K mainGlobals x = some (some (.int i t))) : GlobAt mg x (.int i) := ⟨_, PySem.W.mg_of X G a, t, rfl⟩
theorem globAt_str {K : PySem.W.Frag} {h : Heap} {mg : Str → Option Value} {x : Str} {i : Str} {t : Tok} (X : K.In h) (G : h.Ns mainGlobals mg) (a : PySem.W.nsIn K mainGlobals x = some (some (.str i t))) : GlobAt mg x (.str i) := ⟨_, PySem.W.mg_of X G a, t, rfl⟩
theorem globAt_ref {K : PySem.W.Frag} {h : Heap} {mg : Str → Option Value} {x : Str} {i : Addr} (X : K.In h) (G : h.Ns mainGlobals mg) (a : PySem.W.nsIn K mainGlobals x = some (some (.ref i))) : GlobAt mg x (.ref i) := ⟨_, PySem.W.mg_of X G a, rfl⟩
theorem fun_binds1 {K : PySem.W.Frag} {x qual p : Str} {st : Stmt} {f : Addr} {fd : FuncData} (F : Fun K x qual st f fd)
    (hb : ∀ (kV doc pm : Value) (an : Option Addr) (cdv ct u : Value), bindArgs (PySem.W.fnOf x qual (defArgs st) (defBody st) (defScope st) .none kV doc pm an cdv ct) ⟨[u], []⟩ = pure [(p, u)] := by intros; rfl) : ∀ (s : Shared) (u : Value), BindsTo s fd ⟨[u], []⟩ [(p, u)] := by
  obtain ⟨oc, od, kV, doc, pm, an, cdv, ct, osl, rfl, lk, hcd⟩ := F.ex
  exact fun s u => .of_eq (hb kV doc pm an cdv ct u)
section
variable {σ : St} {H : Hp} {Q : VK} {D : Ends} {i : Nat} {x : V}
end
abbrev RC := List V → Hp → VK → Prop
def rIsi : RC := fun xs H Q => ∃ x T b, xs = [x, .ty T] ∧ isiV x T = some b ∧ Q (.bl b) H
def rLenS (K : PySem.W.Frag) : RC := fun xs H Q => ∃ p ys, xs = [.ref p] ∧ (SqL K H p ys ∨ SqT K H p ys) ∧ Q (.int ys.length) H
section
variable {X : Cx} {H : Hp} {Q : VK} {K : PySem.W.Frag}
theorem cn_isi : CallR X (.builtin "isinstance") rIsi := call_isi
theorem cn_len : CallR X (.builtin "len") (rLenS X.K) := call_len_seq
theorem rd_lenL {p : Addr} {xs : List V} (h : SqL K H p xs) (q : Q (.int xs.length) H) : rLenS K [.ref p] H Q := ⟨p, xs, rfl, .inl h, q⟩
theorem rd_lenT {p : Addr} {xs : List V} (h : SqT K H p xs) (q : Q (.int xs.length) H) : rLenS K [.ref p] H Q := ⟨p, xs, rfl, .inr h, q⟩
end
end L2
namespace L2
open PySem PySem.Spec PyProof.Rows
section
variable {σ : St} {H : Hp} {Q : VK} {K : PySem.W.Frag} {p : Addr} {xs : List V} {v : V}
theorem rd_bm {T : String} {r : V → List V → Hp → VK → Prop} {to : TE} {t : TA} (q : to σ H fun x H1 => tyV K T x H1 ∧ t σ H1 fun xs H2 => r x xs H2 Q) : tBM K T r to t σ H Q := q
theorem ty_list (h : SqL K H p xs) : tyV K "list" (.ref p) H := .inl ⟨rfl, _, h⟩
end
end L2
namespace L2
open PySem PySem.Spec PyProof.Rows
def TupK (K : PySem.W.Frag) (a : Addr) (xs : List V) : Prop := ∃ (o : Obj) (its : Array Value) (n : Nat), K.lookup a = some o ∧ o.cls = .type "tuple" ∧ o.data = .seq its n ∧ its.size ≤ sizeLine ∧ Vals xs its.toList
theorem TupK.sqt {K : PySem.W.Frag} {a : Addr} {xs : List V} (h : TupK K a xs) (H : Hp) : SqT K H a xs := .inr h
theorem tupK_mk {K : PySem.W.Frag} {a : Addr} {xs : List V} {d : Option Addr} {its : Array Value} {n : Nat} {sl : Array (Option Value)} (l : K.lookup a = some ⟨.type "tuple", d, .seq its n, sl⟩) (v : Vals xs its.toList) (z : its.size ≤ sizeLine) : TupK K a xs := ⟨_, its, n, l, rfl, rfl, z, v⟩
def inS (x : Str) (xs : List Str) : Bool := xs.any fun y => y == x
theorem inV_str (x : Str) (xs : List Str) : inV (.str x) (xs.map V.str) = inS x xs := by
  unfold inV inS
  rw [List.any_map]
  rfl
section
variable {σ : St} {H : Hp} {Q : VK} {K : PySem.W.Frag} {p : Addr}
theorem rd_inT {x : Str} {xs : List Str} (h : SqT K H p (xs.map V.str)) (q : Q (.bl (inS x xs)) H) : rIn K false (.str x) (.ref p) H Q := by
  refine ⟨p, _, rfl, .inr h, rfl, ?_, ?_⟩
  · rw [List.all_map]
    exact List.all_eq_true.mpr fun _ _ => rfl
  · rw [if_neg (by decide), inV_str]
    exact q
theorem comp_range {te : TE} {R : Hp → Prop} {lo : Int} {n : Nat} {ys : List V} (hp : H p = none) (hn : ys.length = n) (hz : n ≤ sizeLine)
    (he : ∀ (i : Nat) (y : V) (H' : Hp) (Q : VK), i < n → ys[i]? = some y → Same H H' → Q y H' → te (some (.int (lo + i)) :: σ) H' Q) (fin : R (upd H p (.lst ys))) :
    tLoopC 1 (gName 0) tNoIf te (Itr lo n) p R σ H := by
  refine ⟨fun i m σ' H' => m = n - i ∧ i ≤ n ∧ H' = upd H p (.lst (ys.take i)) ∧ ∃ v, σ' = v :: σ, ⟨n, by omega, Nat.zero_le _, rfl, none, rfl⟩, ?_⟩
  rintro i m σ' H' ⟨rfl, hi, rfl, v, rfl⟩
  by_cases hlt : i < n
  · refine .inr ⟨hlt, fun σ2 H2 => H2 = upd H p (.lst (ys.take (i + 1))) ∧ ∃ v, σ2 = v :: σ, fun σ2 H2 ⟨e, v', e'⟩ => ⟨n - (i + 1), by omega, rfl, hlt, e, v', e'⟩, fun x H1 ⟨e, y⟩ => ?_⟩
    subst e y
    refine rd_name ?_
    simp only [tNoIf, if_true, List.set_cons_zero]
    have hyl : i < ys.length := by omega
    refine he i ys[i] _ _ hlt (by simp [hyl]) (Same.new hp) ?_
    refine ⟨ys.take i, upd_same, ?_, ?_, some _, rfl⟩
    · rw [List.length_take]; omega
    · rw [upd_upd, List.take_succ_eq_append_getElem hyl]
  · have e : i = n := by omega
    subst e
    refine .inl ⟨Nat.le_refl _, ?_⟩
    rw [← hn, List.take_length]
    exact fin
end
def isiSeq : Bool → String → Option Bool
  | true, "tuple" => some true
  | true, "list" => some false
  | true, "int" => some false
  | true, "bool" => some false
  | true, "str" => some false
  | false, "list" => some true
  | false, "tuple" => some false
  | false, "int" => some false
  | false, "bool" => some false
  | false, "str" => some false
  | _, _ => none
def rIsiQ (K : PySem.W.Frag) : RC := fun xs H Q => ∃ a T ys b, xs = [.ref a, .ty T] ∧ ((SqT K H a ys ∧ isiSeq true T = some b) ∨ (SqL K H a ys ∧ isiSeq false T = some b)) ∧ Q (.bl b) H
theorem call_isiQ {X : Cx} : CallR X (.builtin "isinstance") (rIsiQ X.K) := by
  intro pins s σ H xs us Q I r h
  obtain ⟨a, T, ys, b, rfl, e, q⟩ := h
  obtain ⟨u, v, rfl, ru, rv⟩ := vals2 r
  obtain rfl : v = Value.type T := rv
  obtain rfl : u = Value.ref a := ru
  have kp : ∀ b o, s.heap.get? b = some o → s.heap.get? b = some o := fun _ _ z => z
  rcases e with ⟨hq, e⟩ | ⟨hq, e⟩
  · obtain ⟨its, rv, p, hz⟩ := I.tuple hq
    have p' : s.heap.IsTuple a its.toArray := p
    unfold isiSeq at e
    split at e <;> first
      | contradiction
      | (cases e; first
        | exact IsiPair.isTuple_tuple p' kp ⟨.bl true, H, I, rfl, q⟩
        | exact IsiPair.isTuple_list p' kp ⟨.bl false, H, I.tok _, rfl, q⟩
        | exact IsiPair.isTuple_int p' kp ⟨.bl false, H, I.tok _, rfl, q⟩
        | exact IsiPair.isTuple_bool p' kp ⟨.bl false, H, I.tok _, rfl, q⟩
        | exact IsiPair.isTuple_str p' kp ⟨.bl false, H, I.tok _, rfl, q⟩)
      | cases e
      | (rename_i z _; cases z)
  · obtain ⟨its, rv, p, hz⟩ := I.list hq
    have p' : s.heap.IsList a its.toArray := p.isList
    unfold isiSeq at e
    split at e <;> first
      | contradiction
      | (cases e; first
        | exact IsiPair.isList_list p' kp ⟨.bl true, H, I, rfl, q⟩
        | exact IsiPair.isList_tuple p' kp ⟨.bl false, H, I.tok _, rfl, q⟩
        | exact IsiPair.isList_int p' kp ⟨.bl false, H, I.tok _, rfl, q⟩
        | exact IsiPair.isList_bool p' kp ⟨.bl false, H, I.tok _, rfl, q⟩
        | exact IsiPair.isList_str p' kp ⟨.bl false, H, I.tok _, rfl, q⟩)
      | cases e
      | (rename_i z _; cases z)
def rIsiA (K : PySem.W.Frag) : RC := fun xs H Q => rIsi xs H Q ∨ rIsiQ K xs H Q
theorem cn_isiA {X : Cx} : CallR X (.builtin "isinstance") (rIsiA X.K) := cn_isi.or call_isiQ
section
variable {H : Hp} {Q : VK} {K : PySem.W.Frag}
theorem rd_isiS {x : V} {T : String} {b : Bool} (e : isiV x T = some b) (q : Q (.bl b) H) : rIsiA K [x, .ty T] H Q := .inl ⟨x, T, b, rfl, e, q⟩
theorem rd_isiT {a : Addr} {T : String} {ys : List V} {b : Bool} (h : SqT K H a ys) (e : isiSeq true T = some b) (q : Q (.bl b) H) : rIsiA K [.ref a, .ty T] H Q := .inr ⟨a, T, ys, b, rfl, .inl ⟨h, e⟩, q⟩
theorem rd_isiL {a : Addr} {T : String} {ys : List V} {b : Bool} (h : SqL K H a ys) (e : isiSeq false T = some b) (q : Q (.bl b) H) : rIsiA K [.ref a, .ty T] H Q := .inr ⟨a, T, ys, b, rfl, .inr ⟨h, e⟩, q⟩
end
def cV : Expr → Option V
  | .Constant (.int i) _ _ => some (.int i)
  | .Constant (.str x) _ _ => some (.str x)
  | _ => none
def cVs : List Expr → Option (List V)
  | [] => some []
  | e :: es => match cV e, cVs es with
    | some v, some vs => some (v :: vs)
    | _, _ => none
def tVals (vs : List V) : TA := fun _ H Q => Q vs H
theorem pe_cV {X : Cx} {e : Expr} {v : V} (h : cV e = some v) : PE X e (tC v) ∧ ∀ es, starEach (e :: es) X.env = (false, eval e X.env) :: starEach es X.env := by
  unfold cV at h
  split at h
  · cases h; exact ⟨pe_int, fun _ => rfl⟩
  · cases h; exact ⟨pe_str, fun _ => rfl⟩
  · cases h
theorem pa_cV {X : Cx} : ∀ {es : List Expr} {vs : List V}, cVs es = some vs → PA X es (tVals vs)
  | [], vs, h => by
    cases h
    exact fun _ _ _ _ H Q I h => Calls.spliced_nil ⟨[], H, I, .nil, h⟩
  | e :: es, vs, h => by
    unfold cVs at h
    cases he : cV e with
    | none => rw [he] at h; cases h
    | some v =>
      cases hs : cVs es with
      | none => rw [he, hs] at h; cases h
      | some us =>
        rw [he, hs] at h
        cases h
        obtain ⟨h1, h2⟩ := pe_cV (X := X) he
        exact pa_cons h1 (pa_cV hs) (h2 es)
theorem rd_vals {σ : St} {H : Hp} {vs : List V} {R : List V → Hp → Prop} (q : R vs H) : tVals vs σ H R := q
section
variable {σ : St} {H : Hp} {Q : VK} {P : Program} {w : World} {K : PySem.W.Frag} {td ty : TE}
end
section
variable {H : Hp} {Q : VK} {P : Program} {w : World} {K : PySem.W.Frag}
end
section
variable {CX : CXT} {P : Program} {w : World} {K : PySem.W.Frag} {mg : Str → Option Value} {base : Heap} {N : List Str} {q : Str} {sc : Scope} {f : Addr} {cd : Value} {A : Around} {outer : List Env} {s : Shared} {H : Hp} {E : XK}
theorem cxOf_K : (cxOf CX P w K mg base N q sc f cd A outer s H E).K = K := rfl
theorem cxOf_P : (cxOf CX P w K mg base N q sc f cd A outer s H E).prog = P := rfl
theorem cxOf_w : (cxOf CX P w K mg base N q sc f cd A outer s H E).w = w := rfl
theorem cxOf_mg : (cxOf CX P w K mg base N q sc f cd A outer s H E).mg = mg := rfl
theorem cxOf_base : (cxOf CX P w K mg base N q sc f cd A outer s H E).base = base := rfl
end
theorem vals_nil : Vals [] [] := .nil
theorem vals_str {x : Str} {t : Tok} {xs : List V} {us : List Value} (h : Vals xs us) : Vals (.str x :: xs) (.str x t :: us) := .cons ⟨t, rfl⟩ h
theorem globTup {K : PySem.W.Frag} {h : Heap} {mg : Str → Option Value} {x : Str} {i : Addr} {xs : List V} {d : Option Addr} {its : Array Value} {n : Nat} {sl : Array (Option Value)} (X : K.In h) (G : h.Ns mainGlobals mg) (a : PySem.W.nsIn K mainGlobals x = some (some (.ref i)))
    (l : K.lookup i = some ⟨.type "tuple", d, .seq its n, sl⟩) (v : Vals xs its.toList) (z : its.size ≤ sizeLine) : ∃ a, GlobAt mg x (.ref a) ∧ TupK K a xs := ⟨i, globAt_ref X G a, tupK_mk l v z⟩
structure FunD (K : PySem.W.Frag) (x qual : Str) (st : Stmt) (items : Array Value) (f : Addr) (fd : FuncData) : Prop where
  ex : ∃ (oc : Value) (od : Option Addr) (T : Addr) (kV doc pm : Value) (an : Option Addr) (cdv ct : Value) (osl : Array (Option Value)) (o : Obj) (n : Nat),
    fd = PySem.W.fnOf x qual (defArgs st) (defBody st) (defScope st) (.ref T) kV doc pm an cdv ct ∧ K.lookup f = some ⟨oc, od, .func fd, osl⟩ ∧ PySem.W.codeIn K cdv qual = true ∧ K.lookup T = some o ∧ o.data = .seq items n
  kp : PySem.W.keepIn K (.ref f) = true
section
variable {P : Program} {w : World} {K : PySem.W.Frag} {mg : Str → Option Value} {base : Heap}
theorem FunD.fn {x qual : Str} {st : Stmt} {items : Array Value} {f : Addr} {fd : FuncData} {N ps : List Str} {k : Nat} {sp : Sp} (F : FunD K x qual st items f fd) (S : FnScope N ps (defScope st)) (len : ∀ vs H Q E, sp vs H Q E → vs.length = ps.length)
    (hbody : ∀ (cdv : Value) (A : Around) (outer : List Env) (s : Shared) (H : Hp) (vs : List V) (Q : VK) (E : XK), Room k (A.deeper (envOfC qual (defScope st) s.heap.objs.size f cdv)) → sp vs H Q E →
      ∃ t, PSs (cxOf CX0 P w K mg base N qual (defScope st) f cdv A outer s H E).nox (defBody st) t ∧ t { nx := fun _ H' => Q .non H', rt := Q } (start N vs) H) : FnOk P w K mg base CX0 (k + 1) f fd ps sp := by
  obtain ⟨oc, od, T, kV, doc, pm, an, cdv, ct, osl, o, n, rfl, lk, hcd, lt, ld⟩ := F.ex
  refine fn_of lk hcd S len fun A outer s H vs Q E hr hsp => ?_
  obtain ⟨t, h, q⟩ := hbody cdv A outer s H vs Q E hr hsp
  exact ⟨t, h.nox, q⟩
theorem FunD.binds {x qual : Str} {st : Stmt} {items : Array Value} {f : Addr} {fd : FuncData} {ps : List Str} (F : FunD K x qual st items f fd) (ds : List Value)
    (h : ∀ (T : Addr) (kV doc pm : Value) (an : Option Addr) (cdv ct : Value) (us : List Value), (us ++ ds).length = ps.length → ∃ k : Option (Array Value) → Sem (List (Str × Value)), bindArgs (PySem.W.fnOf x qual (defArgs st) (defBody st) (defScope st) (.ref T) kV doc pm an cdv ct) ⟨us, []⟩ = seqItems? (.ref T) >>= k ∧ k (some items) = pure (ps.zip (us ++ ds))) : Binds K fd ps ds := by
  obtain ⟨oc, od, T, kV, doc, pm, an, cdv, ct, osl, o, n, rfl, lk, hcd, lt, ld⟩ := F.ex
  intro s us X hl
  obtain ⟨k, h1, h2⟩ := h T kV doc pm an cdv ct us hl
  exact BindsTo.of_defaults (fd := PySem.W.fnOf x qual (defArgs st) (defBody st) (defScope st) (.ref T) kV doc pm an cdv ct) rfl (X _ _ lt) ld h1 h2
end
end L2
namespace L2
open PySem PySem.Spec PyProof.Rows PySem.SeqAt
inductive Dt where
  | non
  | bl (b : Bool)
  | int (i : Int)
  | str (x : Str)
  | lst (ds : List Dt)
  | tup (ds : List Dt)
mutual
def Dt.eq : Dt → Dt → Bool
  | .non, .non => true
  | .bl a, .bl b => a == b
  | .bl a, .int b => (if a then 1 else 0) == b
  | .int a, .bl b => a == (if b then 1 else 0)
  | .int a, .int b => a == b
  | .str a, .str b => a == b
  | .lst a, .lst b => Dt.eqs a b
  | .tup a, .tup b => Dt.eqs a b
  | _, _ => false
def Dt.eqs : List Dt → List Dt → Bool
  | [], [] => true
  | a :: r, b :: t => Dt.eq a b && Dt.eqs r t
  | _, _ => false
end
mutual
def Dt.dep : Dt → Nat
  | .lst ds => Dt.deps ds + 1
  | .tup ds => Dt.deps ds + 1
  | _ => 0
def Dt.deps : List Dt → Nat
  | [] => 0
  | d :: r => max (Dt.dep d) (Dt.deps r)
end
mutual
/-- the value tells the datum -/
def DV (K : PySem.W.Frag) (H : Hp) : Dt → V → Prop
  | .non, v => v = .non
  | .bl b, v => v = .bl b
  | .int i, v => v = .int i
  | .str x, v => v = .str x
  | .lst ds, v => ∃ a xs, v = .ref a ∧ SqL K H a xs ∧ DVs K H ds xs
  | .tup ds, v => ∃ a xs, v = .ref a ∧ SqT K H a xs ∧ DVs K H ds xs
def DVs (K : PySem.W.Frag) (H : Hp) : List Dt → List V → Prop
  | [], xs => xs = []
  | d :: r, xs => ∃ x t, xs = x :: t ∧ DV K H d x ∧ DVs K H r t
end
theorem DVs.length {K : PySem.W.Frag} {H : Hp} : ∀ {ds : List Dt} {xs : List V}, DVs K H ds xs → ds.length = xs.length
  | [], xs, h => by unfold DVs at h; subst h; rfl
  | d :: r, xs, h => by
    unfold DVs at h
    obtain ⟨x, t, rfl, _, h⟩ := h
    rw [List.length_cons, List.length_cons, DVs.length h]
theorem DVs.get {K : PySem.W.Frag} {H : Hp} : ∀ {ds : List Dt} {xs : List V} {i : Nat} {d : Dt} {x : V}, DVs K H ds xs → ds[i]? = some d → xs[i]? = some x → DV K H d x
  | [], xs, i, d, x, h, e, _ => by simp at e
  | d0 :: r, xs, i, d, x, h, e1, e2 => by
    unfold DVs at h
    obtain ⟨x0, t, rfl, h0, h⟩ := h
    cases i with
    | zero => simp at e1 e2; subst e1 e2; exact h0
    | succ i => exact DVs.get (i := i) h (by simpa using e1) (by simpa using e2)
theorem Dt.dep_le : ∀ {ds : List Dt} {i : Nat} {d : Dt}, ds[i]? = some d → d.dep ≤ Dt.deps ds
  | [], i, d, e => by simp at e
  | d0 :: r, i, d, e => by
    unfold Dt.deps
    cases i with
    | zero => simp at e; subst e; exact Nat.le_max_left _ _
    | succ i => exact Nat.le_trans (Dt.dep_le (i := i) (by simpa using e)) (Nat.le_max_right _ _)
theorem Dt.eqs_range : ∀ (ds es : List Dt), ds.length = es.length → (List.range ds.length).all (fun j => Dt.eq (ds.getD j .non) (es.getD j .non)) = Dt.eqs ds es
  | [], [], _ => by unfold Dt.eqs; rfl
  | d :: r, e :: t, h => by
    have ih := Dt.eqs_range r t (by simpa using h)
    rw [List.length_cons, List.range_succ_eq_map, List.all_cons, List.all_map]
    unfold Dt.eqs
    rw [← ih]
    rfl
  | [], _ :: _, h => by simp at h
  | _ :: _, [], h => by simp at h
section
variable {X : Cx} {pins : List (Addr × Obj)} {σ : St} {H : Hp} {s : Shared}
theorem DV.same (I : Inv X pins σ H s) : ∀ (n : Nat) (d e : Dt) (x : V), d.dep ≤ n → DV X.K H d x → DV X.K H e x → Dt.eq d e = true := by
  intro n
  induction n with
  | zero =>
    intro d e x hn h1 h2
    cases d with
    | lst ds => unfold Dt.dep at hn; omega
    | tup ds => unfold Dt.dep at hn; omega
    | non => unfold DV at h1; subst h1; cases e <;> unfold DV at h2 <;> first | (cases h2; done) | (obtain ⟨_, _, z, _⟩ := h2; cases z; done) | (unfold Dt.eq; rfl)
    | bl b => unfold DV at h1; subst h1; cases e <;> unfold DV at h2 <;> first | (cases h2; unfold Dt.eq; simp; done) | (obtain ⟨_, _, z, _⟩ := h2; cases z; done) | (cases h2; done)
    | int b => unfold DV at h1; subst h1; cases e <;> unfold DV at h2 <;> first | (cases h2; unfold Dt.eq; simp; done) | (obtain ⟨_, _, z, _⟩ := h2; cases z; done) | (cases h2; done)
    | str b => unfold DV at h1; subst h1; cases e <;> unfold DV at h2 <;> first | (cases h2; unfold Dt.eq; simp; done) | (obtain ⟨_, _, z, _⟩ := h2; cases z; done) | (cases h2; done)
  | succ n ih =>
    intro d e x hn h1 h2
    have lists : ∀ (ds es : List Dt) (xs : List V), Dt.deps ds ≤ n → DVs X.K H ds xs → DVs X.K H es xs → Dt.eqs ds es = true := by
      intro ds es xs hd a b
      have l1 := a.length
      have l2 := b.length
      rw [← Dt.eqs_range ds es (l1.trans l2.symm), List.all_eq_true]
      intro j hj
      have hj' : j < ds.length := List.mem_range.mp hj
      have e1 : ds[j]? = some ds[j] := List.getElem?_eq_getElem hj'
      have e2 : es[j]? = some (es[j]'(by omega)) := List.getElem?_eq_getElem (by omega)
      have e3 : xs[j]? = some (xs[j]'(by omega)) := List.getElem?_eq_getElem (by omega)
      rw [List.getD_eq_getElem?_getD, List.getD_eq_getElem?_getD, e1, e2]
      exact ih _ _ _ (Nat.le_trans (Dt.dep_le e1) hd) (a.get e1 e3) (b.get e2 e3)
    cases d with
    | lst ds =>
      unfold Dt.dep at hn
      unfold DV at h1
      obtain ⟨a, xs, rfl, q1, r1⟩ := h1
      cases e with
      | lst es =>
        unfold DV at h2
        obtain ⟨b, ys, z, q2, r2⟩ := h2
        cases z
        rw [I.list_inj q2 q1] at r2
        unfold Dt.eq
        exact lists ds es xs (by omega) r1 r2
      | tup es =>
        unfold DV at h2
        obtain ⟨b, ys, z, q2, r2⟩ := h2
        cases z
        obtain ⟨i1, _, p1, _⟩ := I.list q1
        obtain ⟨i2, _, p2, _⟩ := I.tuple q2
        obtain ⟨o1, g1, c1, _⟩ := p1.isList
        have p2' : s.heap.IsTuple a i2.toArray := p2
        obtain ⟨o2, g2, c2, _⟩ := p2'
        rw [g1] at g2
        cases g2
        rw [c1] at c2
        exact absurd c2 (by decide)
      | non => unfold DV at h2; cases h2
      | bl b => unfold DV at h2; cases h2
      | int b => unfold DV at h2; cases h2
      | str b => unfold DV at h2; cases h2
    | tup ds =>
      unfold Dt.dep at hn
      unfold DV at h1
      obtain ⟨a, xs, rfl, q1, r1⟩ := h1
      cases e with
      | tup es =>
        unfold DV at h2
        obtain ⟨b, ys, z, q2, r2⟩ := h2
        cases z
        rw [I.tuple_inj q2 q1] at r2
        unfold Dt.eq
        exact lists ds es xs (by omega) r1 r2
      | lst es =>
        unfold DV at h2
        obtain ⟨b, ys, z, q2, r2⟩ := h2
        cases z
        obtain ⟨i1, _, p1, _⟩ := I.list q2
        obtain ⟨i2, _, p2, _⟩ := I.tuple q1
        obtain ⟨o1, g1, c1, _⟩ := p1.isList
        have p2' : s.heap.IsTuple a i2.toArray := p2
        obtain ⟨o2, g2, c2, _⟩ := p2'
        rw [g1] at g2
        cases g2
        rw [c1] at c2
        exact absurd c2 (by decide)
      | non => unfold DV at h2; cases h2
      | bl b => unfold DV at h2; cases h2
      | int b => unfold DV at h2; cases h2
      | str b => unfold DV at h2; cases h2
    | non => exact ih _ e x (by unfold Dt.dep; omega) h1 h2
    | bl b => exact ih _ e x (by unfold Dt.dep; omega) h1 h2
    | int b => exact ih _ e x (by unfold Dt.dep; omega) h1 h2
    | str b => exact ih _ e x (by unfold Dt.dep; omega) h1 h2
end
end L2
namespace L2
open PySem PySem.Spec PyProof.Rows PySem.SeqAt
section
variable {X : Cx} {pins : List (Addr × Obj)} {σ : St} {H : Hp} {s : Shared}
end
section
variable {X : Cx}
end
def Dt.ints (ns : List Int) : List Dt := ns.map Dt.int
section
variable {H : Hp} {Q : VK} {K : PySem.W.Frag} {a b : Addr}
end
mutual
theorem DV.keep {K : PySem.W.Frag} {H H' : Hp} (s : Same H H') : ∀ {d : Dt} {v : V}, DV K H d v → DV K H' d v
  | .non, v, h => by unfold DV at h ⊢; exact h
  | .bl b, v, h => by unfold DV at h ⊢; exact h
  | .int i, v, h => by unfold DV at h ⊢; exact h
  | .str x, v, h => by unfold DV at h ⊢; exact h
  | .lst ds, v, h => by
    unfold DV at h ⊢
    obtain ⟨a, xs, e, q, r⟩ := h
    exact ⟨a, xs, e, s.seq q, DVs.keep s r⟩
  | .tup ds, v, h => by
    unfold DV at h ⊢
    obtain ⟨a, xs, e, q, r⟩ := h
    exact ⟨a, xs, e, s.tup q, DVs.keep s r⟩
theorem DVs.keep {K : PySem.W.Frag} {H H' : Hp} (s : Same H H') : ∀ {ds : List Dt} {xs : List V}, DVs K H ds xs → DVs K H' ds xs
  | [], xs, h => by unfold DVs at h ⊢; exact h
  | d :: r, xs, h => by
    unfold DVs at h ⊢
    obtain ⟨x, t, e, h1, h2⟩ := h
    exact ⟨x, t, e, DV.keep s h1, DVs.keep s h2⟩
end
end L2
namespace L2
open PySem PySem.Spec PyProof.Rows Builtin Builtin.Str

def Its (z : Str) : It := ⟨fun i _ => i < z.cps.size, fun i H x H' => H' = H ∧ ∃ c, z.cps[i]? = some c ∧ x = .str ⟨#[c]⟩, fun i _ => z.cps.size ≤ i⟩
theorem turn_str {P : Program} {w : World} {K : PySem.W.Frag} {tg : Expr} (z : Str) (t : Tok) (it : Addr) (T : String) (hT : T = "str_ascii_iterator" ∨ T = "str_iterator") :
    Turn P w K tg (Its z) [it] it (fun i h => i ≤ z.cps.size ∧ h.IsStrIter it T z t i) where
  mem := by simp
  obj := fun i h st b hb => by
    have e : b = it := by simpa using hb
    subst e
    obtain ⟨_, o, e, c, d⟩ := st
    exact ⟨o, e, fun v z => by rw [d] at z; cases z⟩
  keep := fun i h h' st k => ⟨st.1, by obtain ⟨_, o, e, c⟩ := st; exact ⟨o, k it (by simp) o e, c⟩⟩
  item := by
    intro X hP hw hK hc i pins s σ H E I hf st hg
    subst hP hw hK
    obtain ⟨f0, f1, f2, f3, f4, f5⟩ := hf it (by simp)
    have hlt : i < z.cps.size := hg
    have W : Walks X.prog X.w X.A it [it] [it] z.cps.size (SignAt z) (fun i h => h.IsStrIter it T z t i) := by
      rcases hT with rfl | rfl
      · exact Walks.strAscii (I.ok.hd hc) it z t
      · exact Walks.strWide (I.ok.hd hc) it z t
    refine W.item i s _ _ hlt st.2 fun v h' tk hv st' kk => ?_
    obtain ⟨c, u, hx, rfl⟩ := hv
    have I1 : Inv X pins σ H { s with heap := h', toks := tk } := I.turned (fun b o hb e => kk b o (by simpa using hb) e) f0 f1 f3 f4 f5
    obtain ⟨o, e, c1, d⟩ := id st'
    refine ⟨_, rfl, go_of (s := { s with heap := h', toks := tk }) e c1 d (by rcases hT with rfl | rfl <;> decide) ⟨.str ⟨#[c]⟩, H, I1, ⟨u, rfl⟩, ⟨rfl, c, hx, rfl⟩, ⟨hlt, st'⟩, fun b hb => (hf b hb).1⟩⟩
  done := by
    intro X hP hw hK hc i pins s σ H E I hf st hg
    subst hP hw hK
    obtain ⟨f0, f1, f2, f3, f4, f5⟩ := hf it (by simp)
    have h2 : z.cps.size ≤ i := hg
    have hx : z.cps[i]? = none := by simp [h2]
    have st2 := st.2
    rcases hT with rfl | rfl
    · exact wpAny_pyNext_ascii_end (I.ok.hd hc) st2 hx fun h' eb => ⟨rfl, I.turned (t' := s.toks) (fun b o hb e => eb b o hb e) f0 f1 f3 f4 f5⟩
    · exact wpAny_pyNext_wide_end (I.ok.hd hc) st2 hx fun h' eb => ⟨rfl, I.turned (t' := s.toks) (fun b o hb e => eb b o hb e) f0 f1 f3 f4 f5⟩
  self := fun _ _ _ _ _ st h => by
    have st2 := st.2
    rcases hT with rfl | rfl
    · exact wpAny_pyIter_striter_ascii st2 h
    · exact wpAny_pyIter_striter_wide st2 h
def iStr (tl : TE) : TI := fun σ H R => tl σ H fun x H1 => ∃ z, x = .str z ∧ R (Its z) H1
theorem pi_str {X : Cx} {tg l : Expr} {tl : TE} (hl : PE X l tl) : PI X tg l (iStr tl) := by
  intro pins s σ H R I h
  refine thn (hl pins s σ H _ I h) fun v s1 ⟨x, H1, I1, r1, q1⟩ => ?_
  obtain ⟨z, e, q⟩ := q1
  subst e
  obtain ⟨t, rfl⟩ := r1
  have hfp : ∀ o : Obj, ∀ b ∈ [s1.heap.objs.size], FpOk X pins H1 b := fun o b hb => by
    have e : b = s1.heap.objs.size := by simpa using hb
    subst e
    exact I1.fpOk (Nat.le_refl _) (I1.hok.fresh (Nat.le_refl _))
  cases ha : z.cps.all (· < 128)
  · refine wpAny_pyIter_wide ha ?_
    exact ⟨s1.heap.objs.size, [s1.heap.objs.size], _, _, H1, rfl, I1.kept (t' := s1.toks) fun b o e => Heap.get?_push_of_some _ e, turn_str z t _ "str_iterator" (.inr rfl), ⟨Nat.zero_le _, _, Heap.get?_push_size _ rfl, rfl, rfl⟩, hfp default, q⟩
  · refine wpAny_pyIter_ascii ha ?_
    exact ⟨s1.heap.objs.size, [s1.heap.objs.size], _, _, H1, rfl, I1.kept (t' := s1.toks) fun b o e => Heap.get?_push_of_some _ e, turn_str z t _ "str_ascii_iterator" (.inl rfl), ⟨Nat.zero_le _, _, Heap.get?_push_size _ rfl, rfl, rfl⟩, hfp default, q⟩
theorem rd_iStr {tl : TE} {σ : St} {H : Hp} {R : It → Hp → Prop} (q : tl σ H fun x H1 => ∃ z, x = .str z ∧ R (Its z) H1) : iStr tl σ H R := q
end L2
namespace L2
open PySem PySem.Spec PyProof.Rows Builtin Builtin.Str

def rAddS : R2 := fun x y H Q => ∃ i j, x = .str i ∧ y = .str j ∧ i.length + j.length ≤ sizeLine ∧ Q (.str (i ++ j)) H
def rInS : R2 := fun x y H Q => ∃ i j, x = .str i ∧ y = .str j ∧ Q (.bl (!(occurrences j i 0 j.length 1).isEmpty)) H
def rStrI : RC := fun xs H Q => ∃ i, xs = [.int i] ∧ i.natAbs.log2 < 1920 ∧ Q (.str (toString i)) H
def rLenZ : RC := fun xs H Q => ∃ z, xs = [.str z] ∧ z.length ≤ sizeLine ∧ Q (.int z.length) H
abbrev RM := V → List V → Hp → VK → Prop
def rSplit : RM := fun x xs H Q => ∃ z y, x = .str z ∧ xs = [.str y] ∧ y.length ≠ 0 ∧ z.length + 2 ≤ sizeLine ∧ (Txt.split z y).length ≤ sizeLine ∧ ∀ p, H p = none → Q (.ref p) (upd H p (.lst ((Txt.split z y).map V.str)))
def rJoin (K : PySem.W.Frag) : RM := fun x xs H Q => ∃ z p ts, x = .str z ∧ xs = [.ref p] ∧ SqL K H p (ts.map V.str) ∧ JoinOk z ts = true ∧ Q (.str (Txt.join z ts)) H
section
variable {X : Cx}
theorem op_addS : OpR X (binaryOp .Add) rAddS := op_add_str
theorem op_inS : OpR X (compareOp .In) rInS := op_in_str
theorem ct_str : CallR X (.type "str") rStrI := call_str_int
theorem cn_lenZ : CallR X (.builtin "len") rLenZ := call_len_str
theorem vals_strs : ∀ {ts : List Str} {us : List Value}, Vals (ts.map V.str) us → ∃ l : List (Str × Tok), us = strValues l ∧ l.map (·.1) = ts
  | [], _, r => by cases r; exact ⟨[], rfl, rfl⟩
  | a :: ts, _, r => by
    rw [List.map_cons] at r
    cases r with
    | cons r1 r2 =>
      obtain ⟨t, e⟩ := r1
      subst e
      obtain ⟨l, e1, e2⟩ := vals_strs r2
      subst e1
      exact ⟨(a, t) :: l, rfl, by rw [List.map_cons, e2]⟩
theorem strs_vals : ∀ (l : List (Str × Tok)), Vals ((l.map (·.1)).map V.str) (strValues l)
  | [] => .nil
  | (a, t) :: l => .cons ⟨t, rfl⟩ (strs_vals l)
theorem mt_join : MtR X "str.join" (rJoin X.K) := by
  intro pins s σ H x xs v us Q I rx rs h
  obtain ⟨z, p, ts, rfl, rfl, hq, hj, q⟩ := h
  obtain ⟨t, rfl⟩ := rx
  obtain ⟨u, rfl, e⟩ := vals1 rs
  cases e
  obtain ⟨its, r', pl, hz⟩ := I.list hq
  obtain ⟨l, e1, e2⟩ := vals_strs r'
  subst e1
  exact SC.join pl.isList e2 hj fun t' k => ⟨.str _, H, I.tok _, ⟨_, rfl⟩, q⟩
theorem mt_split : MtR X "str.split" rSplit := by
  intro pins s σ H x xs v us Q I rx rs h
  obtain ⟨z, y, rfl, rfl, hy, hz, hn, q⟩ := h
  obtain ⟨t, rfl⟩ := rx
  obtain ⟨u, rfl, t', rfl⟩ := vals1 rs
  have hy' : (y.length == 0) = false := by simpa using hy
  have fin : ∀ (l : List (Str × Tok)) (k : Nat), l.map (·.1) = Txt.split z y → EP X pins σ Q (.ref s.heap.objs.size) { s with heap := s.heap.push { cls := .type "list", data := .seq (strValues l).toArray }, toks := k } := fun l k e => by
    have hf : H s.heap.objs.size = none := I.hok.fresh (Nat.le_refl _)
    refine ⟨.ref s.heap.objs.size, _, I.laid (o := .lst ((Txt.split z y).map V.str)) (fun b ob q => Heap.get?_push_of_some _ q) (Nat.le_refl _) ?_, rfl, q _ hf⟩
    refine ⟨by rw [List.length_map]; exact hn, _, 0, ?_, Heap.get?_push_size _ rfl⟩
    rw [← e]
    exact strs_vals l
  cases h1 : (decide (z.length < y.length) || decide (strKind z < strKind y))
  · cases hf : (occurrences z y 0 z.length (z.length + 1)).isEmpty
    · have e : Txt.split z y = partsBetween z (occurrences z y 0 z.length (z.length + 1)) y.length := (if_neg (ne_true_of_eq_false h1)).trans (if_neg (ne_true_of_eq_false hf))
      refine call_meets F.slot_str_split (typeIs_str _ _ _) F.entry_str_split (F.args_str_split_2 _ _) (meets_str_split_sep z y t t' h1 hy' hf (by omega) (by rw [← e]; exact hn)) ?_
      show wants (EP X pins σ Q) X.xe _ { s with toks := _, heap := s.heap.push { cls := .type "list", data := .seq (strsFrom s.toks (partsBetween z (occurrences z y 0 z.length (z.length + 1)) y.length)).toArray } }
      rw [strsFrom_eq]
      exact fin _ _ ((numbered_texts _ _).trans e.symm)
    · exact call_meets F.slot_str_split (typeIs_str _ _ _) F.entry_str_split (F.args_str_split_2 _ _) (meets_str_split_not_found z y t t' h1 hy' hf) (fin [(z, t)] _ ((if_neg (ne_true_of_eq_false h1)).trans (if_pos hf)).symm)
  · exact call_meets F.slot_str_split (typeIs_str _ _ _) F.entry_str_split (F.args_str_split_2 _ _) (meets_str_split_cannot_occur z y t t' h1) (fin [(z, t)] _ (if_pos h1).symm)
variable {o e : Expr} {es : List Expr} {to : TE} {t : TA} {apos cpos : Pos}
end
section
variable {X : Cx} {H : Hp} {Q : VK} {K : PySem.W.Frag} {z y : Str} {p : Addr} {ts : List Str}
theorem rd_addS (h : z.length + y.length ≤ sizeLine) (q : Q (.str (z ++ y)) H) : rAddS (.str z) (.str y) H Q := ⟨z, y, rfl, rfl, h, q⟩
theorem rd_inS (q : Q (.bl (!(occurrences y z 0 y.length 1).isEmpty)) H) : rInS (.str z) (.str y) H Q := ⟨z, y, rfl, rfl, q⟩
theorem rd_strI {i : Int} (h : i.natAbs.log2 < 1920) (q : Q (.str (toString i)) H) : rStrI [.int i] H Q := ⟨i, rfl, h, q⟩
theorem rd_lenZ (h : z.length ≤ sizeLine) (q : Q (.int z.length) H) : rLenZ [.str z] H Q := ⟨z, rfl, h, q⟩
theorem rd_split (hy : y.length ≠ 0) (hz : z.length + 2 ≤ sizeLine) (hn : (Txt.split z y).length ≤ sizeLine) (q : ∀ p, H p = none → Q (.ref p) (upd H p (.lst ((Txt.split z y).map V.str)))) : rSplit (.str z) [.str y] H Q := ⟨z, y, rfl, rfl, hy, hz, hn, q⟩
theorem rd_join (h : SqL K H p (ts.map V.str)) (hj : JoinOk z ts = true) (q : Q (.str (Txt.join z ts)) H) : rJoin K (.str z) [.ref p] H Q := ⟨z, p, ts, rfl, rfl, h, hj, q⟩
theorem rd_ixS {i : Int} {c : Nat} (h : z.length ≤ sizeLine) (e : atI z.cps.toList i = some c) (q : Q (.str ⟨#[c]⟩) H) : rIxS (.str z) (.int i) H Q := ⟨z, i, c, rfl, rfl, h, e, q⟩
end
end L2
namespace L2
open PySem PySem.Spec PyProof.Rows Builtin Builtin.Str

def dval (ds : List Nat) : Nat := ds.foldl (fun a c => a * 10 + (c - 48)) 0
def isDig (c : Nat) : Bool := decide (48 ≤ c) && decide (c ≤ 57)
def sNum (m : Nat) : List Nat := (Nat.toDigits 10 m).map Char.toNat
theorem dval_snoc (ds : List Nat) (c : Nat) : dval (ds ++ [c]) = dval ds * 10 + (c - 48) := by
  unfold dval
  rw [List.foldl_append]
  rfl
theorem dig_sign : ∀ d : Nat, d < 10 → (Nat.digitChar d).toNat = 48 + d := by decide
theorem sNum_lt {m : Nat} (h : m < 10) : sNum m = [48 + m] := by
  unfold sNum
  rw [Nat.toDigits_of_lt_base h, List.map_cons, List.map_nil, dig_sign m h]
theorem sNum_ge {m : Nat} (h : 10 ≤ m) : sNum m = sNum (m / 10) ++ [48 + m % 10] := by
  have hm : m % 10 < 10 := Nat.mod_lt m (by decide)
  have t : Nat.toDigits 10 (m / 10) ++ Nat.toDigits 10 (m % 10) = Nat.toDigits 10 (10 * (m / 10) + m % 10) := Nat.toDigits_append_toDigits (by decide) (by omega) hm
  rw [Nat.div_add_mod] at t
  unfold sNum
  rw [← t, List.map_append, Nat.toDigits_of_lt_base hm, List.map_cons, List.map_nil, dig_sign _ hm]
theorem sNum_ne (m : Nat) : sNum m ≠ [] := by
  by_cases h : m < 10
  · rw [sNum_lt h]; simp
  · rw [sNum_ge (by omega)]; simp
theorem sNum_dig (m : Nat) : ∀ c ∈ sNum m, isDig c = true := by
  induction m using Nat.strongRecOn with
  | _ m ih =>
    intro c hc
    by_cases h : m < 10
    · rw [sNum_lt h, List.mem_singleton] at hc
      subst hc
      simp [isDig]
      omega
    · rw [sNum_ge (by omega), List.mem_append, List.mem_singleton] at hc
      rcases hc with hc | hc
      · exact ih (m / 10) (by omega) c hc
      · subst hc
        simp [isDig]
        omega
theorem sNum_val (m : Nat) : dval (sNum m) = m := by
  induction m using Nat.strongRecOn with
  | _ m ih =>
    by_cases h : m < 10
    · rw [sNum_lt h]
      show 0 * 10 + (48 + m - 48) = m
      omega
    · rw [sNum_ge (by omega), dval_snoc, ih (m / 10) (by omega)]
      omega
theorem sNum_head {m : Nat} (h0 : m ≠ 0) : (sNum m)[0]? ≠ some 48 := by
  induction m using Nat.strongRecOn with
  | _ m ih =>
    by_cases h : m < 10
    · rw [sNum_lt h]
      simp
      omega
    · rw [sNum_ge (by omega)]
      have hn := sNum_ne (m / 10)
      have := ih (m / 10) (by omega) (by omega)
      cases e : sNum (m / 10) with
      | nil => exact absurd e hn
      | cons a r => rw [e] at this; simpa using this
theorem sNum_zero : sNum 0 = [48] := sNum_lt (by decide)
theorem sNum_le {k m : Nat} (hk : 1 ≤ k) (h : m < 10 ^ k) : (sNum m).length ≤ k := by
  unfold sNum
  rw [List.length_map]
  exact digits10_le hk h
theorem str_numI {i : Int} (h : 0 ≤ i) : Str.ofString (toString i) = ⟨(sNum i.toNat).toArray⟩ := by
  obtain ⟨m, rfl⟩ := Int.eq_ofNat_of_zero_le h
  exact text_ofNat m
theorem find_fig (c : Nat) : Txt.find (Str.ofString "0123456789") ⟨#[c]⟩ = if isDig c = true then (c : Int) - 48 else -1 := by
  by_cases h : isDig c = true
  · rw [if_pos h]
    simp only [isDig, Bool.and_eq_true, decide_eq_true_eq] at h
    have hc : c = 48 ∨ c = 49 ∨ c = 50 ∨ c = 51 ∨ c = 52 ∨ c = 53 ∨ c = 54 ∨ c = 55 ∨ c = 56 ∨ c = 57 := by omega
    rcases hc with rfl | rfl | rfl | rfl | rfl | rfl | rfl | rfl | rfl | rfl <;> decide +kernel
  · rw [if_neg h]
    have hm : ¬ c ∈ (Str.ofString "0123456789").cps.toList := fun e => by
      have e' : c ∈ [48, 49, 50, 51, 52, 53, 54, 55, 56, 57] := e
      apply h
      simp only [isDig, Bool.and_eq_true, decide_eq_true_eq]
      simp only [List.mem_cons, List.not_mem_nil, or_false] at e'
      omega
    have := StrLaws.found_one (Str.ofString "0123456789") c
    rw [decide_eq_false hm] at this
    have e : occurrences (Str.ofString "0123456789") ⟨#[c]⟩ 0 (Str.ofString "0123456789").length 1 = [] := by
      simpa using this
    unfold Txt.find
    rw [e]
theorem in_fig (c : Nat) : (!(occurrences (Str.ofString "0123456789") ⟨#[c]⟩ 0 (Str.ofString "0123456789").length 1).isEmpty) = isDig c := by
  rw [StrLaws.found_one]
  by_cases h : isDig c = true
  · rw [h]
    simp only [isDig, Bool.and_eq_true, decide_eq_true_eq] at h
    refine decide_eq_true ?_
    show c ∈ [48, 49, 50, 51, 52, 53, 54, 55, 56, 57]
    simp only [List.mem_cons, List.not_mem_nil, or_false]
    omega
  · rw [Bool.not_eq_true] at h
    rw [h]
    refine decide_eq_false fun e => ?_
    have e' : c ∈ [48, 49, 50, 51, 52, 53, 54, 55, 56, 57] := e
    have : isDig c = true := by
      simp only [isDig, Bool.and_eq_true, decide_eq_true_eq]
      simp only [List.mem_cons, List.not_mem_nil, or_false] at e'
      omega
    rw [this] at h
    cases h
end L2
namespace L2
open PySem PySem.Spec PyProof.Rows Builtin Builtin.Str

def rIsN : R2 := fun x y H Q => y = .non ∧ Q (.bl (decide (x = .non))) H
def optV : Option Nat → V
  | none => .non
  | some n => .int n
section
variable {X : Cx} {σ : St} {H : Hp} {Q : VK} {K : PySem.W.Frag} {z y : Str} {R : Prop}
theorem op_isNn : OpR X (compareOp .Is) rIsN := op_isN
theorem rd_isN0 (q : Q (.bl true) H) : rIsN .non .non H Q := ⟨rfl, by rw [decide_eq_true rfl]; exact q⟩
theorem rd_isNi {i : Int} (q : Q (.bl false) H) : rIsN (.int i) .non H Q := ⟨rfl, by rw [decide_eq_false (fun e => nomatch e)]; exact q⟩
theorem rd_isNr {p : Addr} (q : Q (.bl false) H) : rIsN (.ref p) .non H Q := ⟨rfl, by rw [decide_eq_false (fun e => nomatch e)]; exact q⟩
theorem rd_tyS (q : R) : tyV K "str" (.str z) H ∧ R := ⟨rfl, q⟩
theorem log_1920 {i : Int} (h0 : 0 ≤ i) (h : i < 2 ^ 200) : i.natAbs.log2 < 1920 := by
  by_cases e : i.natAbs = 0
  · rw [e]; decide
  · have : ((i.natAbs : Nat) : Int) < ((2 ^ 200 : Nat) : Int) := by rw [Int.natAbs_of_nonneg h0]; exact h
    have := (Nat.log2_lt e).mpr (Int.ofNat_lt.mp this)
    omega
end
theorem len_cps (z : Str) : z.cps.toList.length = z.length := by simp [Str.length]
theorem len_app (x y : Str) : (x ++ y).length = x.length + y.length := Str.length_append x y
theorem atI_some {α : Type} {xs : List α} {i : Int} (h0 : 0 ≤ i) (h : i < xs.length) : ∃ c, atI xs i = some c ∧ xs[i.toNat]? = some c := by
  have hl : i.toNat < xs.length := by omega
  exact ⟨xs[i.toNat], atI_nat' (i := i.toNat) (by simp [hl]) (by omega), by simp [hl]⟩
section
variable {H : Hp} {Q : VK} {z y : Str} {i : Int} {lo hi : Option Int}
end
end L2
namespace L2
open PySem PySem.Spec PyProof.Rows
def rListOf (K : PySem.W.Frag) : RC := fun xs H Q => ∃ p ys, xs = [.ref p] ∧ (SqL K H p ys ∨ SqT K H p ys) ∧ ∀ l, H l = none → Q (.ref l) (upd H l (.lst ys))
theorem ct_list {X : Cx} : CallR X (.type "list") (rListOf X.K) := call_list_of
section
variable {H : Hp} {Q : VK} {K : PySem.W.Frag} {p : Addr} {xs : List V}
theorem rd_listL (h : SqL K H p xs) (q : ∀ l, H l = none → Q (.ref l) (upd H l (.lst xs))) : rListOf K [.ref p] H Q := ⟨p, xs, rfl, .inl h, q⟩
end
end L2
namespace L2
open PySem PySem.Spec PyProof.Rows
structure ClsF (K : PySem.W.Frag) (mg : Str → Option Value) (x : Str) (C : Addr) : Prop where
  cl : Cls K C
  ms : PySem.W.makesIn K C = true
  kc : PySem.W.keepIn K (.ref C) = true
  mgC : mg x = some (.ref C)
def MCal (P : Program) (w : World) (K : PySem.W.Frag) (mg : Str → Option Value) (base : Heap) (k : Nat) (C : Addr) (m : Str) (sp : Sp) : Prop :=
  Cls K C ∧ ∃ f fd ps, Meth K C m f ∧ FnOk P w K mg base CX0 k f fd ps sp ∧ Binds K fd ps []
section
variable {P : Program} {w : World} {K : PySem.W.Frag} {mg : Str → Option Value} {base : Heap}
theorem MCal.mono {j k : Nat} {C : Addr} {m : Str} {sp : Sp} (c : MCal P w K mg base j C m sp) (h : j ≤ k) : MCal P w K mg base k C m sp :=
  let ⟨cl, f, fd, ps, M, F, b⟩ := c
  ⟨cl, f, fd, ps, M, F.mono h, b⟩
end
section
variable {X : Cx} {k : Nat} {C : Addr} {sp : Sp} {x m : Str} {p pos apos : Pos} {e o : Expr} {es : List Expr} {ta : TE} {t : TA}
end
section
variable {σ : St} {H : Hp} {Q : VK} {K : PySem.W.Frag} {a C dx : Addr} {fs : List (Str × V)} {f m : Str} {v : V} {D : Ends} {sp : Sp}
end
section
variable {σ : St} {H : Hp} {Q : VK} {a : Addr} {kvs : List (Key × V)} {k : Key} {v : V} {R : Prop}
end
end L2
namespace L2
open PySem PySem.Spec PyProof.Rows
theorem Same.wr {H H' : Hp} {l : Addr} {o : HO} (s : Same H H') (n : H l = none) : Same H (upd H' l o) := fun b u e => by rw [upd_ne (ne_of_none e n)]; exact s b u e
theorem Same.fresh {H H' : Hp} {q : Addr} (s : Same H H') (hq : H' q = none) : H q = none := by
  cases e : H q with
  | none => rfl
  | some o => rw [s _ _ e] at hq; cases hq
def rAll (K : PySem.W.Frag) : RC := fun xs H Q => ∃ (p : Addr) (bs : List Bool), xs = [.ref p] ∧ SqL K H p (bs.map V.bl) ∧ Q (.bl (bs.all id)) H
theorem vals_bl {bs : List Bool} {us : List Value} (r : Vals (bs.map V.bl) us) : us = bs.map Value.bool := by
  induction bs generalizing us with
  | nil => cases r; rfl
  | cons b bs ih =>
    cases r with
    | cons h t =>
      have e : _ = Value.bool b := h
      rw [e, ih t]
      rfl
theorem range_all (bs : List Bool) : (List.range bs.length).all (fun i => bs.getD i true) = bs.all id := by
  rw [Bool.eq_iff_iff, List.all_eq_true, List.all_eq_true]
  constructor
  · intro h b hb
    obtain ⟨i, hi, e⟩ := List.mem_iff_getElem.mp hb
    have := h i (List.mem_range.mpr hi)
    simpa [List.getD, hi, e] using this
  · intro h i hi
    have hi := List.mem_range.mp hi
    have := h (bs[i]) (List.getElem_mem hi)
    simpa [List.getD, hi] using this
theorem cn_all {X : Cx} (hc : X.calm = true) : CallR X (.builtin "all") (rAll X.K) := by
  intro pins s σ H xs us Q I r h
  obtain ⟨p, bs, rfl, hq, q⟩ := h
  obtain ⟨u, rfl, rx⟩ := vals1 r
  cases rx
  obtain ⟨its, rv, pl, hz⟩ := I.list hq
  have hb : its = bs.map Value.bool := vals_bl rv
  refine call_all_walk (wpAny_pyIter_list pl.isList ?_)
  have hlt : p < s.heap.objs.size := by
    obtain ⟨o, ho, _⟩ := pl.isList
    exact Heap.lt_size ho
  have hh : X.A.in1.handled = none := I.ok.hd hc
  refine ⟨s.heap.objs.size, _, _, _, _, _, fun i => bs.getD i true, rfl, Walks.list hh s.heap.objs.size p (Nat.ne_of_lt hlt) its.toArray, ⟨⟨_, Heap.get?_push_size _ rfl, rfl, rfl⟩, pl.isList.at fun o e => Heap.get?_push_of_some _ e⟩, ?_, fun h' tk kp => ?_⟩
  · intro i v s' Q' E' hv hQ
    rw [hb] at hv
    simp only [List.getElem?_toArray, List.getElem?_map] at hv
    obtain ⟨b, hb1, rfl⟩ := Option.map_eq_some_iff.mp hv
    have e : bs.getD i true = b := by simp [List.getD, hb1]
    have hQ : Q' (bs.getD i true) s' := hQ
    rw [e] at hQ
    exact wpAny_truthy_bool hQ
  · have hn : its.toArray.size = bs.length := by rw [hb]; simp
    rw [hn, range_all]
    exact ⟨.bl (bs.all id), H, I.kept (t' := tk) fun b o e => kp b o (by
      intro z
      have e' := Heap.lt_size e
      rw [List.mem_singleton.mp z] at e'
      exact absurd e' (Nat.lt_irrefl _)) (Heap.get?_push_of_some _ e), rfl, q⟩
theorem rd_all {K : PySem.W.Frag} {H : Hp} {Q : VK} {p : Addr} {bs : List Bool} (h : SqL K H p (bs.map V.bl)) (q : Q (.bl (bs.all id)) H) : rAll K [.ref p] H Q := ⟨p, bs, rfl, h, q⟩
def rIntS : RC := fun xs H Q => ∃ z n, xs = [.str z] ∧ z.length ≤ 640 ∧ PySem.intText? z = some n ∧ Q (.int n) H
theorem ct_intS {X : Cx} : CallR X (.type "int") rIntS := by
  intro pins s σ H xs us Q I r h
  obtain ⟨z, n, rfl, hl, hn, q⟩ := h
  obtain ⟨u, rfl, rx⟩ := vals1 r
  obtain ⟨t, rfl⟩ := rx
  exact PySem.W.KIN.call_text hn hl ⟨.int n, H, I.tok _, ⟨_, rfl⟩, q⟩
theorem rd_intS {H : Hp} {Q : VK} {z : Str} {n : Int} (hl : z.length ≤ 640) (hn : PySem.intText? z = some n) (q : Q (.int n) H) : rIntS [.str z] H Q := ⟨z, n, rfl, hl, hn, q⟩
end L2
namespace L2
open PySem PySem.Spec PyProof.Rows
def Itp (lo : Int) (n : Nat) : It := ⟨fun i _ => i < n, fun i H x H' => H' = H ∧ x = .int (lo + i * 2), fun i _ => n ≤ i⟩
section
variable {σ : St} {H : Hp} {p : Addr}
theorem comp_range2 {te : TE} {R : Hp → Prop} {lo : Int} {n : Nat} {ys : List V} (hp : H p = none) (hn : ys.length = n) (hz : n ≤ sizeLine)
    (he : ∀ (i : Nat) (y : V) (H' : Hp) (Q : VK), i < n → ys[i]? = some y → Same H H' → Q y H' → te (some (.int (lo + i * 2)) :: σ) H' Q) (fin : R (upd H p (.lst ys))) :
    tLoopC 1 (gName 0) tNoIf te (Itp lo n) p R σ H := by
  refine ⟨fun i m σ' H' => m = n - i ∧ i ≤ n ∧ H' = upd H p (.lst (ys.take i)) ∧ ∃ v, σ' = v :: σ, ⟨n, by omega, Nat.zero_le _, rfl, none, rfl⟩, ?_⟩
  rintro i m σ' H' ⟨rfl, hi, rfl, v, rfl⟩
  by_cases hlt : i < n
  · refine .inr ⟨hlt, fun σ2 H2 => H2 = upd H p (.lst (ys.take (i + 1))) ∧ ∃ v, σ2 = v :: σ, fun σ2 H2 ⟨e, v', e'⟩ => ⟨n - (i + 1), by omega, rfl, hlt, e, v', e'⟩, fun x H1 ⟨e, y⟩ => ?_⟩
    subst e y
    refine rd_name ?_
    simp only [tNoIf, if_true, List.set_cons_zero]
    have hyl : i < ys.length := by omega
    refine he i ys[i] _ _ hlt (by simp [hyl]) (Same.new hp) ?_
    refine ⟨ys.take i, upd_same, ?_, ?_, some _, rfl⟩
    · rw [List.length_take]; omega
    · rw [upd_upd, List.take_succ_eq_append_getElem hyl]
  · have e : i = n := by omega
    subst e
    refine .inl ⟨Nat.le_refl _, ?_⟩
    rw [← hn, List.take_length]
    exact fin
end
section
variable {σ : St} {H : Hp} {p : Addr} {xs : List V} {v : V}
end
section
variable {σ : St} {H : Hp} {p a : Addr} {K : PySem.W.Frag} {xs : List V}
theorem comp_str {te : TE} {R : Hp → Prop} {z : Str} {ys : List V} (hp : H p = none) (hn : ys.length = z.length) (hz : z.length ≤ sizeLine)
    (he : ∀ (i c : Nat) (y : V) (H' : Hp) (Q : VK), z.cps[i]? = some c → ys[i]? = some y → Same H H' → Q y H' → te (some (.str ⟨#[c]⟩) :: σ) H' Q) (fin : R (upd H p (.lst ys))) :
    tLoopC 1 (gName 0) tNoIf te (Its z) p R σ H := by
  refine ⟨fun i m σ' H' => m = z.length - i ∧ i ≤ z.length ∧ H' = upd H p (.lst (ys.take i)) ∧ ∃ v, σ' = v :: σ, ⟨z.length, by omega, Nat.zero_le _, rfl, none, rfl⟩, ?_⟩
  rintro i m σ' H' ⟨rfl, hi, rfl, v, rfl⟩
  by_cases hlt : i < z.length
  · refine .inr ⟨hlt, fun σ2 H2 => H2 = upd H p (.lst (ys.take (i + 1))) ∧ ∃ v, σ2 = v :: σ, fun σ2 H2 ⟨e, v', e'⟩ => ⟨z.length - (i + 1), by omega, rfl, hlt, e, v', e'⟩, fun x H1 ⟨e, c, hc, ex⟩ => ?_⟩
    subst e ex
    refine rd_name ?_
    simp only [tNoIf, if_true, List.set_cons_zero]
    have hyl : i < ys.length := by omega
    refine he i c ys[i] _ _ hc (by simp [hyl]) (Same.new hp) ?_
    refine ⟨ys.take i, upd_same, ?_, ?_, some _, rfl⟩
    · rw [List.length_take]; omega
    · rw [upd_upd, List.take_succ_eq_append_getElem hyl]
  · have e : i = z.length := by omega
    subst e
    refine .inl ⟨Nat.le_refl _, ?_⟩
    rw [← hn, List.take_length]
    exact fin
end
end L2
namespace L2
open PySem PySem.Spec PyProof.Rows
mutual
theorem Dt.eq_self : ∀ d : Dt, Dt.eq d d = true
  | .non => by unfold Dt.eq; rfl
  | .bl b => by unfold Dt.eq; exact beq_self_eq_true b
  | .int i => by unfold Dt.eq; exact beq_self_eq_true i
  | .str x => by unfold Dt.eq; exact beq_self_eq_true x
  | .lst ds => by unfold Dt.eq; exact Dt.eqs_self ds
  | .tup ds => by unfold Dt.eq; exact Dt.eqs_self ds
theorem Dt.eqs_self : ∀ ds : List Dt, Dt.eqs ds ds = true
  | [] => by unfold Dt.eqs; rfl
  | d :: r => by unfold Dt.eqs; rw [Dt.eq_self d, Dt.eqs_self r]; rfl
end
section
variable {K : PySem.W.Frag} {H : Hp} {Q : VK} {x y : V} {d : Dt}
theorem dv_int {i : Int} : DV K H (.int i) (.int i) := by unfold DV; rfl
theorem dv_str {i : Str} : DV K H (.str i) (.str i) := by unfold DV; rfl
theorem dvs_nil : DVs K H [] [] := by unfold DVs; rfl
theorem dvs_cons {d : Dt} {r : List Dt} {x : V} {t : List V} (h : DV K H d x) (h2 : DVs K H r t) : DVs K H (d :: r) (x :: t) := by unfold DVs; exact ⟨x, t, rfl, h, h2⟩
theorem dv_tup {a : Addr} {xs : List V} {ds : List Dt} (h : SqT K H a xs) (h2 : DVs K H ds xs) : DV K H (.tup ds) (.ref a) := by unfold DV; exact ⟨a, xs, rfl, h, h2⟩
end
theorem cutV_range {ns : List V} {m n : Nat} : cutV ns (some (m : Int)) (some (n : Int)) = (ns.drop m).take (n - m) := by
  have e : HT.sIx ns.length ns.length (some (n : Int)) = min n ns.length := by
    unfold HT.sIx
    simp only []
    split <;> omega
  have e0 : HT.sIx ns.length 0 (some (m : Int)) = min m ns.length := by
    unfold HT.sIx
    simp only []
    split <;> omega
  unfold cutV
  rw [e, e0]
  by_cases h : m ≤ ns.length
  · rw [Nat.min_eq_left h, List.take_eq_take_iff, List.length_drop]
    omega
  · rw [Nat.min_eq_right (show ns.length ≤ m by omega), List.drop_length, List.drop_eq_nil_of_le (show ns.length ≤ m by omega), List.take_nil, List.take_nil]
theorem rd_nameN {σ σ' : St} {H : Hp} {i : Nat} {v : V} {R : St → Hp → Prop} (e : σ.set i (some v) = σ') (q : R σ' H) : gName i v σ H R := by subst e; exact q
theorem Same.made {H H' : Hp} {x dx C : Addr} {o : HO} (hx : H x = none) (hd : H dx = none) (k : ∀ b u, (upd (upd H dx o) x (.ins C dx [])) b = some u → b ≠ x → H' b = some u) : Same H H' := fun b u e =>
  k b u (by rw [upd_ne (ne_of_none e hx), upd_ne (ne_of_none e hd)]; exact e) (ne_of_none e hx)
end L2
namespace L2
open PySem PySem.Spec PyProof.Rows
def Imm (u : HO) : Prop := (∃ xs, u = .tup xs) ∨ ∃ o w, u = .frz o w
def SameI (H H' : Hp) : Prop := ∀ b u, H b = some u → Imm u → H' b = some u
theorem SameI.refl (H : Hp) : SameI H H := fun _ _ h _ => h
theorem SameI.trans {H H1 H2 : Hp} (a : SameI H H1) (b : SameI H1 H2) : SameI H H2 := fun c u h i => b c u (a c u h i) i
theorem Same.imm {H H' : Hp} (s : Same H H') : SameI H H' := fun b u h _ => s b u h
theorem SameI.upd {H : Hp} {a : Addr} {u o : HO} (h : H a = some u) (n : ¬ Imm u) : SameI H (upd H a o) := fun b v e i => by
  rw [upd_ne (ne_of e h (fun z => n (z ▸ i)))]; exact e
theorem SameI.new {H : Hp} {a : Addr} {o : HO} (h : H a = none) : SameI H (L2.upd H a o) := (Same.new h).imm
theorem SameI.tup {K : PySem.W.Frag} {H H' : Hp} {a : Addr} {xs : List V} (e : SameI H H') (h : SqT K H a xs) : SqT K H' a xs := by
  rcases h with (h | ⟨o, h⟩) | h
  · exact .inl (.inl (e _ _ h (.inl ⟨_, rfl⟩)))
  · exact .inl (.inr ⟨o, e _ _ h (.inr ⟨_, _, rfl⟩)⟩)
  · exact .inr h
theorem notImm_lst {xs : List V} : ¬ Imm (.lst xs) := by rintro (⟨_, z⟩ | ⟨_, _, z⟩) <;> cases z
theorem notImm_dK {kvs : List (Key × V)} : ¬ Imm (.dK kvs) := by rintro (⟨_, z⟩ | ⟨_, _, z⟩) <;> cases z
def SameND (H H' : Hp) : Prop := ∀ b u, H b = some u → (∀ kvs, u ≠ .dK kvs) → H' b = some u
theorem SameND.refl (H : Hp) : SameND H H := fun _ _ h _ => h
theorem SameND.trans {H H1 H2 : Hp} (a : SameND H H1) (b : SameND H1 H2) : SameND H H2 := fun c u h i => b c u (a c u h i) i
theorem Same.nd {H H' : Hp} (s : Same H H') : SameND H H' := fun b u h _ => s b u h
theorem SameND.imm {H H' : Hp} (s : SameND H H') : SameI H H' := fun b u h i => s b u h (by
  rintro kvs rfl
  exact notImm_dK i)
theorem SameND.seq {K : PySem.W.Frag} {H H' : Hp} {a : Addr} {xs : List V} (e : SameND H H') (h : SqL K H a xs) : SqL K H' a xs := by
  rcases h with (h | ⟨o, h⟩) | h
  · exact .inl (.inl (e _ _ h (by intro _ z; cases z)))
  · exact .inl (.inr ⟨o, e _ _ h (by intro _ z; cases z)⟩)
  · exact .inr h
abbrev Row := Str × Option Int
def rowVs : Row → List V
  | (w, none) => [.str w]
  | (w, some n) => [.str w, .int n]
def rowD : Row → Dt
  | (w, none) => .tup [.str w]
  | (w, some n) => .tup [.str w, .int n]
def RowAt (K : PySem.W.Frag) (H : Hp) (r : Row) (v : V) : Prop := ∃ t, v = .ref t ∧ SqT K H t (rowVs r)
def RowsAt (K : PySem.W.Frag) (H : Hp) (rs : List Row) (xs : List V) : Prop := rs.length = xs.length ∧ ∀ (i : Nat) (r : Row) (x : V), rs[i]? = some r → xs[i]? = some x → RowAt K H r x
theorem RowAt.keep {K : PySem.W.Frag} {H H' : Hp} {r : Row} {v : V} (h : RowAt K H r v) (s : SameI H H') : RowAt K H' r v := let ⟨t, e, q⟩ := h; ⟨t, e, s.tup q⟩
theorem RowsAt.keep {K : PySem.W.Frag} {H H' : Hp} {rs : List Row} {xs : List V} (h : RowsAt K H rs xs) (s : SameI H H') : RowsAt K H' rs xs := ⟨h.1, fun i r x h1 h2 => (h.2 i r x h1 h2).keep s⟩
theorem RowsAt.nil {K : PySem.W.Frag} {H : Hp} : RowsAt K H [] [] := ⟨rfl, fun i r x h => by simp at h⟩
theorem RowsAt.tail {K : PySem.W.Frag} {H : Hp} {r : Row} {rs : List Row} {x : V} {xs : List V} (h : RowsAt K H (r :: rs) (x :: xs)) : RowAt K H r x ∧ RowsAt K H rs xs :=
  ⟨h.2 0 r x rfl rfl, by have := h.1; simpa using this, fun i r' x' h1 h2 => h.2 (i + 1) r' x' (by simpa using h1) (by simpa using h2)⟩
theorem RowsAt.cons {K : PySem.W.Frag} {H : Hp} {r : Row} {rs : List Row} {x : V} {xs : List V} (h1 : RowAt K H r x) (h : RowsAt K H rs xs) : RowsAt K H (r :: rs) (x :: xs) := by
  refine ⟨by simp [h.1], fun i r' x' e1 e2 => ?_⟩
  cases i with
  | zero => cases e1; cases e2; exact h1
  | succ i => exact h.2 i r' x' (by simpa using e1) (by simpa using e2)
theorem RowAt.dv {K : PySem.W.Frag} {H : Hp} {r : Row} {v : V} (h : RowAt K H r v) : DV K H (rowD r) v := by
  obtain ⟨t, rfl, q⟩ := h
  obtain ⟨w, o⟩ := r
  cases o with
  | none => exact dv_tup q (dvs_cons dv_str dvs_nil)
  | some n => exact dv_tup q (dvs_cons dv_str (dvs_cons dv_int dvs_nil))
theorem RowsAt.dvs {K : PySem.W.Frag} {H : Hp} : ∀ {rs : List Row} {xs : List V}, RowsAt K H rs xs → DVs K H (rs.map rowD) xs
  | [], [], _ => dvs_nil
  | r :: rs, x :: xs, h => dvs_cons h.tail.1.dv h.tail.2.dvs
  | [], x :: xs, h => by have := h.1; simp at this
  | r :: rs, [], h => by have := h.1; simp at this
def putFn (f : Int → Int) (i v : Int) : Int → Int := fun j => if j = i then v else f j
def DictF (H : Hp) (d : Addr) (f : Int → Int) (m : Nat) : Prop := ∃ kvs, H d = some (.dK kvs) ∧ kvs.length ≤ m ∧ ∀ i : Int, (valV kvs (Sum.inl i : Key)).getD (.int 0) = .int (f i)
def StoreAt (H : Hp) (d : Addr) (f : Int → Int) (m : Nat) : Prop := ∃ kvs, H d = some (.dK kvs) ∧ kvs.length ≤ m ∧ (kvs.map (·.1)).Nodup ∧ (∀ p ∈ kvs, ∃ i n : Int, p = (Sum.inl i, .int n) ∧ n ≠ 0) ∧ ∀ i : Int, (valV kvs (Sum.inl i : Key)).getD (.int 0) = .int (f i)
theorem valV_drop {κ : Type} [DecidableEq κ] (k j : κ) : ∀ kvs : List (κ × V), valV (dropK kvs k) j = if j = k then none else valV kvs j
  | [] => by
    have : dropK ([] : List (κ × V)) k = [] := rfl
    rw [this, valV_nil]
    split <;> rfl
  | p :: r => by
    have ih := valV_drop k j r
    by_cases e : p.1 = k
    · rw [dropK_pos e, ih]
      by_cases z : j = k
      · rw [if_pos z, if_pos z]
      · rw [if_neg z, if_neg z, valV_neg (fun q => z (q.symm.trans e))]
    · rw [dropK_neg e]
      by_cases q : p.1 = j
      · rw [valV_pos q, valV_pos q, if_neg (fun z => e (q.trans z))]
      · rw [valV_neg q, valV_neg q, ih]
theorem StoreAt.drop {H : Hp} {d : Addr} {kvs : List (Key × V)} {f : Int → Int} {m : Nat} (hl : kvs.length ≤ m) (hn : (kvs.map (·.1)).Nodup) (hz : ∀ p ∈ kvs, ∃ i n : Int, p = (Sum.inl i, .int n) ∧ n ≠ 0) (hf : ∀ i : Int, (valV kvs (Sum.inl i : Key)).getD (.int 0) = .int (f i)) (i : Int) :
    StoreAt (upd H d (.dK (dropK kvs (Sum.inl i)))) d (putFn f i 0) (m + 1) := by
  refine ⟨_, upd_same, Nat.le_trans (dropK_le ..) (Nat.le_trans hl (Nat.le_succ _)), nd_dropK hn, fun p hp => hz p (dropK_mem hp), fun j => ?_⟩
  rw [valV_drop]
  unfold putFn
  by_cases e : j = i
  · subst e
    rw [if_pos rfl, if_pos rfl]
    rfl
  · rw [if_neg (fun z => e (Sum.inl.inj z)), if_neg e]
    exact hf j
theorem StoreAt.same {H H' : Hp} {d : Addr} {f : Int → Int} {m : Nat} (h : StoreAt H d f m) (e : H' d = H d) : StoreAt H' d f m := let ⟨kvs, a, b⟩ := h; ⟨kvs, e.trans a, b⟩
theorem DictF.same {H H' : Hp} {d : Addr} {f : Int → Int} {m : Nat} (h : DictF H d f m) (e : H' d = H d) : DictF H' d f m := let ⟨kvs, a, b⟩ := h; ⟨kvs, e.trans a, b⟩
section
variable {σ : St} {H : Hp} {Q : VK} {a : Addr} {kvs : List (Key × V)}
end
end L2
namespace L2
open PySem PySem.Spec PyProof.Rows
section
variable {σ : St} {H : Hp} {K : PySem.W.Frag} {a l : Addr} {xs : List V} {n : Nat} {t : TGs} {Q : St → Hp → Prop} {v : V} {r : List V} {g : TG} {u : TGs}
end
end L2
namespace L2
open PySem PySem.Spec PyProof.Rows
def rInsert : V → List V → Hp → VK → Prop := fun x vs H Q => ∃ (l : Addr) (xs : List V) (i : Int) (y : V), x = .ref l ∧ vs = [.int i, y] ∧ H l = some (.lst xs) ∧ 0 ≤ i ∧ i ≤ xs.length ∧ xs.length < 1000000 ∧ Q .non (upd H l (.lst (xs.take i.toNat ++ y :: xs.drop i.toNat)))
theorem mt_insert {X : Cx} : MtM X "list.insert" rInsert := by
  intro pins s σ H x vs v us Q I rx rv h
  obtain ⟨l, xs, i, y, rfl, rfl, hH, h0, hk, hz, q⟩ := h
  cases rx
  obtain ⟨u, w, rfl, ru, rw'⟩ := rv.two
  obtain ⟨t, rfl⟩ := ru
  obtain ⟨z, its, n, r, hl, e⟩ := I.lstM hH
  have hz2 : its.toArray.size ≤ sizeLine := by rw [List.size_toArray]; have := PySem.sizeLine_eq; omega
  have hfit : ¬ (!Builtin.List.listFitsIndex i) = true := by
    rw [fitsIndex_both (by omega) (by omega)]
    exact Bool.false_ne_true
  have harr : (its.toArray.extract 0 i.toNat).push w ++ its.toArray.extract i.toNat = (its.take i.toNat ++ w :: its.drop i.toNat).toArray := by
    apply Array.ext'
    simp [List.take_of_length_le]
  have hm : (if i < 0 then (i + (its.toArray.size : Int)).toNat else min i.toNat its.toArray.size) = i.toNat := by
    rw [if_neg (by omega), List.size_toArray]
    omega
  have M := @AutoSeq1.list_insert_list_int_val_1 l its.toArray n i t w hfit hz2
  have ha := PySem.F.args_list_insert_3 (.ref l) (.int i t) w
  refine' call_meets F.slot_list_insert ?ty F.entry_list_insert ha M ?b
  case ty => exact ⟨_, e, rfl⟩
  refine ⟨e, ?_⟩
  refine ⟨.non, _, I.lset (its' := its.take i.toNat ++ w :: its.drop i.toNat) hH e ?_ ((r.take i.toNat).append (.cons rw' (r.drop i.toNat))) ?_, rfl, q⟩
  · dsimp only
    rw [hm, harr]
  · rw [List.length_append, List.length_cons, List.length_take, List.length_drop]
    have := PySem.sizeLine_eq
    omega
theorem rd_insert {H : Hp} {Q : VK} {l : Addr} {xs : List V} {i : Int} {y : V} (h : H l = some (.lst xs)) (h0 : 0 ≤ i) (hk : i ≤ xs.length) (hz : xs.length < 1000000) (q : Q .non (upd H l (.lst (xs.take i.toNat ++ y :: xs.drop i.toNat)))) : rInsert (.ref l) [.int i, y] H Q := ⟨l, xs, i, y, rfl, rfl, h, h0, hk, hz, q⟩
section
variable {σ : St} {H : Hp} {p a : Addr} {K : PySem.W.Frag} {xs : List V}
def compNx (Pv : Nat → Hp → Prop) (i : Nat) (σ : St) : St → Hp → Prop := fun σ2 H2 => Pv i H2 ∧ ∃ v, σ2 = v :: σ
theorem comp_invL {tc : TT} {te : TE} {R : Hp → Prop} (Pv : Nat → Hp → Prop) (h0 : Pv 0 (upd H p (.lst []))) (hl : ∀ i H', Pv i H' → SqL K H' a xs)
    (hs : ∀ (i : Nat) (x : V) (H' : Hp), xs[i]? = some x → Pv i H' → tc (some x :: σ) H' fun b H1 => if b = true then te (some x :: σ) H1 fun y H2 => ∃ ys, H2 p = some (.lst ys) ∧ ys.length < sizeLine ∧ compNx Pv (i + 1) σ (some x :: σ) (upd H2 p (.lst (ys ++ [y]))) else compNx Pv (i + 1) σ (some x :: σ) H1)
    (fin : ∀ H', Pv xs.length H' → R H') : tLoopC 1 (gName 0) tc te (Itl K a) p R σ H := by
  refine ⟨fun i m σ' H' => m = xs.length - i ∧ i ≤ xs.length ∧ Pv i H' ∧ ∃ v, σ' = v :: σ, ⟨xs.length, by omega, Nat.zero_le _, h0, none, rfl⟩, ?_⟩
  rintro i m σ' H' ⟨rfl, hi, hp, v, rfl⟩
  have hs' := hl i H' hp
  by_cases hlt : i < xs.length
  · refine .inr ⟨⟨xs, xs[i], hs', by simp [hlt]⟩, compNx Pv (i + 1) σ, fun σ2 H2 ⟨e, v', e'⟩ => ⟨xs.length - (i + 1), by omega, rfl, hlt, e, v', e'⟩, fun x H1 ⟨e, y⟩ => ?_⟩
    subst e
    have hx := y xs hs'
    refine rd_name ?_
    simp only [List.set_cons_zero]
    exact hs i x _ hx hp
  · have e : i = xs.length := by omega
    subst e
    exact .inl ⟨⟨xs, hs', Nat.le_refl _⟩, fin H' hp⟩
theorem rd_noIf {σ : St} {H : Hp} {R : Bool → Hp → Prop} (q : R true H) : tNoIf σ H R := q
end
theorem RowsAt.snoc {K : PySem.W.Frag} {H : Hp} {rs : List Row} {xs : List V} {r : Row} {x : V} (h : RowsAt K H rs xs) (h1 : RowAt K H r x) : RowsAt K H (rs ++ [r]) (xs ++ [x]) := by
  refine ⟨by simp [h.1], fun i r' x' e1 e2 => ?_⟩
  by_cases hi : i < rs.length
  · rw [List.getElem?_append_left hi] at e1
    rw [List.getElem?_append_left (by rw [← h.1]; exact hi)] at e2
    exact h.2 i r' x' e1 e2
  · have hi2 : i = rs.length := by
      have := (List.getElem?_eq_some_iff.mp e1).1
      simp at this
      omega
    subst hi2
    rw [List.getElem?_append_right (Nat.le_refl _), Nat.sub_self] at e1
    rw [List.getElem?_append_right (by rw [h.1]; exact Nat.le_refl _), h.1, Nat.sub_self] at e2
    cases e1
    cases e2
    exact h1
theorem RowsAt.ins {K : PySem.W.Frag} {H : Hp} {rs : List Row} {xs : List V} {r : Row} {x : V} (h : RowsAt K H rs xs) (h1 : RowAt K H r x) (k : Nat) : RowsAt K H (rs.take k ++ r :: rs.drop k) (xs.take k ++ x :: xs.drop k) := by
  have ht : RowsAt K H (rs.take k) (xs.take k) := ⟨by simp [h.1], fun i r' x' e1 e2 => by
    rw [List.getElem?_take] at e1 e2
    split at e1
    · rename_i hk
      rw [if_pos hk] at e2
      exact h.2 i r' x' e1 e2
    · cases e1⟩
  have hd : RowsAt K H (r :: rs.drop k) (x :: xs.drop k) := .cons h1 ⟨by simp [h.1], fun i r' x' e1 e2 => by
    rw [List.getElem?_drop] at e1 e2
    exact h.2 _ r' x' e1 e2⟩
  refine ⟨by rw [List.length_append, List.length_append, ht.1, hd.1], fun i r' x' e1 e2 => ?_⟩
  by_cases hi : i < (rs.take k).length
  · rw [List.getElem?_append_left hi] at e1
    rw [List.getElem?_append_left (by rw [← ht.1]; exact hi)] at e2
    exact ht.2 i r' x' e1 e2
  · rw [List.getElem?_append_right (by omega)] at e1
    rw [List.getElem?_append_right (by rw [← ht.1]; omega), ← ht.1] at e2
    exact hd.2 _ r' x' e1 e2
end L2
namespace L2
open PySem PySem.Spec PyProof.Rows PySem.Calls PySem.W
section
variable {Pr : Program} {wo : World} {Ar : Around} {Ex : Value → Shared → Prop} {sh : Shared} {Ty : String} {ro di : Addr} {cnt : Nat} {Pp : Nat → Value → Prop} {Okd : Heap → Prop}
end
section
variable {K : PySem.W.Frag} {H : Hp} {Q : VK} {d : Addr} {ns : List Int}
end
section
variable {K : PySem.W.Frag} {H : Hp} {Q : VK} {t l b : Addr}
end
end L2
namespace L2
open PySem PySem.Builtin PySem.Builtin.Str PySem.StrLaws
def glueL (y : List Nat) : List (List Nat) → List Nat
  | [] => []
  | [p] => p
  | p :: q :: r => p ++ y ++ glueL y (q :: r)
def cutsAt (w : Nat) : Nat → List (List Nat) → List Nat
  | _, [] => []
  | _, [_] => []
  | a, p :: q :: r => (a + p.length) :: cutsAt w (a + p.length + w) (q :: r)
def Gap (w : Nat) : List Nat → Prop
  | [] => True
  | [_] => True
  | a :: b :: r => a + w ≤ b ∧ Gap w (b :: r)
theorem Gap.tail {w a : Nat} {r : List Nat} (h : Gap w (a :: r)) : Gap w r := by
  cases r with
  | nil => trivial
  | cons b r => exact h.2
theorem Gap.ge {w a : Nat} : ∀ {r : List Nat}, Gap w (a :: r) → ∀ b ∈ r, a + w ≤ b
  | [], _, b, hb => by simp at hb
  | c :: r, h, b, hb => by
    rcases List.mem_cons.mp hb with rfl | hb
    · exact h.1
    · have := Gap.ge (r := r) h.2 b hb
      have := h.1
      omega
theorem occ_run (s sub : Str) (hi limit : Nat) (w0 : 0 < sub.length) : ∀ (m i : Nat) (acc : Array Nat) (free : Nat) (cs : List Nat), (∀ j, i ≤ j → j < i + m → ((j + sub.length ≤ hi ∧ subAt s sub j = true) ↔ j ∈ cs)) → Gap sub.length cs →
    (∀ c ∈ cs, i ≤ c ∧ c < i + m ∧ free ≤ c) → acc.size + cs.length < limit → (forIn (List.range' i m) (acc, free) (occBody s sub hi limit)).run.fst.toList = acc.toList ++ cs
  | 0, i, acc, free, cs, _, _, hc, _ => by
    have : cs = [] := by
      cases cs with
      | nil => rfl
      | cons c r => have := hc c (by simp); omega
    subst this
    rw [List.append_nil]
    rfl
  | m + 1, i, acc, free, cs, hat, hg, hc, hl => by
    rw [List.range'_succ, List.forIn_cons]
    by_cases hi' : i ∈ cs
    · cases cs with
      | nil => simp at hi'
      | cons c r =>
        have hci : c = i := by
          rcases List.mem_cons.mp hi' with z | z
          · exact z.symm
          · have := hg.ge i z
            have := (hc c (by simp)).1
            omega
        subst hci
        have h1 := (hat c (Nat.le_refl _) (by omega)).mpr (by simp)
        have h2 := (hc c (by simp)).2.2
        have hcond : ((acc.size < limit ∧ free ≤ c) ∧ c + sub.length ≤ hi) ∧ subAt s sub c = true := ⟨⟨⟨by omega, h2⟩, h1.1⟩, h1.2⟩
        have hb : occBody s sub hi limit c (acc, free) = pure (ForInStep.yield (acc.push c, c + sub.length)) := if_pos hcond
        rw [hb]
        have ih := occ_run s sub hi limit w0 m (c + 1) (acc.push c) (c + sub.length) r (fun j h3 h4 => by
          rw [hat j (by omega) (by omega)]
          constructor
          · intro z
            rcases List.mem_cons.mp z with z | z
            · omega
            · exact z
          · exact List.mem_cons_of_mem _) hg.tail (fun b hb2 => by
          have := hg.ge b hb2
          have := (hc b (List.mem_cons_of_mem _ hb2)).2.1
          omega) (by rw [Array.size_push]; simp only [List.length_cons] at hl; omega)
        show (forIn (List.range' (c + 1) m) (acc.push c, c + sub.length) (occBody s sub hi limit)).run.fst.toList = _
        rw [ih, Array.toList_push, List.append_assoc]
        exact congrArg _ (List.singleton_append)
    · have hn : ¬ (i + sub.length ≤ hi ∧ subAt s sub i = true) := fun z => hi' ((hat i (Nat.le_refl _) (by omega)).mp z)
      have hb : occBody s sub hi limit i (acc, free) = pure (ForInStep.yield (acc, free)) := if_neg (fun z => hn ⟨z.1.2, z.2⟩)
      rw [hb]
      show (forIn (List.range' (i + 1) m) (acc, free) (occBody s sub hi limit)).run.fst.toList = _
      refine occ_run s sub hi limit w0 m (i + 1) acc free cs (fun j h3 h4 => hat j (by omega) (by omega)) hg (fun b hb2 => ?_) hl
      have := hc b hb2
      have : b ≠ i := fun z => hi' (z ▸ hb2)
      omega
end L2
namespace L2
open PySem PySem.Builtin PySem.Builtin.Str PySem.StrLaws
theorem cuts_ge {w : Nat} : ∀ {a : Nat} {ps : List (List Nat)}, ∀ c ∈ cutsAt w a ps, a ≤ c
  | _, [], c, h => by simp [cutsAt] at h
  | _, [_], c, h => by simp [cutsAt] at h
  | a, p :: q :: r, c, h => by
    rcases List.mem_cons.mp h with rfl | h
    · omega
    · have := cuts_ge (a := a + p.length + w) (ps := q :: r) c h
      omega
theorem cuts_gap {w : Nat} : ∀ {a : Nat} {ps : List (List Nat)}, Gap w (cutsAt w a ps)
  | _, [] => trivial
  | _, [_] => trivial
  | a, p :: q :: r => by
    have ih := cuts_gap (w := w) (a := a + p.length + w) (ps := q :: r)
    show Gap w ((a + p.length) :: cutsAt w (a + p.length + w) (q :: r))
    cases e : cutsAt w (a + p.length + w) (q :: r) with
    | nil => trivial
    | cons b s =>
      rw [e] at ih
      exact ⟨cuts_ge (a := a + p.length + w) (ps := q :: r) b (by rw [e]; simp), ih⟩
theorem cut_iff {c : Nat} {y : List Nat} (hy : c ∉ y) : ∀ (ps : List (List Nat)) (a i : Nat), (∀ p ∈ ps, c ∉ p) → a ≤ i → ((glueL (c :: y) ps)[i - a]? = some c ↔ i ∈ cutsAt (y.length + 1) a ps)
  | [], a, i, _, _ => by simp [glueL, cutsAt]
  | [p], a, i, h, _ => by
    simp only [glueL, cutsAt, List.not_mem_nil, iff_false]
    intro z
    exact h p (by simp) (List.mem_of_getElem? z)
  | p :: q :: r, a, i, h, hi => by
    show (p ++ (c :: y) ++ glueL (c :: y) (q :: r))[i - a]? = some c ↔ i ∈ (a + p.length) :: cutsAt (y.length + 1) (a + p.length + (y.length + 1)) (q :: r)
    have hp : c ∉ p := h p (by simp)
    by_cases h1 : i - a < p.length
    · rw [List.append_assoc, List.getElem?_append_left h1]
      constructor
      · intro z; exact absurd (List.mem_of_getElem? z) hp
      · intro z
        rcases List.mem_cons.mp z with z | z
        · omega
        · have := cuts_ge (a := a + p.length + (y.length + 1)) i z
          omega
    · by_cases h2 : i - a < p.length + (y.length + 1)
      · rw [List.getElem?_append_left (by rw [List.length_append, List.length_cons]; exact h2), List.getElem?_append_right (by omega)]
        by_cases h3 : i - a - p.length = 0
        · rw [h3]
          constructor
          · intro _; exact List.mem_cons.mpr (.inl (by omega))
          · intro _; rfl
        · obtain ⟨k, hk⟩ : ∃ k, i - a - p.length = k + 1 := ⟨i - a - p.length - 1, by omega⟩
          rw [hk, List.getElem?_cons_succ]
          constructor
          · intro z; exact absurd (List.mem_of_getElem? z) hy
          · intro z
            rcases List.mem_cons.mp z with z | z
            · omega
            · have := cuts_ge (a := a + p.length + (y.length + 1)) i z
              omega
      · rw [List.getElem?_append_right (by rw [List.length_append, List.length_cons]; omega), List.length_append, List.length_cons]
        have ih := cut_iff hy (q :: r) (a + p.length + (y.length + 1)) i (fun s hs => h s (List.mem_cons_of_mem _ hs)) (by omega)
        rw [show i - a - (p.length + (y.length + 1)) = i - (a + p.length + (y.length + 1)) by omega, ih]
        constructor
        · exact List.mem_cons_of_mem _
        · intro z
          rcases List.mem_cons.mp z with z | z
          · omega
          · exact z
theorem cut_sub {y : List Nat} : ∀ (ps : List (List Nat)) (a i : Nat), i ∈ cutsAt y.length a ps → ((glueL y ps).drop (i - a)).take y.length = y ∧ i - a + y.length ≤ (glueL y ps).length
  | [], a, i, h => by simp [cutsAt] at h
  | [p], a, i, h => by simp [cutsAt] at h
  | p :: q :: r, a, i, h => by
    show ((p ++ y ++ glueL y (q :: r)).drop (i - a)).take y.length = y ∧ i - a + y.length ≤ (p ++ y ++ glueL y (q :: r)).length
    rcases List.mem_cons.mp h with rfl | h
    · rw [show a + p.length - a = p.length by omega, List.append_assoc, List.drop_left, List.take_left]
      refine ⟨rfl, ?_⟩
      rw [List.length_append, List.length_append]
      omega
    · have hge := cuts_ge (a := a + p.length + y.length) (ps := q :: r) i h
      obtain ⟨h1, h2⟩ := cut_sub (q :: r) (a + p.length + y.length) i h
      have e : i - a = (p ++ y).length + (i - (a + p.length + y.length)) := by rw [List.length_append]; omega
      rw [e, List.drop_append, List.drop_eq_nil_of_le (Nat.le_add_right _ _), List.nil_append, Nat.add_sub_cancel_left, h1]
      refine ⟨rfl, ?_⟩
      rw [List.length_append (as := p ++ y)]
      omega
theorem parts_back {x : Str} {y : List Nat} : ∀ (ps : List (List Nat)) (a : Nat) (pre : List Nat), ps ≠ [] → pre.length = a → x.cps.toList = pre ++ glueL y ps → partsFrom x y.length a (cutsAt y.length a ps) = ps.map fun p => (⟨p.toArray⟩ : Str)
  | [], _, _, h, _, _ => absurd rfl h
  | [p], a, pre, _, ha, hx => by
    show [strSub x a x.length] = _
    have : strSub x a x.length = ⟨p.toArray⟩ := by
      apply Str.ext'
      apply Array.toList_inj.mp
      have hl : x.length = x.cps.toList.length := by simp [Str.length]
      rw [strSub_toList, hl, hx]
      simp only [glueL]
      rw [← ha, List.drop_left, List.length_append]
      simp
    rw [this]
    rfl
  | p :: q :: r, a, pre, _, ha, hx => by
    show strSub x a (a + p.length) :: partsFrom x y.length (a + p.length + y.length) (cutsAt y.length (a + p.length + y.length) (q :: r)) = _
    have hx2 : x.cps.toList = (pre ++ p ++ y) ++ glueL y (q :: r) := by
      rw [hx]
      show pre ++ (p ++ y ++ glueL y (q :: r)) = _
      simp [List.append_assoc]
    rw [parts_back (q :: r) (a + p.length + y.length) (pre ++ p ++ y) (by simp) (by rw [List.length_append, List.length_append]; omega) hx2]
    have : strSub x a (a + p.length) = ⟨p.toArray⟩ := by
      apply Str.ext'
      apply Array.toList_inj.mp
      rw [strSub_toList, hx2, ← ha, List.append_assoc, List.append_assoc, List.drop_left, show pre.length + p.length - pre.length = p.length by omega, List.take_left]
    rw [this]
    rfl
theorem glue_len {y : List Nat} : ∀ (ps : List (List Nat)), (cutsAt y.length 0 ps).length * y.length ≤ (glueL y ps).length ∧ ∀ a, (cutsAt y.length a ps).length = (cutsAt y.length 0 ps).length
  | [] => ⟨by simp [cutsAt], fun _ => rfl⟩
  | [p] => ⟨by simp [cutsAt], fun _ => rfl⟩
  | p :: q :: r => by
    obtain ⟨h1, h2⟩ := glue_len (y := y) (q :: r)
    refine ⟨?_, fun a => ?_⟩
    · show ((0 + p.length) :: cutsAt y.length (0 + p.length + y.length) (q :: r)).length * y.length ≤ (p ++ y ++ glueL y (q :: r)).length
      rw [List.length_cons, h2, List.length_append, List.length_append, Nat.add_mul]
      omega
    · show ((a + p.length) :: cutsAt y.length (a + p.length + y.length) (q :: r)).length = ((0 + p.length) :: cutsAt y.length (0 + p.length + y.length) (q :: r)).length
      rw [List.length_cons, List.length_cons, h2, h2 (0 + p.length + y.length)]
def mkS (p : List Nat) : Str := ⟨p.toArray⟩
theorem split_glue {c : Nat} {y : List Nat} {ps : List (List Nat)} (hn : ps ≠ []) (hy : c ∉ y) (hp : ∀ p ∈ ps, c ∉ p) (hk : Builtin.Str.strKind (mkS (c :: y)) = 1) : Txt.split (mkS (glueL (c :: y) ps)) (mkS (c :: y)) = ps.map mkS := by
  have hyl : (mkS (c :: y)).length = (c :: y).length := by simp [mkS, Str.length]
  have hxl : (mkS (glueL (c :: y) ps)).length = (glueL (c :: y) ps).length := by simp [mkS, Str.length]
  have hxc : (mkS (glueL (c :: y) ps)).cps.toList = glueL (c :: y) ps := by simp [mkS]
  have hyc : (mkS (c :: y)).cps.toList = c :: y := by simp [mkS]
  have hocc : occurrences (mkS (glueL (c :: y) ps)) (mkS (c :: y)) 0 (mkS (glueL (c :: y) ps)).length ((mkS (glueL (c :: y) ps)).length + 1) = cutsAt (c :: y).length 0 ps := by
    rw [occ_eq, Nat.sub_zero]
    have hsub : ∀ j, (j + (mkS (c :: y)).length ≤ (mkS (glueL (c :: y) ps)).length ∧ subAt (mkS (glueL (c :: y) ps)) (mkS (c :: y)) j = true) ↔ j ∈ cutsAt (c :: y).length 0 ps := fun j => by
      rw [subAt_eq, hxc, hyc, hyl, hxl]
      constructor
      · rintro ⟨h1, h2⟩
        have h3 := eq_of_beq h2
        have h4 : (glueL (c :: y) ps)[j]? = some c := by
          have h5 : (((glueL (c :: y) ps).drop j).take (c :: y).length)[0]? = some c := by rw [h3]; rfl
          rw [List.getElem?_take, if_pos (by simp), List.getElem?_drop, Nat.add_zero] at h5
          exact h5
        have := (cut_iff hy ps 0 j hp (Nat.zero_le _)).mp (by rw [Nat.sub_zero]; exact h4)
        exact this
      · intro h1
        obtain ⟨h2, h3⟩ := cut_sub (y := c :: y) ps 0 j h1
        rw [Nat.sub_zero] at h2 h3
        exact ⟨h3, by rw [h2]; exact beq_self_eq_true _⟩
    have hcl := (glue_len (y := c :: y) ps).1
    have hcm : (cutsAt (c :: y).length 0 ps).length ≤ (glueL (c :: y) ps).length := Nat.le_trans (Nat.le_mul_of_pos_right _ (by simp)) hcl
    have := occ_run (mkS (glueL (c :: y) ps)) (mkS (c :: y)) (mkS (glueL (c :: y) ps)).length ((mkS (glueL (c :: y) ps)).length + 1) (by rw [hyl]; simp) ((mkS (glueL (c :: y) ps)).length + 1) 0 #[] 0 (cutsAt (c :: y).length 0 ps) (fun j _ _ => hsub j) (by rw [hyl]; exact cuts_gap) (fun d hd => ⟨Nat.zero_le _, by have := ((hsub d).mpr hd).1; omega, Nat.zero_le _⟩) (by rw [hxl]; show 0 + (cutsAt (c :: y).length 0 ps).length < _; omega)
    rw [this]
    simp
  have hpb := parts_back (x := mkS (glueL (c :: y) ps)) (y := c :: y) ps 0 [] hn rfl (by rw [hxc]; rfl)
  have hone : cutsAt (c :: y).length 0 ps = [] → ps.map mkS = [mkS (glueL (c :: y) ps)] := fun z => by
    match ps, hn with
    | [p], _ => rfl
    | p :: q :: r, _ => cases z
  unfold Txt.split
  rw [hocc]
  split
  · rename_i h1
    rw [Bool.or_eq_true, decide_eq_true_eq, decide_eq_true_eq] at h1
    rcases h1 with h1 | h1
    · refine (hone ?_).symm
      have h2 := (glue_len (y := c :: y) ps).1
      cases e : cutsAt (c :: y).length 0 ps with
      | nil => rfl
      | cons a r =>
        rw [e, List.length_cons, Nat.add_mul] at h2
        rw [hyl, hxl] at h1
        omega
    · rw [hk] at h1
      unfold Builtin.Str.strKind at h1
      split at h1
      · omega
      · split at h1 <;> omega
  · split
    · rename_i h1 h2
      exact (hone (List.isEmpty_iff.mp h2)).symm
    · rw [partsBetween_eq, hyl]
      exact hpb
theorem join_glue (y : Str) : ∀ ts : List Str, Txt.join y ts = mkS (glueL y.cps.toList (ts.map fun t => t.cps.toList)) := by
  intro ts
  have h : ∀ (r : List Str) (acc : Array Nat), (r.foldl (fun a (p : Str) => a ++ y.cps ++ p.cps) acc).toList = glueL y.cps.toList (acc.toList :: r.map fun t => t.cps.toList) := by
    intro r
    induction r with
    | nil => intro acc; rfl
    | cons t r ih =>
      intro acc
      rw [List.foldl_cons, ih]
      cases r with
      | nil => simp [glueL]
      | cons u r => simp [glueL, List.append_assoc]
  unfold Txt.join glued mkS
  cases ts with
  | nil => rfl
  | cons t r =>
    apply Str.ext'
    apply Array.toList_inj.mp
    show ((r.foldl (fun a (p : Str) => a ++ y.cps ++ p.cps) t.cps)).toList = _
    rw [h]
    rfl
end L2
namespace L2
open PySem PySem.Spec PyProof.Rows
section
variable {X : Cx} {pins : List (Addr × Obj)} {σ : St} {H : Hp} {s : Shared} {a : Addr} {o : Obj} {kvs : List (Key × V)}
end
end L2
namespace L2
open PySem PySem.Spec PyProof.Rows
section
variable {σ : St} {H : Hp} {Q : VK} {D : Ends} {td : TE} {g : TG} {tc : TT} {te : TE} {tb : TS} {k : Nat} {a : Addr} {o : Obj} {kvs : List (Key × V)} {p : Addr}
theorem DGet.frz {k : Key} (e : H a = some (.frz o (.dK kvs))) : DGet H a (kV k) (valV kvs k) := .inl ⟨kvs, k, .inr ⟨o, e⟩, rfl, rfl⟩
end
section
variable {K : PySem.W.Frag} {σ : St} {H : Hp} {D : Ends} {a C dx : Addr} {fs : List (Str × V)} {f : Str} {i j : Int}
end
end L2
namespace L2
open PySem PySem.Spec PyProof.Rows
end L2
namespace L2
open PySem PySem.Spec PyProof.Rows PySem.Calls
theorem vals_memR : ∀ {xs : List V} {us : List Value}, Vals xs us → ∀ u ∈ us, ∃ x ∈ xs, RelV x u
  | _, _, .nil, u, hu => by cases hu
  | x :: xs, v :: us, .cons r t, u, hu => by
    rcases List.mem_cons.mp hu with rfl | hu
    · exact ⟨x, by simp, r⟩
    · obtain ⟨y, hy, ry⟩ := vals_memR t u hu
      exact ⟨y, by simp [hy], ry⟩
def TyTup (t : Addr) : Heap → Prop := fun h => h.get? t = some { cls := .type "tuple", data := .seq #[.type "int", .type "str"] }
def tTupTy (t : TA) : TE := fun σ H Q => t σ H fun xs H1 => xs = [.ty "int", .ty "str"] ∧ ∀ p, H1 p = none → Q (.ref p) (upd H1 p (.ext (TyTup p)))
theorem pe_tupTy {X : Cx} {es : List Expr} {t : TA} {x1} {pos : Pos} (h : PA X es t) : PE X (.Tuple es x1 pos) (tTupTy t) := by
  intro pins s σ H Q I hq
  refine wpAny_Tuple_spliced (thn (h pos pins s σ H _ I hq) fun us s1 ⟨xs, H1, I1, r, e, q⟩ => ?_)
  subst e
  obtain ⟨u, v, rfl, ru, rv⟩ := Vals.two r
  cases ru
  cases rv
  refine ⟨by show 2 ≤ sizeLine; decide, ?_⟩
  have hf : H1 s1.heap.objs.size = none := I1.hok.fresh (Nat.le_refl _)
  refine ⟨.ref s1.heap.objs.size, upd H1 s1.heap.objs.size (.ext (TyTup s1.heap.objs.size)), I1.laid (t' := s1.toks) (fun b u e => Heap.get?_push_of_some _ e) (Nat.le_refl _) ?_, rfl, q _ hf⟩
  exact ⟨Heap.get?_push_size _ rfl, ⟨_, Heap.get?_push_size _ rfl⟩, fun h1 h2 a b => b _ a⟩
def rIsi2 : RC := fun xs H Q => ∃ x t, xs = [x, .ref t] ∧ H t = some (.ext (TyTup t)) ∧ ((∃ i, x = .int i) ∨ ∃ z, x = .str z) ∧ Q (.bl true) H
theorem cn_isi2 {X : Cx} : CallR X (.builtin "isinstance") rIsi2 := by
  intro pins s σ H xs us Q I r h
  obtain ⟨x, t, rfl, ht, hx, q⟩ := h
  obtain ⟨u, v, rfl, ru, rv⟩ := Vals.two r
  cases rv
  have hT : TyTup t s.heap := (I.hok t _ ht).1
  rcases hx with ⟨i, rfl⟩ | ⟨z, rfl⟩
  · obtain ⟨tk, rfl⟩ := ru
    exact IsiPair.tupleOf (Tx := "int") (cs := [.type "int", .type "str"]) (vs := [true, false]) ⟨Answers.of_true PySem.F.isi_meta_int PySem.F.sub_int_int, Answers.of_false_int (by decide +kernel) PySem.F.isi_meta_str PySem.F.sub_int_str, trivial⟩ rfl hT fun tk => ⟨.bl true, H, I.tok _, rfl, q⟩
  · obtain ⟨tk, rfl⟩ := ru
    exact IsiPair.tupleOf (Tx := "str") (cs := [.type "int", .type "str"]) (vs := [false, true]) ⟨Answers.of_false_str (by decide +kernel) PySem.F.isi_meta_int PySem.F.sub_str_int, Answers.of_true PySem.F.isi_meta_str PySem.F.sub_str_str, trivial⟩ rfl hT fun tk => ⟨.bl true, H, I.tok _, rfl, q⟩
section
variable {H : Hp} {Q : VK} {σ : St}
theorem rd_tupTy {t : TA} (q : t σ H fun xs H1 => xs = [.ty "int", .ty "str"] ∧ ∀ p, H1 p = none → Q (.ref p) (upd H1 p (.ext (TyTup p)))) : tTupTy t σ H Q := q
theorem rd_isi2I {t : Addr} {i : Int} (h : H t = some (.ext (TyTup t))) (q : Q (.bl true) H) : rIsi2 [.int i, .ref t] H Q := ⟨_, t, rfl, h, .inl ⟨i, rfl⟩, q⟩
theorem rd_isi2S {t : Addr} {z : Str} (h : H t = some (.ext (TyTup t))) (q : Q (.bl true) H) : rIsi2 [.str z, .ref t] H Q := ⟨_, t, rfl, h, .inr ⟨z, rfl⟩, q⟩
end
section
variable {H : Hp} {Q : VK} {σ : St} {K : PySem.W.Frag} {p a : Addr} {xs ys : List V}
end
end L2
namespace L2
open PySem PySem.Spec PyProof.Rows PySem.Calls
theorem KV.at {kvs : List (Key × V)} {vs : List (Key × Value)} : KV kvs vs → ∀ {i : Nat} {p : Key × V}, kvs[i]? = some p → ∃ u, vs[i]? = some (p.1, u) ∧ RelV p.2 u := by
  intro h
  unfold KV at h
  induction h with
  | nil => intro i p e; simp at e
  | @cons a b as bs ab _ ih =>
    intro i p e
    cases i with
    | zero =>
      cases e
      refine ⟨b.2, ?_, ab.2⟩
      rw [ab.1]
      rfl
    | succ i => exact ih (by simpa using e)
section
variable {σ : St} {H : Hp} {Q : VK} {D : Ends} {td : TE} {g : TG} {tb : TS} {a : Addr} {o : Obj} {kvs : List (Key × V)}
end
section
variable {σ : St} {H : Hp} {Q : VK}
end
end L2
namespace L2
open PySem PySem.Spec PyProof.Rows PySem.Calls
structure Fly (base h : Heap) (e T : Addr) (cls : Value) : Prop where
  x : ∃ oe vs oT ts, h.get? e = some oe ∧ oe.cls = cls ∧ oe.data = .fields vs ∧ vs[1]? = some (.ref T) ∧ h.get? T = some oT ∧ oT.data = .fields ts ∧ ts[3]? = some .none
  nT : base.get? T = none
  ne : T ≠ e
  dn : ∀ o, h.get? e = some o → o.dict = none
structure Gone (base : Heap) (l : List Env) (e : Addr) (cls : Value) (ch : List Addr) (h h' : Heap) : Prop where
  st : base.StaysIn h'
  fr : h'.FunFrames base l
  fly : ∃ T, Fly base h' e T cls ∧ (T ∈ ch ∨ h.objs.size ≤ T)
  keep : ∀ b o, b ∉ l.filterMap (·.frame) → b ≠ e → b ∉ ch → h.get? b = some o → h'.get? b = some o
  slot : ∀ b o, b ∈ l.filterMap (·.frame) → h.get? b = some o → ∃ sl, h'.get? b = some { o with slots := sl }
theorem dict_mapF {o : Obj} {vs : Array Value} {f : Array Value → Array Value} (d : o.data = .fields vs) : (Obj.mapFields f o).dict = o.dict := by
  obtain ⟨c, dd, dt, sl⟩ := o
  subst d
  rfl
section
variable {M : Model} {A : Around} {E : Value → Shared → Prop} {s : Shared} {base : Heap} {env : Env} {outer : List Env} {L e : Addr} {Q : Unit → Shared → Prop}
theorem entry_gone {oe : Obj} {vs : Array Value} {head : Value} {hadNext : Bool} (fr : A.frames = some (env :: outer)) (fl : s.heap.FunFrames base (env :: outer)) (lf : env.frame = some L)
    (ae : s.heap.get? e = some oe) (sb : base.StaysIn s.heap) (ne : base.get? e = none) (da : oe.data = .fields vs) (dn : oe.dict = none) (sz : 1 < vs.size)
    (go : ∀ h', Gone base (env :: outer) e oe.cls [] s.heap h' → Q () { s with heap := h' }) :
    wpAny M A (do
      let a ← frameOf env
      let pl ← entryPlaceOf L hadNext
      let b ← EntryCells.newEntry head a .none (rawInt L) .none pl
      setField (.ref e) 1 b) (fun _ s' => wpAny M A (setFlight (.ref e) none) Q E s') E s := by
  have nef : e ∉ (env :: outer).filterMap (·.frame) := by
    intro hm
    obtain ⟨_, o, ho, hnf⟩ := fl.mem hm
    rw [ae] at ho
    cases ho
    exact hnf vs da
  refine wpAny_bind (wpAny_frameOf_fun fr fl lf fun h1 so => ?_)
  refine wpAny_bind (wpAny_entryPlaceOf fun pl hpl => ?_)
  unfold EntryCells.newEntry newFields
  refine wpAny_bind (wpAny_newObj_type ?_ (hpl.sizeOk5 _ _ _ _ _))
  have ae1 : h1.get? e = some oe := by rw [so.2.1 e nef]; exact ae
  have sb1 : base.StaysIn h1 := fun b o hb => by
    rw [so.2.1 b fun hm => by rw [(fl.mem hm).1] at hb; cases hb]
    exact sb b o hb
  generalize hTo : ({ cls := .type "traceback", dict := none, data := .fields ([head, .ref L, .none, rawInt L, .none] ++ (if pl.isEmpty then List.replicate 6 Value.none else pl)).toArray } : Obj) = To
  have dTo : To.data = .fields ([head, .ref L, .none, rawInt L, .none] ++ (if pl.isEmpty then List.replicate 6 Value.none else pl)).toArray := by rw [← hTo]
  have ae2 : (h1.push To).get? e = some oe := Heap.get?_push_of_some _ ae1
  have aT2 : (h1.push To).get? h1.objs.size = some To := Heap.get?_push_size _ (by rw [← hTo]; rfl)
  refine wpAny_setField ae2 da sz ?_
  have nTe : h1.objs.size ≠ e := Nat.ne_of_gt (Heap.lt_size ae1)
  have da3 := Obj.data_mapFields da (·.setIfInBounds 1 (Value.ref h1.objs.size))
  have ae3 := Heap.get?_update_self (Obj.mapFields (·.setIfInBounds 1 (Value.ref h1.objs.size))) ae2 (Obj.isFreed_of_fields da3)
  have oth3 : ∀ b, b ≠ e → ((h1.push To).update e (Obj.mapFields (·.setIfInBounds 1 (Value.ref h1.objs.size)))).get? b = (h1.push To).get? b := fun b hb => Heap.get?_update_other _ _ (Ne.symm hb)
  have aT3 := (oth3 _ nTe).trans aT2
  generalize (h1.push To).update e (Obj.mapFields (·.setIfInBounds 1 (Value.ref h1.objs.size))) = h3 at ae3 oth3 aT3 ⊢
  unfold setFlight
  refine wpAny_bind (wpAny_field ae3 da3 (x := .ref h1.objs.size) (by simp [sz]) ?_)
  rw [if_pos (by simp)]
  have sz3 : 3 < ([head, .ref L, .none, rawInt L, .none] ++ (if pl.isEmpty then List.replicate 6 Value.none else pl)).toArray.size := by simp
  refine wpAny_setField aT3 dTo sz3 (go _ ?_)
  have dT4 := Obj.data_mapFields dTo (·.setIfInBounds 3 ((none : Option Addr).elim Value.none fun f => rawInt f))
  have aT4 := Heap.get?_update_self (Obj.mapFields (·.setIfInBounds 3 ((none : Option Addr).elim Value.none fun f => rawInt f))) aT3 (Obj.isFreed_of_fields dT4)
  have oth4 : ∀ b, b ≠ h1.objs.size → (h3.update h1.objs.size (Obj.mapFields (·.setIfInBounds 3 ((none : Option Addr).elim Value.none fun f => rawInt f)))).get? b = h3.get? b := fun b hb => Heap.get?_update_other _ _ (Ne.symm hb)
  generalize h3.update h1.objs.size (Obj.mapFields (·.setIfInBounds 3 ((none : Option Addr).elim Value.none fun f => rawInt f))) = h4 at aT4 oth4 ⊢
  have kp : ∀ b o, b ≠ e → h1.get? b = some o → h4.get? b = some o := fun b o hb ho => by
    rw [oth4 b (Nat.ne_of_lt (Heap.lt_size ho)), oth3 b hb]
    exact Heap.get?_push_of_some _ ho
  have nf : ∀ b o, s.heap.get? b = some o → (∀ vs, o.data ≠ .fields vs) → b ≠ e := fun b o hb hnf z => by
    rw [z, ae] at hb
    cases hb
    exact hnf vs da
  refine ⟨fun b o hb => kp b o (fun z => by rw [z, ne] at hb; cases hb) (sb1 b o hb), fl.of_keeps fun b o hb hnf => ?_, ⟨h1.objs.size, ⟨⟨_, _, _, _, (oth4 e (Ne.symm nTe)).trans ae3, Obj.cls_mapFields _ _, da3, by simp [sz], aT4, dT4, by simp⟩, sb1.fresh, nTe, fun o ho => by rw [(oth4 e (Ne.symm nTe)).trans ae3] at ho; cases ho; exact (dict_mapF da).trans dn⟩, ?_⟩, fun b o h1' h2' _ ho => kp b o h2' (by rw [so.2.1 b h1']; exact ho), fun b o hm ho => ?_⟩
  · obtain ⟨sl, q⟩ := so.2.2 b o hb
    exact ⟨_, kp b _ (nf b o hb hnf) q, rfl⟩
  · exact .inr (Nat.le_of_eq so.1.symm)
  · obtain ⟨sl, q⟩ := so.2.2 b o ho
    exact ⟨sl, kp b _ (fun z => nef (by rw [← z]; exact hm)) q⟩
theorem leave_first {oe : Obj} {vs : Array Value} (fr : A.frames = some (env :: outer)) (fl : s.heap.FunFrames base (env :: outer)) (lf : env.frame = some L)
    (ae : s.heap.get? e = some oe) (sb : base.StaysIn s.heap) (ne : base.get? e = none) (da : oe.data = .fields vs) (dn : oe.dict = none) (v1 : vs[1]? = some .none)
    (go : ∀ h', Gone base (env :: outer) e oe.cls [] s.heap h' → Q () { s with heap := h' }) : wpAny M A (leaving env (.ref e)) Q E s := by
  unfold leaving noteFrame
  simp only [lf]
  refine wpAny_bind (wpAny_bind (wpAny_field ae da v1 ?_))
  rw [if_neg (by decide)]
  exact entry_gone fr fl lf ae sb ne da dn (Array.getElem?_eq_some_iff.mp v1).1 go
theorem note_next {T : Addr} {cls : Value} (fr : A.frames = some (env :: outer)) (fl : s.heap.FunFrames base (env :: outer)) (lf : env.frame = some L)
    (f : Fly base s.heap e T cls) (sb : base.StaysIn s.heap) (ne : base.get? e = none)
    (go : ∀ h', Gone base (env :: outer) e cls [T] s.heap h' → Q () { s with heap := h' }) : wpAny M A (noteFrame (.ref e) env) (fun _ s₂ => wpAny M A (setFlight (.ref e) none) Q E s₂) E s := by
  obtain ⟨oe, vs, oT, ts, ae, ce, da, v1, aT, dT, t3⟩ := f.x
  subst ce
  unfold noteFrame
  simp only [lf]
  refine wpAny_bind (wpAny_field ae da v1 ?_)
  rw [if_pos (by simp)]
  refine wpAny_bind (wpAny_field aT dT t3 ?_)
  rw [if_neg (by simp [rawInt])]
  refine wpAny_bind (wpAny_setField aT dT (Array.getElem?_eq_some_iff.mp t3).1 ?_)
  have oth : ∀ b, b ≠ T → (s.heap.update T (Obj.mapFields (·.setIfInBounds 3 Value.none))).get? b = s.heap.get? b := fun b hb => Heap.get?_update_other _ _ (Ne.symm hb)
  have nT : ∀ b o, s.heap.get? b = some o → (∀ vs, o.data ≠ .fields vs) → b ≠ T := fun b o hb hnf z => by
    rw [z, aT] at hb
    cases hb
    exact hnf ts dT
  have szu : (s.heap.update T (Obj.mapFields (·.setIfInBounds 3 Value.none))).objs.size = s.heap.objs.size := Heap.size_update _ _ _
  have nTf : T ∉ (env :: outer).filterMap (·.frame) := fun hm => by
    obtain ⟨_, o, ho, hnf⟩ := fl.mem hm
    rw [aT] at ho
    cases ho
    exact hnf ts dT
  refine entry_gone (s := { s with heap := s.heap.update T (Obj.mapFields (·.setIfInBounds 3 Value.none)) }) fr (fl.of_keeps fun b o hb hnf => ⟨o, (oth b (nT b o hb hnf)).trans hb, rfl⟩) lf ((oth e (Ne.symm f.ne)).trans ae) (fun b o hb => (oth b fun z => by rw [z, f.nT] at hb; cases hb).trans (sb b o hb)) ne da (f.dn _ ae) (Array.getElem?_eq_some_iff.mp v1).1 fun h' g => go h' ⟨g.st, g.fr, ?_, fun b o h1 h2 h3 ho => g.keep b o h1 h2 (by simp) ((oth b (by simpa using h3)).trans ho), fun b o hm ho => g.slot b o hm ((oth b (fun z => nTf (by rw [← z]; exact hm))).trans ho)⟩
  obtain ⟨T2, f2, l2⟩ := g.fly
  refine ⟨T2, f2, .inr ?_⟩
  rcases l2 with z | z
  · simp at z
  · rw [← szu]; exact z
end
def CXE (P : Program) (w : World) (base : Heap) : CXT := fun outer H s E e s' => ∃ (a T C : Addr) (H' : Hp), e = .ref a ∧ Fly base s'.heap a T (.ref C) ∧ base.get? a = none ∧ H' a = none ∧ H' T = none ∧ s.heap.get? a = none ∧ s.heap.get? T = none ∧
  s'.os = s.os ∧ AllBare s'.gens ∧ Un (frs outer) [] H H' s.heap s'.heap ∧ HOk P w H' s'.heap ∧ E e (some C) H'
theorem none_ge {h : Heap} {a : Addr} (l : h.objs.size ≤ a) : h.get? a = none := by
  cases e : h.get? a with
  | none => rfl
  | some o => exact absurd (Nat.lt_of_lt_of_le (Heap.lt_size e) l) (Nat.lt_irrefl _)
theorem Inv.none0 {X : Cx} {pins : List (Addr × Obj)} {σ : St} {H : Hp} {s : Shared} {a : Addr} (I : Inv X pins σ H s) (hex : X.ex = []) (n : s.heap.get? a = none) : X.s₀.heap.get? a = none := by
  cases e : X.s₀.heap.get? a with
  | none => rfl
  | some o =>
    obtain ⟨o', q⟩ := I.base.there a o e (by rw [hex]; simp)
    rw [n] at q
    cases q
theorem ObjOk.is {P : Program} {w : World} {H : Hp} {h : Heap} {a : Addr} {o : HO} (x : ObjOk P w H h a o) : ∃ q, h.get? a = some q := by
  cases o with
  | lst xs => obtain ⟨_, _, _, _, e⟩ := x; exact ⟨_, e⟩
  | tup xs => obtain ⟨_, _, _, p⟩ := x; obtain ⟨_, e, _⟩ := p; exact ⟨_, e⟩
  | dK kvs => obtain ⟨_, _, _, _, o, _, _, e, _⟩ := x; exact ⟨_, e⟩
  | dT kvs => obtain ⟨_, _, _, _, o, _, _, e, _⟩ := x; exact ⟨_, e⟩
  | set S n => obtain ⟨o, _, _, _, e, _⟩ := x; exact ⟨_, e⟩
  | ins C dx fs => obtain ⟨_, _, _, e, _⟩ := x; exact ⟨_, e⟩
  | own y => exact x
  | xd fs => obtain ⟨_, ⟨_, _, _, e, _⟩, _⟩ := x; exact ⟨_, e⟩
  | rng lo hi => obtain ⟨_, _, _, e⟩ := x; exact ⟨_, e⟩
  | frz ob u => exact ⟨_, x.1⟩
  | tbl ps => exact ⟨_, x⟩
  | met f y => exact ⟨_, x⟩
  | ext φ => exact x.2.1
section
variable {X : Cx} {pins : List (Addr × Obj)} {σ : St} {H' : Hp} {s' : Shared} {h' : Heap} {a : Addr} {cls : Value} {ch : List Addr}
theorem gone_out (J : Inv X pins σ H' s') (g : Gone X.base X.stack a cls ch s'.heap h') (hst : X.stack = X.env :: X.outer) (hlf : X.env.frame = some X.env.locals) (hex : X.ex = []) (ha : H' a = none) (hsa : X.s₀.heap.get? a = none) (hch : ∀ b ∈ ch, H' b = none ∧ X.s₀.heap.get? b = none) :
    (∃ T, Fly X.base h' a T cls ∧ H' T = none ∧ X.s₀.heap.get? T = none) ∧ Un (frs X.outer) [] X.H₀ H' X.s₀.heap h' ∧ HOk X.prog X.w H' h' := by
  have B := J.base
  rw [hex] at B
  have old : ∀ b o, X.s₀.heap.get? b = some o → b ≠ X.env.locals ∧ b ≠ a ∧ b ∉ ch := fun b o e => by
    have hb := Heap.lt_size e
    refine ⟨Nat.ne_of_lt (Nat.lt_of_lt_of_le hb J.ok.above), fun z => ?_, fun z => ?_⟩
    · rw [z, hsa] at e; cases e
    · rw [(hch b z).2] at e; cases e
  have fm : ∀ b, b ∈ X.stack.filterMap (·.frame) ↔ b = X.env.locals ∨ b ∈ frs X.outer := fun b => by
    rw [hst, List.filterMap_cons, hlf]
    exact List.mem_cons
  have hfree : ∀ b ∈ X.stack.filterMap (·.frame), H' b = none := fun b hb => J.stkFree b hb
  refine ⟨?_, ⟨fun b o e n hb _ => ?_, fun b o e n hb _ => ?_, fun b o e n hx => B.free b o e n hx, fun b o e _ => ?_, B.tups, B.frzs, B.tbls⟩, fun b u e => ?_⟩
  · obtain ⟨T, f, l⟩ := g.fly
    rcases l with z | z
    · exact ⟨T, f, (hch T z).1, (hch T z).2⟩
    · exact ⟨T, f, J.hok.fresh z, none_ge (Nat.le_trans J.sz z)⟩
  · obtain ⟨n1, n2, n3⟩ := old b o e
    exact g.keep b o (fun z => by rcases (fm b).mp z with z | z; exact n1 z; exact hb z) n2 n3 (B.keep b o e n hb (by simp))
  · obtain ⟨sl, q⟩ := B.slot b o e n hb (by simp)
    obtain ⟨sl2, q2⟩ := g.slot b _ ((fm b).mpr (.inr hb)) q
    exact ⟨sl2, q2⟩
  · obtain ⟨n1, n2, n3⟩ := old b o e
    obtain ⟨o1, q1⟩ := B.there b o e (by simp)
    by_cases z : b ∈ X.stack.filterMap (·.frame)
    · obtain ⟨sl, q⟩ := g.slot b o1 z q1
      exact ⟨_, q⟩
    · exact ⟨o1, g.keep b o1 z n2 n3 q1⟩
  · have nn : ∀ c v, H' c = some v → ∀ q, s'.heap.get? c = some q → h'.get? c = some q := fun c v hc q hq => g.keep c q (fun z => by rw [hfree c z] at hc; cases hc) (fun z => by rw [z, ha] at hc; cases hc) (fun z => by rw [(hch c z).1] at hc; cases hc) hq
    refine (J.hok b u e).stay (fun c v hc q => ?_) (fun _ q => q) fun _ _ q => q
    rcases hc with z | z
    · rw [z] at q ⊢; exact nn b u e v q
    · exact nn c _ z v q
end
def RaiseOk (X : Cx) (C : Addr) (EX : Hp → Prop) : Prop := ∀ (pins : List (Addr × Obj)) (σ : St) (H : Hp) (s : Shared) (e : Addr) (h' : Heap) (vs : List Value), Inv X pins σ H s → Heap.MadeExcOf s.heap h' e (.ref C) vs → EX H → X.xe (.ref e) { s with heap := h' }
theorem raise_ok {P : Program} {w : World} {K : PySem.W.Frag} {mg : Str → Option Value} {base : Heap} {N : List Str} {qual : Str} {scope : Scope} {f C : Addr} {cd : Value} {A : Around} {outer : List Env} {s₀ : Shared} {H₀ : Hp} {E : XK} :
    RaiseOk (cxOf (CXE P w base) P w K mg base N qual scope f cd A outer s₀ H₀ E) C (fun H => ∀ a, E (.ref a) (some C) H) := by
  intro pins σ H s e h' vs I mk q
  obtain ⟨t, ae, nt, at'⟩ := mk.there
  have J : Inv (cxOf (CXE P w base) P w K mg base N qual scope f cd A outer s₀ H₀ E) pins σ H { s with heap := h', toks := s.toks } := I.kept (t' := s.toks) mk.keeps
  have ha : H e = none := by
    cases z : H e with
    | none => rfl
    | some o =>
      obtain ⟨q, hq⟩ := (I.hok e o z).is
      rw [mk.new] at hq
      cases hq
  have nb : base.get? e = none := by
    cases z : base.get? e with
    | none => rfl
    | some o =>
      have := I.bk e o z
      rw [mk.new] at this
      cases this
  refine leave_first (s := { s with heap := h' }) (base := base) (L := (envOfC qual scope s₀.heap.objs.size f cd).locals) J.ok.frames J.stack rfl ae J.bk nb rfl rfl rfl fun h2 gn => ?_
  obtain ⟨⟨T2, f2, hT2, l2⟩, U, O⟩ := gone_out J gn rfl rfl rfl ha (I.none0 rfl mk.new) (fun b hb => by simp at hb)
  exact ⟨e, T2, C, H, rfl, f2, nb, ha, hT2, I.none0 rfl mk.new, l2, J.os, J.bare, U, O, q e⟩
theorem ps_raise {X : Cx} {x : Str} {C : Addr} {bm : List Value} {B newId initId : String} {np cpos pos : Pos} {e₀ : Expr} {rest : List Expr} {t : TA} {EX : Hp → Prop} (O : OwnCls x C bm newId X.mg X.base) (FB : ExcBaseFacts B newId initId bm) (hc : X.calm = true) (hg : Gl X x) (ok : RaiseOk X C EX) (ha : PA X (e₀ :: rest) t)
    (he : starEach (e₀ :: rest) X.env = (false, eval e₀ X.env) :: starEach rest X.env := by rfl) (hpl : (backTo cpos (starEach rest X.env)).any (·.1) = false := by rfl) (hd : (x == ("__debug__" : Str)) = false := by decide) :
    PS X (.Raise (some (.Call (.Name x np) (e₀ :: rest) [] cpos)) none pos) (fun _ σ H => t σ H fun vs H1 => vs.length ≤ sizeLine ∧ EX H1) := by
  intro pins s σ H D I h
  obtain ⟨tl, N, nm, q, bs, hdct, sn, sub, ab, col, dd, k0, k1, k2, k3, k5, mN, hC, hN, hni, T⟩ := O.obj
  refine wpAny_Raise_call_subT (C := C) (nm := nm) (q := q) (N := N) (bs := bs) (bm := tl) (hdct := hdct) (sn := sn) (sub := sub) (ab := ab) (col := col) (dd := dd) (k0 := k0) (k1 := k1) (k2 := k2) (k3 := k3) (k5 := k5) FB (mN := mN) (T.hasType FB.hasBase) (I.ok.hd hc) (by rw [he]; exact hpl) hni (ld_glob I hg O.bound ⟨rfl, ?_⟩ hd)
  rw [he]
  have hh := ha cpos pins s σ H _ I h
  rw [he] at hh
  refine Calls.evalArgs_plain (wpAny_mono hh (fun us s1 z => ?_) fun _ _ y => y)
  obtain ⟨ys, H1, I1, r, q⟩ := z
  have kb : ∀ b o, X.base.get? b = some o → s1.heap.get? b = some o := I1.bk
  exact ⟨rfl, by rw [← r.length]; exact q.1, kb _ _ hC, hN.keeps kb, T.keeps kb, fun h' e mk => ok pins σ H1 s1 e h' us I1 mk q.2⟩
end L2
namespace L2
open PySem PySem.Spec PyProof.Rows PySem.Calls
def CalE (P : Program) (w : World) (K : PySem.W.Frag) (mg : Str → Option Value) (base : Heap) (k : Nat) (x : Str) (sp : Sp) : Prop :=
  ∃ f, mg x = some (.ref f) ∧ ∃ fd ps, FnOk P w K mg base (CXE P w base) k f fd ps sp ∧ PySem.W.keepIn K (.ref f) = true ∧ Binds K fd ps []
theorem CalE.mono {P : Program} {w : World} {K : PySem.W.Frag} {mg : Str → Option Value} {base : Heap} {j k : Nat} {x : Str} {sp : Sp} (c : CalE P w K mg base j x sp) (h : j ≤ k) : CalE P w K mg base k x sp :=
  let ⟨f, m, fd, ps, F, kp, b⟩ := c
  ⟨f, m, fd, ps, F.mono h, kp, b⟩
theorem cal_ofE {P : Program} {w : World} {K : PySem.W.Frag} {mg : Str → Option Value} {base : Heap} {x : Str} {st : Stmt} {N ps : List Str} {k : Nat} {sp : Sp} (D : DefAt K mg x st) (S : FnScope N ps (defScope st)) (len : ∀ vs H Q E, sp vs H Q E → vs.length = ps.length)
    (hb : ∀ (kV doc pm : Value) (an : Option Addr) (cdv ct : Value) (us : List Value), us.length = ps.length → bindArgs (PySem.W.fnOf x x (defArgs st) (defBody st) (defScope st) .none kV doc pm an cdv ct) ⟨us, []⟩ = pure (ps.zip us))
    (hbody : ∀ (f : Addr) (cdv : Value) (A : Around) (outer : List Env) (s : Shared) (H : Hp) (vs : List V) (Q : VK) (E : XK), Room k (A.deeper (envOfC x (defScope st) s.heap.objs.size f cdv)) → sp vs H Q E →
      ∃ t, PSs (cxOf (CXE P w base) P w K mg base N x (defScope st) f cdv A outer s H E) (defBody st) t ∧ t { nx := fun _ H' => Q .non H', rt := Q } (start N vs) H) : CalE P w K mg base (k + 1) x sp := by
  obtain ⟨f, fd, F, m⟩ := D
  have b := F.binds hb
  have kp := F.kp
  obtain ⟨oc, od, kV, doc, pm, an, cdv, ct, osl, rfl, lk, hcd⟩ := F.ex
  exact ⟨f, m, _, ps, fn_of lk hcd S len fun A outer s H vs Q E hr hsp => hbody f cdv A outer s H vs Q E hr hsp, kp, b⟩
theorem gone_un {P : Program} {w : World} {base : Heap} {l : List Env} {H H' : Hp} {h hh h' : Heap} {a : Addr} {cls : Value} {ch : List Addr} (un : Un (frs l) [] H H' h hh) (hok : HOk P w H' hh) (fr : ∀ b ∈ frs l, H' b = none) (g : Gone base l a cls ch hh h') (ha : H' a = none) (hsa : h.get? a = none)
    (hch : ∀ b ∈ ch, H' b = none ∧ h.get? b = none) : Un (frs l) [] H H' h h' ∧ HOk P w H' h' := by
  have old : ∀ b o, h.get? b = some o → b ≠ a ∧ b ∉ ch := fun b o e => by
    refine ⟨fun z => ?_, fun z => ?_⟩
    · rw [z, hsa] at e; cases e
    · rw [(hch b z).2] at e; cases e
  refine ⟨⟨fun b o e n hb _ => ?_, fun b o e n hb _ => ?_, fun b o e n hx => un.free b o e n hx, fun b o e _ => ?_, un.tups, un.frzs, un.tbls⟩, fun b u e => ?_⟩
  · obtain ⟨n2, n3⟩ := old b o e
    exact g.keep b o hb n2 n3 (un.keep b o e n hb (by simp))
  · obtain ⟨sl, q⟩ := un.slot b o e n hb (by simp)
    obtain ⟨sl2, q2⟩ := g.slot b _ hb q
    exact ⟨sl2, q2⟩
  · obtain ⟨n2, n3⟩ := old b o e
    obtain ⟨o1, q1⟩ := un.there b o e (by simp)
    by_cases z : b ∈ frs l
    · obtain ⟨sl, q⟩ := g.slot b o1 z q1
      exact ⟨_, q⟩
    · exact ⟨o1, g.keep b o1 z n2 n3 q1⟩
  · have nn : ∀ c v, H' c = some v → ∀ q, hh.get? c = some q → h'.get? c = some q := fun c v hc q hq => g.keep c q (fun z => by rw [fr c z] at hc; cases hc) (fun z => by rw [z, ha] at hc; cases hc) (fun z => by rw [(hch c z).1] at hc; cases hc) hq
    refine (hok b u e).stay (fun c v hc q => ?_) (fun _ q => q) fun _ _ q => q
    rcases hc with z | z
    · rw [z] at q ⊢; exact nn b u e v q
    · exact nn c _ z v q
def Caught (X : Cx) (pins : List (Addr × Obj)) (σ : St) (E : XK) (e : Value) (s : Shared) : Prop := ∃ a T C H, e = .ref a ∧ Inv X pins σ H s ∧ Fly X.base s.heap a T (.ref C) ∧ E e (some C) H ∧ H a = none
def cxTry (X : Cx) (pins : List (Addr × Obj)) (σ : St) (E : XK) : Cx :=
  { X with pn := X.pn ++ pins, xe := fun e s' => wpAny (model X.prog X.w) X.A (noteFrame e X.env) (fun _ s₂ => wpAny (model X.prog X.w) X.A (setFlight e none) (fun _ s₃ => Caught X pins σ E e s₃) (fun _ _ => False) s₂) (fun _ _ => False) s' }
section
variable {X : Cx} {pins pins' : List (Addr × Obj)} {σ σ' : St} {H : Hp} {s : Shared} {E : XK}
theorem Inv.toTry (I : Inv X pins σ' H s) : Inv (cxTry X pins σ E) [] σ' H s :=
  ⟨⟨I.ok.mod, I.ok.kind, I.ok.glob, I.ok.blt, I.ok.above, I.ok.inj, I.ok.has, I.ok.cab, I.ok.hd, I.ok.frames, I.ok.stk, I.ok.exf, I.ok.bs, I.ok.bsz, I.ok.noex, I.ok.exfs, I.ok.funs, I.ok.frf⟩, I.os, I.bare, I.base, I.loc, I.cell, I.free, I.freeC, fun p hp => I.pin p (by simpa [cxTry] using hp), I.hok, I.len⟩
theorem Inv.ofTry (I : Inv (cxTry X pins σ E) pins' σ' H s) : Inv X pins σ' H s :=
  ⟨⟨I.ok.mod, I.ok.kind, I.ok.glob, I.ok.blt, I.ok.above, I.ok.inj, I.ok.has, I.ok.cab, I.ok.hd, I.ok.frames, I.ok.stk, I.ok.exf, I.ok.bs, I.ok.bsz, I.ok.noex, I.ok.exfs, I.ok.funs, I.ok.frf⟩, I.os, I.bare, I.base, I.loc, I.cell, I.free, I.freeC, fun p hp => I.pin p (List.mem_append_left _ hp), I.hok, I.len⟩
def cxHand (X : Cx) (e : Value) : Cx := { X with A := X.A.mark (some e), calm := false, xe := fun _ _ => False }
theorem Inv.toHand {e : Value} (I : Inv X pins σ H s) : Inv (cxHand X e) pins σ H s :=
  ⟨⟨I.ok.mod, I.ok.kind, I.ok.glob, I.ok.blt, I.ok.above, I.ok.inj, I.ok.has, I.ok.cab, fun z => absurd z Bool.false_ne_true, I.ok.frames, I.ok.stk, I.ok.exf, I.ok.bs, I.ok.bsz, I.ok.noex, I.ok.exfs, I.ok.funs, I.ok.frf⟩, I.os, I.bare, I.base, I.loc, I.cell, I.free, I.freeC, I.pin, I.hok, I.len⟩
theorem Inv.ofHand {e : Value} (ok : X.Ok) (I : Inv (cxHand X e) pins σ H s) : Inv X pins σ H s :=
  ⟨ok, I.os, I.bare, I.base, I.loc, I.cell, I.free, I.freeC, I.pin, I.hok, I.len⟩

theorem SP.ofTry {D : Ends} {f : Flow} {s' : Shared} (h : SP (cxTry X pins σ E) pins' D f s') : SP X pins D f s' := by
  cases f with
  | next => obtain ⟨σ', H', I, q⟩ := h; exact ⟨σ', H', I.ofTry, q⟩
  | brk => obtain ⟨σ', H', I, q⟩ := h; exact ⟨σ', H', I.ofTry, q⟩
  | cont => obtain ⟨σ', H', I, q⟩ := h; exact ⟨σ', H', I.ofTry, q⟩
  | ret u => obtain ⟨v, σ', H', I, r, q⟩ := h; exact ⟨v, σ', H', I.ofTry, r, q⟩
theorem SP.ofHand {e : Value} {D : Ends} {f : Flow} {s' : Shared} (ok : X.Ok) (h : SP (cxHand X e) pins D f s') : SP X pins D f s' := by
  cases f with
  | next => obtain ⟨σ', H', I, q⟩ := h; exact ⟨σ', H', I.ofHand ok, q⟩
  | brk => obtain ⟨σ', H', I, q⟩ := h; exact ⟨σ', H', I.ofHand ok, q⟩
  | cont => obtain ⟨σ', H', I, q⟩ := h; exact ⟨σ', H', I.ofHand ok, q⟩
  | ret u => obtain ⟨v, σ', H', I, r, q⟩ := h; exact ⟨v, σ', H', I.ofHand ok, r, q⟩
end
section
variable {X : Cx} {pins pins' : List (Addr × Obj)} {σ : St} {H : Hp} {s s' : Shared} {E : XK} {e : Value}
theorem passT (hst : X.stack = X.env :: X.outer) (hlf : X.env.frame = some X.env.locals) (I : Inv (cxTry X pins σ E) pins' σ H s) (h : CXE X.prog X.w X.base X.stack H s E e s') : (cxTry X pins σ E).xe e s' := by
  have I0 := I.ofTry
  obtain ⟨a, T, C, H', rfl, fly, nb, ha, hT, la, lT, os, bare, un, hok, q⟩ := h
  obtain ⟨hh, g, d, t, os'⟩ := s'
  obtain rfl : os' = s.os := os
  have J := I0.call (h' := hh) (g' := g) (d' := d) (t' := t) (ch := []) un hok bare (fun b z => absurd z (by simp))
  have fr := J.ok.frames
  have st := J.stack
  rw [hst] at fr st
  refine note_next (base := X.base) (L := X.env.locals) fr st hlf fly J.bk nb fun h' gn => ?_
  rw [← hst] at gn
  obtain ⟨U, O⟩ := gone_un un hok (fun b hb => J.stkFree b hb) gn ha la (fun b hb => by rw [List.mem_singleton.mp hb]; exact ⟨hT, lT⟩)
  obtain ⟨T2, f2, l2⟩ := gn.fly
  exact ⟨a, T2, C, H', rfl, Inv.call (s := s) (h' := h') (g' := g) (d' := d) (t' := t) (ch := []) I0 U O bare (fun b z => absurd z (by simp)), f2, q, ha⟩
end
def tAt (σ₀ : St) (t : TE) : TE := fun σ H Q => σ = σ₀ ∧ t σ H Q
theorem pe_calT {X : Cx} {pins : List (Addr × Obj)} {σ : St} {E : XK} {k : Nat} {x : Str} {sp : Sp} {p pos : Pos} {e : Expr} {es : List Expr} {t : TA} (hst : X.stack = X.env :: X.outer) (hlf : X.env.frame = some X.env.locals) (c : CalE X.prog X.w X.K X.mg X.base k x sp) (hr : Room k X.A) (hg : Gl X x)
    (ha : PA (cxTry X pins σ E) (e :: es) t) (hdb : (x == ("__debug__" : Str)) = false := by decide)
    (he : starEach (e :: es) X.env = (false, eval e X.env) :: starEach es X.env := by rfl) (hpl : (backTo pos (starEach es X.env)).any (·.1) = false := by rfl) :
    PE (cxTry X pins σ E) (.Call (.Name x p) (e :: es) [] pos) (tAt σ (tCall sp [] E t)) := by
  intro pins' s σ' H Q I h
  obtain ⟨es', h⟩ := h
  subst es'
  obtain ⟨f, m, fd, ps, F, kp, b⟩ := c
  refine wpAny_Call_Name_kw (ld_glob I hg m ?_ hdb)
  refine PySem.W.callWith_K (h₀ := X.base) I.ok.mod.kin kp (thn (ha pos pins' s _ H _ I h) fun us s1 ⟨vs, H1, I1, r, q⟩ => ⟨I1.kIn, ?_⟩) he hpl
  have q : sp (vs ++ []) H1 Q E := q
  rw [List.append_nil] at q
  have hl : us.length = ps.length := by rw [← r.length]; exact F.len _ _ _ _ q
  have bb := b s1 us I1.kIn (by rw [List.append_nil]; exact hl)
  rw [List.append_nil] at bb
  refine wpAny_call (codeAny_mono (F.run X.A X.stack s1 H1 ⟨us, []⟩ us vs Q E hr I1.env0 bb r q) fun r s' hq => ?_)
  cases r with
  | error e => exact passT hst hlf I1 hq
  | ok fl =>
    cases fl with
    | ret u => exact I1.after hq
    | next => exact False.elim hq
    | brk => exact False.elim hq
    | cont => exact False.elim hq
theorem same_fields {o : Obj} {ts : Array Value} {i : Nat} {v : Value} (d : o.data = .fields ts) (h : ts[i]? = some v) : Obj.mapFields (·.setIfInBounds i v) o = o := by
  obtain ⟨hi, e⟩ := Array.getElem?_eq_some_iff.mp h
  have : ts.setIfInBounds i v = ts := by
    apply Array.ext (by simp)
    intro j h1 h2
    rw [Array.getElem_setIfInBounds]
    split
    · rename_i z; subst z; exact e.symm
    · rfl
  obtain ⟨c, dd, dt, sl⟩ := o
  subst d
  show Obj.mk c dd (.fields (ts.setIfInBounds i v)) sl = _
  rw [this]
def tTry (C : Addr) (tb : St → XK → TS) (th : TS) : TS := fun D σ H => tb σ (fun _ c H' => c = some C ∧ th D σ H') D σ H
end L2
namespace L2
open PySem PySem.Spec PyProof.Rows PySem.Calls
end L2
namespace L2
open PySem PySem.Spec PyProof.Rows PySem.Calls
section
variable {prog : Program} {w : World} {A : Around} {E : Value → Shared → Prop} {s : Shared} {r : Addr}
end
abbrev Exc (x : Str) (C : Addr) (mg : Str → Option Value) (base : Heap) : Prop := OwnCls x C [.type "ValueError", .type "Exception", .type "BaseException", .type "object"] "ValueError.__new__" mg base
theorem rd_try {C : Addr} {tb : St → XK → TS} {th : TS} {D : Ends} {σ : St} {H : Hp} (q : tb σ (fun _ c H' => c = some C ∧ th D σ H') D σ H) : tTry C tb th D σ H := q
theorem rd_at {σ : St} {H : Hp} {t : TE} {Q : VK} (q : t σ H Q) : tAt σ t σ H Q := ⟨rfl, q⟩
theorem pe_calE {X : Cx} {E : XK} {k : Nat} {x : Str} {sp : Sp} {p pos : Pos} {e : Expr} {es : List Expr} {t : TA} (c : CalE X.prog X.w X.K X.mg X.base k x sp) (hr : Room k X.A) (hg : Gl X x) (hx : Passes (CXE X.prog X.w X.base) X E) (ha : PA X (e :: es) t) (hdb : (x == ("__debug__" : Str)) = false := by decide)
    (he : starEach (e :: es) X.env = (false, eval e X.env) :: starEach es X.env := by rfl) (hpl : (backTo pos (starEach es X.env)).any (·.1) = false := by rfl) :
    PE X (.Call (.Name x p) (e :: es) [] pos) (tCall sp [] E t) := by
  obtain ⟨f, m, fd, ps, F, kp, b⟩ := c
  exact pe_call F hr hg m kp b .nil hx ha hdb he hpl
end L2
namespace L2
open PySem PySem.Spec PySem.Calls PyProof.Rows
theorem own_ofN {K : PySem.W.Frag} {b : Heap} {mg : Str → Option Value} {x : Str} {C : Addr} {bt : List Value} {nw : String} (X : K.In b) (G : b.Ns mainGlobals mg) (e : PySem.W.nsIn K mainGlobals x = some (some (.ref C))) (q : PySem.W.excIn K C bt nw = true) : OwnCls x C bt nw mg b := by
  have bd := PySem.W.mg_of X G e
  unfold PySem.W.excIn at q
  split at q
  · rename_i dd cd sl look
    split at q
    · rename_i C2 tl s0 s1 s2 s3 nid s5 emro esl
      rw [Bool.and_eq_true, Bool.and_eq_true, Bool.and_eq_true, Bool.and_eq_true, Bool.and_eq_true] at q
      obtain ⟨⟨⟨⟨⟨q1, q2⟩, q3⟩, q4⟩, q5⟩, q6⟩ := q
      have r1 : C2 = C := beq_iff_eq.mp q1
      have r2 : nid = nw := beq_iff_eq.mp q2
      have r6 := beq_iff_eq.mp q6
      subst r1 r2
      cases cd with
      | mk f1 f2 f3 f4 f5 f6 f7 f8 f9 f10 f11 =>
        dsimp only at emro q3 q5 r6
        subst emro
        have r3 : f11 = false := by cases f11 with | false => rfl | true => cases q3
        subst r3
        have es : sl = #[s0, s1, s2, s3, some (.builtin nid), s5] := by
          cases sl with
          | mk lst =>
            dsimp only at esl
            rw [esl]
        subst es
        exact { bound := bd, obj := ⟨tl, f4, f1, f5, f2, f6, f7, f8, f9, f10, dd, s0, s1, s2, s3, s5, _, X _ _ look, .of_isNs (PySem.W.isNs_of_in X q5), PySem.W.nsMap_none_of_in X q5 r6, PySem.W.tail_of_in X q4⟩ }
    · exact Bool.noConfusion q
  · exact Bool.noConfusion q
end L2
namespace L2
open PySem PySem.Spec PySem.Calls PyProof.Rows
section
variable {X : Cx} {pins : List (Addr × Obj)} {σ : St} {H : Hp} {s : Shared}
theorem goes_ok {M : Model} {A : Around} {E : Value → Shared → Prop} {i : Nat} {x : Str} {pos : Pos} {Q : Unit → Shared → Prop} (I : Inv X pins σ H s) (hN : X.N.Nodup) (hi : X.N[i]? = some x) (hk : X.env.scope.names.lookup x = some .local)
    (h : ∀ s', Inv X pins (σ.set i none) H s' → Q () s') : wpAny M A (do bindName X.env x .none; unbindBehindTheSuite X.env x pos) Q E s := by
  obtain ⟨m, hn, hl⟩ := id I.loc
  have hcls : (X.env.scope.kind == .class || (X.env.scope.kind == .module && X.env.locals != X.env.globals)) = false := by rw [I.ok.kind]; rfl
  have hiσ : i < σ.length := by rw [I.len]; exact (List.getElem?_eq_some_iff.mp hi).1
  have cne := I.cne
  refine wpAny_nameGoes_keeps hk hn hcls fun h' v hn' hs => ?_
  obtain ⟨oL, _, _, hoL, _⟩ := id hn
  have lt : ∀ b o, X.s₀.heap.get? b = some o → b ≠ X.env.locals := fun b o e => Nat.ne_of_lt (Nat.lt_of_lt_of_le (Heap.lt_size e) I.ok.above)
  refine h _ ⟨I.ok, I.os, I.bare, ⟨fun b o e n hb hx => (hs.2 b (lt b o e)).trans (I.base.keep b o e n hb hx), fun b o e n hb hx => ?_, I.base.free, fun b o e hx => ?_, I.base.tups, I.base.frzs, I.base.tbls⟩, ⟨_, hn', fun j y v' e1 e2 e3 => ?_⟩, fun y c e => ?_, I.free, I.freeC, fun p hp => ?_, fun b ob e => ?_, by simpa using I.len⟩
  · obtain ⟨sl, e1⟩ := I.base.slot b o e n hb hx
    exact ⟨sl, (hs.2 b (lt b o e)).trans e1⟩
  · obtain ⟨o', e1⟩ := I.base.there b o e hx
    exact ⟨o', (hs.2 b (lt b o e)).trans e1⟩
  · by_cases hj : j = i
    · subst hj
      rw [List.getElem?_set_self hiσ] at e2
      cases e2
    · rw [List.getElem?_set_ne (Ne.symm hj)] at e2
      obtain ⟨u', r', q⟩ := hl j y v' e1 e2 e3
      refine ⟨u', r', ?_⟩
      rcases q with ⟨k, e⟩ | ⟨k, c, e, z⟩
      · have ny : y ≠ x := fun e => hj (nodup_ix hN e1 (e ▸ hi))
        exact .inl ⟨k, by simp [ny, e]⟩
      · exact .inr ⟨k, c, e, z.sameBut hs (cne y c e)⟩
  · obtain ⟨w', z⟩ := I.cell y c e
    exact ⟨w', z.sameBut hs (cne y c e)⟩
  · obtain ⟨e, n, ne, nf, d⟩ := I.pin p hp
    exact ⟨(hs.2 p.1 ne).trans e, n, ne, nf, d⟩
  · refine (I.hok b ob e).stay (fun c w' hc q => (hs.2 c ?_).trans q) (fun _ q => q) fun _ _ q => q
    rintro rfl
    rcases hc with rfl | hc
    · rw [I.free] at e; cases e
    · rw [I.free] at hc; cases hc
structure ExcIs (oe : Obj) (C : Addr) : Prop where
  cls : oe.cls = .ref C
  dict : oe.dict = none
  data : ∃ vs, oe.data = .fields vs
end
structure ExcK (K : PySem.W.Frag) (C : Addr) : Prop where
  ga : PySem.W.findIn K (.ref C) "__getattribute__" = some (some (.builtin "BaseException.__getattribute__"))
  gt : PySem.W.findIn K (.ref C) "__getattr__" = some none
  cl : PySem.W.findIn K (.ref C) "__class__" = some (some (.builtin "object.__class__"))
  sp : PySem.W.specialIn K (.builtin "object.__class__") "__get__" = some (some (.builtin "getset_descriptor.__get__"))
  tk : PySem.W.takesIn K (.builtin "object.__class__") = some true
  mo : PySem.W.mroIn K C (.type "object") = some true
  be : PySem.W.subIn K (.ref C) (.type "BaseException") = some true
  ci : PySem.W.isClsIn K C = true
theorem ExcK.isCls {K : PySem.W.Frag} {C : Addr} (Z : ExcK K C) : (PySem.W.clsIn K C).isSome = true := Z.ci
theorem ExcK.find {K : PySem.W.Frag} {C : Addr} (Z : ExcK K C) : PySem.W.findObj K C none "__class__" = some (.bind (.builtin "getset_descriptor.__get__") (.builtin "object.__class__")) := by
  obtain ⟨cd, hc⟩ := Option.isSome_iff_exists.mp Z.isCls
  unfold PySem.W.findObj
  rw [hc, Option.bind_some, Z.cl, Option.bind_some]
  simp [Z.sp, Z.tk]
section
variable {prog : Program} {w : World} {A : Around} {E : Value → Shared → Prop} {K : PySem.W.Frag} {h : Heap} {g : Array GenState} {d : Drawn} {t : Nat} {os : OsState} {x C : Addr} {ox : Obj}
open PySem.W in
theorem exc_entry {tk : Tok} {Q : Fin → Shared → Prop} (X : K.In h) (Z : ExcK K C) (I : InstAt h x ox C none) (hq : Q (.done (.ret (.ref C))) ⟨h, g, d, t, os⟩) :
    wpAny (model prog w) A (Builtin.«object.__getattribute__» ⟨[.ref x, .str "__class__" tk], []⟩) Q E ⟨h, g, d, t, os⟩ := by
  have L0 := I.type (M := model prog w)
  have L1 := looks_find (M := model prog w) X I Z.find
  unfold Builtin.«object.__getattribute__»
  refine wpAny_bind (wpAny_pure (a := (Value.ref x, [Value.str "__class__" tk])) ?_)
  refine wpAny_bind (wpAny_pure (a := ("__class__" : Str)) ?_)
  refine wpAny_bind (L0.at (wpAny_bind (L1.at ?_)))
  show wpAny _ _ (holding [Value.builtin "object.__class__"] (call (.builtin "getset_descriptor.__get__") [.builtin "object.__class__", .ref x, .ref C]) >>= ret) _ _ _
  exact wpAny_bind (wpAny_holding (wpAny_call (class_get (s := ⟨h, g, d, t, os⟩) X I Z.mo (wpAny_pure hq))))
open PySem.W in
theorem exc_check {M : Model} {nameV : Value} {Q : Unit → Shared → Prop} (X : K.In h) (Z : ExcK K C) (I : InstAt h x ox C none) (hq : Q () ⟨h, g, d, t, os⟩) : wpAny M A (checkBuiltinCall "BaseException.__getattribute__" ⟨[.ref x, nameV], []⟩) Q E ⟨h, g, d, t, os⟩ := by
  have L0 := I.type (M := M)
  have L3 : Looks M h (isSubtype (.ref C) (.type "BaseException")) true := looks_subIn X Z.be
  have L4 : Looks M h (isInstance (.ref x) (.type "BaseException")) true := L0.andThen L3
  have kd : builtinKind "BaseException.__getattribute__" = some .slot := by decide +kernel
  have sp : splitId "BaseException.__getattribute__" = some ("BaseException", "__getattribute__") := by decide +kernel
  have ao := F.args_bexc_ga (.ref x) nameV
  simp only [checkBuiltinCall, kd, sp]
  refine wpAny_bind (L4.at ?_)
  repeat (first | assumption | wp_step)
open PySem.W in
theorem exc_class {Q : Option Value → Shared → Prop} (X : K.In h) (Z : ExcK K C) (I : InstAt h x ox C none) (hq : Q (some (.ref C)) ⟨h, g, d, t + 1, os⟩) :
    wpAny (model prog w) A (getAttr? (.ref x) "__class__") Q E ⟨h, g, d, t, os⟩ := by
  have L0 := I.type (M := model prog w)
  have L1 := looks_findIn (M := model prog w) X Z.ga
  have L2 := looks_findIn (M := model prog w) X Z.gt
  have nb : (Value.builtin "BaseException.__getattribute__" == Value.builtin "object.__getattribute__") = false := by decide +kernel
  unfold getAttr? getAttrBy? getAttrBy
  refine wpAny_bind (wpAny_mkText (wpAny_bind (wpAny_attempt (wpAny_holding (wpAny_bind (L0.at (wpAny_bind (L1.at ?_))))))))
  dsimp only
  rw [if_neg (by rw [nb, Bool.and_false]; exact Bool.false_ne_true)]
  unfold getAttrByItsOwn hookBefore callGetattribute
  rw [if_pos (show onTheHeap (Value.ref C) = true from rfl), if_neg (show ¬ (false && onTheHeap (Value.builtin "BaseException.__getattribute__")) = true from Bool.false_ne_true)]
  have f3 := F.excAttr_ValueError.ga.bind (.ref x)
  refine wpAny_bind (L2.at (wpAny_bind (wpAny_attempt (wpAny_holding ?_))))
  unfold boundAndCalled
  rw [f3]
  refine wpAny_bind (wpAny_pure (wpAny_call (codeAny_call_builtin F.excAttr_ValueError.ga.plain F.entry_bexc_ga (exc_check X Z I (exc_entry X Z I ?_)))))
  exact wpAny_pure (wpAny_pure hq)
end
theorem boot_VE : bootBuiltins "ValueError" = some (.type "ValueError") := by decide +kernel
section
variable {K : PySem.W.Frag} {x C : Addr}
open PySem.W in
theorem kitx_exc (Z : ExcK K C) : KitX K (.ref x) (.ref C) (fun h => ∃ ox, InstAt h x ox C none) where
  ty := fun _ _ _ p => p.elim fun _ I => I.type
  it := fun _ h X _ => by
    have c := Z.isCls
    unfold clsIn at c
    split at c
    · rename_i look
      intro A Q E s kp q
      unfold isType loadHead
      exact wpAny_bind (wpAny_loadPart (kp _ _ (X _ _ look)) (wpAny_pure q))
    · cases c
  ne := fun h tp dd its n sl X htp => by
    have c := Z.isCls
    refine Bool.eq_false_iff.mpr fun q => ?_
    have e := beq_iff_eq.mp q
    cases e
    unfold clsIn at c
    split at c
    · rename_i look
      have z := htp.symm.trans (X _ _ look)
      cases z
    · cases c
  ca := fun {_ _ _ _ _ s} X p k => by
    obtain ⟨ox, I⟩ := p
    obtain ⟨h, g, d, t, os⟩ := s
    exact exc_class X Z I k
end
def clsV : V → Value
  | .ref D => .ref D
  | .ty n => .type n
  | _ => .none
theorem clsV_of {v : V} {u : Value} (r : RelV v u) (h : clsV v ≠ .none) : u = clsV v := by
  cases v with
  | ref a => exact r
  | ty n => exact r
  | _ => exact absurd rfl h
structure AsOk (K : PySem.W.Frag) (mg : Str → Option Value) (C : Addr) (x : Str) (C2 : Addr) : Prop where
  bd : mg x = some (.ref C2)
  be : PySem.W.subIn K (.ref C2) (.type "BaseException") = some true
  ki : PySem.W.kitOne K (.ref C) (.ref C2) = some true
  ne : (Value.ref C == Value.ref C2) = false
theorem AsOk.exm {K : PySem.W.Frag} {mg : Str → Option Value} {C C2 : Addr} {x : Str} (o : AsOk K mg C x C2) : PySem.W.exmOne K (.ref C) (.ref C2) = some true := by
  have k := o.ki
  unfold PySem.W.kitOne at k
  rw [if_neg (by rw [o.ne]; exact Bool.false_ne_true)] at k
  unfold PySem.W.exmOne
  rw [if_pos (by rw [o.be]; rfl)]
  exact k
def endsAs (D : Ends) (i : Nat) : Ends := { D with nx := fun σ H => D.nx (σ.set i none) H, bk := fun σ H => D.bk (σ.set i none) H, ct := fun σ H => D.ct (σ.set i none) H }
end L2
namespace L2
open PySem PySem.Spec PyProof.Rows PySem.Calls
structure FlyV (base h : Heap) (e T : Addr) (cls v : Value) : Prop where
  x : ∃ oe vs oT ts, h.get? e = some oe ∧ oe.cls = cls ∧ oe.data = .fields vs ∧ vs[1]? = some (.ref T) ∧ h.get? T = some oT ∧ oT.data = .fields ts ∧ ts[3]? = some v
  nT : base.get? T = none
  ne : T ≠ e
  dn : ∀ o, h.get? e = some o → o.dict = none
theorem Fly.v {base h : Heap} {e T : Addr} {cls : Value} (f : Fly base h e T cls) : FlyV base h e T cls .none := ⟨f.x, f.nT, f.ne, f.dn⟩
theorem FlyV.f {base h : Heap} {e T : Addr} {cls : Value} (f : FlyV base h e T cls .none) : Fly base h e T cls := ⟨f.x, f.nT, f.ne, f.dn⟩
section
variable {M : Model} {A : Around} {E : Value → Shared → Prop} {s : Shared} {base : Heap} {env : Env} {outer : List Env} {L e T : Addr} {cls v : Value} {Q : Unit → Shared → Prop}
end
end L2
namespace L2
open PySem PySem.Spec PyProof.Rows PySem.Calls
section
variable {X : Cx} {own : List Str} {scope : Scope} {cl : List (Str × Addr)} {C : Addr} {s₀ : Shared} {H₀ : Hp} {ex : List Addr} {xe' : Value → Shared → Prop} {pins : List (Addr × Obj)} {σ : St} {H : Hp} {s : Shared}
end
end L2
namespace L2
open PySem PySem.Spec PyProof.Rows PySem.Calls
section
variable {prog : Program} {w : World} {A : Around} {R : Result → Shared → Prop} {it : Addr} {fp wr : List Addr} {n : Nat} {Pv : Nat → Value → Prop} {St : Nat → Heap → Prop} {val : Nat → Int} {dv : Value}
abbrev LeastAt (Pv : Nat → Value → Prop) (val : Nat → Int) (m : Nat) (u : Value) : Prop := ∃ i, i < m ∧ Pv i u ∧ ∀ i', i' < m → val i ≤ val i'
end
section
variable {prog : Program} {w : World} {A : Around} {E : Value → Shared → Prop} {s : Shared}
end
theorem strSub_len (x : Str) (i j : Nat) : (Builtin.Str.strSub x i j).length ≤ x.length := by
  have e : (Builtin.Str.strSub x i j).length = (Builtin.Str.strSub x i j).cps.toList.length := by simp [Str.length]
  have e2 : x.length = x.cps.toList.length := by simp [Str.length]
  rw [e, StrLaws.strSub_toList, e2, List.length_take, List.length_drop]
  omega
theorem split_len (x y : Str) : (Txt.split x y).length ≤ x.length + 2 := by
  unfold Txt.split
  split
  · exact Nat.le_add_left 1 _
  · split
    · exact Nat.le_add_left 1 _
    · unfold Builtin.Str.partsBetween
      have := StrLaws.occ_length_le x y 0 x.length (x.length + 1)
      simp only [List.length_map, List.length_zip, List.length_cons, List.length_append, List.length_nil]
      omega
theorem split_part {x y z : Str} (h : z ∈ Txt.split x y) : z.length ≤ x.length := by
  unfold Txt.split at h
  split at h
  · rw [List.mem_singleton.mp h]; exact Nat.le_refl _
  · split at h
    · rw [List.mem_singleton.mp h]; exact Nat.le_refl _
    · unfold Builtin.Str.partsBetween at h
      obtain ⟨⟨i, j⟩, _, rfl⟩ := List.mem_map.mp h
      exact strSub_len x i j
end L2
namespace L2
open PySem PySem.Spec PyProof.Rows PySem.Calls
def ExcO (a C : Addr) : HO := .ext fun h => ∃ oe, h.get? a = some oe ∧ ExcIs oe C
def CaughtX (X : Cx) (pins : List (Addr × Obj)) (σ : St) (E : XK) (e : Value) (s : Shared) : Prop := ∃ a T C H, e = .ref a ∧ Inv X pins σ H s ∧ Fly X.base s.heap a T (.ref C) ∧ E e (some C) H ∧ H a = none ∧ X.s₀.heap.get? a = none ∧ ∀ p ∈ X.pn ++ pins, p.1 ≠ a
def cxTryX (X : Cx) (pins : List (Addr × Obj)) (σ : St) (E : XK) : Cx :=
  { X with pn := X.pn ++ pins, xe := fun e s' => wpAny (model X.prog X.w) X.A (noteFrame e X.env) (fun _ s₂ => wpAny (model X.prog X.w) X.A (setFlight e none) (fun _ s₃ => CaughtX X pins σ E e s₃) (fun _ _ => False) s₂) (fun _ _ => False) s' }
section
variable {X : Cx} {pins pins' : List (Addr × Obj)} {σ σ' : St} {H : Hp} {s : Shared} {E : XK}
theorem Inv.toTryX (I : Inv X pins σ' H s) : Inv (cxTryX X pins σ E) [] σ' H s :=
  ⟨⟨I.ok.mod, I.ok.kind, I.ok.glob, I.ok.blt, I.ok.above, I.ok.inj, I.ok.has, I.ok.cab, I.ok.hd, I.ok.frames, I.ok.stk, I.ok.exf, I.ok.bs, I.ok.bsz, I.ok.noex, I.ok.exfs, I.ok.funs, I.ok.frf⟩, I.os, I.bare, I.base, I.loc, I.cell, I.free, I.freeC, fun p hp => I.pin p (by simpa [cxTryX] using hp), I.hok, I.len⟩
theorem Inv.ofTryX (I : Inv (cxTryX X pins σ E) pins' σ' H s) : Inv X pins σ' H s :=
  ⟨⟨I.ok.mod, I.ok.kind, I.ok.glob, I.ok.blt, I.ok.above, I.ok.inj, I.ok.has, I.ok.cab, I.ok.hd, I.ok.frames, I.ok.stk, I.ok.exf, I.ok.bs, I.ok.bsz, I.ok.noex, I.ok.exfs, I.ok.funs, I.ok.frf⟩, I.os, I.bare, I.base, I.loc, I.cell, I.free, I.freeC, fun p hp => I.pin p (List.mem_append_left _ hp), I.hok, I.len⟩
theorem SP.ofTryX {D : Ends} {f : Flow} {s' : Shared} (h : SP (cxTryX X pins σ E) pins' D f s') : SP X pins D f s' := by
  cases f with
  | next => obtain ⟨σ', H', I, q⟩ := h; exact ⟨σ', H', I.ofTryX, q⟩
  | brk => obtain ⟨σ', H', I, q⟩ := h; exact ⟨σ', H', I.ofTryX, q⟩
  | cont => obtain ⟨σ', H', I, q⟩ := h; exact ⟨σ', H', I.ofTryX, q⟩
  | ret u => obtain ⟨v, σ', H', I, r, q⟩ := h; exact ⟨v, σ', H', I.ofTryX, r, q⟩
theorem passTX {e : Value} {s' : Shared} (hst : X.stack = X.env :: X.outer) (hlf : X.env.frame = some X.env.locals) (hex : X.ex = []) (I : Inv (cxTryX X pins σ E) pins' σ H s) (h : CXE X.prog X.w X.base X.stack H s E e s') : (cxTryX X pins σ E).xe e s' := by
  have I0 := I.ofTryX
  obtain ⟨a, T, C, H', rfl, fly, nb, ha, hT, la, lT, os, bare, un, hok, q⟩ := h
  obtain ⟨hh, g, d, t, os'⟩ := s'
  obtain rfl : os' = s.os := os
  have J := I0.call (h' := hh) (g' := g) (d' := d) (t' := t) (ch := []) un hok bare (fun b z => absurd z (by simp))
  have fr := J.ok.frames
  have st := J.stack
  rw [hst] at fr st
  refine note_next (base := X.base) (L := X.env.locals) fr st hlf fly J.bk nb fun h' gn => ?_
  rw [← hst] at gn
  obtain ⟨U, O⟩ := gone_un un hok (fun b hb => J.stkFree b hb) gn ha la (fun b hb => by rw [List.mem_singleton.mp hb]; exact ⟨hT, lT⟩)
  obtain ⟨T2, f2, l2⟩ := gn.fly
  refine ⟨a, T2, C, H', rfl, Inv.call (s := s) (h' := h') (g' := g) (d' := d) (t' := t) (ch := []) I0 U O bare (fun b z => absurd z (by simp)), f2, q, ha, I0.none0 hex la, fun p hp z => ?_⟩
  have := (I0.pin p hp).1
  rw [z, la] at this
  cases this
theorem Inv.track {a C : Addr} {oe : Obj} (I : Inv X pins σ H s) (ho : s.heap.get? a = some oe) (hE : ExcIs oe C) (hH : H a = none) (h0 : X.s₀.heap.get? a = none) (hp : ∀ p ∈ X.pn ++ pins, p.1 ≠ a) (hl : a ≠ X.env.locals) : Inv X pins σ (upd H a (ExcO a C)) s := by
  have ne : ∀ b u, H b = some u → b ≠ a := fun b u e z => by rw [z, hH] at e; cases e
  refine ⟨I.ok, I.os, I.bare, ⟨I.base.keep, I.base.slot, fun b o e n hx => ?_, I.base.there, fun b xs e => ?_, fun b o u e => ?_, fun b ps e => ?_⟩, I.loc, I.cell, ?_, fun x c e => ?_, fun p hp' => ?_, fun b u e => ?_, I.len⟩
  · have : b ≠ a := fun z => by rw [z, h0] at e; cases e
    rw [upd_ne this]
    exact I.base.free b o e n hx
  · have q := I.base.tups b xs e
    rw [upd_ne (ne b _ q)]; exact q
  · have q := I.base.frzs b o u e
    rw [upd_ne (ne b _ q)]; exact q
  · obtain ⟨more, q⟩ := I.base.tbls b ps e
    exact ⟨more, by rw [upd_ne (ne b _ q)]; exact q⟩
  · rw [upd_ne (Ne.symm hl)]; exact I.free
  · have : c ≠ a := fun z => by
      obtain ⟨v, o, ho', hd'⟩ := I.cell x c e
      obtain ⟨vs, hd⟩ := hE.data
      rw [z, ho] at ho'
      cases ho'
      rw [hd] at hd'
      cases hd'
    rw [upd_ne this]
    exact I.freeC x c e
  · obtain ⟨e, n, ne', nf, d⟩ := I.pin p hp'
    exact ⟨e, by rw [upd_ne (hp p hp')]; exact n, ne', nf, d⟩
  · by_cases z : b = a
    · subst z
      rw [upd_same] at e
      cases e
      exact ⟨⟨oe, ho, hE⟩, ⟨oe, ho⟩, fun h1 h2 ⟨o, e1, e2⟩ k => ⟨o, k o e1, e2⟩⟩
    · rw [upd_ne z] at e
      exact (I.hok b u e).stay (fun c v hc q => q) (fun c q => by rw [upd_ne (ne c _ q)]; exact q) fun c xs q => by rw [upd_ne (ne c _ q)]; exact q
end
structure HandOk (K : PySem.W.Frag) (mg : Str → Option Value) (C : Addr) (x : Str) (C2 : Addr) : Prop where
  bd : mg x = some (.ref C2)
  be : PySem.W.subIn K (.ref C2) (.type "BaseException") = some true
  ci : PySem.W.isClsIn K C2 = true
  ty : PySem.W.typeIn K (.ref C2) = some (.type "type")
  su : PySem.W.subIn K (.ref C) (.ref C2) = some true
theorem HandOk.exm {K : PySem.W.Frag} {mg : Str → Option Value} {C C2 : Addr} {x : Str} (o : HandOk K mg C x C2) : PySem.W.exmOne K (.ref C) (.ref C2) = some true := by
  have c : (PySem.W.clsIn K C2).isSome = true := o.ci
  unfold PySem.W.exmOne
  rw [if_pos (by rw [o.be]; rfl)]
  unfold PySem.W.kitCls
  dsimp only
  rw [if_pos (by rw [c, o.ty]; rfl)]
  exact o.su
theorem pe_calX {X : Cx} {pins : List (Addr × Obj)} {σ : St} {E : XK} {k : Nat} {x : Str} {sp : Sp} {p pos : Pos} {e : Expr} {es : List Expr} {t : TA} (hst : X.stack = X.env :: X.outer) (hlf : X.env.frame = some X.env.locals) (hex : X.ex = []) (c : CalE X.prog X.w X.K X.mg X.base k x sp) (hr : Room k X.A) (hg : Gl X x)
    (ha : PA (cxTryX X pins σ E) (e :: es) t) (hdb : (x == ("__debug__" : Str)) = false := by decide)
    (he : starEach (e :: es) X.env = (false, eval e X.env) :: starEach es X.env := by rfl) (hpl : (backTo pos (starEach es X.env)).any (·.1) = false := by rfl) :
    PE (cxTryX X pins σ E) (.Call (.Name x p) (e :: es) [] pos) (tAt σ (tCall sp [] E t)) := by
  intro pins' s σ' H Q I h
  obtain ⟨es', h⟩ := h
  subst es'
  obtain ⟨f, m, fd, ps, F, kp, b⟩ := c
  refine wpAny_Call_Name_kw (ld_glob I hg m ?_ hdb)
  refine PySem.W.callWith_K (h₀ := X.base) I.ok.mod.kin kp (thn (ha pos pins' s _ H _ I h) fun us s1 ⟨vs, H1, I1, r, q⟩ => ⟨I1.kIn, ?_⟩) he hpl
  have q : sp (vs ++ []) H1 Q E := q
  rw [List.append_nil] at q
  have hl : us.length = ps.length := by rw [← r.length]; exact F.len _ _ _ _ q
  have bb := b s1 us I1.kIn (by rw [List.append_nil]; exact hl)
  rw [List.append_nil] at bb
  refine wpAny_call (codeAny_mono (F.run X.A X.stack s1 H1 ⟨us, []⟩ us vs Q E hr I1.env0 bb r q) fun r s' hq => ?_)
  cases r with
  | error e => exact passTX hst hlf hex I1 hq
  | ok fl =>
    cases fl with
    | ret u => exact I1.after hq
    | next => exact False.elim hq
    | brk => exact False.elim hq
    | cont => exact False.elim hq
def tTryX (C : Addr) (i : Nat) (tb : St → XK → TS) (th : TS) : TS := fun D σ H => tb σ (fun e c H' => c = some C ∧ ∀ a, e = .ref a → H' a = none → th (endsAs D i) (σ.set i (some (.ref a))) (upd H' a (ExcO a C))) D σ H
theorem rd_tryX {C : Addr} {i : Nat} {tb : St → XK → TS} {th : TS} {D : Ends} {σ : St} {H : Hp} (q : tb σ (fun e c H' => c = some C ∧ ∀ a, e = .ref a → H' a = none → th (endsAs D i) (σ.set i (some (.ref a))) (upd H' a (ExcO a C))) D σ H) : tTryX C i tb th D σ H := q
theorem ps_tryX {X : Cx} {x n : Str} {C C2 : Addr} {i : Nat} {np hp pos : Pos} {body suite : List Stmt} {b₀ : Stmt} {tb : St → XK → TS} {th : TS} (O : HandOk X.K X.mg C x C2) (hg : Gl X x) (hN : X.N.Nodup) (hi : X.N[i]? = some n) (hn : X.env.scope.names.lookup n = some .local)
    (hb : ∀ pins σ E, PSs (cxTryX X pins σ E) body (tb σ E)) (hs : ∀ e, PSs (cxHand X e) (b₀ :: suite) th) (hd : (x == ("__debug__" : Str)) = false := by decide) :
    PS X (.Try body [.ExceptHandler (some (.Name x np)) (some n) (b₀ :: suite) hp] [] [] pos) (tTryX C i tb th) := by
  intro pins s σ H D I h
  refine wpAny_Try_except (wpAny_mono (hb pins σ _ [] s σ H D I.toTryX h) (fun f s1 q => ?_) fun e s1 q => ?_)
  · have q := q.ofTryX
    cases f with
    | next => exact wpAny_execs_nil q
    | brk => exact q
    | cont => exact q
    | ret u => exact q
  · refine wpAny_mono q (fun _ s2 q2 => wpAny_mono q2 (fun _ s3 q3 => ?_) fun _ _ z => z.elim) fun _ _ z => z.elim
    obtain ⟨a, T, C', H', rfl, J, fly, ⟨eC, q4⟩, hHa, h0a, npin⟩ := q3
    obtain rfl : C' = C := Option.some.inj eC
    have q4 := q4 a rfl hHa
    refine wpAny_handleBy_cons (codeAny_handlers_test (ld_glob (X := cxHand X (.ref a)) J.toHand hg O.bd ?_ hd)) (by intro q; cases q)
    have dn := fly.dn
    obtain ⟨oe, vs, oT, ts, ae, ce, da, v1, aT, dT, t3⟩ := fly.x
    have hne : a ≠ T := Ne.symm fly.ne
    obtain ⟨hh, g, d, tk, os⟩ := s3
    have kin : X.K.In hh := J.kIn
    have LT : PySem.W.Looks (model X.prog X.w) hh (typeOf (.ref a)) (.ref C') := ce ▸ (PySem.W.Looks.ld ae).andThen .now
    refine (PySem.W.exm_one kin LT O.exm).at ?_
    refine codeAny_handlers_suite_as (wpAny_setFlight_none ae da v1 aT dT (Array.getElem?_eq_some_iff.mp t3).1 ?_)
    have J2 := J.kept (t' := tk) (h' := hh.update T (Obj.mapFields (·.setIfInBounds 3 .none))) fun b u hb => by
      by_cases z : b = T
      · subst z
        have ez : oT = u := Option.some.inj (aT.symm.trans hb)
        subst ez
        have e1 := Heap.get?_update_self (Obj.mapFields (·.setIfInBounds 3 Value.none)) aT (Obj.isFreed_of_fields (Obj.data_mapFields dT _))
        rw [e1, same_fields dT t3]
      · rw [Heap.get?_update_other _ _ (Ne.symm z)]
        exact hb
    have ae2 : (hh.update T (Obj.mapFields (·.setIfInBounds 3 .none))).get? a = some oe := by rw [Heap.get?_update_other _ _ (Ne.symm hne)]; exact ae
    have nl : a ≠ X.env.locals := fun z => by
      obtain ⟨m, ⟨o', es, ep, ho', hd', _⟩, _⟩ := J.loc
      rw [← z] at ho'
      have := Option.some.inj (ho'.symm.trans ae)
      subst this
      rw [hd'] at da
      cases da
    have J3 := J2.track ae2 ⟨ce, dn _ ae, vs, da⟩ hHa h0a npin nl
    refine store_ok (X := cxHand X (.ref a)) J3.toHand hN hi (.inl hn) (v := .ref a) rfl (fun s4 I4 => ?_) (.inr hn)
    refine wpAny_mono (hs (.ref a) pins _ _ _ (endsAs D i) I4 q4) (fun f s5 q5 => ?_) fun _ _ z => z.elim
    cases f with
    | next => obtain ⟨σ', H2, I5, q6⟩ := q5; exact goes_ok (I5.ofHand J.ok) hN hi hn fun s6 I6 => ⟨_, H2, I6, q6⟩
    | brk => obtain ⟨σ', H2, I5, q6⟩ := q5; exact goes_ok (I5.ofHand J.ok) hN hi hn fun s6 I6 => ⟨_, H2, I6, q6⟩
    | cont => obtain ⟨σ', H2, I5, q6⟩ := q5; exact goes_ok (I5.ofHand J.ok) hN hi hn fun s6 I6 => ⟨_, H2, I6, q6⟩
    | ret u => obtain ⟨v, σ', H2, I5, r, q6⟩ := q5; exact goes_ok (I5.ofHand J.ok) hN hi hn fun s6 I6 => ⟨v, _, H2, I6, r, q6⟩
theorem ps_tryB {X : Cx} {x : Str} {C C2 : Addr} {np hp pos : Pos} {body suite : List Stmt} {b₀ : Stmt} {tb : St → XK → TS} {th : TS} (O : HandOk X.K X.mg C x C2) (hg : Gl X x)
    (hb : ∀ pins σ E, PSs (cxTry X pins σ E) body (tb σ E)) (hs : ∀ e, PSs (cxHand X e) (b₀ :: suite) th) (hd : (x == ("__debug__" : Str)) = false := by decide) :
    PS X (.Try body [.ExceptHandler (some (.Name x np)) none (b₀ :: suite) hp] [] [] pos) (tTry C tb th) := by
  intro pins s σ H D I h
  refine wpAny_Try_except (wpAny_mono (hb pins σ _ [] s σ H D I.toTry h) (fun f s1 q => ?_) fun e s1 q => ?_)
  · have q := q.ofTry
    cases f with
    | next => exact wpAny_execs_nil q
    | brk => exact q
    | cont => exact q
    | ret u => exact q
  · refine wpAny_mono q (fun _ s2 q2 => wpAny_mono q2 (fun _ s3 q3 => ?_) fun _ _ z => z.elim) fun _ _ z => z.elim
    obtain ⟨a, T, C', H', rfl, J, fly, ⟨eC, q4⟩, _⟩ := q3
    obtain rfl : C' = C := Option.some.inj eC
    refine wpAny_handleBy_cons (codeAny_handlers_test (ld_glob (X := cxHand X (.ref a)) J.toHand hg O.bd ?_ hd)) (by intro q; cases q)
    obtain ⟨oe, vs, oT, ts, ae, ce, da, v1, aT, dT, t3⟩ := fly.x
    obtain ⟨hh, g, d, tk, os⟩ := s3
    have kin : X.K.In hh := J.kIn
    have LT : PySem.W.Looks (model X.prog X.w) hh (typeOf (.ref a)) (.ref C') := ce ▸ (PySem.W.Looks.ld ae).andThen .now
    refine (PySem.W.exm_one kin LT O.exm).at ?_
    refine codeAny_handlers_suite (wpAny_setFlight_none ae da v1 aT dT (Array.getElem?_eq_some_iff.mp t3).1 ?_)
    have J2 := J.kept (t' := tk) (h' := hh.update T (Obj.mapFields (·.setIfInBounds 3 .none))) fun b u hb => by
      by_cases z : b = T
      · subst z
        have ez : oT = u := Option.some.inj (aT.symm.trans hb)
        subst ez
        have e1 := Heap.get?_update_self (Obj.mapFields (·.setIfInBounds 3 Value.none)) aT (Obj.isFreed_of_fields (Obj.data_mapFields dT _))
        rw [e1, same_fields dT t3]
      · rw [Heap.get?_update_other _ _ (Ne.symm z)]
        exact hb
    exact wpAny_mono (hs (.ref a) pins _ σ H' D J2.toHand q4) (fun f s q => q.ofHand J.ok) fun _ _ z => z.elim
def rIsX (K : PySem.W.Frag) : RC := fun xs H Q => ∃ (a C : Addr) (v : V) (b : Bool), xs = [.ref a, v] ∧ H a = some (ExcO a C) ∧ ExcK K C ∧ clsV v ≠ .none ∧ PySem.W.kitOne K (.ref C) (clsV v) = some b ∧ Q (.bl b) H
theorem rd_isX {K : PySem.W.Frag} {a C : Addr} {v : V} {b : Bool} {H : Hp} {Q : VK} (h : H a = some (ExcO a C)) (Z : ExcK K C) (e : PySem.W.kitOne K (.ref C) (clsV v) = some b) (hv : clsV v ≠ .none) (q : Q (.bl b) H) : rIsX K [.ref a, v] H Q := ⟨a, C, v, b, rfl, h, Z, hv, e, q⟩
theorem cn_isX {X : Cx} : CallR X (.builtin "isinstance") (rIsX X.K) := by
  intro pins s σ H xs us Q I r h
  obtain ⟨a, C, v, b, rfl, hH, Z, hv, e, q⟩ := h
  obtain ⟨u, u', rfl, r1, r2⟩ := vals2 r
  cases r1
  have e2 := clsV_of r2 hv
  subst e2
  obtain ⟨⟨oe, ho, hE⟩, _, _⟩ := I.hok a _ hH
  obtain ⟨vs, hd⟩ := hE.data
  have IA : PySem.W.InstAt s.heap a oe C none := ⟨ho, hE.cls, by unfold PySem.W.notCls; rw [hd], by rw [hE.dict]; trivial⟩
  refine PySem.W.kia_one (kitx_exc (x := a) Z) I.kIn ⟨oe, IA⟩ e (by intro z; cases z) fun tk => ?_
  exact ⟨.bl b, H, I.kept (t' := tk) (h' := s.heap) fun _ _ z => z, rfl, q⟩
end L2
namespace L2
open PySem PySem.Builtin PySem.Builtin.Str PySem.StrLaws
theorem split_glueC {c : Nat} {y : List Nat} {ps : List (List Nat)} (hn : ps ≠ []) (hcut : ∀ j, ((glueL (c :: y) ps).drop j).take (c :: y).length = c :: y → j ∈ cutsAt (c :: y).length 0 ps) (hk : Builtin.Str.strKind (mkS (c :: y)) = 1) : Txt.split (mkS (glueL (c :: y) ps)) (mkS (c :: y)) = ps.map mkS := by
  have hyl : (mkS (c :: y)).length = (c :: y).length := by simp [mkS, Str.length]
  have hxl : (mkS (glueL (c :: y) ps)).length = (glueL (c :: y) ps).length := by simp [mkS, Str.length]
  have hxc : (mkS (glueL (c :: y) ps)).cps.toList = glueL (c :: y) ps := by simp [mkS]
  have hyc : (mkS (c :: y)).cps.toList = c :: y := by simp [mkS]
  have hocc : occurrences (mkS (glueL (c :: y) ps)) (mkS (c :: y)) 0 (mkS (glueL (c :: y) ps)).length ((mkS (glueL (c :: y) ps)).length + 1) = cutsAt (c :: y).length 0 ps := by
    rw [occ_eq, Nat.sub_zero]
    have hsub : ∀ j, (j + (mkS (c :: y)).length ≤ (mkS (glueL (c :: y) ps)).length ∧ subAt (mkS (glueL (c :: y) ps)) (mkS (c :: y)) j = true) ↔ j ∈ cutsAt (c :: y).length 0 ps := fun j => by
      rw [subAt_eq, hxc, hyc, hyl, hxl]
      constructor
      · rintro ⟨_, h2⟩
        exact hcut j (eq_of_beq h2)
      · intro h1
        obtain ⟨h2, h3⟩ := cut_sub (y := c :: y) ps 0 j h1
        rw [Nat.sub_zero] at h2 h3
        exact ⟨h3, by rw [h2]; exact beq_self_eq_true _⟩
    have hcl := (glue_len (y := c :: y) ps).1
    have hcm : (cutsAt (c :: y).length 0 ps).length ≤ (glueL (c :: y) ps).length := Nat.le_trans (Nat.le_mul_of_pos_right _ (by simp)) hcl
    have := occ_run (mkS (glueL (c :: y) ps)) (mkS (c :: y)) (mkS (glueL (c :: y) ps)).length ((mkS (glueL (c :: y) ps)).length + 1) (by rw [hyl]; simp) ((mkS (glueL (c :: y) ps)).length + 1) 0 #[] 0 (cutsAt (c :: y).length 0 ps) (fun j _ _ => hsub j) (by rw [hyl]; exact cuts_gap) (fun d hd => ⟨Nat.zero_le _, by have := ((hsub d).mpr hd).1; omega, Nat.zero_le _⟩) (by rw [hxl]; show 0 + (cutsAt (c :: y).length 0 ps).length < _; omega)
    rw [this]
    simp
  have hpb := parts_back (x := mkS (glueL (c :: y) ps)) (y := c :: y) ps 0 [] hn rfl (by rw [hxc]; rfl)
  have hone : cutsAt (c :: y).length 0 ps = [] → ps.map mkS = [mkS (glueL (c :: y) ps)] := fun z => by
    match ps, hn with
    | [p], _ => rfl
    | p :: q :: r, _ => cases z
  unfold Txt.split
  rw [hocc]
  split
  · rename_i h1
    rw [Bool.or_eq_true, decide_eq_true_eq, decide_eq_true_eq] at h1
    rcases h1 with h1 | h1
    · refine (hone ?_).symm
      have h2 := (glue_len (y := c :: y) ps).1
      cases e : cutsAt (c :: y).length 0 ps with
      | nil => rfl
      | cons a r =>
        rw [e, List.length_cons, Nat.add_mul] at h2
        rw [hyl, hxl] at h1
        omega
    · rw [hk] at h1
      unfold Builtin.Str.strKind at h1
      split at h1
      · omega
      · split at h1 <;> omega
  · split
    · rename_i h1 h2
      exact (hone (List.isEmpty_iff.mp h2)).symm
    · rw [partsBetween_eq, hyl]
      exact hpb

def Clean (p : List Nat) : Prop := ∀ j : Nat, ¬ (p[j]? = some 59 ∧ p[j + 1]? = some 32)
theorem cut2_of : ∀ (ps : List (List Nat)) (a i : Nat), (∀ p ∈ ps, Clean p) → a ≤ i → (glueL [59, 32] ps)[i - a]? = some 59 → (glueL [59, 32] ps)[i - a + 1]? = some 32 → i ∈ cutsAt 2 a ps
  | [], a, i, _, _, h1, _ => by simp [glueL] at h1
  | [p], a, i, h, _, h1, h2 => absurd ⟨h1, h2⟩ (h p (by simp) (i - a))
  | p :: q :: r, a, i, h, hi, h1, h2 => by
    have e : glueL [59, 32] (p :: q :: r) = p ++ ([59, 32] ++ glueL [59, 32] (q :: r)) := by
      show p ++ [59, 32] ++ glueL [59, 32] (q :: r) = _
      rw [List.append_assoc]
    rw [e] at h1 h2
    show i ∈ (a + p.length) :: cutsAt 2 (a + p.length + 2) (q :: r)
    by_cases c1 : i - a < p.length
    · rw [List.getElem?_append_left c1] at h1
      by_cases c2 : i - a + 1 < p.length
      · rw [List.getElem?_append_left c2] at h2
        exact absurd ⟨h1, h2⟩ (h p (by simp) (i - a))
      · rw [List.getElem?_append_right (by omega), show i - a + 1 - p.length = 0 by omega] at h2
        simp at h2
    · rw [List.getElem?_append_right (by omega)] at h1 h2
      by_cases c3 : i - a = p.length
      · exact List.mem_cons.mpr (.inl (by omega))
      · by_cases c4 : i - a = p.length + 1
        · rw [c4, show p.length + 1 - p.length = 1 by omega] at h1
          simp at h1
        · rw [List.getElem?_append_right (by show 2 ≤ _; omega)] at h1 h2
          refine List.mem_cons.mpr (.inr (cut2_of (q :: r) (a + p.length + 2) i (fun u hu => h u (by simp [List.mem_cons.mp hu])) (by omega) ?_ ?_))
          · rw [show i - (a + p.length + 2) = i - a - p.length - [59, 32].length by show _ = i - a - p.length - 2; omega]
            exact h1
          · rw [show i - (a + p.length + 2) + 1 = i - a + 1 - p.length - [59, 32].length by show _ = i - a + 1 - p.length - 2; omega]
            exact h2
theorem split_clean {ps : List (List Nat)} (hn : ps ≠ []) (hp : ∀ p ∈ ps, Clean p) : Txt.split (mkS (glueL [59, 32] ps)) (mkS [59, 32]) = ps.map mkS := by
  refine split_glueC hn (fun j e => ?_) (by decide +kernel)
  have h1 : (((glueL [59, 32] ps).drop j).take 2)[0]? = some 59 := by rw [show ((glueL [59, 32] ps).drop j).take 2 = [59, 32] from e]; rfl
  have h2 : (((glueL [59, 32] ps).drop j).take 2)[1]? = some 32 := by rw [show ((glueL [59, 32] ps).drop j).take 2 = [59, 32] from e]; rfl
  rw [List.getElem?_take, if_pos (by decide), List.getElem?_drop] at h1 h2
  exact cut2_of ps 0 j hp (Nat.zero_le _) (by simpa using h1) (by simpa using h2)
end L2
namespace L2
open PySem PySem.Spec PyProof.Rows PySem.Calls
def rInO (K : PySem.W.Frag) : R2 := fun x y H Q => x = .non ∧ ∃ p xs, y = .ref p ∧ SqL K H p xs ∧ (∀ v ∈ xs, v = .non ∨ ∃ t ys, v = .ref t ∧ SqT K H t ys) ∧ Q (.bl (xs.any fun v => decide (v = V.non))) H
theorem any_non {K : PySem.W.Frag} {H : Hp} : ∀ {xs : List V} {us : List Value}, Vals xs us → (∀ v ∈ xs, v = .non ∨ ∃ t ys, v = .ref t ∧ SqT K H t ys) → (us.any fun u => u == Value.none) = xs.any fun v => decide (v = V.non)
  | _, _, .nil, _ => rfl
  | x :: xs, u :: us, .cons r t, h => by
    rw [List.any_cons, List.any_cons, any_non t fun v hv => h v (by simp [hv])]
    rcases h x (by simp) with rfl | ⟨a, ys, rfl, _⟩
    · cases r
      rfl
    · cases r
      rfl
theorem op_inO {X : Cx} (hu : X.A.units + 64 < cLine) : OpR X (compareOp .In) (rInO X.K) := by
  intro pins s σ H x y v u Q I rx ry h
  obtain ⟨rfl, p, xs, rfl, hq, hx, q⟩ := h
  cases rx
  cases ry
  obtain ⟨its, r, pl, hz⟩ := I.list hq
  refine SeqAt.in_listAt (fun u => u == Value.none) pl.isList (fun w hw => ?_) ⟨.bl _, H, I, rfl, ?_⟩
  · obtain ⟨x, hm, rx⟩ := vals_memR r w (by simpa using hw)
    rcases hx x hm with rfl | ⟨t, ys, rfl, ht⟩
    · cases rx
      exact SeqAt.EqAt.same _
    · cases rx
      obtain ⟨its2, r2, pt, _⟩ := I.tuple ht
      exact SeqAt.EqAt.tuple_none pt (by have e : X.A.in1.units = X.A.units + 1 := rfl; omega)
  · have e : its.toArray.any (fun u => u == Value.none) = xs.any fun v => decide (v = V.non) := by
      rw [List.any_toArray]
      exact any_non r hx
    rw [e]
    exact q
theorem rd_inO {K : PySem.W.Frag} {H : Hp} {Q : VK} {p : Addr} {xs : List V} (h : SqL K H p xs) (hx : ∀ v ∈ xs, v = .non ∨ ∃ t ys, v = .ref t ∧ SqT K H t ys) (q : Q (.bl (xs.any fun v => decide (v = V.non))) H) : rInO K .non (.ref p) H Q := ⟨rfl, p, xs, rfl, h, hx, q⟩
theorem split_pos (x y : Str) : 1 ≤ (Txt.split x y).length := by
  unfold Txt.split
  split
  · exact Nat.le_refl _
  · split
    · exact Nat.le_refl _
    · unfold Builtin.Str.partsBetween
      simp
end L2
local macro_rules | `(tactic| walk_at "settle") => `(tactic| first
  | (simp only [L2.start, List.map_cons, List.map_nil, List.length_cons, List.length_nil, List.replicate, List.cons_append, List.nil_append, List.append_nil, List.set_cons_zero, List.set_cons_succ, Nat.reduceAdd, Nat.reduceSub]; done)
  | (simp only [L2.start, List.map_cons, List.map_nil, List.length_cons, List.length_nil, List.replicate, List.cons_append, List.nil_append, List.append_nil, List.set_cons_zero, List.set_cons_succ, Nat.reduceAdd, Nat.reduceSub]; rfl)
  | rfl
  | fail)
local macro_rules | `(tactic| walk_at "side") => `(tactic| first
  | exact ⟨by decide, by decide⟩
  | exact ⟨by decide, by decide, by decide⟩
  | (show (0:Int) < _; first | decide | omega)
  | (show (0:Int) ≤ _; first | decide | omega)
  | (show (0:Int) < _ ∧ _ < _; refine ⟨by omega, by omega⟩)
  | (show (_ ∧ _) ∨ _; refine .inl ⟨by omega, by omega⟩)
  | (show _ ∨ (_ ∧ _); refine .inr ⟨by omega, by omega⟩)
  | fail)
local macro_rules | `(tactic| walk_at "rd") => `(tactic| first
  | with_reducible refine L2.rd_seq ?_
  | with_reducible refine L2.rd_asg ?_
  | ((with_reducible refine' L2.rd_nameN ?e ?_); (case e => walk_at "settle"))
  | with_reducible refine L2.rd_C ?_
  | ((with_reducible refine' L2.rd_V ?e ?_); (case e => rfl))
  | with_reducible refine L2.rd_op ?_
  | with_reducible refine L2.rd_I0 ?_
  | ((with_reducible refine' L2.rd_I ?c ?_); (case c => walk_at "side"))
  | with_reducible refine L2.rd_eqI ?_
  | with_reducible refine L2.rd_eqS ?_
  | with_reducible refine L2.rd_neI ?_
  | with_reducible refine L2.rd_neS ?_
  | with_reducible refine L2.rd_eqB ?_
  | with_reducible refine L2.rd_neB ?_
  | with_reducible refine L2.rd_test ?_
  | with_reducible refine L2.rd_B ?_
  | with_reducible refine L2.rd_bl ?_
  | with_reducible refine L2.rd_ifS ?_
  | with_reducible refine L2.rd_if ?_
  | with_reducible refine L2.rd_iteD (fun _ => ?_) (fun _ => ?_)
  | with_reducible refine L2.rd_iteND (fun _ => ?_) (fun _ => ?_)
  | with_reducible refine L2.rd_iteNND (fun _ => ?_) (fun _ => ?_)
  | with_reducible refine L2.iteT ?_
  | with_reducible refine L2.iteF ?_
  | with_reducible refine L2.iteNT ?_
  | with_reducible refine L2.iteNF ?_
  | with_reducible refine L2.rd_ret ?_
  | with_reducible refine L2.rd_next ?_
  | with_reducible refine L2.rd_drop ?_
  | with_reducible refine L2.rd_and ?_
  | with_reducible refine L2.rd_or ?_
  | with_reducible refine L2.rd_not ?_
  | with_reducible refine L2.rd_andV ?_
  | with_reducible refine L2.rd_orV ?_
  | with_reducible refine L2.rd_notV ?_
  | with_reducible refine L2.rd_cons ?_
  | with_reducible refine L2.rd_nil ?_
  | with_reducible refine L2.rd_vals ?_
  | with_reducible refine L2.rd_call ?_
  | with_reducible refine L2.rd_CB ?_
  | with_reducible refine L2.rd_chain ?_
  | with_reducible refine L2.rd_un ?_
  | with_reducible refine L2.rd_U ?_
  | with_reducible refine L2.rd_tup ?_
  | with_reducible refine L2.rd_lst ?_
  | fail)
local macro_rules | `(tactic| walk_at "sql") => `(tactic| first
  | assumption
  | exact L2.sql_new
  | exact L2.sqt_new
  | exact L2.sql_of (by assumption)
  | exact L2.sqt_of (by assumption)
  | exact L2.TupK.sqt (by assumption) _
  | (refine L2.SqL.updN ?_ (by assumption); walk_at "sql")
  | (refine L2.SqT.updN ?_ (by assumption); walk_at "sql")
  | fail)
local macro_rules | `(tactic| walk_at "hp") => `(tactic| first
  | assumption
  | exact L2.upd_same
  | exact Eq.trans (L2.upd_ne (L2.ne_of_none L2.upd_same (by assumption))) L2.upd_same
  | fail)
local macro_rules | `(tactic| walk_at "rdl") => `(tactic| first
  | walk_at "rd"
  | ((with_reducible refine' L2.rd_ixL ?h ?e ?_); (case h => walk_at "sql"); (case e => rfl))
  | ((with_reducible refine' L2.rd_ixT ?h ?e ?_); (case h => walk_at "sql"); (case e => rfl))
  | with_reducible refine L2.rd_sl ?_
  | with_reducible refine L2.rd_noPart ?_
  | with_reducible refine L2.rd_part ?_
  | with_reducible refine L2.rd_ei ?_
  | ((with_reducible refine' L2.rd_slL ?h ?_); (case h => walk_at "sql"))
  | fail)
local macro_rules | `(tactic| walk_at "rda") => `(tactic| first
  | walk_at "rdl"
  | ((with_reducible refine' L2.rd_aug ?e ?_); (case e => rfl))
  | with_reducible refine L2.rd_ipI ?_
  | with_reducible refine L2.rd_max2 ?_
  | with_reducible refine L2.rd_min2 ?_
  | with_reducible refine L2.rd_abs ?_
  | ((with_reducible refine' L2.rd_isi ?e ?_); (case e => rfl))
  | ((with_reducible refine' L2.rd_isiS ?e ?_); (case e => rfl))
  | ((with_reducible refine' L2.rd_isiT ?h ?e ?_); (case h => walk_at "sql"); (case e => rfl))
  | ((with_reducible refine' L2.rd_isiL ?h ?e ?_); (case h => walk_at "sql"); (case e => rfl))
  | ((with_reducible refine' L2.rd_lenL ?h ?_); (case h => walk_at "sql"))
  | ((with_reducible refine' L2.rd_lenT ?h ?_); (case h => walk_at "sql"))
  | fail)
local macro_rules | `(tactic| walk_at "sz") => `(tactic| first
  | assumption
  | exact Nat.le_trans (by assumption) (by decide)
  | decide
  | fail)
local macro_rules | `(tactic| walk_at "rdt") => `(tactic| first
  | walk_at "rda"
  | with_reducible refine L2.rd_bm ?_
  | with_reducible refine L2.rd_bm0 ?_
  | with_reducible refine L2.rd_tyS ?_
  | with_reducible refine L2.rd_find ?_
  | with_reducible refine L2.rd_inS ?_
  | with_reducible refine L2.rd_notInS ?_
  | with_reducible refine L2.rd_sb ?_
  | with_reducible refine L2.rd_ord ?_
  | with_reducible refine L2.rd_isN0 ?_
  | with_reducible refine L2.rd_isNi ?_
  | with_reducible refine L2.rd_isNr ?_
  | with_reducible refine L2.rd_notN0 ?_
  | with_reducible refine L2.rd_notNi ?_
  | with_reducible refine L2.rd_notNr ?_
  | ((with_reducible refine' L2.rd_lenZ ?h ?_); (case h => walk_at "sz"))
  | ((with_reducible refine' L2.rd_slS ?h ?_); (case h => walk_at "sz"))
  | fail)
local macro_rules | `(tactic| walk_at "rdq") => `(tactic| first
  | ((with_reducible refine L2.rd_iteD (fun _ => ?_) (fun _ => ?_)) <;> (try (exfalso; omega)))
  | ((with_reducible refine L2.rd_iteND (fun _ => ?_) (fun _ => ?_)) <;> (try (exfalso; omega)))
  | ((with_reducible refine L2.rd_iteNND (fun _ => ?_) (fun _ => ?_)) <;> (try (exfalso; omega)))
  | walk_at "rdt"
  | fail)
local macro_rules | `(tactic| walk_at "rdj") => `(tactic| first
  | ((with_reducible refine' L2.rd_addJ ?h (fun _ _ => ?_)); (case h => omega))
  | ((with_reducible refine' L2.rd_slJ ?h (fun _ _ => ?_)); (case h => omega))
  | walk_at "rdq"
  | fail)
local macro_rules | `(tactic| walk_at "rdm") => `(tactic| first
  | walk_at "rdt"
  | ((with_reducible refine' L2.rd_listL ?h (fun _ _ => ?_)); (case h => walk_at "sql"))
  | ((with_reducible refine' L2.rd_listT ?h (fun _ _ => ?_)); (case h => walk_at "sql"))
  | with_reducible refine L2.rd_gsub ?_
  | fail)
local macro_rules | `(tactic| walk_at "rdk") => `(tactic| first
  | walk_at "rdm"
  | with_reducible refine L2.rd_fld ?_
  | with_reducible refine L2.rd_sfld ?_
  | with_reducible refine L2.rd_fldaug ?_
  | with_reducible refine L2.rd_rAdd ?_
  | with_reducible refine L2.rd_rSub ?_
  | with_reducible refine L2.rd_meth ?_
  | with_reducible refine L2.rd_make ?_
  | ((with_reducible refine' L2.rd_sum ?h ?_); (case h => walk_at "sql"))
  | with_reducible refine L2.rd_dget2 ?_
  | with_reducible refine L2.rd_dnewK (fun _ _ => ?_)
  | with_reducible refine L2.rd_din ?_
  | with_reducible refine L2.rd_dnotin ?_
  | with_reducible refine L2.rd_dget ?_
  | with_reducible refine L2.rd_dput ?_
  | with_reducible refine L2.rd_dpop1 ?_
  | with_reducible refine L2.rd_dpop2 ?_
  | with_reducible refine L2.rd_gcons ?_
  | with_reducible refine L2.rd_gnil ?_
  | ((with_reducible refine' L2.rd_gtup ?h ?e ?_); (case h => walk_at "sql"); (case e => rfl))
  | fail)
local macro_rules | `(tactic| walk_at "rdz") => `(tactic| first
  | ((with_reducible refine L2.rd_iteD (fun _ => ?_) (fun _ => ?_)) <;> (try (exfalso; omega)))
  | ((with_reducible refine L2.rd_iteND (fun _ => ?_) (fun _ => ?_)) <;> (try (exfalso; omega)))
  | ((with_reducible refine L2.rd_iteNND (fun _ => ?_) (fun _ => ?_)) <;> (try (exfalso; omega)))
  | walk_at "rdk"
  | fail)
local macro_rules | `(tactic| walk_at "rdx") => `(tactic| first
  | with_reducible refine L2.rd_iteD (fun h => absurd h (by decide)) (fun _ => ?_)
  | with_reducible refine L2.rd_iteD (fun _ => ?_) (fun h => absurd (by decide) h)
  | with_reducible refine L2.rd_iteND (fun h => absurd (by decide) h) (fun _ => ?_)
  | with_reducible refine L2.rd_iteND (fun _ => ?_) (fun h => absurd h (by decide))
  | walk_at "rdk"
  | fail)
namespace My
open PySem L2
def top (i : Nat) : Stmt := PySem.Challenge.pw_meterhouse_k09_texts_refused.main.body.getD i (.Pass ⟨0, 0, 0, 0⟩)
abbrev s_numbered : Stmt := top 18
abbrev s_is_number : Stmt := top 22
abbrev s_well_written : Stmt := top 23
abbrev s_number_of : Stmt := top 24
abbrev s_right_number : Stmt := top 29
abbrev s_right_row : Stmt := top 30
abbrev s_right : Stmt := top 31
abbrev s_read_row : Stmt := top 32
abbrev s_read : Stmt := top 33
abbrev s_Lcell_at : Stmt := top 35
abbrev s_Lwords : Stmt := top 36
abbrev s_Lrow_by : Stmt := top 37
abbrev s_Lpart : Stmt := top 38
abbrev s_Lwrong : Stmt := top 39
abbrev s_Lalike : Stmt := top 40
abbrev s_Lrows : Stmt := top 41
abbrev s_Lother : Stmt := top 42
abbrev s_Lrefused : Stmt := top 43
abbrev s_Lrefused_by_any : Stmt := top 44
abbrev s_law : Stmt := top 45
def WS : List Str := ["push", "drop", "copy", "swap", "add", "minus", "times", "over", "rest", "below", "same", "both", "either", "unlike", "up", "down", "jump", "jumpif", "load", "save", "me", "from", "sent", "word", "coin", "note", "call", "borrow", "look", "give", "fail"]
def NMS : List Str := ["push", "copy", "swap", "jump", "jumpif"]
def rightNum (w : Str) (n c : Int) : Bool := if w = "push" then decide (0 ≤ n) && decide (n < 18446744073709551616) else if w = "copy" then decide (0 ≤ n) && decide (n ≤ 15) else if w = "swap" then decide (1 ≤ n) && decide (n ≤ 15) else decide (0 ≤ n) && decide (n ≤ c)
def rightRow (c : Int) (r : Row) : Bool := inS r.1 WS && (if inS r.1 NMS = true then (match r.2 with | none => false | some n => rightNum r.1 n c) else r.2.isNone)
def rightAll (rs : List Row) : Bool := decide (rs.length ≤ 60) && rs.all (rightRow rs.length)
def spNumbered : Sp := fun vs H Q _ => ∃ x, vs = [.str x] ∧ Q (.bl (inS x NMS)) H
def spIsNum : Sp := fun vs H Q _ => ∃ i, vs = [.int i] ∧ Q (.bl (decide (0 ≤ i) && decide (i < 18446744073709551616))) H
def spRightNum : Sp := fun vs H Q _ => ∃ (w : Str) (n c : Int), vs = [.str w, .int n, .int c] ∧ Q (.bl (rightNum w n c)) H
def spRightRow (K : PySem.W.Frag) : Sp := fun vs H Q _ => ∃ (v : V) (r : Row) (c : Int), vs = [v, .int c] ∧ RowAt K H r v ∧ Q (.bl (rightRow c r)) H
def spRight (K : PySem.W.Frag) : Sp := fun vs H Q _ => ∃ (l : Addr) (xs : List V) (rs : List Row), vs = [.ref l] ∧ SqL K H l xs ∧ RowsAt K H rs xs ∧ xs.length ≤ 1000 ∧ ∀ H', Same H H' → Q (.bl (rightAll rs)) H'
theorem rd_notInT {K : PySem.W.Frag} {H : Hp} {Q : VK} {p : Addr} {x : Str} {xs : List Str} (h : SqT K H p (xs.map V.str)) (q : Q (.bl (!inS x xs)) H) : rIn K true (.str x) (.ref p) H Q := by
  refine ⟨p, _, rfl, .inr h, rfl, ?_, ?_⟩
  · rw [List.all_map]
    exact List.all_eq_true.mpr fun _ _ => rfl
  · rw [if_pos rfl, inV_str]
    exact q

section
variable {P : Program} {w : World} {K : PySem.W.Frag} {mg : Str → Option Value} {base : Heap}
theorem sc_numbered : FnScope ["word"] ["word"] (defScope s_numbered) := ⟨rfl, rfl, rfl, by decide +kernel, rfl, by decide +kernel, by decide +kernel⟩
theorem ok_numbered  {aN : Addr} (tN : TupK K aN (NMS.map V.str))  (D : DefAt K mg "numbered" s_numbered) (g_NUMBERED : GlobAt mg "NUMBERED" (.ref aN)) : Cal P w K mg base 1 "numbered" spNumbered := by
  refine cal_of (N := ["word"]) (ps := ["word"]) D sc_numbered (fun vs H Q E h => ?_) (fun _ _ _ _ _ _ us hl => match us, hl with | [_], _ => rfl) (fun f cdv A outer s H vs Q E hr h => ?_)
  · obtain ⟨x, rfl, _⟩ := h; rfl
  · obtain ⟨x, rfl, k⟩ := h
    refine ⟨_, (pss_one (ps_ret (pe_cmpR op_in_seq (pv 0) (pe_glA rfl g_NUMBERED) rfl))), ?_⟩
    try simp only [nox_K, nox_P, nox_w, nox_mg, nox_base, cxOf_K, cxOf_P, cxOf_w, cxOf_mg, cxOf_base]
    repeat walk_at "rd"
    exact rd_inT (tN.sqt H) k
theorem sc_is_number : FnScope ["whole"] ["whole"] (defScope s_is_number) := ⟨rfl, rfl, rfl, by decide +kernel, rfl, by decide +kernel, by decide +kernel⟩
theorem ok_is_number    (D : DefAt K mg "is_number" s_is_number) (g_WIDE : GlobAt mg "WIDE" (.int 18446744073709551616)) : Cal P w K mg base 1 "is_number" spIsNum := by
  refine cal_of (N := ["whole"]) (ps := ["whole"]) D sc_is_number (fun vs H Q E h => ?_) (fun _ _ _ _ _ _ us hl => match us, hl with | [_], _ => rfl) (fun f cdv A outer s H vs Q E hr h => ?_)
  · obtain ⟨i, rfl, _⟩ := h; rfl
  · obtain ⟨i, rfl, k⟩ := h
    refine ⟨_, (pss_one (ps_ret (pe_chain op_le op_lt pe_int (pv 0) (pe_glA rfl g_WIDE)))), ?_⟩
    try simp only [nox_K, nox_P, nox_w, nox_mg, nox_base, cxOf_K, cxOf_P, cxOf_w, cxOf_mg, cxOf_base]
    repeat' walk_at "rdt"
    · rename_i h0
      exact rd_fin (by rw [decide_eq_true h0, Bool.true_and]) k
    · rename_i h0
      exact rd_fin (by rw [decide_eq_false h0, Bool.false_and]) k
theorem sc_right_number : FnScope ["word", "whole", "count"] ["word", "whole", "count"] (defScope s_right_number) := ⟨rfl, rfl, rfl, by decide +kernel, rfl, by decide +kernel, by decide +kernel⟩
theorem ok_right_number    (D : DefAt K mg "right_number" s_right_number) (c_is_number : Cal P w K mg base 1 "is_number" spIsNum) (g_DEEPEST : GlobAt mg "DEEPEST" (.int 15)) : Cal P w K mg base 2 "right_number" spRightNum := by
  refine cal_of (N := ["word", "whole", "count"]) (ps := ["word", "whole", "count"]) D sc_right_number (fun vs H Q E h => ?_) (fun _ _ _ _ _ _ us hl => match us, hl with | [_, _, _], _ => rfl) (fun f cdv A outer s H vs Q E hr h => ?_)
  · obtain ⟨w, n, c, rfl, _⟩ := h; rfl
  · obtain ⟨wd, n, c, rfl, k⟩ := h
    refine ⟨_, (pss_cons (ps_if (pt_cmpR op_eq (pv 0) pe_str (nomark _)) (pss_one (ps_ret (pe_cal c_is_number (hr.mono (by decide)) rfl (pa_cons (pv 1) pa_nil)))) pss_nil)
      (pss_cons (ps_if (pt_cmpR op_eq (pv 0) pe_str (nomark _)) (pss_one (ps_ret (pe_chain op_le op_le pe_int (pv 1) (pe_glA rfl g_DEEPEST)))) pss_nil)
      (pss_cons (ps_if (pt_cmpR op_eq (pv 0) pe_str (nomark _)) (pss_one (ps_ret (pe_chain op_le op_le pe_int (pv 1) (pe_glA rfl g_DEEPEST)))) pss_nil)
      (pss_one (ps_ret (pe_chain op_le op_le pe_int (pv 1) (pv 2))))))), ?_⟩
    try simp only [nox_K, nox_P, nox_w, nox_mg, nox_base, cxOf_K, cxOf_P, cxOf_w, cxOf_mg, cxOf_base]
    unfold rightNum at k
    repeat' walk_at "rdt"
    · rename_i h1
      rw [if_pos h1] at k
      exact ⟨n, rfl, k⟩
    · rename_i h1 h2 h3
      rw [if_neg h1, if_pos h2, decide_eq_true h3, Bool.true_and] at k
      exact k
    · rename_i h1 h2 h3
      rw [if_neg h1, if_pos h2, decide_eq_false h3, Bool.false_and] at k
      exact k
    · rename_i h1 h2 h3 h4
      rw [if_neg h1, if_neg h2, if_pos h3, decide_eq_true h4, Bool.true_and] at k
      exact k
    · rename_i h1 h2 h3 h4
      rw [if_neg h1, if_neg h2, if_pos h3, decide_eq_false h4, Bool.false_and] at k
      exact k
    · rename_i h1 h2 h3 h4
      rw [if_neg h1, if_neg h2, if_neg h3, decide_eq_true h4, Bool.true_and] at k
      exact k
    · rename_i h1 h2 h3 h4
      rw [if_neg h1, if_neg h2, if_neg h3, decide_eq_false h4, Bool.false_and] at k
      exact k
theorem sc_right_row : FnScope ["row", "count"] ["row", "count"] (defScope s_right_row) := ⟨rfl, rfl, rfl, by decide +kernel, rfl, by decide +kernel, by decide +kernel⟩
theorem ok_right_row  {aW : Addr} (tW : TupK K aW (WS.map V.str))  (D : DefAt K mg "right_row" s_right_row) (c_numbered : Cal P w K mg base 1 "numbered" spNumbered) (c_right_number : Cal P w K mg base 2 "right_number" spRightNum) (n_len : mg "len" = none) (g_WORDS : GlobAt mg "WORDS" (.ref aW)) : Cal P w K mg base 3 "right_row" (spRightRow K) := by
  refine cal_of (N := ["row", "count"]) (ps := ["row", "count"]) D sc_right_row (fun vs H Q E h => ?_) (fun _ _ _ _ _ _ us hl => match us, hl with | [_, _], _ => rfl) (fun f cdv A outer s H vs Q E hr h => ?_)
  · obtain ⟨v, r, c, rfl, _⟩ := h; rfl
  · obtain ⟨v, r, c, rfl, ⟨t, rfl, hT⟩, k⟩ := h
    refine ⟨_, (pss_cons (ps_if (PW.pt (pw_or (pt_cmpR op_eq (pe_callB cn_len rfl n_len PySem.boot_len (pa_cons (pv 0) pa_nil)) pe_int (nomark _)) (pw_or1 (pt_cmpR op_notIn_seq (pe_ix ix_tup (pv 0) pe_int (fun _ _ => rfl)) (pe_glA rfl g_WORDS) rfl)))) (pss_one (ps_ret pe_bl)) pss_nil)
      (pss_cons (ps_if (pt_not (pt_val (pe_cal c_numbered (hr.mono (by decide)) rfl (pa_cons (pe_ix ix_tup (pv 0) pe_int (fun _ _ => rfl)) pa_nil)))) (pss_one (ps_ret (pe_cmpR op_eq (pe_callB cn_len rfl n_len PySem.boot_len (pa_cons (pv 0) pa_nil)) pe_int (nomark _)))) pss_nil)
      (pss_one (ps_ret (pe_and (pe_cmpR op_eq (pe_callB cn_len rfl n_len PySem.boot_len (pa_cons (pv 0) pa_nil)) pe_int (nomark _)) (pe_one (pe_cal c_right_number (hr.mono (by decide)) rfl (pa_cons (pe_ix ix_tup (pv 0) pe_int (fun _ _ => rfl)) (pa_cons (pe_ix ix_tup (pv 0) pe_int (fun _ _ => rfl)) (pa_cons (pv 1) pa_nil)))))))))), ?_⟩
    try simp only [nox_K, nox_P, nox_w, nox_mg, nox_base, cxOf_K, cxOf_P, cxOf_w, cxOf_mg, cxOf_base]
    obtain ⟨wd, o⟩ := r
    unfold rightRow at k
    dsimp only at k
    cases o with
    | none =>
      have hT : SqT K H t [.str wd] := hT
      repeat' walk_at "rdt"
      · rename_i h0
        exact absurd h0 (by show ¬ ((1 : Int) = 0); decide)
      refine rd_notInT (tW.sqt H) ?_
      cases hW : inS wd WS with
      | false =>
        rw [hW, Bool.false_and] at k
        repeat walk_at "rdt"
        exact k
      | true =>
        rw [hW, Bool.true_and] at k
        repeat walk_at "rdt"
        refine ⟨wd, rfl, ?_⟩
        cases hN : inS wd NMS with
        | false =>
          rw [hN, if_neg (by decide)] at k
          repeat walk_at "rdt"
          exact k
        | true =>
          rw [hN, if_pos rfl] at k
          repeat' walk_at "rdt"
          · rename_i h0
            exact absurd h0 (by show ¬ ((1 : Int) = 2); decide)
          · exact k
    | some n =>
      have hT : SqT K H t [.str wd, .int n] := hT
      repeat' walk_at "rdt"
      · rename_i h0
        exact absurd h0 (by show ¬ ((2 : Int) = 0); decide)
      refine rd_notInT (tW.sqt H) ?_
      cases hW : inS wd WS with
      | false =>
        rw [hW, Bool.false_and] at k
        repeat walk_at "rdt"
        exact k
      | true =>
        rw [hW, Bool.true_and] at k
        repeat walk_at "rdt"
        refine ⟨wd, rfl, ?_⟩
        cases hN : inS wd NMS with
        | false =>
          rw [hN, if_neg (by decide)] at k
          repeat walk_at "rdt"
          exact k
        | true =>
          rw [hN, if_pos rfl] at k
          repeat' walk_at "rdt"
          · exact ⟨wd, n, c, rfl, k⟩
          · rename_i h0
            exact absurd (show ((2 : Int) = 2) from rfl) h0
theorem sc_right : FnScope ["rows"] ["rows"] (defScope s_right) := ⟨rfl, rfl, rfl, by decide +kernel, rfl, by decide +kernel, by decide +kernel⟩
theorem ok_right    (D : DefAt K mg "right" s_right) (c_right_row : Cal P w K mg base 3 "right_row" (spRightRow K)) (n_all : mg "all" = none) (n_len : mg "len" = none) (g_MOST_ROWS : GlobAt mg "MOST_ROWS" (.int 60)) : Cal P w K mg base 4 "right" (spRight K) := by
  refine cal_of (N := ["rows"]) (ps := ["rows"]) D sc_right (fun vs H Q E h => ?_) (fun _ _ _ _ _ _ us hl => match us, hl with | [_], _ => rfl) (fun f cdv A outer s H vs Q E hr h => ?_)
  · obtain ⟨l, xs, rs, rfl, _⟩ := h; rfl
  · obtain ⟨l, xs, rs, rfl, hl, hR, hz, k⟩ := h
    refine ⟨_, (pss_cons (ps_if (pt_cmpR op_gt (pe_callB cn_len rfl n_len PySem.boot_len (pa_cons (pv 0) pa_nil)) (pe_glA rfl g_MOST_ROWS) (nomark _)) (pss_one (ps_ret pe_bl)) pss_nil)
      (pss_one (ps_ret (pe_callB (cn_all rfl) rfl n_all PyProof.Rows.boot_all (pa_cons (pe_comp ["row"] rfl (show CompScope (defScope s_right) ["rows"] ["row"] _ from ⟨rfl, by decide +kernel, by decide +kernel, by decide +kernel, by decide +kernel, by decide +kernel⟩) (pi_list (pv 0)) (fun _ _ _ _ _ => (pg_name (i := 0) (show (["row", "rows"] : List Str).Nodup by decide +kernel) rfl (Or.inl rfl) (.inr rfl))) (fun _ _ _ _ _ => pif_nil) (fun _ _ _ _ _ => (pe_cal c_right_row (hr.mono (by decide)) rfl (pa_cons (pv 0) (pa_cons (pe_callB (show CallR _ _ (rLenS K) from cn_len) rfl n_len PySem.boot_len (pa_cons (pv 1) pa_nil)) pa_nil))))) pa_nil))))), ?_⟩
    try simp only [nox_K, nox_P, nox_w, nox_mg, nox_base, cxOf_K, cxOf_P, cxOf_w, cxOf_mg, cxOf_base]
    have hrl := hR.1
    repeat' walk_at "rdt"
    · rename_i h0
      refine rd_fin ?_ (k H (Same.refl _))
      unfold rightAll
      rw [decide_eq_false (by omega), Bool.false_and]
    · rename_i h0
      refine rd_comp (rd_iList ?_)
      repeat walk_at "rdt"
      refine ⟨l, rfl, ⟨_, hl⟩, fun p hp => ?_⟩
      refine comp_map (ys := (rs.map (rightRow rs.length)).map V.bl) hl hp (by rw [List.length_map, List.length_map, hrl]) (Nat.le_trans hz (by decide)) ?_ ?_
      · intro i x y H' Q' hx hy sm q'
        rw [List.getElem?_map, List.getElem?_map] at hy
        obtain ⟨b, hb, rfl⟩ := Option.map_eq_some_iff.mp hy
        obtain ⟨r, hr1, rfl⟩ := Option.map_eq_some_iff.mp hb
        have hl' := sm.seq hl
        repeat walk_at "rdt"
        exact ⟨x, r, xs.length, rfl, (hR.2 i r x hr1 hx).keep sm.imm, by rw [← hrl]; exact q'⟩
      · repeat walk_at "rdt"
        refine rd_all sql_new ?_
        refine rd_fin ?_ (k _ (Same.new hp))
        unfold rightAll
        rw [decide_eq_true (by omega), Bool.true_and, List.all_map]
        rfl

end
end My

namespace My
open PySem L2

def readN (ds : List Nat) : Option Nat :=
  if ds.length = 0 ∨ 20 < ds.length then none else if ds.all isDig = true then (if 18446744073709551616 ≤ dval ds ∨ (ds[0]? = some 48 ∧ 1 < ds.length) then none else some (dval ds)) else none
def wellN (ds : List Nat) : Bool := decide (1 ≤ ds.length) && decide (ds.length ≤ 20) && !(decide (ds[0]? = some 48) && decide (1 < ds.length)) && ds.all isDig
theorem readN_well {ds : List Nat} (h : wellN ds = true) : readN ds = if 18446744073709551616 ≤ dval ds then none else some (dval ds) := by
  unfold wellN at h
  simp only [Bool.and_eq_true, Bool.not_eq_true', decide_eq_true_eq, Bool.and_eq_false_iff, decide_eq_false_iff_not] at h
  obtain ⟨⟨⟨h1, h2⟩, h3⟩, h4⟩ := h
  unfold readN
  rw [if_neg (by omega), if_pos h4]
  by_cases hw : 18446744073709551616 ≤ dval ds
  · rw [if_pos (.inl hw), if_pos hw]
  · rw [if_neg hw, if_neg]
    rintro (z | z)
    · exact hw z
    · exact h3.elim (fun q => q z.1) (fun q => q z.2)
theorem readN_ill {ds : List Nat} (h : wellN ds = false) : readN ds = none := by
  unfold readN
  split
  · rfl
  rename_i h1
  split
  · rename_i h2
    split
    · rfl
    · rename_i h3
      exfalso
      unfold wellN at h
      rw [h2, decide_eq_true (by omega), decide_eq_true (by omega)] at h
      simp only [Bool.and_true, Bool.true_and, Bool.not_eq_false', Bool.and_eq_true, decide_eq_true_eq] at h
      exact h3 (.inr h)
  · rfl
theorem well_no {ds : List Nat} (h : ds.length = 0 ∨ 20 < ds.length) : wellN ds = false := by
  unfold wellN
  rcases h with h | h
  · rw [decide_eq_false (by omega)]; rfl
  · rw [decide_eq_false (p := ds.length ≤ 20) (by omega), Bool.and_false]; rfl
theorem well_nought {ds : List Nat} (h : ds[0]? = some 48) (h1 : 1 < ds.length) : wellN ds = false := by
  unfold wellN
  rw [decide_eq_true h, decide_eq_true h1]
  simp
theorem well_yes {ds : List Nat} (h1 : 1 ≤ ds.length) (h2 : ds.length ≤ 20) (h3 : ds[0]? ≠ some 48 ∨ ds.length ≤ 1) : wellN ds = ds.all isDig := by
  unfold wellN
  rw [decide_eq_true h1, decide_eq_true h2]
  have : (decide (ds[0]? = some 48) && decide (1 < ds.length)) = false := by
    rcases h3 with h | h
    · rw [decide_eq_false h]; rfl
    · rw [decide_eq_false (p := 1 < ds.length) (by omega), Bool.and_false]
  rw [this]
  simp
def spWell : Sp := fun vs H Q _ => ∃ z, vs = [.str z] ∧ z.length ≤ sizeLine ∧ ∀ H', Same H H' → Q (.bl (wellN z.cps.toList)) H'
def spNumOf : Sp := fun vs H Q _ => ∃ z, vs = [.str z] ∧ z.length ≤ sizeLine ∧ ∀ H', Same H H' → Q (optV (readN z.cps.toList)) H'
theorem str_head {z : Str} {c : Nat} (e : z.cps.toList[0]? = some c) : (⟨#[c]⟩ : Str) = Str.ofString "0" ↔ z.cps.toList[0]? = some 48 := by
  rw [e]
  constructor
  · intro h
    have : #[c] = #[48] := congrArg Str.cps h
    simp at this
    rw [this]
  · intro h
    cases h
    rfl
theorem str_zero {z : Str} (h : z.cps.toList[0]? = some 48) : z = Str.ofString "0" ↔ z.length = 1 := by
  constructor
  · rintro rfl; rfl
  · intro hl
    have hl2 : z.cps.toList.length = 1 := by rw [len_cps]; exact hl
    cases e : z.cps.toList with
    | nil => rw [e] at hl2; cases hl2
    | cons a r =>
      rw [e] at h hl2
      cases h
      cases r with
      | nil =>
        obtain ⟨cps⟩ := z
        have : cps = #[48] := by
          apply Array.ext'
          exact e
        rw [this]
        rfl
      | cons b r => simp at hl2
theorem all_signs (z : Str) : ((z.cps.toList.map isDig).all id) = z.cps.toList.all isDig := by
  rw [List.all_map]
  rfl

section
variable {P : Program} {w : World} {K : PySem.W.Frag} {mg : Str → Option Value} {base : Heap}
theorem sc_well_written : FnScope ["text"] ["text"] (defScope s_well_written) := ⟨rfl, rfl, rfl, by decide +kernel, rfl, by decide +kernel, by decide +kernel⟩
theorem ok_well_written    (D : DefAt K mg "well_written" s_well_written) (n_all : mg "all" = none) (n_len : mg "len" = none) (g_MOST_FIGURES : GlobAt mg "MOST_FIGURES" (.int 20)) (g_FIGURES : GlobAt mg "FIGURES" (.str "0123456789")) : Cal P w K mg base 1 "well_written" spWell := by
  refine cal_of (N := ["text"]) (ps := ["text"]) D sc_well_written (fun vs H Q E h => ?_) (fun _ _ _ _ _ _ us hl => match us, hl with | [_], _ => rfl) (fun f cdv A outer s H vs Q E hr h => ?_)
  · obtain ⟨z, rfl, _⟩ := h; rfl
  · obtain ⟨z, rfl, hz, k⟩ := h
    refine ⟨_, (pss_cons (ps_if (pt_not (pt_chain op_le op_le pe_int (pe_callB cn_lenZ rfl n_len PySem.boot_len (pa_cons (pv 0) pa_nil)) (pe_glA rfl g_MOST_FIGURES))) (pss_one (ps_ret pe_bl)) pss_nil)
      (pss_cons (ps_if (PW.pt (pw_and (pt_cmpR op_eq (pe_ix ix_str (pv 0) pe_int (fun _ _ => rfl)) pe_str (nomark _)) (pw_and1 (pt_cmpR op_ne (pv 0) pe_str (nomark _))))) (pss_one (ps_ret pe_bl)) pss_nil)
      (pss_one (ps_ret (pe_callB (cn_all rfl) rfl n_all PyProof.Rows.boot_all (pa_cons (pe_comp ["sign"] rfl (show CompScope (defScope s_well_written) ["text"] ["sign"] _ from ⟨rfl, by decide +kernel, by decide +kernel, by decide +kernel, by decide +kernel, by decide +kernel⟩) (pi_str (pv 0)) (fun _ _ _ _ _ => (pg_name (i := 0) (show (["sign", "text"] : List Str).Nodup by decide +kernel) rfl (Or.inl rfl) (.inr rfl))) (fun _ _ _ _ _ => pif_nil) (fun _ _ _ _ _ => (pe_cmpR op_inS (pv 0) (pe_glA rfl g_FIGURES) rfl))) pa_nil)))))), ?_⟩
    try simp only [nox_K, nox_P, nox_w, nox_mg, nox_base, cxOf_K, cxOf_P, cxOf_w, cxOf_mg, cxOf_base]
    have hl := len_cps z
    repeat' walk_at "rdt"
    · exact rd_fin (by rw [well_no (.inr (by omega))]) (k H (Same.refl _))
    · have e0 : ∃ c, z.cps.toList[0]? = some c := ⟨z.cps.toList[0]'(by omega), List.getElem?_eq_getElem _⟩
      obtain ⟨c0, e0⟩ := e0
      have sh := str_head e0
      refine rd_ixS hz (atI_nat' (i := 0) e0 rfl) ?_
      repeat' walk_at "rdt"
      · rename_i ha hb
        exact rd_fin (by rw [well_nought (sh.mp ha) (by have := mt (str_zero (sh.mp ha)).mpr hb; omega)]) (k H (Same.refl _))
      all_goals
        refine rd_comp (rd_iStr ?_)
        repeat walk_at "rdt"
        refine ⟨z, rfl, fun q hq => ?_⟩
        refine comp_str (ys := (z.cps.toList.map isDig).map V.bl) hq (by rw [List.length_map, List.length_map, hl]) hz ?_ ?_
        · intro i c y H' Q' hc hy sm q'
          rw [List.getElem?_map, List.getElem?_map, show z.cps.toList[i]? = some c by simpa using hc] at hy
          cases hy
          repeat walk_at "rdt"
          exact rd_fin (congrArg V.bl (in_fig c)) q'
        · repeat walk_at "rdt"
          refine rd_all sql_new ?_
          refine rd_fin ?_ (k _ (Same.new hq))
          rw [all_signs]
          first
            | (rename_i ha hb; exact congrArg V.bl (well_yes (by omega) (by omega) (.inr (by have := (str_zero (sh.mp ha)).mp hb; omega))).symm)
            | (rename_i ha; exact congrArg V.bl (well_yes (by omega) (by omega) (.inl fun q => ha (sh.mpr q))).symm)
    · exact rd_fin (by rw [well_no (.inl (by omega))]) (k H (Same.refl _))
theorem sc_number_of : FnScope ["text", "whole"] ["text"] (defScope s_number_of) := ⟨rfl, rfl, rfl, by decide +kernel, rfl, by decide +kernel, by decide +kernel⟩
theorem ok_number_of    (D : DefAt K mg "number_of" s_number_of) (c_well_written : Cal P w K mg base 1 "well_written" spWell) (c_is_number : Cal P w K mg base 1 "is_number" spIsNum) (n_int : mg "int" = none) : Cal P w K mg base 2 "number_of" spNumOf := by
  refine cal_of (N := ["text", "whole"]) (ps := ["text"]) D sc_number_of (fun vs H Q E h => ?_) (fun _ _ _ _ _ _ us hl => match us, hl with | [_], _ => rfl) (fun f cdv A outer s H vs Q E hr h => ?_)
  · obtain ⟨z, rfl, _⟩ := h; rfl
  · obtain ⟨z, rfl, hz, k⟩ := h
    refine ⟨_, (pss_cons (ps_if (pt_not (pt_val (pe_cal c_well_written (hr.mono (by decide)) rfl (pa_cons (pv 0) pa_nil)))) (pss_one (ps_ret pe_non)) pss_nil)
      (pss_cons (ps_set (i := 1) sc_number_of.nd rfl (by first | exact Or.inl rfl | exact Or.inr rfl) (pe_callTy ct_intS rfl n_int PyProof.Rows.boot_int (pa_cons (pv 0) pa_nil)))
      (pss_cons (ps_if (pt_not (pt_val (pe_cal c_is_number (hr.mono (by decide)) rfl (pa_cons (pv 1) pa_nil)))) (pss_one (ps_ret pe_non)) pss_nil)
      (pss_one (ps_ret (pv 1)))))), ?_⟩
    try simp only [nox_K, nox_P, nox_w, nox_mg, nox_base, cxOf_K, cxOf_P, cxOf_w, cxOf_mg, cxOf_base]
    repeat walk_at "rdt"
    refine ⟨z, rfl, hz, fun H' sm => ?_⟩
    cases hw : wellN z.cps.toList with
    | false =>
      repeat walk_at "rdt"
      exact rd_fin (by rw [readN_ill hw]; rfl) (k H' sm)
    | true =>
      have hq := hw
      unfold wellN at hq
      simp only [Bool.and_eq_true, Bool.not_eq_true', decide_eq_true_eq] at hq
      obtain ⟨⟨⟨h1, h2⟩, _⟩, h4⟩ := hq
      have hl := len_cps z
      have hd : PySem.NumText.AllDigits z.cps.toList := fun c hc => by
        have := List.all_eq_true.mp h4 c hc
        simp only [isDig, Bool.and_eq_true, decide_eq_true_eq] at this
        exact this
      have ht := PySem.intText_digits (x := z) hd (by intro e; rw [e] at h1; simp at h1) (by omega)
      have hv : PySem.NumText.digitsVal z.cps.toList = dval z.cps.toList := rfl
      rw [hv] at ht
      repeat walk_at "rdt"
      refine rd_intS (by omega) ht ?_
      repeat walk_at "rdt"
      refine ⟨_, rfl, ?_⟩
      generalize hb : (decide (0 ≤ ((dval z.cps.toList : Nat) : Int)) && decide (((dval z.cps.toList : Nat) : Int) < 18446744073709551616)) = b
      have hr2 := readN_well hw
      cases b with
      | true =>
        repeat walk_at "rdt"
        simp only [Bool.and_eq_true, decide_eq_true_eq] at hb
        rw [if_neg (by omega)] at hr2
        exact rd_fin (by rw [hr2]; rfl) (k H' sm)
      | false =>
        repeat walk_at "rdt"
        simp only [Bool.and_eq_false_iff, decide_eq_false_iff_not] at hb
        rw [if_pos (by omega)] at hr2
        exact rd_fin (by rw [hr2]; rfl) (k H' sm)

end
end My

namespace My
open PySem L2

theorem rd_callE {sp : Sp} {E : XK} {t : TA} {σ : St} {H : Hp} {Q : VK} (q : t σ H fun vs H1 => sp vs H1 Q E) : tCall sp [] E t σ H Q := by
  unfold tCall
  have e : (fun (vs : List V) H1 => sp (vs ++ []) H1 Q E) = fun vs H1 => sp vs H1 Q E := by
    funext vs H1
    rw [List.append_nil]
  rw [e]
  exact q

def rowL : Row → List Nat
  | (w, none) => w.cps.toList
  | (w, some n) => w.cps.toList ++ 32 :: sNum n.toNat
def rowS (r : Row) : Str := mkS (rowL r)
def okRow (r : Row) : Prop := r.1 ∈ WS ∧ ∀ n, r.2 = some n → 0 ≤ n ∧ n < 18446744073709551616
theorem mkS_self (z : Str) : mkS z.cps.toList = z := by cases z; simp [mkS]
theorem mkS_list (l : List Nat) : (mkS l).cps.toList = l := by simp [mkS]
theorem mkS_len (l : List Nat) : (mkS l).length = l.length := by simp [mkS, Str.length]
theorem mkS_inj {a b : List Nat} (h : mkS a = mkS b) : a = b := by have := congrArg (fun z : Str => z.cps.toList) h; simpa [mkS] using this
theorem app_mk (x y : Str) : x ++ y = mkS (x.cps.toList ++ y.cps.toList) := by
  apply Str.ext'
  apply Array.toList_inj.mp
  rw [mkS_list]
  show (x.cps ++ y.cps).toList = _
  simp
theorem sp_mk : (Str.ofString " ") = mkS [32] := by decide
theorem pa_mk : (Str.ofString "; ") = mkS [59, 32] := by decide
theorem no_mk : (Str.ofString "") = mkS [] := by decide
theorem ws_ok : ∀ w ∈ WS, w.cps.toList ≠ [] ∧ 32 ∉ w.cps.toList ∧ 59 ∉ w.cps.toList ∧ w.cps.toList.length ≤ 6 := by decide +kernel
theorem num_len {m : Nat} (h : m < 18446744073709551616) : (sNum m).length ≤ 20 := sNum_le (by decide) (Nat.lt_of_lt_of_le h (by decide))
theorem num_no {m c : Nat} (h : c ∈ sNum m) : 48 ≤ c ∧ c ≤ 57 := by
  have := sNum_dig m c h
  unfold isDig at this
  rw [Bool.and_eq_true, decide_eq_true_eq, decide_eq_true_eq] at this
  exact this
theorem read_num {m : Nat} (h : m < 18446744073709551616) : readN (sNum m) = some m := by
  have h0 : (sNum m).length ≠ 0 := fun z => sNum_ne m (List.eq_nil_of_length_eq_zero z)
  have h1 := num_len h
  unfold readN
  rw [if_neg (by omega), if_pos (List.all_eq_true.mpr (sNum_dig m)), sNum_val, if_neg]
  rintro (z | ⟨z1, z2⟩)
  · omega
  · by_cases e : m = 0
    · rw [e, sNum_zero] at z2; simp at z2
    · exact sNum_head e z1
theorem rowL_len {r : Row} (h : okRow r) : 1 ≤ (rowL r).length ∧ (rowL r).length ≤ 27 := by
  obtain ⟨w, o⟩ := r
  obtain ⟨a, b, c, d⟩ := ws_ok w h.1
  have hw : w.cps.toList.length ≠ 0 := fun z => a (List.eq_nil_of_length_eq_zero z)
  cases o with
  | none => show 1 ≤ w.cps.toList.length ∧ w.cps.toList.length ≤ 27; omega
  | some n =>
    obtain ⟨n0, n1⟩ := h.2 n rfl
    have := num_len (m := n.toNat) (by omega)
    show 1 ≤ (w.cps.toList ++ 32 :: sNum n.toNat).length ∧ (w.cps.toList ++ 32 :: sNum n.toNat).length ≤ 27
    rw [List.length_append, List.length_cons]
    omega
theorem rowL_no {r : Row} (h : okRow r) : 59 ∉ rowL r := by
  obtain ⟨w, o⟩ := r
  obtain ⟨a, b, c, d⟩ := ws_ok w h.1
  cases o with
  | none => exact c
  | some n =>
    intro z
    rcases List.mem_append.mp z with z | z
    · exact c z
    · rcases List.mem_cons.mp z with z | z
      · omega
      · have := num_no z; omega
theorem rowS_len {r : Row} (h : okRow r) : 1 ≤ (rowS r).length ∧ (rowS r).length ≤ 27 := by
  unfold rowS
  rw [mkS_len]
  exact rowL_len h
def wordsT (z : Str) : List Str := Txt.split z (Str.ofString " ")
def rowT (z : Str) : Option Row := if (wordsT z).length = 1 then some (z, none) else if (wordsT z).length = 2 then (readN ((wordsT z).getD 1 (Str.ofString "")).cps.toList).map fun n => ((wordsT z).getD 0 (Str.ofString ""), some (n : Int)) else none
def partsT (z : Str) : List Str := if z = Str.ofString "" then [] else Txt.split z (Str.ofString "; ")
def rowsT (z : Str) : List Row := (partsT z).filterMap rowT
def readOk (z : Str) : Bool := (partsT z).all (fun u => (rowT u).isSome) && rightAll (rowsT z)
def spRowT : Sp := fun vs H Q _ => ∃ z, vs = [.str z] ∧ z.length ≤ 100000 ∧ (match rowT z with
  | none => ∀ H', Same H H' → Q .non H'
  | some r => ∀ t H', Same H H' → H' t = some (.tup (rowVs r)) → Q (.ref t) H')
def spReadT (K : PySem.W.Frag) (C : Addr) : Sp := fun vs H Q E => ∃ z, vs = [.str z] ∧ z.length ≤ 100000 ∧ (partsT z).length ≤ 1000 ∧
  (if readOk z = true then ∀ q xs H', Same H H' → H' q = some (.lst xs) → RowsAt K H' (rowsT z) xs → Q (.ref q) H' else ∀ a H', Same H H' → E (.ref a) (some C) H')
theorem bigT {n : Nat} (h : n ≤ 100002) : n ≤ sizeLine := Nat.le_trans h (by decide)

section
variable {P : Program} {w : World} {K : PySem.W.Frag} {mg : Str → Option Value} {base : Heap}
theorem sc_read_row : FnScope ["text", "parts", "number"] ["text"] (defScope s_read_row) := ⟨rfl, rfl, rfl, by decide +kernel, rfl, by decide +kernel, by decide +kernel⟩
theorem ok_read_row    (D : DefAt K mg "read_row" s_read_row) (c_number_of : Cal P w K mg base 2 "number_of" spNumOf) (n_len : mg "len" = none) : Cal P w K mg base 3 "read_row" spRowT := by
  refine cal_of (N := ["text", "parts", "number"]) (ps := ["text"]) D sc_read_row (fun vs H Q E h => ?_) (fun _ _ _ _ _ _ us hl => match us, hl with | [_], _ => rfl) (fun f cdv A outer s H vs Q E hr h => ?_)
  · obtain ⟨z, rfl, _⟩ := h; rfl
  · obtain ⟨z, rfl, hz, k⟩ := h
    refine ⟨_, (pss_cons (ps_set (i := 1) sc_read_row.nd rfl (by first | exact Or.inl rfl | exact Or.inr rfl) (pe_bm PySem.F.plainAttrs_str PySem.F.slot_str_split PySem.F.type_str_split mt_split (pv 0) (pa_cons pe_str pa_nil)))
      (pss_cons (ps_if (pt_cmpR op_eq (pe_callB cn_len rfl n_len PySem.boot_len (pa_cons (pv 1) pa_nil)) pe_int (nomark _)) (pss_one (ps_ret (pe_tup (pa_cons (pv 0) pa_nil)))) pss_nil)
      (pss_cons (ps_set (i := 2) sc_read_row.nd rfl (by first | exact Or.inl rfl | exact Or.inr rfl) (pe_cal c_number_of (hr.mono (by decide)) rfl (pa_cons (pe_ix ix_list (pv 1) pe_int (fun _ _ => rfl)) pa_nil)))
      (pss_cons (ps_if (PW.pt (pw_or (pt_cmpR op_gt (pe_callB cn_len rfl n_len PySem.boot_len (pa_cons (pv 1) pa_nil)) pe_int (nomark _)) (pw_or1 (pt_cmpR op_isNn (pv 2) pe_non (nomark _))))) (pss_one (ps_ret pe_non)) pss_nil)
      (pss_one (ps_ret (pe_tup (pa_cons (pe_ix ix_list (pv 1) pe_int (fun _ _ => rfl)) (pa_cons (pv 2) pa_nil))))))))), ?_⟩
    try simp only [nox_K, nox_P, nox_w, nox_mg, nox_base, cxOf_K, cxOf_P, cxOf_w, cxOf_mg, cxOf_base]
    have tl := split_len z (Str.ofString " ")
    have tp := split_pos z (Str.ofString " ")
    repeat walk_at "rdt"
    refine rd_split (by decide) (bigT (by omega)) (bigT (by omega)) fun q hq => ?_
    have pl : ∀ u ∈ wordsT z, u.length ≤ z.length := fun u hu => split_part hu
    change (wordsT z).length ≤ z.length + 2 at tl
    change 1 ≤ (wordsT z).length at tp
    have ew : Txt.split z (Str.ofString " ") = wordsT z := rfl
    rw [ew]
    have hqs : SqL K (upd H q (.lst ((wordsT z).map V.str))) q ((wordsT z).map V.str) := sql_new
    have s0 : Same H (upd H q (.lst ((wordsT z).map V.str))) := Same.new hq
    have hlen : ((wordsT z).map V.str).length = (wordsT z).length := List.length_map ..
    generalize upd H q (.lst ((wordsT z).map V.str)) = H0 at hqs s0 ⊢
    repeat' walk_at "rdt"
    · rename_i h1
      have h1 : (wordsT z).length = 1 := by
        have h1 : (((wordsT z).map V.str).length : Int) = 1 := h1
        rw [hlen] at h1
        omega
      have er : rowT z = some (z, none) := if_pos h1
      rw [er] at k
      refine ⟨show 1 ≤ sizeLine by decide, fun t ht => ?_⟩
      exact k t _ (s0.newT ht) upd_same
    · rename_i h1
      have h1 : (wordsT z).length ≠ 1 := by
        intro e
        refine h1 ?_
        show (((wordsT z).map V.str).length : Int) = 1
        rw [hlen, e]
        rfl
      have e0 : (wordsT z)[0]? = some ((wordsT z).getD 0 (Str.ofString "")) := by rw [List.getD, List.getElem?_eq_getElem (show 0 < (wordsT z).length by omega)]; rfl
      have e1 : (wordsT z)[1]? = some ((wordsT z).getD 1 (Str.ofString "")) := by rw [List.getD, List.getElem?_eq_getElem (show 1 < (wordsT z).length by omega)]; rfl
      have er : rowT z = if (wordsT z).length = 2 then (readN ((wordsT z).getD 1 (Str.ofString "")).cps.toList).map fun n => ((wordsT z).getD 0 (Str.ofString ""), some (n : Int)) else none := if_neg h1
      rw [er] at k
      have l1 := pl _ (List.mem_of_getElem? e1)
      generalize (wordsT z).getD 0 (Str.ofString "") = w0 at e0 k
      generalize (wordsT z).getD 1 (Str.ofString "") = w1 at e1 k l1
      have i0 : ((wordsT z).map V.str)[0]? = some (.str w0) := by rw [List.getElem?_map, e0]; rfl
      have i1 : ((wordsT z).map V.str)[1]? = some (.str w1) := by rw [List.getElem?_map, e1]; rfl
      refine rd_ixL hqs (atI_nat' (i := 1) i1 rfl) ?_
      repeat walk_at "rdt"
      refine ⟨w1, rfl, bigT (by omega), fun H1 s1 => ?_⟩
      have hqs1 := s1.seq hqs
      repeat' walk_at "rdt"
      · rename_i h2
        rw [if_neg (by omega)] at k
        exact k H1 (s0.trans s1)
      · rename_i h2
        rw [if_pos (by omega)] at k
        cases hn : readN w1.cps.toList with
        | none =>
          rw [hn] at k
          simp only [optV]
          repeat walk_at "rdt"
          exact k H1 (s0.trans s1)
        | some n =>
          rw [hn] at k
          simp only [optV]
          repeat walk_at "rdt"
          refine rd_ixL hqs1 (atI_nat' (i := 0) i0 rfl) ?_
          repeat walk_at "rdt"
          refine ⟨show 2 ≤ sizeLine by decide, fun t ht => ?_⟩
          exact k t _ ((s0.trans s1).newT ht) upd_same

end
end My

namespace My
open PySem L2

def OptAt (K : PySem.W.Frag) (H : Hp) (os : List (Option Row)) (xs : List V) : Prop := os.length = xs.length ∧ ∀ (i : Nat) (o : Option Row) (x : V), os[i]? = some o → xs[i]? = some x → (o = none ∧ x = .non) ∨ ∃ r, o = some r ∧ RowAt K H r x
theorem OptAt.nil {K : PySem.W.Frag} {H : Hp} : OptAt K H [] [] := ⟨rfl, fun i o x h => by simp at h⟩
theorem OptAt.keep {K : PySem.W.Frag} {H H' : Hp} {os : List (Option Row)} {xs : List V} (h : OptAt K H os xs) (s : SameI H H') : OptAt K H' os xs := ⟨h.1, fun i o x h1 h2 => by
  rcases h.2 i o x h1 h2 with z | ⟨r, e, q⟩
  · exact .inl z
  · exact .inr ⟨r, e, q.keep s⟩⟩
theorem OptAt.snoc {K : PySem.W.Frag} {H : Hp} {os : List (Option Row)} {xs : List V} {o : Option Row} {x : V} (h : OptAt K H os xs) (q : (o = none ∧ x = .non) ∨ ∃ r, o = some r ∧ RowAt K H r x) : OptAt K H (os ++ [o]) (xs ++ [x]) := by
  refine ⟨by rw [List.length_append, List.length_append, h.1]; rfl, fun i o' x' h1 h2 => ?_⟩
  by_cases hi : i < os.length
  · rw [List.getElem?_append_left hi] at h1
    rw [List.getElem?_append_left (by rw [← h.1]; exact hi)] at h2
    exact h.2 i o' x' h1 h2
  · have hi2 : i = os.length := by
      have := (List.getElem?_eq_some_iff.mp h1).1
      rw [List.length_append] at this
      have : i < os.length + 1 := this
      omega
    subst hi2
    rw [List.getElem?_append_right (Nat.le_refl _), Nat.sub_self] at h1
    rw [List.getElem?_append_right (by rw [h.1]; exact Nat.le_refl _), h.1, Nat.sub_self] at h2
    cases h1
    cases h2
    exact q
theorem all_some : ∀ (us : List Str), (us.all fun u => (rowT u).isSome) = true → us.map rowT = (us.filterMap rowT).map some
  | [], _ => rfl
  | u :: us, h => by
    rw [List.all_cons, Bool.and_eq_true] at h
    obtain ⟨r, hr⟩ := Option.isSome_iff_exists.mp h.1
    rw [List.filterMap_cons, hr, List.map_cons, List.map_cons, hr, all_some us h.2]
theorem OptAt.rows {K : PySem.W.Frag} {H : Hp} {us : List Str} {xs : List V} (h : OptAt K H (us.map rowT) xs) (ok : (us.all fun u => (rowT u).isSome) = true) : RowsAt K H (us.filterMap rowT) xs := by
  rw [all_some us ok] at h
  refine ⟨by rw [← h.1, List.length_map], fun i r x h1 h2 => ?_⟩
  rcases h.2 i (some r) x (by rw [List.getElem?_map, h1]; rfl) h2 with ⟨e, _⟩ | ⟨r', e, q⟩
  · cases e
  · cases e; exact q
theorem OptAt.els {K : PySem.W.Frag} {H : Hp} {os : List (Option Row)} {xs : List V} (h : OptAt K H os xs) : ∀ v ∈ xs, v = .non ∨ ∃ t ys, v = .ref t ∧ SqT K H t ys := fun v hv => by
  obtain ⟨i, hi⟩ := List.getElem?_of_mem hv
  have hil := (List.getElem?_eq_some_iff.mp hi).1
  rcases h.2 i _ v (List.getElem?_eq_getElem (by rw [h.1]; exact hil)) hi with ⟨_, e⟩ | ⟨r, _, t, e, q⟩
  · exact .inl e
  · exact .inr ⟨t, _, e, q⟩
theorem OptAt.any {K : PySem.W.Frag} {H : Hp} {us : List Str} {xs : List V} (h : OptAt K H (us.map rowT) xs) : (xs.any fun v => decide (v = V.non)) = !(us.all fun u => (rowT u).isSome) := by
  cases ho : us.all fun u => (rowT u).isSome with
  | true =>
    refine List.any_eq_false.mpr fun v hv => ?_
    obtain ⟨i, hi⟩ := List.getElem?_of_mem hv
    have hil := (List.getElem?_eq_some_iff.mp hi).1
    have hl := h.1
    rw [List.length_map] at hl
    have hu : us[i]? = some (us[i]'(by omega)) := List.getElem?_eq_getElem _
    have hs := List.all_eq_true.mp ho _ (List.mem_of_getElem? hu)
    rcases h.2 i _ v (by rw [List.getElem?_map, hu]; rfl) hi with ⟨e, _⟩ | ⟨r, _, t, e, _⟩
    · rw [e] at hs; cases hs
    · rw [e]; simp
  | false =>
    refine List.any_eq_true.mpr ?_
    have hx : ∃ u ∈ us, (rowT u).isSome = false := by
      rw [Bool.eq_false_iff] at ho
      refine Classical.byContradiction fun hc => ho (List.all_eq_true.mpr fun u hu => ?_)
      cases e : (rowT u).isSome with
      | true => rfl
      | false => exact absurd ⟨u, hu, e⟩ hc
    obtain ⟨u, hu, e⟩ := hx
    obtain ⟨i, hi⟩ := List.getElem?_of_mem hu
    have hil := (List.getElem?_eq_some_iff.mp hi).1
    have hl := h.1
    rw [List.length_map] at hl
    have hv : xs[i]? = some (xs[i]'(by omega)) := List.getElem?_eq_getElem _
    rcases h.2 i _ _ (by rw [List.getElem?_map, hi]; rfl) hv with ⟨_, e2⟩ | ⟨r, e2, _⟩
    · exact ⟨_, List.mem_of_getElem? hv, by rw [e2]; simp⟩
    · rw [e2] at e; cases e

section
variable {P : Program} {w : World} {K : PySem.W.Frag} {mg : Str → Option Value} {base : Heap}
theorem sc_read : FnScope ["text", "rows"] ["text"] (defScope s_read) := ⟨rfl, rfl, rfl, by decide +kernel, rfl, by decide +kernel, by decide +kernel⟩
theorem ok_read {cNoCode : Addr}   (D : DefAt K mg "read" s_read) (o_NoCode : Exc "NoCode" cNoCode mg base) (c_read_row : Cal P w K mg base 3 "read_row" spRowT) (c_right : Cal P w K mg base 4 "right" (spRight K)) (g_PARTING : GlobAt mg "PARTING" (.str "; ")) : CalE P w K mg base 5 "read" (spReadT K cNoCode) := by
  refine cal_ofE (N := ["text", "rows"]) (ps := ["text"]) D sc_read (fun vs H Q E h => ?_) (fun _ _ _ _ _ _ us hl => match us, hl with | [_], _ => rfl) (fun f cdv A outer s H vs Q E hr h => ?_)
  · obtain ⟨z, rfl, _⟩ := h; rfl
  · obtain ⟨z, rfl, hz, hpl, k⟩ := h
    refine ⟨_, (pss_cons (ps_if (pt_cmpR op_eq (pv 0) pe_str (nomark _)) (pss_one (ps_ret (pe_lst pa_nil))) pss_nil)
      (pss_cons (ps_setC (i := 1) ["part"] sc_read.nd rfl rfl rfl (show CompScope (defScope s_read) ["text", "rows"] ["part"] _ from ⟨rfl, by decide +kernel, by decide +kernel, by decide +kernel, by decide +kernel, by decide +kernel⟩) (pi_list (pe_bm PySem.F.plainAttrs_str PySem.F.slot_str_split PySem.F.type_str_split mt_split (pv 0) (pa_cons (pe_glA rfl g_PARTING) pa_nil))) (fun _ _ _ _ _ => (pg_name (i := 0) (show (["part", "text", "rows"] : List Str).Nodup by decide +kernel) rfl (Or.inl rfl) (.inr rfl))) (fun _ _ _ _ _ => pif_nil) (fun _ _ _ _ _ => (pe_cal c_read_row (hr.mono (by decide)) rfl (pa_cons (pv 0) pa_nil))))
      (pss_cons (ps_if (PW.pt (pw_or (pt_cmpR (op_inO hr.units) pe_non (pv 1) rfl) (pw_or1 (pt_not (pt_val (pe_cal c_right (hr.mono (by decide)) rfl (pa_cons (pv 1) pa_nil))))))) (pss_one (ps_raise o_NoCode PySem.F.excBase_ValueError rfl rfl raise_ok (pa_cons pe_str pa_nil))) pss_nil)
      (pss_one (ps_ret (pv 1)))))), ?_⟩
    try simp only [nox_K, nox_P, nox_w, nox_mg, nox_base, cxOf_K, cxOf_P, cxOf_w, cxOf_mg, cxOf_base]
    repeat' walk_at "rdk"
    · rename_i he
      have he : z = Str.ofString "" := he
      have ep : partsT z = [] := if_pos he
      rw [if_pos (by unfold readOk rowsT; rw [ep]; rfl)] at k
      refine ⟨by decide, fun q hq => ?_⟩
      refine k q [] _ (Same.new hq) upd_same ?_
      unfold rowsT
      rw [ep]
      exact RowsAt.nil
    · rename_i he
      have he : ¬ z = Str.ofString "" := he
      have ep : partsT z = Txt.split z (Str.ofString "; ") := if_neg he
      have tl := split_len z (Str.ofString "; ")
      refine rd_comp (rd_iList ?_)
      repeat walk_at "rdk"
      refine rd_split (by decide) (bigT (by omega)) (bigT (by omega)) fun p hp => ?_
      have pl : ∀ u ∈ partsT z, u.length ≤ z.length := fun u hu => by rw [ep] at hu; exact split_part hu
      rw [← ep]
      have s1 := Same.new hp (o := .lst ((partsT z).map V.str))
      have hp1 : (upd H p (.lst ((partsT z).map V.str))) p = some (.lst ((partsT z).map V.str)) := upd_same
      generalize upd H p (.lst ((partsT z).map V.str)) = H1 at s1 hp1 ⊢
      refine ⟨p, rfl, ⟨_, sql_of hp1⟩, fun q hq => ?_⟩
      refine comp_invL (xs := (partsT z).map V.str) (fun i H' => Same H1 H' ∧ ∃ xs, H' q = some (.lst xs) ∧ OptAt K H' (((partsT z).take i).map rowT) xs) ⟨Same.new hq, [], upd_same, OptAt.nil⟩ (fun i H' ⟨s, _⟩ => sql_of (s _ _ hp1)) ?_ ?_
      · rintro i x H' hx ⟨s2, xs, hv, hR⟩
        rw [List.getElem?_map] at hx
        obtain ⟨u, hu, rfl⟩ := Option.map_eq_some_iff.mp hx
        obtain ⟨hi, ei⟩ := List.getElem?_eq_some_iff.mp hu
        have hul := pl u (List.mem_of_getElem? hu)
        have et := List.take_succ_eq_append_getElem hi
        rw [ei] at et
        have hxl : xs.length < sizeLine := by
          rw [← hR.1, List.length_map, List.length_take]
          exact Nat.lt_of_le_of_lt (show min i (partsT z).length ≤ 1000 by omega) (by decide)
        refine rd_noIf ?_
        refine iteT ?_
        repeat walk_at "rdk"
        refine ⟨u, rfl, by omega, ?_⟩
        cases hr : rowT u with
        | none =>
          intro H2 s3
          have hv2 := s3 _ _ hv
          refine ⟨_, hv2, hxl, ⟨(s2.trans s3).wr hq, xs ++ [.non], upd_same, ?_⟩, _, rfl⟩
          have im : SameI H2 (upd H2 q (.lst (xs ++ [.non]))) := SameI.upd hv2 notImm_lst
          rw [et, List.map_append]
          exact (hR.keep (s3.imm.trans im)).snoc (.inl ⟨hr, rfl⟩)
        | some r =>
          intro t H2 s3 ht
          have hv2 := s3 _ _ hv
          refine ⟨_, hv2, hxl, ⟨(s2.trans s3).wr hq, xs ++ [.ref t], upd_same, ?_⟩, _, rfl⟩
          have im : SameI H2 (upd H2 q (.lst (xs ++ [.ref t]))) := SameI.upd hv2 notImm_lst
          rw [et, List.map_append]
          exact (hR.keep (s3.imm.trans im)).snoc (.inr ⟨r, hr, t, rfl, im.tup (sqt_of ht)⟩)
      · rintro H' ⟨s2, xs, hv, hR⟩
        rw [List.length_map, List.take_length] at hR
        have hxl : xs.length ≤ 1000 := by rw [← hR.1, List.length_map]; exact hpl
        repeat walk_at "rdk"
        refine rd_inO (sql_of hv) hR.els ?_
        rw [hR.any]
        cases ho : (partsT z).all fun u => (rowT u).isSome with
        | false =>
          rw [if_neg (by unfold readOk; rw [ho]; simp)] at k
          repeat walk_at "rdk"
          exact ⟨show 1 ≤ sizeLine by decide, fun a => k a H' (s1.trans s2)⟩
        | true =>
          have hrows := hR.rows ho
          repeat walk_at "rdk"
          refine ⟨q, xs, _, rfl, sql_of hv, hrows, hxl, fun H3 s3 => ?_⟩
          have er : rowsT z = (partsT z).filterMap rowT := rfl
          cases hra : rightAll ((partsT z).filterMap rowT) with
          | false =>
            rw [if_neg (by unfold readOk; rw [er, hra]; simp)] at k
            repeat walk_at "rdk"
            exact ⟨show 1 ≤ sizeLine by decide, fun a => k a H3 ((s1.trans s2).trans s3)⟩
          | true =>
            rw [if_pos (by unfold readOk; rw [ho, er, hra]; rfl)] at k
            repeat walk_at "rdk"
            exact k q xs H3 ((s1.trans s2).trans s3) (s3 _ _ hv) (hrows.keep s3.imm)

end
end My

namespace My
open PySem L2

def spCell (K : PySem.W.Frag) : Sp := fun vs H Q _ => ∃ (p : Addr) (ns : List Int) (k : Int), vs = [.ref p, .int k] ∧ 0 ≤ k ∧ SqL K H p (ns.map V.int) ∧ ∀ i, Q (.int i) H

def spWords : Sp := fun vs H Q _ => vs = [] ∧ ∀ p H', Same H H' → H' p = some (.lst (WS.map V.str)) → Q (.ref p) H'
def spRowBy : Sp := fun vs H Q _ => ∃ (c : Int) (m : Nat), vs = [.int c, .int m] ∧ ∀ t r H', Same H H' → H' t = some (.tup (rowVs r)) → (∀ n : Nat, m ≤ n → rightRow n r = true) → Q (.ref t) H'
def wordOf (c : Int) : Str := WS.getD (c % 31).toNat ""
theorem wordOf_at (c : Int) : (WS.map V.str)[(c % 31).toNat]? = some (.str (wordOf c)) := by
  have hl : (c % 31).toNat < WS.length := by show (c % 31).toNat < 31; omega
  unfold wordOf
  rw [List.getElem?_map, List.getElem?_eq_getElem hl, List.getD_eq_getElem?_getD, List.getElem?_eq_getElem hl]
  rfl
theorem inS_mem {x : Str} {xs : List Str} (h : x ∈ xs) : inS x xs = true := List.any_eq_true.mpr ⟨x, h, beq_self_eq_true x⟩
theorem wordOf_in (c : Int) : inS (wordOf c) WS = true := by
  have h := wordOf_at c
  rw [List.getElem?_map] at h
  obtain ⟨w, hw, e⟩ := Option.map_eq_some_iff.mp h
  cases e
  exact inS_mem (List.mem_of_getElem? hw)
theorem inS_num {x : Str} (h1 : ¬ x = "push") (h2 : ¬ x = "copy") (h3 : ¬ x = "swap") (h4 : ¬ x = "jump") (h5 : ¬ x = "jumpif") : inS x NMS = false := by
  unfold inS NMS
  have f : ∀ y : Str, ¬ x = y → (y == x) = false := fun y n => by
    rw [beq_eq_false_iff_ne]
    exact fun z => n z.symm
  simp only [List.any_cons, List.any_nil, f _ h1, f _ h2, f _ h3, f _ h4, f _ h5, Bool.or_false]
theorem rr_num {x : Str} {n c : Int} (h : inS x WS = true) (h2 : inS x NMS = true) : rightRow c (x, some n) = rightNum x n c := by
  unfold rightRow
  rw [h, h2]
  rfl
theorem rr_no {x : Str} {c : Int} (h : inS x WS = true) (h2 : inS x NMS = false) : rightRow c (x, none) = true := by
  unfold rightRow
  rw [h, h2]
  rfl
theorem w_push : inS "push" WS = true ∧ inS "push" NMS = true := by decide
theorem w_copy : inS "copy" WS = true ∧ inS "copy" NMS = true := by decide
theorem w_swap : inS "swap" WS = true ∧ inS "swap" NMS = true := by decide
theorem w_jump : inS "jump" WS = true ∧ inS "jump" NMS = true := by decide
theorem w_jumpif : inS "jumpif" WS = true ∧ inS "jumpif" NMS = true := by decide
theorem rr_push {n c : Int} : rightRow c ("push", some n) = (decide (0 ≤ n) && decide (n < 18446744073709551616)) := by rw [rr_num w_push.1 w_push.2]; rfl
theorem rr_copy {n c : Int} : rightRow c ("copy", some n) = (decide (0 ≤ n) && decide (n ≤ 15)) := by rw [rr_num w_copy.1 w_copy.2]; rfl
theorem rr_swap {n c : Int} : rightRow c ("swap", some n) = (decide (1 ≤ n) && decide (n ≤ 15)) := by rw [rr_num w_swap.1 w_swap.2]; rfl
theorem rr_jump {n c : Int} : rightRow c ("jump", some n) = (decide (0 ≤ n) && decide (n ≤ c)) := by rw [rr_num w_jump.1 w_jump.2]; rfl
theorem rr_jumpif {n c : Int} : rightRow c ("jumpif", some n) = (decide (0 ≤ n) && decide (n ≤ c)) := by rw [rr_num w_jumpif.1 w_jumpif.2]; rfl
theorem bothT {p q : Prop} [Decidable p] [Decidable q] (h1 : p) (h2 : q) : (decide p && decide q) = true := by rw [decide_eq_true h1, decide_eq_true h2]; rfl
theorem p64 : (2 : Int) ^ Int.toNat 64 = 18446744073709551616 := by decide

theorem inS_of {x : Str} {xs : List Str} (h : inS x xs = true) : x ∈ xs := by
  unfold inS at h
  obtain ⟨y, hy, e⟩ := List.any_eq_true.mp h
  rw [← eq_of_beq e]
  exact hy
theorem ok_of {n : Nat} (hn : n ≤ 60) {r : Row} (h : rightRow n r = true) : okRow r := by
  obtain ⟨w, o⟩ := r
  unfold rightRow at h
  rw [Bool.and_eq_true] at h
  refine ⟨inS_of h.1, fun m e => ?_⟩
  cases e
  have h2 := h.2
  dsimp only at h2
  split at h2
  · unfold rightNum at h2
    split at h2
    · rw [Bool.and_eq_true, decide_eq_true_eq, decide_eq_true_eq] at h2; exact h2
    · split at h2
      · rw [Bool.and_eq_true, decide_eq_true_eq, decide_eq_true_eq] at h2; omega
      · split at h2
        · rw [Bool.and_eq_true, decide_eq_true_eq, decide_eq_true_eq] at h2; omega
        · rw [Bool.and_eq_true, decide_eq_true_eq, decide_eq_true_eq] at h2; omega
  · cases h2
def spPart (K : PySem.W.Frag) : Sp := fun vs H Q _ => ∃ v r, vs = [v] ∧ RowAt K H r v ∧ okRow r ∧ Q (.str (rowS r)) H
def spAlike (K : PySem.W.Frag) : Sp := fun vs H Q _ => ∃ v u r, vs = [v, u] ∧ RowAt K H r v ∧ RowAt K H r u ∧ ∀ H', Same H H' → Q (.bl true) H'
def spRows (K : PySem.W.Frag) : Sp := fun vs H Q _ => ∃ a b xs ys rs, vs = [.ref a, .ref b] ∧ SqL K H a xs ∧ RowsAt K H rs xs ∧ SqL K H b ys ∧ RowsAt K H rs ys ∧ rs.length ≤ 60 ∧ ∀ H', Same H H' → Q (.bl true) H'

section
variable {P : Program} {w : World} {K : PySem.W.Frag} {mg : Str → Option Value} {base : Heap}
theorem sc_Lwords : FnScope ["_law_early", "_law_middle"] [] (defScope s_Lwords) := ⟨rfl, rfl, rfl, by decide +kernel, rfl, by decide +kernel, by decide +kernel⟩
theorem ok_Lwords    (D : DefAt K mg "_law_words" s_Lwords) : Cal P w K mg base 1 "_law_words" spWords := by
  refine cal_of (N := ["_law_early", "_law_middle"]) (ps := []) D sc_Lwords (fun vs H Q E h => ?_) (fun _ _ _ _ _ _ us hl => match us, hl with | [], _ => rfl) (fun f cdv A outer s H vs Q E hr h => ?_)
  · obtain ⟨rfl, _⟩ := h; rfl
  · obtain ⟨rfl, k⟩ := h
    refine' ⟨_, ?der, ?_⟩
    case der =>
      refine' pss_cons ?h22 ?h23
      case h22 =>
        refine' ps_set (i := 0) ?h3 ?h4 ?h5 ?h6
        case h3 =>
          exact sc_Lwords.nd
        case h4 =>
          rfl
        case h5 =>
          first | exact Or.inl rfl | exact Or.inr rfl
        case h6 =>
          refine' pe_lst ?h2
          case h2 =>
            refine' pa_cV (vs := [.str "push", .str "drop", .str "copy", .str "swap", .str "add", .str "minus", .str "times", .str "over", .str "rest", .str "below", .str "same", .str "both"]) ?h1
            case h1 =>
              rfl
      case h23 =>
        refine' pss_cons ?h20 ?h21
        case h20 =>
          refine' ps_set (i := 1) ?h9 ?h10 ?h11 ?h12
          case h9 =>
            exact sc_Lwords.nd
          case h10 =>
            rfl
          case h11 =>
            first | exact Or.inl rfl | exact Or.inr rfl
          case h12 =>
            refine' pe_lst ?h8
            case h8 =>
              refine' pa_cV (vs := [.str "either", .str "unlike", .str "up", .str "down", .str "jump", .str "jumpif", .str "load", .str "save", .str "me", .str "from", .str "sent", .str "word"]) ?h7
              case h7 =>
                rfl
        case h21 =>
          refine' pss_one ?h19
          case h19 =>
            refine' ps_ret ?h18
            case h18 =>
              refine' pe_op ?h15 ?h16 ?h17
              case h15 =>
                exact op_cat
              case h16 =>
                exact (pe_op op_cat (pv 0) (pv 1))
              case h17 =>
                refine' pe_lst ?h14
                case h14 =>
                  refine' pa_cV (vs := [.str "coin", .str "note", .str "call", .str "borrow", .str "look", .str "give", .str "fail"]) ?h13
                  case h13 =>
                    rfl
    try simp only [nox_K, nox_P, nox_w, nox_mg, nox_base, cxOf_K, cxOf_P, cxOf_w, cxOf_mg, cxOf_base]
    repeat walk_at "rd"
    refine ⟨by decide, fun p1 hp1 => ?_⟩
    repeat walk_at "rd"
    refine ⟨by decide, fun p2 hp2 => ?_⟩
    repeat walk_at "rd"
    refine rd_cat (xs := [.str "push", .str "drop", .str "copy", .str "swap", .str "add", .str "minus", .str "times", .str "over", .str "rest", .str "below", .str "same", .str "both"]) (ys := [.str "either", .str "unlike", .str "up", .str "down", .str "jump", .str "jumpif", .str "load", .str "save", .str "me", .str "from", .str "sent", .str "word"]) (by walk_at "hp") upd_same (by decide) fun p3 hp3 => ?_
    repeat walk_at "rd"
    refine ⟨by decide, fun p4 hp4 => ?_⟩
    refine rd_cat (xs := [.str "push", .str "drop", .str "copy", .str "swap", .str "add", .str "minus", .str "times", .str "over", .str "rest", .str "below", .str "same", .str "both"] ++ [.str "either", .str "unlike", .str "up", .str "down", .str "jump", .str "jumpif", .str "load", .str "save", .str "me", .str "from", .str "sent", .str "word"]) (ys := [.str "coin", .str "note", .str "call", .str "borrow", .str "look", .str "give", .str "fail"]) (by walk_at "hp") upd_same (by decide) fun p5 hp5 => ?_
    exact k p5 _ (((((Same.new hp1).newT hp2).newT hp3).newT hp4).newT hp5) upd_same
theorem sc_Lrow_by : FnScope ["_law_cell", "_law_many", "_law_word", "_law_part_here"] ["_law_cell", "_law_many"] (defScope s_Lrow_by) := ⟨rfl, rfl, rfl, by decide +kernel, rfl, by decide +kernel, by decide +kernel⟩
theorem ok_Lrow_by    (D : DefAt K mg "_law_row_by" s_Lrow_by) (c_Lwords : Cal P w K mg base 1 "_law_words" spWords) : Cal P w K mg base 2 "_law_row_by" spRowBy := by
  refine cal_of (N := ["_law_cell", "_law_many", "_law_word", "_law_part_here"]) (ps := ["_law_cell", "_law_many"]) D sc_Lrow_by (fun vs H Q E h => ?_) (fun _ _ _ _ _ _ us hl => match us, hl with | [_, _], _ => rfl) (fun f cdv A outer s H vs Q E hr h => ?_)
  · obtain ⟨c, m, rfl, _⟩ := h; rfl
  · obtain ⟨c, m, rfl, k⟩ := h
    refine ⟨_, (pss_cons (ps_set (i := 2) sc_Lrow_by.nd rfl (by first | exact Or.inl rfl | exact Or.inr rfl) (pe_ix ix_list (pe_cal0 c_Lwords (hr.mono (by decide)) rfl) (pe_op op_mod (pv 0) pe_int) (fun _ _ => rfl)))
      (pss_cons (ps_set (i := 3) sc_Lrow_by.nd rfl (by first | exact Or.inl rfl | exact Or.inr rfl) (pe_op op_fdivW (pv 0) pe_int))
      (pss_cons (ps_if (pt_cmpR op_eq (pv 2) pe_str (nomark _)) (pss_one (ps_ret (pe_tup (pa_cons (pv 2) (pa_cons (pe_op op_mod (pv 3) (pe_op op_pow pe_int pe_int)) pa_nil))))) pss_nil)
      (pss_cons (ps_if (pt_cmpR op_eq (pv 2) pe_str (nomark _)) (pss_one (ps_ret (pe_tup (pa_cons (pv 2) (pa_cons (pe_op op_mod (pv 3) pe_int) pa_nil))))) pss_nil)
      (pss_cons (ps_if (pt_cmpR op_eq (pv 2) pe_str (nomark _)) (pss_one (ps_ret (pe_tup (pa_cons (pv 2) (pa_cons (pe_op op_add pe_int (pe_op op_mod (pv 3) pe_int)) pa_nil))))) pss_nil)
      (pss_cons (ps_if (PW.pt (pw_or (pt_cmpR op_eq (pv 2) pe_str (nomark _)) (pw_or1 (pt_cmpR op_eq (pv 2) pe_str (nomark _))))) (pss_one (ps_ret (pe_tup (pa_cons (pv 2) (pa_cons (pe_op op_mod (pv 3) (pe_op op_add (pv 1) pe_int)) pa_nil))))) pss_nil)
      (pss_one (ps_ret (pe_tup (pa_cons (pv 2) pa_nil)))))))))), ?_⟩
    try simp only [nox_K, nox_P, nox_w, nox_mg, nox_base, cxOf_K, cxOf_P, cxOf_w, cxOf_mg, cxOf_base]
    repeat walk_at "rdt"
    refine ⟨rfl, fun p H1 s1 e1 => ?_⟩
    have hin := wordOf_in c
    repeat walk_at "rdt"
    refine rd_ixL (sql_of e1) (atI_nat' (wordOf_at c) (by omega)) ?_
    generalize wordOf c = wd at hin
    repeat' walk_at "rdt"
    · rename_i h1
      subst h1
      refine ⟨show 2 ≤ sizeLine by decide, fun t ht => ?_⟩
      exact k t ("push", some _) _ (s1.newT ht) upd_same fun n _ => by rw [rr_push]; exact bothT (by omega) (by rw [p64]; omega)
    · rename_i h1 h2
      subst h2
      refine ⟨show 2 ≤ sizeLine by decide, fun t ht => ?_⟩
      exact k t ("copy", some _) _ (s1.newT ht) upd_same fun n _ => by rw [rr_copy]; exact bothT (by omega) (by omega)
    · rename_i h1 h2 h3
      subst h3
      refine ⟨show 2 ≤ sizeLine by decide, fun t ht => ?_⟩
      exact k t ("swap", some _) _ (s1.newT ht) upd_same fun n _ => by rw [rr_swap]; exact bothT (by omega) (by omega)
    · rename_i h1 h2 h3 h4
      subst h4
      refine ⟨show 2 ≤ sizeLine by decide, fun t ht => ?_⟩
      refine k t ("jump", some _) _ (s1.newT ht) upd_same fun n hn => ?_
      have := Int.emod_nonneg (c / 31) (b := (m : Int) + 1) (by omega)
      have := Int.emod_lt_of_pos (c / 31) (b := (m : Int) + 1) (by omega)
      rw [rr_jump]
      exact bothT (by omega) (by omega)
    · rename_i h1 h2 h3 h4 h5
      subst h5
      refine ⟨show 2 ≤ sizeLine by decide, fun t ht => ?_⟩
      refine k t ("jumpif", some _) _ (s1.newT ht) upd_same fun n hn => ?_
      have := Int.emod_nonneg (c / 31) (b := (m : Int) + 1) (by omega)
      have := Int.emod_lt_of_pos (c / 31) (b := (m : Int) + 1) (by omega)
      rw [rr_jumpif]
      exact bothT (by omega) (by omega)
    · rename_i h1 h2 h3 h4 h5
      refine ⟨show 1 ≤ sizeLine by decide, fun t ht => ?_⟩
      exact k t (wd, none) _ (s1.newT ht) upd_same fun n _ => rr_no hin (inS_num h1 h2 h3 h4 h5)
theorem sc_Lpart : FnScope ["_law_row"] ["_law_row"] (defScope s_Lpart) := ⟨rfl, rfl, rfl, by decide +kernel, rfl, by decide +kernel, by decide +kernel⟩
theorem ok_Lpart    (D : DefAt K mg "_law_part" s_Lpart) (n_len : mg "len" = none) (n_str : mg "str" = none) : Cal P w K mg base 1 "_law_part" (spPart K) := by
  refine cal_of (N := ["_law_row"]) (ps := ["_law_row"]) D sc_Lpart (fun vs H Q E h => ?_) (fun _ _ _ _ _ _ us hl => match us, hl with | [_], _ => rfl) (fun f cdv A outer s H vs Q E hr h => ?_)
  · obtain ⟨v, r, rfl, _⟩ := h; rfl
  · obtain ⟨v, r, rfl, ⟨t, rfl, hT⟩, ok, k⟩ := h
    refine ⟨_, (pss_cons (ps_if (pt_cmpR op_eq (pe_callB cn_len rfl n_len PySem.boot_len (pa_cons (pv 0) pa_nil)) pe_int (nomark _)) (pss_one (ps_ret (pe_ix ix_tup (pv 0) pe_int (fun _ _ => rfl)))) pss_nil)
      (pss_one (ps_ret (pe_op op_addS (pe_op op_addS (pe_ix ix_tup (pv 0) pe_int (fun _ _ => rfl)) pe_str) (pe_callTy ct_str rfl n_str PyProof.Rows.boot_str (pa_cons (pe_ix ix_tup (pv 0) pe_int (fun _ _ => rfl)) pa_nil)))))), ?_⟩
    try simp only [nox_K, nox_P, nox_w, nox_mg, nox_base, cxOf_K, cxOf_P, cxOf_w, cxOf_mg, cxOf_base]
    have big : (100 : Nat) ≤ sizeLine := by decide
    obtain ⟨w, o⟩ := r
    obtain ⟨wa, wb, wc, wd⟩ := ws_ok w ok.1
    have wl : w.length ≤ 6 := by
      have : w.length = w.cps.toList.length := by simp [Str.length]
      omega
    cases o with
    | none =>
      have hT : SqT K H t [.str w] := hT
      have hl0 : ([V.str w] : List V).length = 1 := rfl
      repeat walk_at "rdz"
      have e : rowS (w, none) = w := mkS_self w
      rw [e] at k
      exact k
    | some n =>
      have hT : SqT K H t [.str w, .int n] := hT
      have hl0 : ([V.str w, .int n] : List V).length = 2 := rfl
      obtain ⟨n0, n1⟩ := ok.2 n rfl
      have hnl := num_len (m := n.toNat) (by omega)
      have en : Str.ofString (toString n) = mkS (sNum n.toNat) := str_numI n0
      repeat walk_at "rdz"
      refine rd_addS (by show w.length + 1 ≤ _; omega) ?_
      repeat walk_at "rdz"
      refine rd_strI (log_1920 n0 (by omega)) ?_
      rw [en]
      have e : w ++ Str.ofString " " ++ mkS (sNum n.toNat) = rowS (w, some n) := by
        rw [app_mk, app_mk, mkS_list, mkS_list, sp_mk, mkS_list, List.append_assoc]
        rfl
      refine rd_addS (by rw [app_mk, mkS_len, mkS_len, List.length_append, sp_mk, mkS_list]; show w.cps.toList.length + 1 + _ ≤ _; omega) ?_
      rw [e]
      exact k
theorem sc_Lalike : FnScope ["_law_found", "_law_row", "_law_k"] ["_law_found", "_law_row"] (defScope s_Lalike) := ⟨rfl, rfl, rfl, by decide +kernel, rfl, by decide +kernel, by decide +kernel⟩
theorem ok_Lalike    (D : DefAt K mg "_law_alike" s_Lalike) (n_range : mg "range" = none) (n_len : mg "len" = none) (n_isinstance : mg "isinstance" = none) (n_tuple : mg "tuple" = none) (n_bool : mg "bool" = none) (n_int : mg "int" = none) (n_str : mg "str" = none) : Cal P w K mg base 1 "_law_alike" (spAlike K) := by
  refine cal_of (N := ["_law_found", "_law_row", "_law_k"]) (ps := ["_law_found", "_law_row"]) D sc_Lalike (fun vs H Q E h => ?_) (fun _ _ _ _ _ _ us hl => match us, hl with | [_, _], _ => rfl) (fun f cdv A outer s H vs Q E hr h => ?_)
  · obtain ⟨v, u, r, rfl, _⟩ := h; rfl
  · obtain ⟨v, u, r, rfl, ⟨t, rfl, hT⟩, ⟨t2, rfl, hT2⟩, k⟩ := h
    refine ⟨_, (pss_cons (ps_if (PW.pt (pw_or (pt_not (pt_val (pe_callB cn_isiA rfl n_isinstance PyProof.Rows.boot_isinstance (pa_cons (pv 0) (pa_cons (pe_blA rfl n_tuple PyProof.Rows.boot_tuple) pa_nil))))) (pw_or1 (pt_cmpR op_ne (pe_callB cn_len rfl n_len PySem.boot_len (pa_cons (pv 0) pa_nil)) (pe_callB cn_len rfl n_len PySem.boot_len (pa_cons (pv 1) pa_nil)) (nomark _))))) (pss_one (ps_ret pe_bl)) pss_nil)
      (pss_cons (ps_for PassesOwn.never rfl (pi_range1 rfl n_range (pa_cons (pe_callB cn_len rfl n_len PySem.boot_len (pa_cons (pv 1) pa_nil)) pa_nil)) (pg_name (i := 2) sc_Lalike.nd rfl (by first | exact Or.inl rfl | exact Or.inr rfl))
      (pss_one (ps_if (PW.pt (pw_or (pt_val (pe_callB cn_isiA rfl n_isinstance PyProof.Rows.boot_isinstance (pa_cons (pe_ix ix_tup (pv 0) (pv 2) (fun _ _ => rfl)) (pa_cons (pe_blA rfl n_bool PyProof.Rows.boot_bool) pa_nil)))) (pw_or (pt_not (pt_val (pe_callB cn_isi2 rfl n_isinstance PyProof.Rows.boot_isinstance (pa_cons (pe_ix ix_tup (pv 0) (pv 2) (fun _ _ => rfl)) (pa_cons (pe_tupTy (pa_cons (pe_blA rfl n_int PyProof.Rows.boot_int) (pa_cons (pe_blA rfl n_str PyProof.Rows.boot_str) pa_nil))) pa_nil))))) (pw_or1 (pt_cmpR op_ne (pe_ix ix_tup (pv 0) (pv 2) (fun _ _ => rfl)) (pe_ix ix_tup (pv 1) (pv 2) (fun _ _ => rfl)) (nomark _)))))) (pss_one (ps_ret pe_bl)) pss_nil)))
      (pss_one (ps_ret pe_bl)))), ?_⟩
    try simp only [nox_K, nox_P, nox_w, nox_mg, nox_base, cxOf_K, cxOf_P, cxOf_w, cxOf_mg, cxOf_base]
    obtain ⟨w, o⟩ := r
    cases o with
    | none =>
      have hT : SqT K H t [.str w] := hT
      have hT2 : SqT K H t2 [.str w] := hT2
      have hl0 : ([V.str w] : List V).length = 1 := rfl
      repeat walk_at "rdz"
      refine rd_for (rd_iRng1 ?_)
      repeat walk_at "rdk"
      refine ⟨_, rfl, by omega, by omega, for_range (fun i σ' H' => Same H H' ∧ ∃ v3, σ' = [some (.ref t), some (.ref t2), v3]) ⟨Same.refl H, _, rfl⟩ ?_ ?_⟩
      · rintro i σ' H' hi ⟨s1, v3, rfl⟩
        have hi0 : i = 0 := by have : (([V.str w] : List V).length : Int).toNat = 1 := rfl; omega
        subst hi0
        have hT' := s1.tup hT
        have hT2' := s1.tup hT2
        repeat walk_at "rdz"
        refine rd_tupTy ?_
        repeat walk_at "rdz"
        refine ⟨rfl, fun p hp => ?_⟩
        have s2 := s1.newT hp (o := .ext (TyTup p))
        have hp2 : (upd H' p (.ext (TyTup p))) p = some (.ext (TyTup p)) := upd_same
        generalize upd H' p _ = H2 at s2 hp2
        have hT' := s2.tup hT
        have hT2' := s2.tup hT2
        repeat walk_at "rdz"
        refine rd_isi2S hp2 ?_
        repeat walk_at "rdz"
        · exact absurd rfl (by assumption)
        · repeat walk_at "rdz"
          exact ⟨s2, _, rfl⟩
      · rintro σ' H' ⟨s1, v3, rfl⟩
        repeat walk_at "rdz"
        exact k _ s1
    | some n =>
      have hT : SqT K H t [.str w, .int n] := hT
      have hT2 : SqT K H t2 [.str w, .int n] := hT2
      have hl0 : ([V.str w, .int n] : List V).length = 2 := rfl
      repeat walk_at "rdz"
      refine rd_for (rd_iRng1 ?_)
      repeat walk_at "rdk"
      refine ⟨_, rfl, by omega, by omega, for_range (fun i σ' H' => Same H H' ∧ ∃ v3, σ' = [some (.ref t), some (.ref t2), v3]) ⟨Same.refl H, _, rfl⟩ ?_ ?_⟩
      · rintro i σ' H' hi ⟨s1, v3, rfl⟩
        have hT' := s1.tup hT
        have hT2' := s1.tup hT2
        have hi0 : i = 0 ∨ i = 1 := by have : (([V.str w, .int n] : List V).length : Int).toNat = 2 := rfl; omega
        rcases hi0 with rfl | rfl
        · repeat walk_at "rdz"
          refine rd_tupTy ?_
          repeat walk_at "rdz"
          refine ⟨rfl, fun p hp => ?_⟩
          have s2 := s1.newT hp (o := .ext (TyTup p))
          have hp2 : (upd H' p (.ext (TyTup p))) p = some (.ext (TyTup p)) := upd_same
          generalize upd H' p _ = H2 at s2 hp2
          have hT' := s2.tup hT
          have hT2' := s2.tup hT2
          repeat walk_at "rdz"
          refine rd_isi2S hp2 ?_
          repeat walk_at "rdz"
          · exact absurd rfl (by assumption)
          · repeat walk_at "rdz"
            exact ⟨s2, _, rfl⟩
        · repeat walk_at "rdz"
          refine rd_tupTy ?_
          repeat walk_at "rdz"
          refine ⟨rfl, fun p hp => ?_⟩
          have s2 := s1.newT hp (o := .ext (TyTup p))
          have hp2 : (upd H' p (.ext (TyTup p))) p = some (.ext (TyTup p)) := upd_same
          generalize upd H' p _ = H2 at s2 hp2
          have hT' := s2.tup hT
          have hT2' := s2.tup hT2
          repeat walk_at "rdz"
          refine rd_isi2I hp2 ?_
          repeat walk_at "rdz"
          exact ⟨s2, _, rfl⟩
      · rintro σ' H' ⟨s1, v3, rfl⟩
        repeat walk_at "rdz"
        exact k _ s1
theorem sc_Lrows : FnScope ["_law_found", "_law_rows_here", "_law_k"] ["_law_found", "_law_rows_here"] (defScope s_Lrows) := ⟨rfl, rfl, rfl, by decide +kernel, rfl, by decide +kernel, by decide +kernel⟩
theorem ok_Lrows    (D : DefAt K mg "_law_rows" s_Lrows) (c_Lalike : Cal P w K mg base 1 "_law_alike" (spAlike K)) (n_range : mg "range" = none) (n_len : mg "len" = none) (n_isinstance : mg "isinstance" = none) (n_list : mg "list" = none) : Cal P w K mg base 2 "_law_rows" (spRows K) := by
  refine cal_of (N := ["_law_found", "_law_rows_here", "_law_k"]) (ps := ["_law_found", "_law_rows_here"]) D sc_Lrows (fun vs H Q E h => ?_) (fun _ _ _ _ _ _ us hl => match us, hl with | [_, _], _ => rfl) (fun f cdv A outer s H vs Q E hr h => ?_)
  · obtain ⟨a, b, xs, ys, rs, rfl, _⟩ := h; rfl
  · obtain ⟨a, b, xs, ys, rs, rfl, hA, hR, hB, hR2, h60, k⟩ := h
    refine ⟨_, (pss_cons (ps_if (PW.pt (pw_or (pt_not (pt_val (pe_callB cn_isiA rfl n_isinstance PyProof.Rows.boot_isinstance (pa_cons (pv 0) (pa_cons (pe_blA rfl n_list PyProof.Rows.boot_list) pa_nil))))) (pw_or1 (pt_cmpR op_ne (pe_callB cn_len rfl n_len PySem.boot_len (pa_cons (pv 0) pa_nil)) (pe_callB cn_len rfl n_len PySem.boot_len (pa_cons (pv 1) pa_nil)) (nomark _))))) (pss_one (ps_ret pe_bl)) pss_nil)
      (pss_cons (ps_for PassesOwn.never rfl (pi_range1 rfl n_range (pa_cons (pe_callB cn_len rfl n_len PySem.boot_len (pa_cons (pv 1) pa_nil)) pa_nil)) (pg_name (i := 2) sc_Lrows.nd rfl (by first | exact Or.inl rfl | exact Or.inr rfl))
      (pss_one (ps_if (pt_not (pt_val (pe_cal c_Lalike (hr.mono (by decide)) rfl (pa_cons (pe_ix ix_list (pv 0) (pv 2) (fun _ _ => rfl)) (pa_cons (pe_ix ix_list (pv 1) (pv 2) (fun _ _ => rfl)) pa_nil))))) (pss_one (ps_ret pe_bl)) pss_nil)))
      (pss_one (ps_ret pe_bl)))), ?_⟩
    try simp only [nox_K, nox_P, nox_w, nox_mg, nox_base, cxOf_K, cxOf_P, cxOf_w, cxOf_mg, cxOf_base]
    have hx : xs.length = rs.length := hR.1.symm
    have hy : ys.length = rs.length := hR2.1.symm
    repeat walk_at "rdz"
    refine rd_for (rd_iRng1 ?_)
    repeat walk_at "rdk"
    refine ⟨_, rfl, by omega, by omega, ?_⟩
    have en : ((ys.length : Nat) : Int).toNat = rs.length := by rw [hy]; omega
    rw [en]
    refine for_range (fun i σ' H' => Same H H' ∧ ∃ v3, σ' = [some (.ref a), some (.ref b), v3]) ⟨Same.refl H, _, rfl⟩ ?_ ?_
    · rintro i σ' H' hi ⟨s1, v3, rfl⟩
      have hix : i < xs.length := by omega
      have hiy : i < ys.length := by omega
      have g1 := hR.2 i rs[i] xs[i] (List.getElem?_eq_getElem hi) (List.getElem?_eq_getElem hix)
      have g2 := hR2.2 i rs[i] ys[i] (List.getElem?_eq_getElem hi) (List.getElem?_eq_getElem hiy)
      rw [Int.zero_add]
      repeat walk_at "rdz"
      refine rd_ixL (s1.seq hA) (atI_nat' (i := i) (List.getElem?_eq_getElem hix) rfl) ?_
      repeat walk_at "rdz"
      refine rd_ixL (s1.seq hB) (atI_nat' (i := i) (List.getElem?_eq_getElem hiy) rfl) ?_
      repeat walk_at "rdz"
      refine ⟨_, _, _, rfl, g1.keep s1.imm, g2.keep s1.imm, fun H2 s2 => ?_⟩
      repeat walk_at "rdz"
      exact ⟨s1.trans s2, _, rfl⟩
    · rintro σ' H' ⟨s1, v3, rfl⟩
      repeat walk_at "rdz"
      exact k _ s1
theorem sc_Lcell_at : FnScope ["_law_script", "_law_k"] ["_law_script", "_law_k"] (defScope s_Lcell_at) := ⟨rfl, rfl, rfl, by decide +kernel, rfl, by decide +kernel, by decide +kernel⟩
theorem ok_Lcell_at    (D : DefAt K mg "_law_cell_at" s_Lcell_at) (n_len : mg "len" = none) : Cal P w K mg base 1 "_law_cell_at" (spCell K) := by
  refine cal_of (N := ["_law_script", "_law_k"]) (ps := ["_law_script", "_law_k"]) D sc_Lcell_at (fun vs H Q E h => ?_) (fun _ _ _ _ _ _ us hl => match us, hl with | [_, _], _ => rfl) (fun f cdv A outer s H vs Q E hr h => ?_)
  · obtain ⟨p, ns, j, rfl, _⟩ := h; rfl
  · obtain ⟨p, ns, j, rfl, hj, hl, k⟩ := h
    refine ⟨_, (pss_cons (ps_if (pt_cmpR op_lt (pv 1) (pe_callB cn_len rfl n_len PySem.boot_len (pa_cons (pv 0) pa_nil)) (nomark _)) (pss_one (ps_ret (pe_ix ix_list (pv 0) (pv 1) (fun _ _ => rfl)))) pss_nil)
      (pss_one (ps_ret pe_int))), ?_⟩
    try simp only [nox_K, nox_P, nox_w, nox_mg, nox_base, cxOf_K, cxOf_P, cxOf_w, cxOf_mg, cxOf_base]
    repeat' walk_at "rdt"
    · rename_i hlt
      rw [List.length_map] at hlt
      obtain ⟨c, e1, e2⟩ := atI_some (xs := ns) hj hlt
      have e3 : (ns.map V.int)[j.toNat]? = some (.int c) := by rw [List.getElem?_map, e2]; rfl
      exact rd_ixL hl (atI_nat' e3 (by omega)) (k c)
    · exact k _

end
end My

namespace My
open PySem L2

def spOther (C : Addr) : Sp := fun vs H Q _ => ∃ a, vs = [.ref a] ∧ H a = some (ExcO a C) ∧ Q (.bl false) H
def spRefused : Sp := fun vs H Q _ => ∃ z, vs = [.str z] ∧ z.length ≤ 100000 ∧ (partsT z).length ≤ 1000 ∧ readOk z = false ∧ ∀ H', Same H H' → Q (.bl true) H'

section
variable {P : Program} {w : World} {K : PySem.W.Frag} {mg : Str → Option Value} {base : Heap}
theorem sc_Lother : FnScope ["_law_e"] ["_law_e"] (defScope s_Lother) := ⟨rfl, rfl, rfl, by decide +kernel, rfl, by decide +kernel, by decide +kernel⟩
theorem ok_Lother  {cNoCode : Addr} {cNoClash : Addr} {cNoSlot : Addr} {cTaken : Addr} {cNoNumber : Addr} {cTooMuch : Addr} {cNoAccount : Addr} {cNoLimit : Addr} {cPoorPurse : Addr} {cPoorCoin : Addr} {cNoPaper : Addr} {cNoRow : Addr} (zK : ExcK K cNoCode) (g_NoClash : GlobAt mg "NoClash" (.ref cNoClash)) (k_NoClash : PySem.W.kitOne K (.ref cNoCode) (.ref cNoClash) = some false) (g_NoSlot : GlobAt mg "NoSlot" (.ref cNoSlot)) (k_NoSlot : PySem.W.kitOne K (.ref cNoCode) (.ref cNoSlot) = some false) (g_Taken : GlobAt mg "Taken" (.ref cTaken)) (k_Taken : PySem.W.kitOne K (.ref cNoCode) (.ref cTaken) = some false) (g_NoNumber : GlobAt mg "NoNumber" (.ref cNoNumber)) (k_NoNumber : PySem.W.kitOne K (.ref cNoCode) (.ref cNoNumber) = some false) (g_TooMuch : GlobAt mg "TooMuch" (.ref cTooMuch)) (k_TooMuch : PySem.W.kitOne K (.ref cNoCode) (.ref cTooMuch) = some false) (g_NoAccount : GlobAt mg "NoAccount" (.ref cNoAccount)) (k_NoAccount : PySem.W.kitOne K (.ref cNoCode) (.ref cNoAccount) = some false) (g_NoLimit : GlobAt mg "NoLimit" (.ref cNoLimit)) (k_NoLimit : PySem.W.kitOne K (.ref cNoCode) (.ref cNoLimit) = some false) (g_PoorPurse : GlobAt mg "PoorPurse" (.ref cPoorPurse)) (k_PoorPurse : PySem.W.kitOne K (.ref cNoCode) (.ref cPoorPurse) = some false) (g_PoorCoin : GlobAt mg "PoorCoin" (.ref cPoorCoin)) (k_PoorCoin : PySem.W.kitOne K (.ref cNoCode) (.ref cPoorCoin) = some false) (g_NoPaper : GlobAt mg "NoPaper" (.ref cNoPaper)) (k_NoPaper : PySem.W.kitOne K (.ref cNoCode) (.ref cNoPaper) = some false) (g_NoRow : GlobAt mg "NoRow" (.ref cNoRow)) (k_NoRow : PySem.W.kitOne K (.ref cNoCode) (.ref cNoRow) = some false)  (D : DefAt K mg "_law_other" s_Lother) (n_isinstance : mg "isinstance" = none) : Cal P w K mg base 1 "_law_other" (spOther cNoCode) := by
  refine cal_of (N := ["_law_e"]) (ps := ["_law_e"]) D sc_Lother (fun vs H Q E h => ?_) (fun _ _ _ _ _ _ us hl => match us, hl with | [_], _ => rfl) (fun f cdv A outer s H vs Q E hr h => ?_)
  · obtain ⟨a, rfl, _⟩ := h; rfl
  · obtain ⟨a, rfl, ha, k⟩ := h
    refine ⟨_, (pss_cons (ps_if (PW.pt (pw_or (pt_val (pe_callB cn_isX rfl n_isinstance PyProof.Rows.boot_isinstance (pa_cons (pv 0) (pa_cons (pe_glA rfl g_NoClash) pa_nil)))) (pw_or (pt_val (pe_callB cn_isX rfl n_isinstance PyProof.Rows.boot_isinstance (pa_cons (pv 0) (pa_cons (pe_glA rfl g_NoSlot) pa_nil)))) (pw_or (pt_val (pe_callB cn_isX rfl n_isinstance PyProof.Rows.boot_isinstance (pa_cons (pv 0) (pa_cons (pe_glA rfl g_Taken) pa_nil)))) (pw_or1 (pt_val (pe_callB cn_isX rfl n_isinstance PyProof.Rows.boot_isinstance (pa_cons (pv 0) (pa_cons (pe_glA rfl g_NoNumber) pa_nil))))))))) (pss_one (ps_ret pe_bl)) pss_nil)
      (pss_cons (ps_if (PW.pt (pw_or (pt_val (pe_callB cn_isX rfl n_isinstance PyProof.Rows.boot_isinstance (pa_cons (pv 0) (pa_cons (pe_glA rfl g_TooMuch) pa_nil)))) (pw_or (pt_val (pe_callB cn_isX rfl n_isinstance PyProof.Rows.boot_isinstance (pa_cons (pv 0) (pa_cons (pe_glA rfl g_NoAccount) pa_nil)))) (pw_or (pt_val (pe_callB cn_isX rfl n_isinstance PyProof.Rows.boot_isinstance (pa_cons (pv 0) (pa_cons (pe_glA rfl g_NoLimit) pa_nil)))) (pw_or1 (pt_val (pe_callB cn_isX rfl n_isinstance PyProof.Rows.boot_isinstance (pa_cons (pv 0) (pa_cons (pe_glA rfl g_PoorPurse) pa_nil))))))))) (pss_one (ps_ret pe_bl)) pss_nil)
      (pss_one (ps_ret (pe_or (pe_callB cn_isX rfl n_isinstance PyProof.Rows.boot_isinstance (pa_cons (pv 0) (pa_cons (pe_glA rfl g_PoorCoin) pa_nil))) (pe_or (pe_callB cn_isX rfl n_isinstance PyProof.Rows.boot_isinstance (pa_cons (pv 0) (pa_cons (pe_glA rfl g_NoPaper) pa_nil))) (pe_one (pe_callB cn_isX rfl n_isinstance PyProof.Rows.boot_isinstance (pa_cons (pv 0) (pa_cons (pe_glA rfl g_NoRow) pa_nil)))))))))), ?_⟩
    try simp only [nox_K, nox_P, nox_w, nox_mg, nox_base, cxOf_K, cxOf_P, cxOf_w, cxOf_mg, cxOf_base]
    repeat walk_at "rdt"
    refine rd_isX ha zK k_NoClash (by intro z; cases z) ?_
    repeat walk_at "rdt"
    refine rd_isX ha zK k_NoSlot (by intro z; cases z) ?_
    repeat walk_at "rdt"
    refine rd_isX ha zK k_Taken (by intro z; cases z) ?_
    repeat walk_at "rdt"
    refine rd_isX ha zK k_NoNumber (by intro z; cases z) ?_
    repeat walk_at "rdt"
    refine rd_isX ha zK k_TooMuch (by intro z; cases z) ?_
    repeat walk_at "rdt"
    refine rd_isX ha zK k_NoAccount (by intro z; cases z) ?_
    repeat walk_at "rdt"
    refine rd_isX ha zK k_NoLimit (by intro z; cases z) ?_
    repeat walk_at "rdt"
    refine rd_isX ha zK k_PoorPurse (by intro z; cases z) ?_
    repeat walk_at "rdt"
    refine rd_isX ha zK k_PoorCoin (by intro z; cases z) ?_
    repeat walk_at "rdt"
    refine rd_isX ha zK k_NoPaper (by intro z; cases z) ?_
    repeat walk_at "rdt"
    refine rd_isX ha zK k_NoRow (by intro z; cases z) ?_
    repeat walk_at "rdt"
    exact k
theorem sc_Lrefused : FnScope ["_law_signs", "_law_error", "_law_e"] ["_law_signs"] (defScope s_Lrefused) := ⟨rfl, rfl, rfl, by decide +kernel, rfl, by decide +kernel, by decide +kernel⟩
theorem ok_Lrefused {cNoCode : Addr} {cHouseError : Addr} (hHand_NoCode : HandOk K mg cNoCode "NoCode" cNoCode) (zK : ExcK K cNoCode) (g_HouseError : GlobAt mg "HouseError" (.ref cHouseError)) (k_HouseError : PySem.W.kitOne K (.ref cNoCode) (.ref cHouseError) = some true) (n_ValueError : mg "ValueError" = none) (k_ValueError : PySem.W.kitOne K (.ref cNoCode) (.type "ValueError") = some true)  (D : DefAt K mg "_law_refused" s_Lrefused) (o_NoCode : Exc "NoCode" cNoCode mg base) (c_read : CalE P w K mg base 5 "read" (spReadT K cNoCode)) (c_Lother : Cal P w K mg base 1 "_law_other" (spOther cNoCode)) (n_isinstance : mg "isinstance" = none) : Cal P w K mg base 6 "_law_refused" spRefused := by
  refine cal_of (N := ["_law_signs", "_law_error", "_law_e"]) (ps := ["_law_signs"]) D sc_Lrefused (fun vs H Q E h => ?_) (fun _ _ _ _ _ _ us hl => match us, hl with | [_], _ => rfl) (fun f cdv A outer s H vs Q E hr h => ?_)
  · obtain ⟨z, rfl, _⟩ := h; rfl
  · obtain ⟨z, rfl, hz, hp, hno, k⟩ := h
    refine ⟨_, (pss_cons (ps_set (i := 1) sc_Lrefused.nd rfl (by first | exact Or.inl rfl | exact Or.inr rfl) pe_non)
      (pss_cons (ps_tryX (i := 2) hHand_NoCode rfl sc_Lrefused.nd rfl rfl (fun _ _ _ => (pss_one (ps_expr (pe_calX rfl rfl rfl c_read (hr.mono (by decide)) rfl (pa_cons (pv 0) pa_nil))))) (fun _ => (pss_one (ps_set (i := 1) sc_Lrefused.nd rfl (by first | exact Or.inl rfl | exact Or.inr rfl) (pv 2)))))
      (pss_cons (ps_if (PW.pt (pw_or (pt_cmpR op_isNn (pv 1) pe_non (nomark _)) (pw_or (pt_not (pt_val (pe_callB cn_isX rfl n_isinstance PyProof.Rows.boot_isinstance (pa_cons (pv 1) (pa_cons (pe_glA rfl g_HouseError) pa_nil))))) (pw_or1 (pt_not (pt_val (pe_callB cn_isX rfl n_isinstance PyProof.Rows.boot_isinstance (pa_cons (pv 1) (pa_cons (pe_blA rfl n_ValueError boot_VE) pa_nil))))))))) (pss_one (ps_ret pe_bl)) pss_nil)
      (pss_one (ps_ret (pe_not (pe_cal c_Lother (hr.mono (by decide)) rfl (pa_cons (pv 1) pa_nil)))))))), ?_⟩
    try simp only [nox_K, nox_P, nox_w, nox_mg, nox_base, cxOf_K, cxOf_P, cxOf_w, cxOf_mg, cxOf_base]
    repeat walk_at "rdt"
    refine rd_tryX ?_
    repeat walk_at "rdt"
    refine rd_at (rd_callE ?_)
    repeat walk_at "rdt"
    refine ⟨z, rfl, hz, hp, ?_⟩
    rw [if_neg (by rw [hno]; decide)]
    intro ex H1 s1
    refine ⟨rfl, fun a ea ha => ?_⟩
    cases ea
    have s2 := s1.newT ha (o := ExcO ex cNoCode)
    have hx : (upd H1 ex (ExcO ex cNoCode)) ex = some (ExcO ex cNoCode) := upd_same
    generalize upd H1 ex (ExcO ex cNoCode) = H2 at s2 hx ⊢
    simp only [List.set_cons_zero, List.set_cons_succ]
    repeat walk_at "rdt"
    dsimp only [endsAs]
    simp only [List.set_cons_zero, List.set_cons_succ]
    repeat walk_at "rdt"
    refine rd_isX hx zK k_HouseError (by intro z; cases z) ?_
    repeat walk_at "rdt"
    refine rd_isX hx zK k_ValueError (by intro z; cases z) ?_
    repeat walk_at "rdt"
    refine ⟨ex, rfl, hx, ?_⟩
    repeat walk_at "rdt"
    exact k H2 s2
theorem sc_Lrefused_by_any : FnScope ["_law_signs", "_law_refused_here"] ["_law_signs"] (defScope s_Lrefused_by_any) := ⟨rfl, rfl, rfl, by decide +kernel, rfl, by decide +kernel, by decide +kernel⟩
theorem ok_Lrefused_by_any {cNoCode : Addr} {cHouseError : Addr} (hHand_HouseError : HandOk K mg cNoCode "HouseError" cHouseError)  (D : DefAt K mg "_law_refused_by_any" s_Lrefused_by_any) (o_NoCode : Exc "NoCode" cNoCode mg base) (c_read : CalE P w K mg base 5 "read" (spReadT K cNoCode)) : Cal P w K mg base 6 "_law_refused_by_any" spRefused := by
  refine cal_of (N := ["_law_signs", "_law_refused_here"]) (ps := ["_law_signs"]) D sc_Lrefused_by_any (fun vs H Q E h => ?_) (fun _ _ _ _ _ _ us hl => match us, hl with | [_], _ => rfl) (fun f cdv A outer s H vs Q E hr h => ?_)
  · obtain ⟨z, rfl, _⟩ := h; rfl
  · obtain ⟨z, rfl, hz, hp, hno, k⟩ := h
    refine ⟨_, (pss_cons (ps_set (i := 1) sc_Lrefused_by_any.nd rfl (by first | exact Or.inl rfl | exact Or.inr rfl) pe_bl)
      (pss_cons (ps_tryB hHand_HouseError rfl (fun _ _ _ => (pss_one (ps_expr (pe_calT rfl rfl c_read (hr.mono (by decide)) rfl (pa_cons (pv 0) pa_nil))))) (fun _ => (pss_one (ps_set (i := 1) sc_Lrefused_by_any.nd rfl (by first | exact Or.inl rfl | exact Or.inr rfl) pe_bl))))
      (pss_one (ps_ret (pv 1))))), ?_⟩
    try simp only [nox_K, nox_P, nox_w, nox_mg, nox_base, cxOf_K, cxOf_P, cxOf_w, cxOf_mg, cxOf_base]
    repeat walk_at "rdt"
    refine rd_try ?_
    repeat walk_at "rdt"
    refine rd_at (rd_callE ?_)
    repeat walk_at "rdt"
    refine ⟨z, rfl, hz, hp, ?_⟩
    rw [if_neg (by rw [hno]; decide)]
    intro ex H1 s1
    refine ⟨rfl, ?_⟩
    repeat walk_at "rdt"
    exact k H1 s1

end
end My

namespace My
open PySem L2

def W1 : List Str := [Str.ofString " ", Str.ofString "push", Str.ofString "push ", Str.ofString "push 01", Str.ofString "push  1", Str.ofString "push 1 ", Str.ofString " push 1", Str.ofString "push -1", Str.ofString "push +1", Str.ofString "push 00"]
def W2 : List Str := [Str.ofString "push 18446744073709551616", Str.ofString "push 99999999999999999999", Str.ofString "push 100000000000000000000"]
def W3 : List Str := [Str.ofString "copy 16", Str.ofString "copy", Str.ofString "swap 0", Str.ofString "swap 16", Str.ofString "swap 1a", Str.ofString "drop 1", Str.ofString "drop ", Str.ofString " add", Str.ofString "Add", Str.ofString "ADD"]
def W5 : List Str := [Str.ofString "add;drop", Str.ofString "push 1;add", Str.ofString "push 1,", Str.ofString "7", Str.ofString "push push", Str.ofString "push 1 2", Str.ofString "none", Str.ofString "push1", Str.ofString "give 0"]
def ODD : List Str := [Str.ofString " 1", Str.ofString "1 ", Str.ofString "01", Str.ofString "-1", Str.ofString "+1", Str.ofString "00", Str.ofString "1_0"]
def strI (i : Int) : Str := Str.ofString (toString i)
def W4 (m : Int) : List Str := [Str.ofString "jumpif", Str.ofString "jump x", Str.ofString "jump " ++ strI (m + 1), Str.ofString "jumpif " ++ strI (m + 60), Str.ofString "jumpif1", Str.ofString "copy 1;"]
def W6 (n m : Int) : List Str := [Str.ofString "push " ++ strI (18446744073709551616 + n), Str.ofString "jump " ++ strI (m + 1 + n), if m < 2 then Str.ofString " " else Str.ofString ""]
def W7 (wd : Str) : List Str := ODD.map fun o => wd ++ Str.ofString " " ++ o
def wrongs (n m : Int) (wd : Str) : List Str := W1 ++ W2 ++ W3 ++ W4 m ++ W5 ++ W6 n m ++ W7 wd
def cleanB (p : List Nat) : Bool := !(List.range p.length).any fun j => p[j]? == some 59 && p[j + 1]? == some 32
theorem clean_of {p : List Nat} (h : cleanB p = true) : Clean p := fun j ⟨h1, h2⟩ => by
  unfold cleanB at h
  rw [Bool.not_eq_true'] at h
  have hj := (List.getElem?_eq_some_iff.mp h1).1
  have := List.any_eq_false.mp h j (List.mem_range.mpr hj)
  rw [h1, h2] at this
  simp at this
def BadW (m : Nat) (w : Str) : Prop := (∀ r, rowT w = some r → rightRow (m : Int) r = false) ∧ Clean w.cps.toList ∧ w.length ≤ 60
def badC (w : Str) : Bool := (match rowT w with | none => true | some r => (List.range 61).all fun m => !(rightRow (m : Int) r)) && cleanB w.cps.toList && decide (w.length ≤ 60)
theorem bad_of {w : Str} {m : Nat} (h : badC w = true) (hm : m ≤ 60) : BadW m w := by
  unfold badC at h
  rw [Bool.and_eq_true, Bool.and_eq_true, decide_eq_true_eq] at h
  obtain ⟨⟨h1, h2⟩, h3⟩ := h
  refine ⟨fun r hr => ?_, clean_of h2, h3⟩
  rw [hr] at h1
  have := List.all_eq_true.mp h1 m (List.mem_range.mpr (by omega))
  simpa using this
theorem bad_1 : W1.all badC = true := by decide +kernel
theorem bad_2 : W2.all badC = true := by decide +kernel
theorem bad_3 : W3.all badC = true := by decide +kernel
theorem bad_5 : W5.all badC = true := by decide +kernel
theorem bad_4 : [Str.ofString "jumpif", Str.ofString "jump x", Str.ofString "jumpif1", Str.ofString "copy 1;"].all badC = true := by decide +kernel
theorem bad_7 : (NMS.all fun wd => (W7 wd).all badC) = true := by decide +kernel
theorem bad_6 : [Str.ofString " ", Str.ofString ""].all badC = true := by decide +kernel

section
variable {P : Program} {w : World} {K : PySem.W.Frag} {mg : Str → Option Value} {base : Heap}

end
end My

namespace My
open PySem L2

theorem words_num {wd : List Nat} (hw : 32 ∉ wd) (n : Nat) : wordsT (mkS (wd ++ 32 :: sNum n)) = [mkS wd, mkS (sNum n)] := by
  have h32 : 32 ∉ sNum n := fun z => by have := num_no z; omega
  have := split_glue (c := 32) (y := []) (ps := [wd, sNum n]) (by simp) (by simp) (fun p hp => by
    rcases List.mem_cons.mp hp with e | e
    · rw [e]; exact hw
    · rw [List.mem_singleton.mp e]; exact h32) (by decide +kernel)
  unfold wordsT
  rw [sp_mk]
  show Txt.split (mkS (wd ++ 32 :: sNum n)) (mkS [32]) = [wd, sNum n].map mkS
  rw [← this]
  show _ = Txt.split (mkS (wd ++ [32] ++ sNum n)) _
  rw [List.append_assoc]
  rfl
theorem rowT_num {wd : List Nat} (hw : 32 ∉ wd) (n : Nat) : rowT (mkS (wd ++ 32 :: sNum n)) = (readN (sNum n)).map fun k => (mkS wd, some (k : Int)) := by
  unfold rowT
  rw [words_num hw n]
  simp only [List.length_cons, List.length_nil]
  rw [if_neg (by decide), if_pos (by decide)]
  simp [mkS_list]
theorem read_big {m : Nat} (h : 18446744073709551616 ≤ m) : readN (sNum m) = none := by
  unfold readN
  split
  · rfl
  · rw [if_pos (List.all_eq_true.mpr (sNum_dig m)), sNum_val, if_pos (.inl h)]
theorem numT {wd : String} {w : List Nat} {k : Int} (e : Str.ofString wd = mkS (w ++ [32])) (h : 0 ≤ k) : Str.ofString wd ++ strI k = mkS (w ++ 32 :: sNum k.toNat) := by
  unfold strI
  rw [str_numI h, app_mk, e, mkS_list]
  simp
theorem clean_no {p : List Nat} (h : 59 ∉ p) : Clean p := fun j z => h (List.mem_of_getElem? z.1)
theorem bad_num {wd : String} {w : List Nat} {k : Int} {m : Nat} (e : Str.ofString wd = mkS (w ++ [32])) (h32 : 32 ∉ w) (h59 : 59 ∉ w) (hl : w.length ≤ 10) (h0 : 0 ≤ k) (h1 : k < 10 ^ 31)
    (hr : ∀ n : Nat, (n : Int) = k → n < 18446744073709551616 → rightRow (m : Int) (mkS w, some (n : Int)) = false) : BadW m (Str.ofString wd ++ strI k) := by
  have hk : k.toNat < 10 ^ 31 := by
    have : (k.toNat : Int) < ((10 ^ 31 : Nat) : Int) := by rw [Int.toNat_of_nonneg h0]; exact h1
    exact Int.ofNat_lt.mp this
  have hs : (sNum k.toNat).length ≤ 31 := sNum_le (by decide) hk
  rw [numT e h0]
  refine ⟨fun r er => ?_, clean_no ?_, ?_⟩
  · rw [rowT_num h32] at er
    by_cases hb : k.toNat < 18446744073709551616
    · rw [read_num hb] at er
      cases er
      exact hr k.toNat (by omega) hb
    · rw [read_big (by omega)] at er
      cases er
  · rw [mkS_list]
    intro z
    rcases List.mem_append.mp z with z | z
    · exact h59 z
    · rcases List.mem_cons.mp z with z | z
      · cases z
      · have := num_no z; omega
  · rw [mkS_len, List.length_append, List.length_cons]
    omega
theorem right_jump (n c : Int) : rightRow c (mkS [106, 117, 109, 112], some n) = (decide (0 ≤ n) && decide (n ≤ c)) := by
  unfold rightRow rightNum
  rw [show inS (mkS [106, 117, 109, 112]) WS = true by decide +kernel, show inS (mkS [106, 117, 109, 112]) NMS = true by decide +kernel]
  rw [if_pos rfl]
  dsimp only
  rw [if_neg (by decide +kernel), if_neg (by decide +kernel), if_neg (by decide +kernel)]
  rfl
theorem right_jumpif (n c : Int) : rightRow c (mkS [106, 117, 109, 112, 105, 102], some n) = (decide (0 ≤ n) && decide (n ≤ c)) := by
  unfold rightRow rightNum
  rw [show inS (mkS [106, 117, 109, 112, 105, 102]) WS = true by decide +kernel, show inS (mkS [106, 117, 109, 112, 105, 102]) NMS = true by decide +kernel]
  rw [if_pos rfl]
  dsimp only
  rw [if_neg (by decide +kernel), if_neg (by decide +kernel), if_neg (by decide +kernel)]
  rfl
theorem wrongs_bad {n : Int} {m : Nat} {wd w : Str} (n0 : 0 ≤ n) (n1 : n < 10 ^ 30) (m1 : m ≤ 60) (hwd : wd ∈ NMS) (h : w ∈ wrongs n m wd) : BadW m w := by
  unfold wrongs at h
  have ej : Str.ofString "jump " = mkS ([106, 117, 109, 112] ++ [32]) := by decide +kernel
  have ei : Str.ofString "jumpif " = mkS ([106, 117, 109, 112, 105, 102] ++ [32]) := by decide +kernel
  have ep : Str.ofString "push " = mkS ([112, 117, 115, 104] ++ [32]) := by decide +kernel
  have e30 : (10 : Int) ^ 30 = 1000000000000000000000000000000 := by decide
  have e31 : (10 : Int) ^ 31 = 10000000000000000000000000000000 := by decide
  rw [e30] at n1
  simp only [List.mem_append] at h
  rcases h with (((((h | h) | h) | h) | h) | h) | h
  · exact bad_of (List.all_eq_true.mp bad_1 w h) m1
  · exact bad_of (List.all_eq_true.mp bad_2 w h) m1
  · exact bad_of (List.all_eq_true.mp bad_3 w h) m1
  · unfold W4 at h
    simp only [List.mem_cons, List.not_mem_nil, or_false] at h
    rcases h with rfl | rfl | rfl | rfl | rfl | rfl
    · exact bad_of (List.all_eq_true.mp bad_4 _ (by simp)) m1
    · exact bad_of (List.all_eq_true.mp bad_4 _ (by simp)) m1
    · refine bad_num ej (by decide) (by decide) (by decide) (by omega) (by rw [e31]; omega) fun k hk _ => ?_
      rw [right_jump, decide_eq_false (p := (k : Int) ≤ m) (by omega), Bool.and_false]
    · refine bad_num ei (by decide) (by decide) (by decide) (by omega) (by rw [e31]; omega) fun k hk _ => ?_
      rw [right_jumpif, decide_eq_false (p := (k : Int) ≤ m) (by omega), Bool.and_false]
    · exact bad_of (List.all_eq_true.mp bad_4 _ (by simp)) m1
    · exact bad_of (List.all_eq_true.mp bad_4 _ (by simp)) m1
  · exact bad_of (List.all_eq_true.mp bad_5 w h) m1
  · unfold W6 at h
    simp only [List.mem_cons, List.not_mem_nil, or_false] at h
    rcases h with rfl | rfl | rfl
    · refine bad_num ep (by decide) (by decide) (by decide) (by omega) (by rw [e31]; omega) fun k hk hb => ?_
      omega
    · refine bad_num ej (by decide) (by decide) (by decide) (by omega) (by rw [e31]; omega) fun k hk _ => ?_
      rw [right_jump, decide_eq_false (p := (k : Int) ≤ m) (by omega), Bool.and_false]
    · split
      · exact bad_of (List.all_eq_true.mp bad_6 _ (by simp)) m1
      · exact bad_of (List.all_eq_true.mp bad_6 _ (by simp)) m1
  · exact bad_of (List.all_eq_true.mp (List.all_eq_true.mp bad_7 wd hwd) w h) m1

section
variable {P : Program} {w : World} {K : PySem.W.Frag} {mg : Str → Option Value} {base : Heap}

end
end My

namespace My
open PySem L2

theorem refuse {z : Str} {us : List Str} {w : Str} {m : Nat} (hp : partsT z = us) (hm : us.length = m) (hw : w ∈ us) (hb : BadW m w) : readOk z = false := by
  refine Bool.eq_false_iff.mpr fun q => ?_
  unfold readOk rowsT at q
  rw [hp, Bool.and_eq_true] at q
  obtain ⟨q1, q2⟩ := q
  have e := all_some us q1
  have el : (us.filterMap rowT).length = m := by
    have := congrArg List.length e
    rw [List.length_map, List.length_map] at this
    omega
  obtain ⟨r, hr⟩ := Option.isSome_iff_exists.mp (List.all_eq_true.mp q1 w hw)
  have hmem : r ∈ us.filterMap rowT := List.mem_filterMap.mpr ⟨w, hw, hr⟩
  unfold rightAll at q2
  rw [Bool.and_eq_true] at q2
  have := List.all_eq_true.mp q2.2 r hmem
  rw [el, hb.1 r hr] at this
  cases this
theorem parts_join {us : List Str} (hn : us ≠ []) (hc : ∀ u ∈ us, Clean u.cps.toList) (hne : us ≠ [Str.ofString ""]) : partsT (Txt.join (Str.ofString "; ") us) = us := by
  have e : Txt.join (Str.ofString "; ") us = mkS (glueL [59, 32] (us.map fun t => t.cps.toList)) := by
    rw [join_glue, pa_mk, mkS_list]
  have hz : Txt.join (Str.ofString "; ") us ≠ Str.ofString "" := by
    rw [e, no_mk]
    intro zz
    have z := mkS_inj zz
    clear zz e hc
    cases us with
    | nil => exact hn rfl
    | cons u r =>
      cases r with
      | nil =>
        have z : u.cps.toList = [] := z
        refine hne ?_
        rw [← mkS_self u, z, ← no_mk]
      | cons v r =>
        have z : u.cps.toList ++ [59, 32] ++ glueL [59, 32] (v.cps.toList :: r.map fun t => t.cps.toList) = [] := z
        simp at z
  unfold partsT
  rw [if_neg hz, e, pa_mk, split_clean (by simpa using hn) (fun p hp => by obtain ⟨u, hu, rfl⟩ := List.mem_map.mp hp; exact hc u hu), List.map_map]
  exact (List.map_congr_left fun u _ => mkS_self u).trans (List.map_id _)
theorem ne_c : ((W1 ++ W2 ++ W3 ++ W5).all fun w => decide (w.length ≠ 0)) = true := by decide +kernel
theorem ne_7 : (NMS.all fun wd => (W7 wd).all fun w => decide (w.length ≠ 0)) = true := by decide +kernel
theorem wrongs_ne {n : Int} {wd w : Str} (hwd : wd ∈ NMS) (h : w ∈ wrongs n 1 wd) : w ≠ Str.ofString "" := by
  have l0 : (Str.ofString "").length = 0 := rfl
  have key : w.length ≠ 0 → w ≠ Str.ofString "" := fun q z => q (by rw [z]; rfl)
  have ca : ∀ x y : Str, x.length ≠ 0 → (x ++ y).length ≠ 0 := fun x y q => by rw [len_app]; omega
  have cs : ∀ w ∈ W1 ++ W2 ++ W3 ++ W5, w.length ≠ 0 := fun w hw => by
    have := List.all_eq_true.mp ne_c w hw
    simpa using this
  refine key ?_
  unfold wrongs at h
  simp only [List.mem_append] at h cs
  rcases h with (((((h | h) | h) | h) | h) | h) | h
  · exact cs w (.inl (.inl (.inl h)))
  · exact cs w (.inl (.inl (.inr h)))
  · exact cs w (.inl (.inr h))
  · unfold W4 at h
    simp only [List.mem_cons, List.not_mem_nil, or_false] at h
    rcases h with rfl | rfl | rfl | rfl | rfl | rfl
    · decide
    · decide
    · exact ca _ _ (by decide)
    · exact ca _ _ (by decide)
    · decide
    · decide
  · exact cs w (.inr h)
  · unfold W6 at h
    simp only [List.mem_cons, List.not_mem_nil, or_false] at h
    rcases h with rfl | rfl | rfl
    · exact ca _ _ (by decide)
    · exact ca _ _ (by decide)
    · rw [if_pos (by decide)]; decide
  · have := List.all_eq_true.mp (List.all_eq_true.mp ne_7 wd hwd) w h
    simpa using this
def spWrong : Sp := fun vs H Q _ => ∃ (n : Int) (m : Nat), vs = [.int n, .int (m : Int)] ∧ 0 ≤ n ∧ n < 1000000000000000000000000000000 ∧ 1 ≤ m ∧ m ≤ 60 ∧ ∀ w H', Same H H' → BadW m w → (m = 1 → w ≠ Str.ofString "") → Q (.str w) H'
theorem rd_strP {i : Int} {H : Hp} {Q : VK} (h0 : 0 ≤ i) (h1 : i < 2 ^ 200) (q : Q (.str (strI i)) H) : rStrI [.int i] H Q := rd_strI (log_1920 h0 h1) q

theorem strI_len {i : Int} (h0 : 0 ≤ i) (h1 : i < 10 ^ 31) : (strI i).length ≤ 31 := by
  unfold strI
  rw [str_numI h0]
  show (sNum i.toNat).toArray.size ≤ 31
  rw [List.size_toArray]
  refine sNum_le (by decide) ?_
  have : (i.toNat : Int) < ((10 ^ 31 : Nat) : Int) := by rw [Int.toNat_of_nonneg h0]; exact h1
  exact Int.ofNat_lt.mp this
theorem odd_len : ∀ o ∈ ODD, o.length ≤ 3 := by decide +kernel
theorem nms_len : ∀ o ∈ NMS, o.length ≤ 6 := by decide +kernel
theorem small {a b : Nat} (h : a + b ≤ 100) : a + b ≤ sizeLine := Nat.le_trans h (by decide)
section
variable {P : Program} {w : World} {K : PySem.W.Frag} {mg : Str → Option Value} {base : Heap}
theorem sc_Lwrong : FnScope ["_law_number", "_law_many", "_law_some", "_law_word"] ["_law_number", "_law_many"] (defScope s_Lwrong) := ⟨rfl, rfl, rfl, by decide +kernel, rfl, by decide +kernel, by decide +kernel⟩
theorem ok_Lwrong    (D : DefAt K mg "_law_wrong" s_Lwrong) (n_len : mg "len" = none) (n_str : mg "str" = none) (n_int : mg "int" = none) : Cal P w K mg base 1 "_law_wrong" spWrong := by
  refine cal_of (N := ["_law_number", "_law_many", "_law_some", "_law_word"]) (ps := ["_law_number", "_law_many"]) D sc_Lwrong (fun vs H Q E h => ?_) (fun _ _ _ _ _ _ us hl => match us, hl with | [_, _], _ => rfl) (fun f cdv A outer s H vs Q E hr h => ?_)
  · obtain ⟨n, m, rfl, _⟩ := h; rfl
  · obtain ⟨n, m, rfl, n0, n1, m1, m2, k⟩ := h
    refine' ⟨_, ?der, ?_⟩
    case der =>
      refine' pss_cons ?h56 ?h57
      case h56 =>
        refine' ps_set (i := 2) ?h26 ?h27 ?h28 ?h29
        case h26 =>
          exact sc_Lwrong.nd
        case h27 =>
          rfl
        case h28 =>
          first | exact Or.inl rfl | exact Or.inr rfl
        case h29 =>
          refine' pe_lst ?h25
          case h25 =>
            refine' pa_cV (vs := [.str " ", .str "push", .str "push ", .str "push 01", .str "push  1", .str "push 1 ", .str " push 1", .str "push -1", .str "push +1", .str "push 00"]) ?h24
            case h24 =>
              rfl
      case h57 =>
        refine' pss_cons ?h54 ?h55
        case h54 =>
          exact (ps_set (i := 2) sc_Lwrong.nd rfl (by first | exact Or.inl rfl | exact Or.inr rfl) (pe_op op_cat (pv 2) (pe_lst (pa_cons pe_str (pa_cons pe_str (pa_cons pe_str pa_nil))))))
        case h55 =>
          refine' pss_cons ?h52 ?h53
          case h52 =>
            refine' ps_set (i := 2) ?h35 ?h36 ?h37 ?h38
            case h35 =>
              exact sc_Lwrong.nd
            case h36 =>
              rfl
            case h37 =>
              first | exact Or.inl rfl | exact Or.inr rfl
            case h38 =>
              refine' pe_op ?h32 ?h33 ?h34
              case h32 =>
                exact op_cat
              case h33 =>
                exact (pv 2)
              case h34 =>
                refine' pe_lst ?h31
                case h31 =>
                  refine' pa_cV (vs := [.str "copy 16", .str "copy", .str "swap 0", .str "swap 16", .str "swap 1a", .str "drop 1", .str "drop ", .str " add", .str "Add", .str "ADD"]) ?h30
                  case h30 =>
                    rfl
          case h53 =>
            refine' pss_cons ?h50 ?h51
            case h50 =>
              exact (ps_set (i := 2) sc_Lwrong.nd rfl (by first | exact Or.inl rfl | exact Or.inr rfl) (pe_op op_cat (pv 2) (pe_lst (pa_cons pe_str (pa_cons pe_str (pa_cons (pe_op op_addS pe_str (pe_callTy ct_str rfl n_str PyProof.Rows.boot_str (pa_cons (pe_op op_add (pv 1) pe_int) pa_nil))) (pa_cons (pe_op op_addS pe_str (pe_callTy ct_str rfl n_str PyProof.Rows.boot_str (pa_cons (pe_op op_add (pv 1) pe_int) pa_nil))) (pa_cons pe_str (pa_cons pe_str pa_nil)))))))))
            case h51 =>
              refine' pss_cons ?h48 ?h49
              case h48 =>
                refine' ps_set (i := 2) ?h44 ?h45 ?h46 ?h47
                case h44 =>
                  exact sc_Lwrong.nd
                case h45 =>
                  rfl
                case h46 =>
                  first | exact Or.inl rfl | exact Or.inr rfl
                case h47 =>
                  refine' pe_op ?h41 ?h42 ?h43
                  case h41 =>
                    exact op_cat
                  case h42 =>
                    exact (pv 2)
                  case h43 =>
                    refine' pe_lst ?h40
                    case h40 =>
                      refine' pa_cV (vs := [.str "add;drop", .str "push 1;add", .str "push 1,", .str "7", .str "push push", .str "push 1 2", .str "none", .str "push1", .str "give 0"]) ?h39
                      case h39 =>
                        rfl
              case h49 =>
                exact (pss_cons (ps_set (i := 2) sc_Lwrong.nd rfl (by first | exact Or.inl rfl | exact Or.inr rfl) (pe_op op_cat (pv 2) (pe_lst (pa_cons (pe_op op_addS pe_str (pe_callTy ct_str rfl n_str PyProof.Rows.boot_str (pa_cons (pe_op op_add (pe_op op_pow pe_int pe_int) (pv 0)) pa_nil))) (pa_cons (pe_op op_addS pe_str (pe_callTy ct_str rfl n_str PyProof.Rows.boot_str (pa_cons (pe_op op_add (pe_op op_add (pv 1) pe_int) (pv 0)) pa_nil))) (pa_cons (pe_ix ix_list (pe_lst (pa_cons pe_str (pa_cons pe_str pa_nil))) (pe_callTy call_int1 rfl n_int PyProof.Rows.boot_int (pa_cons (pe_cmpR op_lt (pv 1) pe_int (nomark _)) pa_nil)) (fun _ _ => rfl)) pa_nil))))))
      (pss_cons (ps_set (i := 3) sc_Lwrong.nd rfl (by first | exact Or.inl rfl | exact Or.inr rfl) (pe_ix ix_list (pe_lst (pa_cV (vs := [.str "push", .str "copy", .str "swap", .str "jump", .str "jumpif"]) (by rfl))) (pe_op op_mod (pe_op op_fdivW (pv 0) pe_int) pe_int) (fun _ _ => rfl)))
      (pss_cons (ps_set (i := 2) sc_Lwrong.nd rfl (by first | exact Or.inl rfl | exact Or.inr rfl) (pe_op op_cat (pv 2) (pe_comp ["_law_odd"] rfl (show CompScope (defScope s_Lwrong) ["_law_number", "_law_many", "_law_some", "_law_word"] ["_law_odd"] _ from ⟨rfl, by decide +kernel, by decide +kernel, by decide +kernel, by decide +kernel, by decide +kernel⟩) (pi_list (pe_lst (pa_cV (vs := [.str " 1", .str "1 ", .str "01", .str "-1", .str "+1", .str "00", .str "1_0"]) (by rfl)))) (fun _ _ _ _ _ => (pg_name (i := 0) (show (["_law_odd", "_law_number", "_law_many", "_law_some", "_law_word"] : List Str).Nodup by decide +kernel) rfl (Or.inl rfl) (.inr rfl))) (fun _ _ _ _ _ => pif_nil) (fun _ _ _ _ _ => (pe_op op_addS (pe_op op_addS (pv 4) pe_str) (pv 0))))))
      (pss_one (ps_ret (pe_ix ix_list (pv 2) (pe_op op_mod (pv 0) (pe_callB cn_len rfl n_len PySem.boot_len (pa_cons (pv 2) pa_nil))) (fun _ _ => rfl)))))))
    try simp only [nox_K, nox_P, nox_w, nox_mg, nox_base, cxOf_K, cxOf_P, cxOf_w, cxOf_mg, cxOf_base]
    have e31 : (10 : Int) ^ 31 = 10000000000000000000000000000000 := by decide
    have la := strI_len (i := (m : Int) + 1) (by omega) (by rw [e31]; omega)
    have lb := strI_len (i := (m : Int) + 60) (by omega) (by rw [e31]; omega)
    have lc := strI_len (i := 18446744073709551616 + n) (by omega) (by rw [e31]; omega)
    have ld := strI_len (i := (m : Int) + 1 + n) (by omega) (by rw [e31]; omega)
    have lj : (Str.ofString "jump ").length = 5 := by decide
    have li : (Str.ofString "jumpif ").length = 7 := by decide
    have lp : (Str.ofString "push ").length = 5 := by decide
    have big : (10 : Int) ^ 31 < 2 ^ 200 := by decide
    repeat walk_at "rdt"
    refine ⟨show 10 ≤ sizeLine by decide, fun l1 hl1 => ?_⟩
    have s1 : Same H (upd H l1 (.lst (W1.map V.str))) := Same.new hl1
    have f1 : (upd H l1 (.lst (W1.map V.str))) l1 = some (.lst (W1.map V.str)) := upd_same
    change gName 2 _ _ (upd H l1 (.lst (W1.map V.str))) _
    generalize upd H l1 (.lst (W1.map V.str)) = H1 at s1 f1 ⊢
    repeat walk_at "rdt"
    refine ⟨show 3 ≤ sizeLine by decide, fun a2 ha2 => ?_⟩
    repeat walk_at "rdt"
    refine rd_cat (xs := (W1).map V.str) (ys := (W2).map V.str) (by rw [upd_ne (ne_of_none f1 ha2)]; exact f1) upd_same (show 10 + 3 ≤ sizeLine by decide) fun l2 hl2 => ?_
    generalize hG2 : upd (upd H1 a2 _) l2 _ = H2
    have s2 : Same H H2 := by rw [← hG2]; exact (s1.newT ha2).newT hl2
    have f2 : H2 l2 = some (.lst ((W1 ++ W2).map V.str)) := by rw [← hG2, upd_same]; simp only [List.map_append]
    clear hG2
    repeat walk_at "rdt"
    refine ⟨show 10 ≤ sizeLine by decide, fun a3 ha3 => ?_⟩
    repeat walk_at "rdt"
    refine rd_cat (xs := (W1 ++ W2).map V.str) (ys := (W3).map V.str) (by rw [upd_ne (ne_of_none f2 ha3)]; exact f2) upd_same (show 13 + 10 ≤ sizeLine by decide) fun l3 hl3 => ?_
    generalize hG3 : upd (upd H2 a3 _) l3 _ = H3
    have s3 : Same H H3 := by rw [← hG3]; exact (s2.newT ha3).newT hl3
    have f3 : H3 l3 = some (.lst ((W1 ++ W2 ++ W3).map V.str)) := by rw [← hG3, upd_same]; simp only [List.map_append]
    clear hG3
    repeat walk_at "rdt"
    refine rd_strP (by omega) (by omega) ?_
    repeat walk_at "rdt"
    refine ⟨_, _, rfl, rfl, small (by omega), ?_⟩
    repeat walk_at "rdt"
    refine rd_strP (by omega) (by omega) ?_
    repeat walk_at "rdt"
    refine ⟨_, _, rfl, rfl, small (by omega), ?_⟩
    repeat walk_at "rdt"
    refine ⟨show 6 ≤ sizeLine by decide, fun a4 ha4 => ?_⟩
    repeat walk_at "rdt"
    refine rd_cat (xs := (W1 ++ W2 ++ W3).map V.str) (ys := (W4 m).map V.str) (by rw [upd_ne (ne_of_none f3 ha4)]; exact f3) upd_same (show 23 + 6 ≤ sizeLine by decide) fun l4 hl4 => ?_
    generalize hG4 : upd (upd H3 a4 _) l4 _ = H4
    have s4 : Same H H4 := by rw [← hG4]; exact (s3.newT ha4).newT hl4
    have f4 : H4 l4 = some (.lst ((W1 ++ W2 ++ W3 ++ W4 m).map V.str)) := by rw [← hG4, upd_same]; simp only [List.map_append]
    clear hG4
    repeat walk_at "rdt"
    refine ⟨show 9 ≤ sizeLine by decide, fun a5 ha5 => ?_⟩
    repeat walk_at "rdt"
    refine rd_cat (xs := (W1 ++ W2 ++ W3 ++ W4 m).map V.str) (ys := (W5).map V.str) (by rw [upd_ne (ne_of_none f4 ha5)]; exact f4) upd_same (show 29 + 9 ≤ sizeLine by decide) fun l5 hl5 => ?_
    generalize hG5 : upd (upd H4 a5 _) l5 _ = H5
    have s5 : Same H H5 := by rw [← hG5]; exact (s4.newT ha5).newT hl5
    have f5 : H5 l5 = some (.lst ((W1 ++ W2 ++ W3 ++ W4 m ++ W5).map V.str)) := by rw [← hG5, upd_same]; simp only [List.map_append]
    clear hG5
    repeat walk_at "rdt"
    rw [p64]
    refine rd_strP (by omega) (by omega) ?_
    repeat walk_at "rdt"
    refine ⟨_, _, rfl, rfl, small (by omega), ?_⟩
    repeat walk_at "rdt"
    refine rd_strP (by omega) (by omega) ?_
    repeat walk_at "rdt"
    refine ⟨_, _, rfl, rfl, small (by omega), ?_⟩
    repeat walk_at "rdt"
    refine ⟨show 2 ≤ sizeLine by decide, fun c6 hc6 => ?_⟩
    repeat walk_at "rdt"
    refine .inr ⟨_, rfl, ?_⟩
    repeat walk_at "rdt"
    refine rd_ixL (xs := [.str (Str.ofString ""), .str (Str.ofString " ")]) (v := .str (if (m : Int) < 2 then Str.ofString " " else Str.ofString "")) sql_new (by by_cases z : (m : Int) < 2 <;> simp only [z, decide_true, decide_false, if_true, if_false, Bool.false_eq_true] <;> rfl) ?_
    have s6 := s5.newT hc6 (o := .lst [.str (Str.ofString ""), .str (Str.ofString " ")])
    have f6 := (Same.new hc6 (o := .lst [.str (Str.ofString ""), .str (Str.ofString " ")])) _ _ f5
    generalize upd H5 c6 (.lst [.str (Str.ofString ""), .str (Str.ofString " ")]) = H6 at s6 f6 ⊢
    repeat walk_at "rdt"
    refine ⟨show 3 ≤ sizeLine by decide, fun a6 ha6 => ?_⟩
    repeat walk_at "rdt"
    refine rd_cat (xs := (W1 ++ W2 ++ W3 ++ W4 m ++ W5).map V.str) (ys := (W6 n m).map V.str) (by rw [upd_ne (ne_of_none f6 ha6)]; exact f6) upd_same (show 38 + 3 ≤ sizeLine by decide) fun l7 hl7 => ?_
    generalize hG7 : upd (upd H6 a6 _) l7 _ = H7
    have s7 : Same H H7 := by rw [← hG7]; exact (s6.newT ha6).newT hl7
    have f7 : H7 l7 = some (.lst ((W1 ++ W2 ++ W3 ++ W4 m ++ W5 ++ W6 n m).map V.str)) := by rw [← hG7, upd_same]; simp only [List.map_append]
    clear hG7
    repeat walk_at "rdt"
    refine ⟨show 5 ≤ sizeLine by decide, fun c8 hc8 => ?_⟩
    repeat walk_at "rdt"
    obtain ⟨j, hj, hj5⟩ : ∃ j : Nat, n / 53 % 5 = (j : Int) ∧ j < 5 := ⟨(n / 53 % 5).toNat, by omega, by omega⟩
    have hnl : NMS.length = 5 := rfl
    obtain ⟨wd, hwd⟩ : ∃ wd, NMS[j]? = some wd := ⟨NMS[j]'(by omega), List.getElem?_eq_getElem _⟩
    have hwm : wd ∈ NMS := List.mem_of_getElem? hwd
    have lw := nms_len wd hwm
    refine rd_ixL (xs := NMS.map V.str) sql_new (atI_nat' (i := j) (v := .str wd) (by rw [List.getElem?_map, hwd]; rfl) hj) ?_
    generalize hG8 : upd H7 c8 _ = H8
    have s8 : Same H H8 := by rw [← hG8]; exact s7.newT hc8
    have f8 : H8 l7 = some (.lst ((W1 ++ W2 ++ W3 ++ W4 m ++ W5 ++ W6 n m).map V.str)) := by rw [← hG8]; exact (Same.new hc8) _ _ f7
    clear hG8
    repeat walk_at "rdt"
    refine rd_comp (rd_iList ?_)
    repeat walk_at "rdt"
    refine ⟨show 7 ≤ sizeLine by decide, fun d9 hd9 => ?_⟩
    refine ⟨d9, rfl, ⟨_, sql_new⟩, fun e9 he9 => ?_⟩
    refine comp_map (xs := ODD.map V.str) (ys := (W7 wd).map V.str) sql_new he9 rfl (by decide) ?_ ?_
    · intro i x y H' Q' hx hy sm q
      rw [List.getElem?_map] at hx
      obtain ⟨o, ho, rfl⟩ := Option.map_eq_some_iff.mp hx
      unfold W7 at hy
      rw [List.getElem?_map, List.getElem?_map, ho] at hy
      cases hy
      have lo := odd_len o (List.mem_of_getElem? ho)
      have l1' : (Str.ofString " ").length = 1 := by decide
      repeat walk_at "rdt"
      refine ⟨_, _, rfl, rfl, small (by omega), ?_⟩
      repeat walk_at "rdt"
      exact ⟨_, _, rfl, rfl, small (by rw [len_app]; omega), q⟩
    · generalize hG9 : upd (upd H8 d9 _) e9 _ = H9
      have s9 : Same H H9 := by rw [← hG9]; exact (s8.newT hd9).newT he9
      have f9 : H9 l7 = some (.lst ((W1 ++ W2 ++ W3 ++ W4 m ++ W5 ++ W6 n m).map V.str)) := by rw [← hG9]; exact ((Same.new hd9).newT he9) _ _ f8
      have g9 : H9 e9 = some (.lst ((W7 wd).map V.str)) := by rw [← hG9]; exact upd_same
      clear hG9
      repeat walk_at "rdt"
      refine rd_cat f9 g9 (show 41 + 7 ≤ sizeLine by decide) fun l10 hl10 => ?_
      have s10 := s9.newT hl10 (o := .lst ((W1 ++ W2 ++ W3 ++ W4 m ++ W5 ++ W6 n m).map V.str ++ (W7 wd).map V.str))
      have f10 : SqL K (upd H9 l10 (.lst ((W1 ++ W2 ++ W3 ++ W4 m ++ W5 ++ W6 n m).map V.str ++ (W7 wd).map V.str))) l10 ((wrongs n m wd).map V.str) := by
        unfold wrongs
        rw [List.map_append (l₂ := W7 wd)]
        exact sql_new
      generalize upd H9 l10 (.lst ((W1 ++ W2 ++ W3 ++ W4 m ++ W5 ++ W6 n m).map V.str ++ (W7 wd).map V.str)) = H10 at s10 f10 ⊢
      have wl : ((wrongs n m wd).map V.str).length = 48 := rfl
      repeat walk_at "rdt"
      obtain ⟨w, e1, e2⟩ := atI_some (xs := (wrongs n m wd).map V.str) (i := n % ((((wrongs n m wd).map V.str).length : Nat) : Int)) (Int.emod_nonneg _ (by rw [wl]; decide)) (Int.emod_lt_of_pos _ (by rw [wl]; decide))
      rw [List.getElem?_map] at e2
      obtain ⟨u, hu, rfl⟩ := Option.map_eq_some_iff.mp e2
      refine rd_ixL f10 e1 ?_
      have hmem := List.mem_of_getElem? hu
      exact k u _ s10 (wrongs_bad n0 (by rw [show (10 : Int) ^ 30 = 1000000000000000000000000000000 by decide]; exact n1) m2 hwm hmem) fun e => by subst e; exact wrongs_ne hwm hmem

end
end My

namespace My
open PySem L2

def spLaw (K : PySem.W.Frag) : Sp := fun vs H Q _ => ∃ (a : Addr) (ns : List Int), vs = [.ref a] ∧ SqL K H a (ns.map V.int) ∧ ns.length ≤ 63 ∧ ∀ H', Q (.bl true) H'
theorem passN {X : Cx} : Passes (CXE X.prog X.w X.base) X (fun _ _ _ => False) := fun pins σ H s e s' I h => by
  obtain ⟨a, T, C, H', _, _, _, _, _, _, _, _, _, _, _, q⟩ := h
  exact q.elim
theorem rowT_row {r : Row} (h : okRow r) : rowT (rowS r) = some r := by
  obtain ⟨w, o⟩ := r
  have hw := ws_ok w h.1
  cases o with
  | none =>
    have e : rowS (w, none) = w := mkS_self w
    have := split_glue (c := 32) (y := []) (ps := [w.cps.toList]) (by simp) (by simp) (fun p hp => by rw [List.mem_singleton.mp hp]; exact hw.2.1) (by decide +kernel)
    have ew : wordsT w = [w] := by
      unfold wordsT
      rw [sp_mk]
      have t : Txt.split (mkS w.cps.toList) (mkS [32]) = [mkS w.cps.toList] := this
      rw [mkS_self] at t
      exact t
    rw [e]
    unfold rowT
    rw [ew]
    rfl
  | some n =>
    obtain ⟨n0, n1⟩ := h.2 n rfl
    show rowT (mkS (w.cps.toList ++ 32 :: sNum n.toNat)) = _
    rw [rowT_num hw.2.1, read_num (by omega), mkS_self]
    show some (w, some ((n.toNat : Nat) : Int)) = _
    rw [Int.toNat_of_nonneg n0]
theorem rows_back : ∀ {rs : List Row}, (∀ r ∈ rs, okRow r) → (rs.map rowS).filterMap rowT = rs
  | [], _ => rfl
  | r :: rs, h => by rw [List.map_cons, List.filterMap_cons, rowT_row (h r (by simp)), rows_back fun u hu => h u (by simp [hu])]
theorem clean_row {r : Row} (h : okRow r) : Clean (rowS r).cps.toList := by
  show Clean (mkS (rowL r)).cps.toList
  rw [mkS_list]
  exact clean_no (rowL_no h)
theorem row_ne {r : Row} (h : okRow r) : rowS r ≠ Str.ofString "" := fun z => by
  have := (rowS_len h).1
  rw [z] at this
  exact absurd this (by decide)
theorem parts_rows {rs : List Row} (h : ∀ r ∈ rs, okRow r) : partsT (Txt.join (Str.ofString "; ") (rs.map rowS)) = rs.map rowS := by
  cases rs with
  | nil => exact if_pos (by rw [join_glue]; exact no_mk.symm)
  | cons r rs =>
    refine parts_join (by simp) (fun u hu => by obtain ⟨q, hq, rfl⟩ := List.mem_map.mp hu; exact clean_row (h q hq)) fun z => ?_
    rw [List.map_cons] at z
    exact row_ne (h r (by simp)) (List.cons.inj z).1
theorem ok_rows {rs : List Row} (h : ∀ r ∈ rs, okRow r) (hr : rightAll rs = true) : readOk (Txt.join (Str.ofString "; ") (rs.map rowS)) = true ∧ rowsT (Txt.join (Str.ofString "; ") (rs.map rowS)) = rs := by
  unfold readOk rowsT
  rw [parts_rows h, rows_back h, hr, Bool.and_true]
  refine ⟨List.all_eq_true.mpr fun u hu => ?_, rfl⟩
  obtain ⟨q, hq, rfl⟩ := List.mem_map.mp hu
  rw [rowT_row (h q hq)]
  rfl
theorem sum_le {B : Nat} : ∀ (ts : List Str), (∀ t ∈ ts, t.length ≤ B) → (ts.map (·.length)).sum ≤ ts.length * B
  | [], _ => by simp
  | t :: ts, h => by
    have h1 := h t (by simp)
    have h2 := sum_le ts fun u hu => h u (by simp [hu])
    rw [List.map_cons, List.sum_cons, List.length_cons, Nat.succ_mul]
    omega
theorem join_lenJ {ts : List Str} (h : ∀ t ∈ ts, t.length ≤ 60) (hl : ts.length ≤ 70) : JoinOk (Str.ofString "; ") ts = true ∧ (Txt.join (Str.ofString "; ") ts).length ≤ 5000 := by
  have h1 := sum_le (B := 60) ts h
  have d : (Str.ofString "; ").length = 2 := by decide
  have e : (ts.map (·.length)).sum + ts.length * (Str.ofString "; ").length ≤ 5000 := by rw [d]; omega
  constructor
  · unfold JoinOk Builtin.Str.tooLong
    rw [StrLaws.joinTotal]
    simp
    exact Nat.le_trans e (by decide)
  · show (Builtin.Str.glued (Str.ofString "; ") ts).length ≤ _
    rw [StrLaws.glued_eq_join]
    exact Nat.le_trans (StrLaws.join_length_le _ ts) e
theorem drop_clean : cleanB (Str.ofString "drop").cps.toList = true := by decide +kernel
theorem drops {n : Nat} (hn : 61 ≤ n) : partsT (Txt.join (Str.ofString "; ") (List.replicate n (Str.ofString "drop"))) = List.replicate n (Str.ofString "drop") ∧ readOk (Txt.join (Str.ofString "; ") (List.replicate n (Str.ofString "drop"))) = false := by
  have hp : partsT (Txt.join (Str.ofString "; ") (List.replicate n (Str.ofString "drop"))) = List.replicate n (Str.ofString "drop") := by
    refine parts_join (fun z => ?_) (fun u hu => ?_) fun z => ?_
    · have := congrArg List.length z
      rw [List.length_replicate] at this
      simp at this
      omega
    · rw [(List.mem_replicate.mp hu).2]
      exact clean_of drop_clean
    · have := congrArg List.length z
      rw [List.length_replicate] at this
      simp at this
      omega
  refine ⟨hp, ?_⟩
  unfold readOk rowsT
  rw [hp]
  refine Bool.eq_false_iff.mpr fun q => ?_
  rw [Bool.and_eq_true] at q
  have e := all_some _ q.1
  have el : ((List.replicate n (Str.ofString "drop")).filterMap rowT).length = n := by
    have := congrArg List.length e
    rw [List.length_map, List.length_map, List.length_replicate] at this
    omega
  have q2 := q.2
  unfold rightAll at q2
  rw [el, decide_eq_false (by omega)] at q2
  simp at q2
theorem p30 : (10 : Int) ^ Int.toNat 30 = 1000000000000000000000000000000 := by decide

section
variable {P : Program} {w : World} {K : PySem.W.Frag} {mg : Str → Option Value} {base : Heap}
theorem sc_law : FnScope ["_law_script", "_law_cells", "_law_many", "_law_number", "_law_rows_here", "_law_parts", "_law_way", "_law_signs"] ["_law_script"] (defScope s_law) := ⟨rfl, rfl, rfl, by decide +kernel, rfl, by decide +kernel, by decide +kernel⟩
theorem ok_law {cNoCode : Addr}   {f : Addr} {fd : FuncData} (F : Fun K "law" "law" s_law f fd) (o_NoCode : Exc "NoCode" cNoCode mg base) (c_Lrows : Cal P w K mg base 2 "_law_rows" (spRows K)) (c_Lrow_by : Cal P w K mg base 2 "_law_row_by" spRowBy) (c_Lpart : Cal P w K mg base 1 "_law_part" (spPart K)) (c_Lcell_at : Cal P w K mg base 1 "_law_cell_at" (spCell K)) (c_read : CalE P w K mg base 5 "read" (spReadT K cNoCode)) (c_Lwrong : Cal P w K mg base 1 "_law_wrong" spWrong) (c_Lrefused : Cal P w K mg base 6 "_law_refused" spRefused) (c_Lrefused_by_any : Cal P w K mg base 6 "_law_refused_by_any" spRefused) (n_list : mg "list" = none) (n_len : mg "len" = none) (n_range : mg "range" = none) : FnOk P w K mg base CX0 7 f fd ["_law_script"] (spLaw K) := by
  refine F.ok (N := ["_law_script", "_law_cells", "_law_many", "_law_number", "_law_rows_here", "_law_parts", "_law_way", "_law_signs"]) sc_law (fun vs H Q E h => ?_) (fun cdv A outer s H vs Q E hr h => ?_)
  · obtain ⟨a, ns, rfl, _⟩ := h; rfl
  · obtain ⟨a, ns, rfl, hS, hlen, k⟩ := h
    refine ⟨_, (pss_cons (ps_set (i := 1) sc_law.nd rfl (by first | exact Or.inl rfl | exact Or.inr rfl) (pe_callTy ct_list rfl n_list PyProof.Rows.boot_list (pa_cons (pe_slice sl_list (pv 0) (po_some pe_int) (po_some pe_int)) pa_nil)))
      (pss_cons (ps_set (i := 2) sc_law.nd rfl (by first | exact Or.inl rfl | exact Or.inr rfl) (pe_op op_add (pe_callB cn_len rfl n_len PySem.boot_len (pa_cons (pv 1) pa_nil)) pe_int))
      (pss_cons (ps_set (i := 3) sc_law.nd rfl (by first | exact Or.inl rfl | exact Or.inr rfl) (pe_op op_mod (pe_op op_fdivW (pe_cal c_Lcell_at (hr.mono (by decide)) rfl (pa_cons (pv 0) (pa_cons pe_int pa_nil))) pe_int) (pe_op op_pow pe_int pe_int)))
      (pss_cons (ps_setC (i := 4) ["_law_cell"] sc_law.nd rfl rfl rfl (show CompScope (defScope s_law) ["_law_script", "_law_cells", "_law_many", "_law_number", "_law_rows_here", "_law_parts", "_law_way", "_law_signs"] ["_law_cell"] _ from ⟨rfl, by decide +kernel, by decide +kernel, by decide +kernel, by decide +kernel, by decide +kernel⟩) (pi_list (pv 1)) (fun _ _ _ _ _ => (pg_name (i := 0) (show (["_law_cell", "_law_script", "_law_cells", "_law_many", "_law_number", "_law_rows_here", "_law_parts", "_law_way", "_law_signs"] : List Str).Nodup by decide +kernel) rfl (Or.inl rfl) (.inr rfl))) (fun _ _ _ _ _ => pif_nil) (fun _ _ _ _ _ => (pe_cal c_Lrow_by (hr.mono (by decide)) rfl (pa_cons (pv 0) (pa_cons (pe_callB (show CallR _ _ (rLenS K) from cn_len) rfl n_len PySem.boot_len (pa_cons (pv 2) pa_nil)) pa_nil)))))
      (pss_cons (ps_setC (i := 5) ["_law_row"] sc_law.nd rfl rfl rfl (show CompScope (defScope s_law) ["_law_script", "_law_cells", "_law_many", "_law_number", "_law_rows_here", "_law_parts", "_law_way", "_law_signs"] ["_law_row"] _ from ⟨rfl, by decide +kernel, by decide +kernel, by decide +kernel, by decide +kernel, by decide +kernel⟩) (pi_list (pv 4)) (fun _ _ _ _ _ => (pg_name (i := 0) (show (["_law_row", "_law_script", "_law_cells", "_law_many", "_law_number", "_law_rows_here", "_law_parts", "_law_way", "_law_signs"] : List Str).Nodup by decide +kernel) rfl (Or.inl rfl) (.inr rfl))) (fun _ _ _ _ _ => pif_nil) (fun _ _ _ _ _ => (pe_cal c_Lpart (hr.mono (by decide)) rfl (pa_cons (pv 0) pa_nil))))
      (pss_cons (ps_set (i := 6) sc_law.nd rfl (by first | exact Or.inl rfl | exact Or.inr rfl) (pe_op op_mod (pe_cal c_Lcell_at (hr.mono (by decide)) rfl (pa_cons (pv 0) (pa_cons pe_int pa_nil))) pe_int))
      (pss_cons (ps_if (pt_cmpR op_lt (pv 6) pe_int (nomark _)) (pss_one (ps_expr (pe_bm PySem.F.plainAttrs_list PySem.F.slot_list_insert PySem.F.type_list_insert mt_insert (pv 5) (pa_cons (pe_op op_mod (pe_cal c_Lcell_at (hr.mono (by decide)) rfl (pa_cons (pv 0) (pa_cons pe_int pa_nil))) (pv 2)) (pa_cons (pe_cal c_Lwrong (hr.mono (by decide)) rfl (pa_cons (pv 3) (pa_cons (pv 2) pa_nil))) pa_nil))))) pss_nil)
      (pss_cons (ps_if (pt_cmpR op_eq (pv 6) pe_int (nomark _)) (pss_one (ps_setC (i := 5) ["_law_k"] sc_law.nd rfl rfl rfl (show CompScope (defScope s_law) ["_law_script", "_law_cells", "_law_many", "_law_number", "_law_rows_here", "_law_parts", "_law_way", "_law_signs"] ["_law_k"] _ from ⟨rfl, by decide +kernel, by decide +kernel, by decide +kernel, by decide +kernel, by decide +kernel⟩) (pi_range1 rfl n_range (pa_cons (pe_op op_add pe_int (pe_op op_mod (pv 3) pe_int)) pa_nil)) (fun _ _ _ _ _ => (pg_name (i := 0) (show (["_law_k", "_law_script", "_law_cells", "_law_many", "_law_number", "_law_rows_here", "_law_parts", "_law_way", "_law_signs"] : List Str).Nodup by decide +kernel) rfl (Or.inl rfl) (.inr rfl))) (fun _ _ _ _ _ => pif_nil) (fun _ _ _ _ _ => pe_str))) pss_nil)
      (pss_cons (ps_set (i := 7) sc_law.nd rfl (by first | exact Or.inl rfl | exact Or.inr rfl) (pe_bm PySem.F.plainAttrs_str PySem.F.slot_str_join PySem.F.type_str_join mt_join pe_str (pa_cons (pv 5) pa_nil)))
      (pss_cons (ps_if (pt_cmpR op_lt (pv 6) pe_int (nomark _)) (pss_one (ps_ret (pe_and (pe_cal c_Lrefused (hr.mono (by decide)) rfl (pa_cons (pv 7) pa_nil)) (pe_one (pe_cal c_Lrefused_by_any (hr.mono (by decide)) rfl (pa_cons (pv 7) pa_nil)))))) pss_nil)
      (pss_one (ps_ret (pe_cal c_Lrows (hr.mono (by decide)) rfl (pa_cons (pe_calE c_read (hr.mono (by decide)) rfl passN (pa_cons (pv 7) pa_nil)) (pa_cons (pv 4) pa_nil))))))))))))))), ?_⟩
    try simp only [nox_K, nox_P, nox_w, nox_mg, nox_base, cxOf_K, cxOf_P, cxOf_w, cxOf_mg, cxOf_base]
    repeat walk_at "rdt"
    intro p1 hp1
    have ec : cutV (ns.map V.int) (some 2) (some 61) = ((ns.drop 2).take 59).map V.int := by
      rw [show (2 : Int) = ((2 : Nat) : Int) from rfl, show (61 : Int) = ((61 : Nat) : Int) from rfl, cutV_range, List.map_take, List.map_drop]
    rw [ec]
    generalize hms : (ns.drop 2).take 59 = ms
    have ml : ms.length ≤ 59 := by rw [← hms, List.length_take]; omega
    repeat walk_at "rdt"
    refine rd_listL sql_new fun p2 hp2 => ?_
    have hC : (upd (upd H p1 (.lst (ms.map V.int))) p2 (.lst (ms.map V.int))) p2 = some (.lst (ms.map V.int)) := upd_same
    have hA : SqL K (upd (upd H p1 (.lst (ms.map V.int))) p2 (.lst (ms.map V.int))) a (ns.map V.int) := (hS.updN hp1).updN hp2
    generalize upd (upd H p1 (.lst (ms.map V.int))) p2 (.lst (ms.map V.int)) = H2 at hC hA ⊢
    have hC2 : SqL K H2 p2 (ms.map V.int) := sql_of hC
    have hlm : (ms.map V.int).length = ms.length := List.length_map ..
    repeat walk_at "rdt"
    refine ⟨a, ns, 1, rfl, by decide, hA, fun c1 => ?_⟩
    repeat walk_at "rdt"
    have N0 : 0 ≤ c1 / 60 % 10 ^ Int.toNat 30 := by rw [p30]; omega
    have N1 : c1 / 60 % 10 ^ Int.toNat 30 < 1000000000000000000000000000000 := by rw [p30]; omega
    generalize c1 / 60 % 10 ^ Int.toNat 30 = N at N0 N1 ⊢
    refine rd_comp (rd_iList ?_)
    repeat walk_at "rdt"
    refine ⟨p2, rfl, ⟨_, hC2⟩, fun q hq => ?_⟩
    refine comp_invL (xs := ms.map V.int) (fun i H' => Same H2 H' ∧ ∃ xs rs, H' q = some (.lst xs) ∧ RowsAt K H' rs xs ∧ rs.length = i ∧ ∀ r ∈ rs, rightRow ((ms.map V.int).length : Nat) r = true) ⟨Same.new hq, [], [], upd_same, RowsAt.nil, rfl, fun r hr => by simp at hr⟩ (fun i H' ⟨s, _⟩ => sql_of (s _ _ hC)) ?_ ?_
    · rintro i x H' hx ⟨s3, xs, rs, hv, hR, hrl, hrr⟩
      obtain ⟨hi, _⟩ := List.getElem?_eq_some_iff.mp hx
      rw [List.getElem?_map] at hx
      obtain ⟨c, hc, rfl⟩ := Option.map_eq_some_iff.mp hx
      have hfS : SqL K H' p2 (ms.map V.int) := sql_of (s3 _ _ hC)
      refine rd_noIf ?_
      refine iteT ?_
      repeat walk_at "rdk"
      refine ⟨c, _, rfl, fun t r H3 s4 ht hr => ?_⟩
      have hv2 := s4 _ _ hv
      refine ⟨_, hv2, by rw [← hR.1]; exact Nat.lt_of_le_of_lt (show rs.length ≤ 100 by omega) (by decide), ⟨(s3.trans s4).wr hq, xs ++ [.ref t], rs ++ [r], upd_same, ?_, by rw [List.length_append, hrl]; rfl, fun u hu => ?_⟩, _, rfl⟩
      · have im : SameI H3 (upd H3 q (.lst (xs ++ [.ref t]))) := SameI.upd hv2 notImm_lst
        exact (hR.keep (s4.imm.trans im)).snoc ⟨t, rfl, im.tup (sqt_of ht)⟩
      · rcases List.mem_append.mp hu with hu | hu
        · exact hrr u hu
        · rw [List.mem_singleton.mp hu]; exact hr _ (Nat.le_refl _)
    rintro H3 ⟨s3, xs, rs, hv, hR, hrl, hrr⟩
    rw [hlm] at hrl
    have h60 : rs.length ≤ 60 := by omega
    have hxl : xs.length ≤ 60 := by rw [← hR.1]; exact h60
    rw [hlm, ← hrl] at hrr
    have hok : ∀ r ∈ rs, okRow r := fun r hr => ok_of h60 (hrr r hr)
    have hall : rightAll rs = true := by
      unfold rightAll
      rw [decide_eq_true h60, Bool.true_and]
      exact List.all_eq_true.mpr hrr
    have hA3 := s3.seq hA
    have hvL : SqL K H3 q xs := sql_of hv
    repeat walk_at "rdt"
    refine rd_comp (rd_iList ?_)
    repeat walk_at "rdt"
    refine ⟨q, rfl, ⟨_, hvL⟩, fun l hl => ?_⟩
    refine comp_map (xs := xs) (ys := (rs.map rowS).map V.str) hvL hl (by rw [List.length_map, List.length_map, hR.1]) (Nat.le_trans hxl (by decide)) ?_ ?_
    · intro i x y H' Q' hx hy sm q'
      rw [List.getElem?_map, List.getElem?_map] at hy
      obtain ⟨z, hz, rfl⟩ := Option.map_eq_some_iff.mp hy
      obtain ⟨r, hr, rfl⟩ := Option.map_eq_some_iff.mp hz
      repeat walk_at "rdk"
      exact ⟨x, r, rfl, (hR.2 i r x hr hx).keep sm.imm, hok r (List.mem_of_getElem? hr), q'⟩
    have s4 : Same H3 (upd H3 l (.lst ((rs.map rowS).map V.str))) := Same.new hl
    have hL : (upd H3 l (.lst ((rs.map rowS).map V.str))) l = some (.lst ((rs.map rowS).map V.str)) := upd_same
    generalize upd H3 l (.lst ((rs.map rowS).map V.str)) = H4 at s4 hL ⊢
    have hA4 := s4.seq hA3
    repeat walk_at "rdt"
    refine ⟨a, ns, 0, rfl, by decide, hA4, fun c0 => ?_⟩
    repeat' walk_at "rdz"
    · refine ⟨ty_list (sql_of hL), ?_⟩
      repeat walk_at "rdt"
      refine ⟨a, ns, 1, rfl, by decide, hA4, fun c2 => ?_⟩
      repeat walk_at "rdt"
      refine ⟨N, ms.length + 1, by rw [hlm]; rfl, N0, N1, by omega, by omega, fun w H5 s5 hb hne => ?_⟩
      have hL5 := s5 _ _ hL
      have lx : ((rs.map rowS).map V.str).length = ms.length := by rw [List.length_map, List.length_map, hrl]
      have j0 := Int.emod_nonneg c2 (b := (((ms.map V.int).length : Nat) : Int) + 1) (by omega)
      have j1 := Int.emod_lt_of_pos c2 (b := (((ms.map V.int).length : Nat) : Int) + 1) (by omega)
      repeat walk_at "rdt"
      refine rd_insert hL5 j0 (by rw [lx]; rw [hlm] at j1; rw [hlm]; omega) (by rw [lx]; omega) ?_
      generalize (c2 % ((((ms.map V.int).length : Nat) : Int) + 1)).toNat = j
      obtain ⟨us, hus⟩ : ∃ us : List Str, us = (rs.map rowS).take j ++ w :: (rs.map rowS).drop j := ⟨_, rfl⟩
      have eu : ((rs.map rowS).map V.str).take j ++ V.str w :: ((rs.map rowS).map V.str).drop j = us.map V.str := by rw [hus, List.map_append, List.map_cons, List.map_take, List.map_drop]
      rw [eu]
      have hmem : ∀ u ∈ us, u = w ∨ u ∈ rs.map rowS := fun u hu => by
        rw [hus] at hu
        rcases List.mem_append.mp hu with z | z
        · exact .inr (List.mem_of_mem_take z)
        · rcases List.mem_cons.mp z with z | z
          · exact .inl z
          · exact .inr (List.mem_of_mem_drop z)
      have ul : us.length = ms.length + 1 := by
        rw [hus, List.length_append, List.length_cons, List.length_take, List.length_drop, List.length_map, hrl]
        omega
      have wm : w ∈ us := by rw [hus]; exact List.mem_append_right _ (List.mem_cons_self ..)
      have u60 : ∀ u ∈ us, u.length ≤ 60 := fun u hu => by
        rcases hmem u hu with z | z
        · rw [z]; exact hb.2.2
        · obtain ⟨r, hr, rfl⟩ := List.mem_map.mp z
          exact Nat.le_trans (rowS_len (hok r hr)).2 (by decide)
      have jl := join_lenJ u60 (by omega)
      have hpj : partsT (Txt.join (Str.ofString "; ") us) = us := by
        refine parts_join (fun z => by rw [z] at ul; simp at ul) (fun u hu => ?_) fun z => ?_
        · rcases hmem u hu with e | e
          · rw [e]; exact hb.2.1
          · obtain ⟨r, hr, rfl⟩ := List.mem_map.mp e
            exact clean_row (hok r hr)
        · rw [z] at wm ul
          exact hne (show ms.length + 1 = 1 from ul.symm) (List.mem_singleton.mp wm)
      have hno := refuse hpj ul wm hb
      have hL6 : SqL K (upd H5 l (.lst (us.map V.str))) l (us.map V.str) := sql_of upd_same
      generalize upd H5 l (.lst (us.map V.str)) = H6 at hL6 ⊢
      dsimp only
      repeat' walk_at "rdz"
      refine rd_join hL6 jl.1 ?_
      repeat' walk_at "rdz"
      refine ⟨_, rfl, by omega, by rw [hpj]; omega, hno, fun H7 s7 => ?_⟩
      repeat' walk_at "rdz"
      refine ⟨_, rfl, by omega, by rw [hpj]; omega, hno, fun H8 s8 => ?_⟩
      repeat walk_at "rdt"
      exact k _
    · refine rd_comp (rd_iRng1 ?_)
      repeat walk_at "rdt"
      refine ⟨_, rfl, by omega, by omega, fun q2 hq2 => ?_⟩
      obtain ⟨cnt, hcnt, hc61, hc70⟩ : ∃ cnt : Nat, (61 + N % 9).toNat = cnt ∧ 61 ≤ cnt ∧ cnt ≤ 70 := ⟨_, rfl, by omega, by omega⟩
      refine comp_range (ys := (List.replicate cnt (Str.ofString "drop")).map V.str) hq2 (by rw [List.length_map, List.length_replicate]; exact hcnt.symm) (by rw [hcnt]; exact Nat.le_trans hc70 (by decide)) ?_ ?_
      · intro i y H' Q' hi hy sm q'
        rw [hcnt] at hi
        rw [List.getElem?_map, List.getElem?_replicate, if_pos hi] at hy
        cases hy
        repeat walk_at "rdt"
        exact q'
      · have jl := join_lenJ (ts := List.replicate cnt (Str.ofString "drop")) (fun t ht => by rw [(List.mem_replicate.mp ht).2]; decide) (by rw [List.length_replicate]; exact hc70)
        obtain ⟨hpj, hno⟩ := drops hc61
        have hL6 : SqL K (upd H4 q2 (.lst ((List.replicate cnt (Str.ofString "drop")).map V.str))) q2 ((List.replicate cnt (Str.ofString "drop")).map V.str) := sql_of upd_same
        generalize upd H4 q2 (.lst ((List.replicate cnt (Str.ofString "drop")).map V.str)) = H6 at hL6 ⊢
        repeat' walk_at "rdz"
        refine rd_join hL6 jl.1 ?_
        repeat' walk_at "rdz"
        refine ⟨_, rfl, by omega, by rw [hpj, List.length_replicate]; omega, hno, fun H7 s7 => ?_⟩
        repeat' walk_at "rdz"
        refine ⟨_, rfl, by omega, by rw [hpj, List.length_replicate]; omega, hno, fun H8 s8 => ?_⟩
        repeat walk_at "rdt"
        exact k _
    · have jl := join_lenJ (ts := rs.map rowS) (fun t ht => by obtain ⟨r, hr, rfl⟩ := List.mem_map.mp ht; exact Nat.le_trans (rowS_len (hok r hr)).2 (by decide)) (by rw [List.length_map]; omega)
      obtain ⟨ok1, ok2⟩ := ok_rows hok hall
      have hpj := parts_rows hok
      refine rd_join (sql_of hL) jl.1 ?_
      repeat' walk_at "rdz"
      refine ⟨_, rfl, by omega, by rw [hpj, List.length_map]; omega, ?_⟩
      rw [if_pos ok1, ok2]
      intro q3 xs3 H7 s7 hq3 hR3
      have sm7 := s4.trans s7
      repeat walk_at "rdt"
      refine ⟨q3, q, xs3, xs, rs, rfl, sql_of hq3, hR3, sm7.seq hvL, hR.keep sm7.imm, h60, fun H8 s8 => ?_⟩
      exact k _

end
end My

open PySem PySem.W PyProof.Rows
local macro_rules | `(tactic| walk_at "vals") => `(tactic| first
  | exact L2.vals_nil
  | (refine L2.vals_int ?_; walk_at "vals")
  | (refine L2.vals_str ?_; walk_at "vals")
  | fail)
theorem My.mkall {K : PySem.W.Frag} {C cH d0 d1 d2 d3 d4 d5 d6 d7 d8 d9 d10 : Addr} (uxa_NoCode : PySem.W.nsIn K mainGlobals "NoCode" = some (some (.ref C))) (uxq_NoCode : PySem.W.excIn K C [.type "ValueError", .type "Exception", .type "BaseException", .type "object"] "ValueError.__new__" = true) (ue1 : PySem.W.findIn K (.ref C) "__getattribute__" = some (some (.builtin "BaseException.__getattribute__"))) (ue2 : PySem.W.findIn K (.ref C) "__getattr__" = some none) (ue3 : PySem.W.findIn K (.ref C) "__class__" = some (some (.builtin "object.__class__"))) (ue4 : PySem.W.specialIn K (.builtin "object.__class__") "__get__" = some (some (.builtin "getset_descriptor.__get__"))) (ue5 : PySem.W.takesIn K (.builtin "object.__class__") = some true) (ue6 : PySem.W.mroIn K C (.type "object") = some true) (ue7 : PySem.W.subIn K (.ref C) (.type "BaseException") = some true) (ue8 : PySem.W.isClsIn K C = true) (uq1 : PySem.W.typeIn K (.ref C) = some (.type "type")) (uq2 : PySem.W.subIn K (.ref C) (.ref C) = some true) (uxaH : PySem.W.nsIn K mainGlobals "HouseError" = some (some (.ref cH))) (uh1 : PySem.W.subIn K (.ref cH) (.type "BaseException") = some true) (uh2 : PySem.W.isClsIn K cH = true) (uh3 : PySem.W.typeIn K (.ref cH) = some (.type "type")) (uh4 : PySem.W.subIn K (.ref C) (.ref cH) = some true) (uk_HouseError : PySem.W.kitOne K (.ref C) (.ref cH) = some true) (uk_ValueError : PySem.W.kitOne K (.ref C) (.type "ValueError") = some true) (uxa_NoClash : PySem.W.nsIn K mainGlobals "NoClash" = some (some (.ref d0))) (uk_NoClash : PySem.W.kitOne K (.ref C) (.ref d0) = some false) (uxa_NoSlot : PySem.W.nsIn K mainGlobals "NoSlot" = some (some (.ref d1))) (uk_NoSlot : PySem.W.kitOne K (.ref C) (.ref d1) = some false) (uxa_Taken : PySem.W.nsIn K mainGlobals "Taken" = some (some (.ref d2))) (uk_Taken : PySem.W.kitOne K (.ref C) (.ref d2) = some false) (uxa_NoNumber : PySem.W.nsIn K mainGlobals "NoNumber" = some (some (.ref d3))) (uk_NoNumber : PySem.W.kitOne K (.ref C) (.ref d3) = some false) (uxa_TooMuch : PySem.W.nsIn K mainGlobals "TooMuch" = some (some (.ref d4))) (uk_TooMuch : PySem.W.kitOne K (.ref C) (.ref d4) = some false) (uxa_NoAccount : PySem.W.nsIn K mainGlobals "NoAccount" = some (some (.ref d5))) (uk_NoAccount : PySem.W.kitOne K (.ref C) (.ref d5) = some false) (uxa_NoLimit : PySem.W.nsIn K mainGlobals "NoLimit" = some (some (.ref d6))) (uk_NoLimit : PySem.W.kitOne K (.ref C) (.ref d6) = some false) (uxa_PoorPurse : PySem.W.nsIn K mainGlobals "PoorPurse" = some (some (.ref d7))) (uk_PoorPurse : PySem.W.kitOne K (.ref C) (.ref d7) = some false) (uxa_PoorCoin : PySem.W.nsIn K mainGlobals "PoorCoin" = some (some (.ref d8))) (uk_PoorCoin : PySem.W.kitOne K (.ref C) (.ref d8) = some false) (uxa_NoPaper : PySem.W.nsIn K mainGlobals "NoPaper" = some (some (.ref d9))) (uk_NoPaper : PySem.W.kitOne K (.ref C) (.ref d9) = some false) (uxa_NoRow : PySem.W.nsIn K mainGlobals "NoRow" = some (some (.ref d10))) (uk_NoRow : PySem.W.kitOne K (.ref C) (.ref d10) = some false) : ∃ C cH d0 d1 d2 d3 d4 d5 d6 d7 d8 d9 d10 : Addr, PySem.W.nsIn K mainGlobals "NoCode" = some (some (.ref C)) ∧ PySem.W.excIn K C [.type "ValueError", .type "Exception", .type "BaseException", .type "object"] "ValueError.__new__" = true ∧ PySem.W.findIn K (.ref C) "__getattribute__" = some (some (.builtin "BaseException.__getattribute__")) ∧ PySem.W.findIn K (.ref C) "__getattr__" = some none ∧ PySem.W.findIn K (.ref C) "__class__" = some (some (.builtin "object.__class__")) ∧ PySem.W.specialIn K (.builtin "object.__class__") "__get__" = some (some (.builtin "getset_descriptor.__get__")) ∧ PySem.W.takesIn K (.builtin "object.__class__") = some true ∧ PySem.W.mroIn K C (.type "object") = some true ∧ PySem.W.subIn K (.ref C) (.type "BaseException") = some true ∧ PySem.W.isClsIn K C = true ∧ PySem.W.typeIn K (.ref C) = some (.type "type") ∧ PySem.W.subIn K (.ref C) (.ref C) = some true ∧ PySem.W.nsIn K mainGlobals "HouseError" = some (some (.ref cH)) ∧ PySem.W.subIn K (.ref cH) (.type "BaseException") = some true ∧ PySem.W.isClsIn K cH = true ∧ PySem.W.typeIn K (.ref cH) = some (.type "type") ∧ PySem.W.subIn K (.ref C) (.ref cH) = some true ∧ PySem.W.kitOne K (.ref C) (.ref cH) = some true ∧ PySem.W.kitOne K (.ref C) (.type "ValueError") = some true ∧ PySem.W.nsIn K mainGlobals "NoClash" = some (some (.ref d0)) ∧ PySem.W.kitOne K (.ref C) (.ref d0) = some false ∧ PySem.W.nsIn K mainGlobals "NoSlot" = some (some (.ref d1)) ∧ PySem.W.kitOne K (.ref C) (.ref d1) = some false ∧ PySem.W.nsIn K mainGlobals "Taken" = some (some (.ref d2)) ∧ PySem.W.kitOne K (.ref C) (.ref d2) = some false ∧ PySem.W.nsIn K mainGlobals "NoNumber" = some (some (.ref d3)) ∧ PySem.W.kitOne K (.ref C) (.ref d3) = some false ∧ PySem.W.nsIn K mainGlobals "TooMuch" = some (some (.ref d4)) ∧ PySem.W.kitOne K (.ref C) (.ref d4) = some false ∧ PySem.W.nsIn K mainGlobals "NoAccount" = some (some (.ref d5)) ∧ PySem.W.kitOne K (.ref C) (.ref d5) = some false ∧ PySem.W.nsIn K mainGlobals "NoLimit" = some (some (.ref d6)) ∧ PySem.W.kitOne K (.ref C) (.ref d6) = some false ∧ PySem.W.nsIn K mainGlobals "PoorPurse" = some (some (.ref d7)) ∧ PySem.W.kitOne K (.ref C) (.ref d7) = some false ∧ PySem.W.nsIn K mainGlobals "PoorCoin" = some (some (.ref d8)) ∧ PySem.W.kitOne K (.ref C) (.ref d8) = some false ∧ PySem.W.nsIn K mainGlobals "NoPaper" = some (some (.ref d9)) ∧ PySem.W.kitOne K (.ref C) (.ref d9) = some false ∧ PySem.W.nsIn K mainGlobals "NoRow" = some (some (.ref d10)) ∧ PySem.W.kitOne K (.ref C) (.ref d10) = some false := ⟨C, cH, d0, d1, d2, d3, d4, d5, d6, d7, d8, d9, d10, uxa_NoCode, uxq_NoCode, ue1, ue2, ue3, ue4, ue5, ue6, ue7, ue8, uq1, uq2, uxaH, uh1, uh2, uh3, uh4, uk_HouseError, uk_ValueError, uxa_NoClash, uk_NoClash, uxa_NoSlot, uk_NoSlot, uxa_Taken, uk_Taken, uxa_NoNumber, uk_NoNumber, uxa_TooMuch, uk_TooMuch, uxa_NoAccount, uk_NoAccount, uxa_NoLimit, uk_NoLimit, uxa_PoorPurse, uk_PoorPurse, uxa_PoorCoin, uk_PoorCoin, uxa_NoPaper, uk_NoPaper, uxa_NoRow, uk_NoRow⟩
set_option maxRecDepth 100000 in
set_option maxHeartbeats 0 in
theorem PySem.Challenge.cw_meterhouse_k09_texts_refused_holds : PySem.Challenge.rw_meterhouse_k09_texts_refused.Holds := by
  w_on; o_law; k_head; (case hw => w_witness2)
  k_fill
  refine L2.walk_ofK (l := PySem.Challenge.rw_meterhouse_k09_texts_refused) (n := 63) (k := 7) (x := "_law_script") (CX := L2.CX0) (sp := My.spLaw) rfl (by decide) rfl ⟨rfl, by decide, by decide⟩ (fun w h Y => PySem.W.kIn_of Y) ?F ?S ?C
  case F =>
    intro w mg fa h KX G hmg
    have D_numbered : L2.DefAt (L2.KOf KX) mg "numbered" My.s_numbered := by
      dsimp only [L2.KOf]
      refine' L2.defAt_mk KX G ?a ?l ?c ?k
      (case a => k_is); (case l => k_is); (case c => k_is); (case k => k_is)
    have D_is_number : L2.DefAt (L2.KOf KX) mg "is_number" My.s_is_number := by
      dsimp only [L2.KOf]
      refine' L2.defAt_mk KX G ?a ?l ?c ?k
      (case a => k_is); (case l => k_is); (case c => k_is); (case k => k_is)
    have D_well_written : L2.DefAt (L2.KOf KX) mg "well_written" My.s_well_written := by
      dsimp only [L2.KOf]
      refine' L2.defAt_mk KX G ?a ?l ?c ?k
      (case a => k_is); (case l => k_is); (case c => k_is); (case k => k_is)
    have D_number_of : L2.DefAt (L2.KOf KX) mg "number_of" My.s_number_of := by
      dsimp only [L2.KOf]
      refine' L2.defAt_mk KX G ?a ?l ?c ?k
      (case a => k_is); (case l => k_is); (case c => k_is); (case k => k_is)
    have D_right_number : L2.DefAt (L2.KOf KX) mg "right_number" My.s_right_number := by
      dsimp only [L2.KOf]
      refine' L2.defAt_mk KX G ?a ?l ?c ?k
      (case a => k_is); (case l => k_is); (case c => k_is); (case k => k_is)
    have D_right_row : L2.DefAt (L2.KOf KX) mg "right_row" My.s_right_row := by
      dsimp only [L2.KOf]
      refine' L2.defAt_mk KX G ?a ?l ?c ?k
      (case a => k_is); (case l => k_is); (case c => k_is); (case k => k_is)
    have D_right : L2.DefAt (L2.KOf KX) mg "right" My.s_right := by
      dsimp only [L2.KOf]
      refine' L2.defAt_mk KX G ?a ?l ?c ?k
      (case a => k_is); (case l => k_is); (case c => k_is); (case k => k_is)
    have D_read_row : L2.DefAt (L2.KOf KX) mg "read_row" My.s_read_row := by
      dsimp only [L2.KOf]
      refine' L2.defAt_mk KX G ?a ?l ?c ?k
      (case a => k_is); (case l => k_is); (case c => k_is); (case k => k_is)
    have D_read : L2.DefAt (L2.KOf KX) mg "read" My.s_read := by
      dsimp only [L2.KOf]
      refine' L2.defAt_mk KX G ?a ?l ?c ?k
      (case a => k_is); (case l => k_is); (case c => k_is); (case k => k_is)
    have D_Lwords : L2.DefAt (L2.KOf KX) mg "_law_words" My.s_Lwords := by
      dsimp only [L2.KOf]
      refine' L2.defAt_mk KX G ?a ?l ?c ?k
      (case a => k_is); (case l => k_is); (case c => k_is); (case k => k_is)
    have D_Lrow_by : L2.DefAt (L2.KOf KX) mg "_law_row_by" My.s_Lrow_by := by
      dsimp only [L2.KOf]
      refine' L2.defAt_mk KX G ?a ?l ?c ?k
      (case a => k_is); (case l => k_is); (case c => k_is); (case k => k_is)
    have D_Lpart : L2.DefAt (L2.KOf KX) mg "_law_part" My.s_Lpart := by
      dsimp only [L2.KOf]
      refine' L2.defAt_mk KX G ?a ?l ?c ?k
      (case a => k_is); (case l => k_is); (case c => k_is); (case k => k_is)
    have D_Lalike : L2.DefAt (L2.KOf KX) mg "_law_alike" My.s_Lalike := by
      dsimp only [L2.KOf]
      refine' L2.defAt_mk KX G ?a ?l ?c ?k
      (case a => k_is); (case l => k_is); (case c => k_is); (case k => k_is)
    have D_Lrows : L2.DefAt (L2.KOf KX) mg "_law_rows" My.s_Lrows := by
      dsimp only [L2.KOf]
      refine' L2.defAt_mk KX G ?a ?l ?c ?k
      (case a => k_is); (case l => k_is); (case c => k_is); (case k => k_is)
    have D_Lcell_at : L2.DefAt (L2.KOf KX) mg "_law_cell_at" My.s_Lcell_at := by
      dsimp only [L2.KOf]
      refine' L2.defAt_mk KX G ?a ?l ?c ?k
      (case a => k_is); (case l => k_is); (case c => k_is); (case k => k_is)
    have D_Lother : L2.DefAt (L2.KOf KX) mg "_law_other" My.s_Lother := by
      dsimp only [L2.KOf]
      refine' L2.defAt_mk KX G ?a ?l ?c ?k
      (case a => k_is); (case l => k_is); (case c => k_is); (case k => k_is)
    have D_Lrefused : L2.DefAt (L2.KOf KX) mg "_law_refused" My.s_Lrefused := by
      dsimp only [L2.KOf]
      refine' L2.defAt_mk KX G ?a ?l ?c ?k
      (case a => k_is); (case l => k_is); (case c => k_is); (case k => k_is)
    have D_Lrefused_by_any : L2.DefAt (L2.KOf KX) mg "_law_refused_by_any" My.s_Lrefused_by_any := by
      dsimp only [L2.KOf]
      refine' L2.defAt_mk KX G ?a ?l ?c ?k
      (case a => k_is); (case l => k_is); (case c => k_is); (case k => k_is)
    have D_Lwrong : L2.DefAt (L2.KOf KX) mg "_law_wrong" My.s_Lwrong := by
      dsimp only [L2.KOf]
      refine' L2.defAt_mk KX G ?a ?l ?c ?k
      (case a => k_is); (case l => k_is); (case c => k_is); (case k => k_is)
    have D_law : L2.DefAt (L2.KOf KX) mg "law" My.s_law := by
      dsimp only [L2.KOf]
      refine' L2.defAt_mk KX G ?a ?l ?c ?k
      (case a => k_is); (case l => k_is); (case c => k_is); (case k => k_is)
    have n_all : mg "all" = none := by
      refine' PySem.W.mg_none_of KX G ?a
      (case a => k_is)
    have n_len : mg "len" = none := by
      refine' PySem.W.mg_none_of KX G ?a
      (case a => k_is)
    have n_int : mg "int" = none := by
      refine' PySem.W.mg_none_of KX G ?a
      (case a => k_is)
    have n_str : mg "str" = none := by
      refine' PySem.W.mg_none_of KX G ?a
      (case a => k_is)
    have n_range : mg "range" = none := by
      refine' PySem.W.mg_none_of KX G ?a
      (case a => k_is)
    have n_isinstance : mg "isinstance" = none := by
      refine' PySem.W.mg_none_of KX G ?a
      (case a => k_is)
    have n_tuple : mg "tuple" = none := by
      refine' PySem.W.mg_none_of KX G ?a
      (case a => k_is)
    have n_bool : mg "bool" = none := by
      refine' PySem.W.mg_none_of KX G ?a
      (case a => k_is)
    have n_list : mg "list" = none := by
      refine' PySem.W.mg_none_of KX G ?a
      (case a => k_is)
    have g_WIDE : L2.GlobAt mg "WIDE" (.int 18446744073709551616) := by
      refine' L2.globAt_int KX G ?a
      (case a => k_is)
    have g_MOST_FIGURES : L2.GlobAt mg "MOST_FIGURES" (.int 20) := by
      refine' L2.globAt_int KX G ?a
      (case a => k_is)
    have g_FIGURES : L2.GlobAt mg "FIGURES" (.str "0123456789") := by
      refine' L2.globAt_str KX G ?a
      (case a => k_is)
    have g_DEEPEST : L2.GlobAt mg "DEEPEST" (.int 15) := by
      refine' L2.globAt_int KX G ?a
      (case a => k_is)
    have g_MOST_ROWS : L2.GlobAt mg "MOST_ROWS" (.int 60) := by
      refine' L2.globAt_int KX G ?a
      (case a => k_is)
    have g_PARTING : L2.GlobAt mg "PARTING" (.str "; ") := by
      refine' L2.globAt_str KX G ?a
      (case a => k_is)
    have T_WORDS : ∃ a, L2.GlobAt mg "WORDS" (.ref a) ∧ L2.TupK (L2.KOf KX) a ((["push", "drop", "copy", "swap", "add", "minus", "times", "over", "rest", "below", "same", "both", "either", "unlike", "up", "down", "jump", "jumpif", "load", "save", "me", "from", "sent", "word", "coin", "note", "call", "borrow", "look", "give", "fail"] : List PySem.Str).map L2.V.str) := by
      dsimp only [L2.KOf]
      refine' L2.globTup KX G ?a ?l ?v ?z
      (case a => k_is); (case l => k_is); (case v => walk_at "vals"); (case z => decide)
    obtain ⟨a_WORDS, g_WORDS, t_WORDS⟩ := T_WORDS
    have T_NUMBERED : ∃ a, L2.GlobAt mg "NUMBERED" (.ref a) ∧ L2.TupK (L2.KOf KX) a ((["push", "copy", "swap", "jump", "jumpif"] : List PySem.Str).map L2.V.str) := by
      dsimp only [L2.KOf]
      refine' L2.globTup KX G ?a ?l ?v ?z
      (case a => k_is); (case l => k_is); (case v => walk_at "vals"); (case z => decide)
    obtain ⟨a_NUMBERED, g_NUMBERED, t_NUMBERED⟩ := T_NUMBERED
    have xall : ∃ C cH d0 d1 d2 d3 d4 d5 d6 d7 d8 d9 d10 : Addr, PySem.W.nsIn (L2.KOf KX) mainGlobals "NoCode" = some (some (.ref C)) ∧ PySem.W.excIn (L2.KOf KX) C [.type "ValueError", .type "Exception", .type "BaseException", .type "object"] "ValueError.__new__" = true ∧ PySem.W.findIn (L2.KOf KX) (.ref C) "__getattribute__" = some (some (.builtin "BaseException.__getattribute__")) ∧ PySem.W.findIn (L2.KOf KX) (.ref C) "__getattr__" = some none ∧ PySem.W.findIn (L2.KOf KX) (.ref C) "__class__" = some (some (.builtin "object.__class__")) ∧ PySem.W.specialIn (L2.KOf KX) (.builtin "object.__class__") "__get__" = some (some (.builtin "getset_descriptor.__get__")) ∧ PySem.W.takesIn (L2.KOf KX) (.builtin "object.__class__") = some true ∧ PySem.W.mroIn (L2.KOf KX) C (.type "object") = some true ∧ PySem.W.subIn (L2.KOf KX) (.ref C) (.type "BaseException") = some true ∧ PySem.W.isClsIn (L2.KOf KX) C = true ∧ PySem.W.typeIn (L2.KOf KX) (.ref C) = some (.type "type") ∧ PySem.W.subIn (L2.KOf KX) (.ref C) (.ref C) = some true ∧ PySem.W.nsIn (L2.KOf KX) mainGlobals "HouseError" = some (some (.ref cH)) ∧ PySem.W.subIn (L2.KOf KX) (.ref cH) (.type "BaseException") = some true ∧ PySem.W.isClsIn (L2.KOf KX) cH = true ∧ PySem.W.typeIn (L2.KOf KX) (.ref cH) = some (.type "type") ∧ PySem.W.subIn (L2.KOf KX) (.ref C) (.ref cH) = some true ∧ PySem.W.kitOne (L2.KOf KX) (.ref C) (.ref cH) = some true ∧ PySem.W.kitOne (L2.KOf KX) (.ref C) (.type "ValueError") = some true ∧ PySem.W.nsIn (L2.KOf KX) mainGlobals "NoClash" = some (some (.ref d0)) ∧ PySem.W.kitOne (L2.KOf KX) (.ref C) (.ref d0) = some false ∧ PySem.W.nsIn (L2.KOf KX) mainGlobals "NoSlot" = some (some (.ref d1)) ∧ PySem.W.kitOne (L2.KOf KX) (.ref C) (.ref d1) = some false ∧ PySem.W.nsIn (L2.KOf KX) mainGlobals "Taken" = some (some (.ref d2)) ∧ PySem.W.kitOne (L2.KOf KX) (.ref C) (.ref d2) = some false ∧ PySem.W.nsIn (L2.KOf KX) mainGlobals "NoNumber" = some (some (.ref d3)) ∧ PySem.W.kitOne (L2.KOf KX) (.ref C) (.ref d3) = some false ∧ PySem.W.nsIn (L2.KOf KX) mainGlobals "TooMuch" = some (some (.ref d4)) ∧ PySem.W.kitOne (L2.KOf KX) (.ref C) (.ref d4) = some false ∧ PySem.W.nsIn (L2.KOf KX) mainGlobals "NoAccount" = some (some (.ref d5)) ∧ PySem.W.kitOne (L2.KOf KX) (.ref C) (.ref d5) = some false ∧ PySem.W.nsIn (L2.KOf KX) mainGlobals "NoLimit" = some (some (.ref d6)) ∧ PySem.W.kitOne (L2.KOf KX) (.ref C) (.ref d6) = some false ∧ PySem.W.nsIn (L2.KOf KX) mainGlobals "PoorPurse" = some (some (.ref d7)) ∧ PySem.W.kitOne (L2.KOf KX) (.ref C) (.ref d7) = some false ∧ PySem.W.nsIn (L2.KOf KX) mainGlobals "PoorCoin" = some (some (.ref d8)) ∧ PySem.W.kitOne (L2.KOf KX) (.ref C) (.ref d8) = some false ∧ PySem.W.nsIn (L2.KOf KX) mainGlobals "NoPaper" = some (some (.ref d9)) ∧ PySem.W.kitOne (L2.KOf KX) (.ref C) (.ref d9) = some false ∧ PySem.W.nsIn (L2.KOf KX) mainGlobals "NoRow" = some (some (.ref d10)) ∧ PySem.W.kitOne (L2.KOf KX) (.ref C) (.ref d10) = some false := by
      dsimp only [L2.KOf]
      refine' My.mkall ?uxa_NoCode ?uxq_NoCode ?ue1 ?ue2 ?ue3 ?ue4 ?ue5 ?ue6 ?ue7 ?ue8 ?uq1 ?uq2 ?uxaH ?uh1 ?uh2 ?uh3 ?uh4 ?uk_HouseError ?uk_ValueError ?uxa_NoClash ?uk_NoClash ?uxa_NoSlot ?uk_NoSlot ?uxa_Taken ?uk_Taken ?uxa_NoNumber ?uk_NoNumber ?uxa_TooMuch ?uk_TooMuch ?uxa_NoAccount ?uk_NoAccount ?uxa_NoLimit ?uk_NoLimit ?uxa_PoorPurse ?uk_PoorPurse ?uxa_PoorCoin ?uk_PoorCoin ?uxa_NoPaper ?uk_NoPaper ?uxa_NoRow ?uk_NoRow
      (case uxa_NoCode => k_is)
      (case uxq_NoCode => k_exc)
      (case ue1 => k_is)
      (case ue2 => k_is)
      (case ue3 => k_is)
      (case ue4 => k_is)
      (case ue5 => k_is)
      (case ue6 => k_is)
      (case ue7 => k_is)
      (case ue8 => k_is)
      (case uq1 => k_is)
      (case uq2 => k_is)
      (case uxaH => k_is)
      (case uh1 => k_is)
      (case uh2 => k_is)
      (case uh3 => k_is)
      (case uh4 => k_is)
      (case uk_HouseError => kit_is)
      (case uk_ValueError => kit_is)
      (case uxa_NoClash => k_is)
      (case uk_NoClash => kit_is)
      (case uxa_NoSlot => k_is)
      (case uk_NoSlot => kit_is)
      (case uxa_Taken => k_is)
      (case uk_Taken => kit_is)
      (case uxa_NoNumber => k_is)
      (case uk_NoNumber => kit_is)
      (case uxa_TooMuch => k_is)
      (case uk_TooMuch => kit_is)
      (case uxa_NoAccount => k_is)
      (case uk_NoAccount => kit_is)
      (case uxa_NoLimit => k_is)
      (case uk_NoLimit => kit_is)
      (case uxa_PoorPurse => k_is)
      (case uk_PoorPurse => kit_is)
      (case uxa_PoorCoin => k_is)
      (case uk_PoorCoin => kit_is)
      (case uxa_NoPaper => k_is)
      (case uk_NoPaper => kit_is)
      (case uxa_NoRow => k_is)
      (case uk_NoRow => kit_is)
    obtain ⟨cNoCode, cHouseError, cNoClash, cNoSlot, cTaken, cNoNumber, cTooMuch, cNoAccount, cNoLimit, cPoorPurse, cPoorCoin, cNoPaper, cNoRow, xa_NoCode, xq_NoCode, e1, e2, e3, e4, e5, e6, e7, e8, q1, q2, xaH, h1, h2, h3, h4, k_HouseError, k_ValueError, xa_NoClash, k_NoClash, xa_NoSlot, k_NoSlot, xa_Taken, k_Taken, xa_NoNumber, k_NoNumber, xa_TooMuch, k_TooMuch, xa_NoAccount, k_NoAccount, xa_NoLimit, k_NoLimit, xa_PoorPurse, k_PoorPurse, xa_PoorCoin, k_PoorCoin, xa_NoPaper, k_NoPaper, xa_NoRow, k_NoRow⟩ := xall
    have zK : L2.ExcK (L2.KOf KX) cNoCode := ⟨e1, e2, e3, e4, e5, e6, e7, e8⟩
    have hHand_NoCode : L2.HandOk (L2.KOf KX) mg cNoCode "NoCode" cNoCode := ⟨PySem.W.mg_of KX G xa_NoCode, e7, e8, q1, q2⟩
    have hHand_HouseError : L2.HandOk (L2.KOf KX) mg cNoCode "HouseError" cHouseError := ⟨PySem.W.mg_of KX G xaH, h1, h2, h3, h4⟩
    have g_HouseError : L2.GlobAt mg "HouseError" (.ref cHouseError) := ⟨_, PySem.W.mg_of KX G xaH, rfl⟩
    have g_NoClash : L2.GlobAt mg "NoClash" (.ref cNoClash) := ⟨_, PySem.W.mg_of KX G xa_NoClash, rfl⟩
    have g_NoSlot : L2.GlobAt mg "NoSlot" (.ref cNoSlot) := ⟨_, PySem.W.mg_of KX G xa_NoSlot, rfl⟩
    have g_Taken : L2.GlobAt mg "Taken" (.ref cTaken) := ⟨_, PySem.W.mg_of KX G xa_Taken, rfl⟩
    have g_NoNumber : L2.GlobAt mg "NoNumber" (.ref cNoNumber) := ⟨_, PySem.W.mg_of KX G xa_NoNumber, rfl⟩
    have g_TooMuch : L2.GlobAt mg "TooMuch" (.ref cTooMuch) := ⟨_, PySem.W.mg_of KX G xa_TooMuch, rfl⟩
    have g_NoAccount : L2.GlobAt mg "NoAccount" (.ref cNoAccount) := ⟨_, PySem.W.mg_of KX G xa_NoAccount, rfl⟩
    have g_NoLimit : L2.GlobAt mg "NoLimit" (.ref cNoLimit) := ⟨_, PySem.W.mg_of KX G xa_NoLimit, rfl⟩
    have g_PoorPurse : L2.GlobAt mg "PoorPurse" (.ref cPoorPurse) := ⟨_, PySem.W.mg_of KX G xa_PoorPurse, rfl⟩
    have g_PoorCoin : L2.GlobAt mg "PoorCoin" (.ref cPoorCoin) := ⟨_, PySem.W.mg_of KX G xa_PoorCoin, rfl⟩
    have g_NoPaper : L2.GlobAt mg "NoPaper" (.ref cNoPaper) := ⟨_, PySem.W.mg_of KX G xa_NoPaper, rfl⟩
    have g_NoRow : L2.GlobAt mg "NoRow" (.ref cNoRow) := ⟨_, PySem.W.mg_of KX G xa_NoRow, rfl⟩
    have n_ValueError : mg "ValueError" = none := by
      refine' PySem.W.mg_none_of KX G ?a
      (case a => k_is)

    obtain ⟨fl, fd, FL, ml⟩ := D_law
    have e0 := hmg.symm.trans ml
    cases e0
    refine ⟨fd, L2.fun_binds1 FL, fun base KB GB => ?_⟩
    have o_NoCode : L2.Exc "NoCode" cNoCode mg base := L2.own_ofN KB GB xa_NoCode xq_NoCode
    have c_numbered := My.ok_numbered (P := PySem.Challenge.rw_meterhouse_k09_texts_refused.prog) (w := w) (base := base) t_NUMBERED D_numbered    g_NUMBERED
    have c_is_number := My.ok_is_number (P := PySem.Challenge.rw_meterhouse_k09_texts_refused.prog) (w := w) (base := base)  D_is_number    g_WIDE
    have c_well_written := My.ok_well_written (P := PySem.Challenge.rw_meterhouse_k09_texts_refused.prog) (w := w) (base := base)  D_well_written    n_all n_len g_MOST_FIGURES g_FIGURES
    have c_number_of := My.ok_number_of (P := PySem.Challenge.rw_meterhouse_k09_texts_refused.prog) (w := w) (base := base)  D_number_of    c_well_written c_is_number n_int
    have c_right_number := My.ok_right_number (P := PySem.Challenge.rw_meterhouse_k09_texts_refused.prog) (w := w) (base := base)  D_right_number    c_is_number g_DEEPEST
    have c_right_row := My.ok_right_row (P := PySem.Challenge.rw_meterhouse_k09_texts_refused.prog) (w := w) (base := base) t_WORDS D_right_row    c_numbered c_right_number n_len g_WORDS
    have c_right := My.ok_right (P := PySem.Challenge.rw_meterhouse_k09_texts_refused.prog) (w := w) (base := base)  D_right    c_right_row n_all n_len g_MOST_ROWS
    have c_read_row := My.ok_read_row (P := PySem.Challenge.rw_meterhouse_k09_texts_refused.prog) (w := w) (base := base)  D_read_row    c_number_of n_len
    have c_read := My.ok_read (P := PySem.Challenge.rw_meterhouse_k09_texts_refused.prog) (w := w) (base := base)  D_read   o_NoCode c_read_row c_right g_PARTING
    have c_Lwords := My.ok_Lwords (P := PySem.Challenge.rw_meterhouse_k09_texts_refused.prog) (w := w) (base := base)  D_Lwords    
    have c_Lrow_by := My.ok_Lrow_by (P := PySem.Challenge.rw_meterhouse_k09_texts_refused.prog) (w := w) (base := base)  D_Lrow_by    c_Lwords
    have c_Lpart := My.ok_Lpart (P := PySem.Challenge.rw_meterhouse_k09_texts_refused.prog) (w := w) (base := base)  D_Lpart    n_len n_str
    have c_Lalike := My.ok_Lalike (P := PySem.Challenge.rw_meterhouse_k09_texts_refused.prog) (w := w) (base := base)  D_Lalike    n_range n_len n_isinstance n_tuple n_bool n_int n_str
    have c_Lrows := My.ok_Lrows (P := PySem.Challenge.rw_meterhouse_k09_texts_refused.prog) (w := w) (base := base)  D_Lrows    c_Lalike n_range n_len n_isinstance n_list
    have c_Lcell_at := My.ok_Lcell_at (P := PySem.Challenge.rw_meterhouse_k09_texts_refused.prog) (w := w) (base := base)  D_Lcell_at    n_len
    have c_Lother := My.ok_Lother (P := PySem.Challenge.rw_meterhouse_k09_texts_refused.prog) (w := w) (base := base) zK g_NoClash k_NoClash g_NoSlot k_NoSlot g_Taken k_Taken g_NoNumber k_NoNumber g_TooMuch k_TooMuch g_NoAccount k_NoAccount g_NoLimit k_NoLimit g_PoorPurse k_PoorPurse g_PoorCoin k_PoorCoin g_NoPaper k_NoPaper g_NoRow k_NoRow D_Lother    n_isinstance
    have c_Lrefused := My.ok_Lrefused (P := PySem.Challenge.rw_meterhouse_k09_texts_refused.prog) (w := w) (base := base) hHand_NoCode zK g_HouseError k_HouseError n_ValueError k_ValueError D_Lrefused   o_NoCode c_read c_Lother n_isinstance
    have c_Lrefused_by_any := My.ok_Lrefused_by_any (P := PySem.Challenge.rw_meterhouse_k09_texts_refused.prog) (w := w) (base := base) hHand_HouseError D_Lrefused_by_any   o_NoCode c_read
    have c_Lwrong := My.ok_Lwrong (P := PySem.Challenge.rw_meterhouse_k09_texts_refused.prog) (w := w) (base := base)  D_Lwrong    n_len n_str n_int
    exact My.ok_law  FL   o_NoCode c_Lrows c_Lrow_by c_Lpart c_Lcell_at c_read c_Lwrong c_Lrefused c_Lrefused_by_any n_list n_len n_range
  case S => exact fun K H a ns hl hO hS => ⟨a, ns, rfl, hS, hl, fun _ => rfl⟩
  case C => exact fun _ _ _ _ z => z

