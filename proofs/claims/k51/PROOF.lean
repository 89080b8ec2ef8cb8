import PyProof.Rows.All
import Wide.All
import OpenK.AllK
import Wide.FinOn
import Lean
import PyProof.EqAt
import PyProof.EqKinds
import PyProof.TupleCall
import PySem.Challenge.RW_meterhouse_k51_papers_texts
set_option Elab.async false
set_option linter.all false
set_option maxRecDepth 100000
set_option maxHeartbeats 4000000
namespace L2
open PySem PySem.Spec PyProof.Rows

abbrev Key := Sum Int Str
def keyIs : Key → Value → Bool
  | .inl k, v => Value.isInt k v
  | .inr x, v => Value.isStrOf x v
def keyH (w : World) : Key → Int
  | .inl k => hashInt k
  | .inr x => hashStr w x
theorem keyIs_shape : ∀ {k : Key} {v : Value}, keyIs k v = true → (∃ i t, k = Sum.inl i ∧ v = Value.int i t) ∨ (∃ x t, k = Sum.inr x ∧ v = Value.str x t)
  | .inl i, v, h => by
    obtain ⟨t, e⟩ := Value.isInt_shape (k := i) (v := v) h
    exact .inl ⟨i, t, rfl, e⟩
  | .inr x, v, h => by
    obtain ⟨t, e⟩ := Value.isStrOf_shape (x := x) (v := v) h
    exact .inr ⟨x, t, rfl, e⟩
theorem key_ll (a b : Int) : decide ((Sum.inl a : Key) = Sum.inl b) = (a == b) := by
  by_cases e : a = b
  · subst e; simp
  · have h : ¬ (Sum.inl a : Key) = Sum.inl b := fun q => e (Sum.inl.inj q)
    rw [decide_eq_false h]
    exact (beq_eq_false_iff_ne.mpr e).symm
theorem key_rr (a b : Str) : decide ((Sum.inr a : Key) = Sum.inr b) = decide (a = b) := by
  by_cases e : a = b
  · subst e; simp
  · have h : ¬ (Sum.inr a : Key) = Sum.inr b := fun q => e (Sum.inr.inj q)
    rw [decide_eq_false h, decide_eq_false e]
theorem key_lr (a : Int) (b : Str) : decide ((Sum.inl a : Key) = Sum.inr b) = false := decide_eq_false (fun q => nomatch q)
theorem key_rl (a : Str) (b : Int) : decide ((Sum.inr a : Key) = Sum.inl b) = false := decide_eq_false (fun q => nomatch q)

def mixKind (prog : Program) (w : World) : PySem.KeyKind prog w Key where
  is := keyIs
  hash := keyH w
  inj := fun v a b ha hb => by
    rcases keyIs_shape ha with ⟨i, t, rfl, rfl⟩ | ⟨x, t, rfl, rfl⟩
    · rcases keyIs_shape hb with ⟨j, u, rfl, e⟩ | ⟨y, u, rfl, e⟩
      · injection e with e1 _; rw [e1]
      · exact nomatch e
    · rcases keyIs_shape hb with ⟨j, u, rfl, e⟩ | ⟨y, u, rfl, e⟩
      · exact nomatch e
      · injection e with e1 _; rw [e1]
  byValue := fun k v h => by
    rcases keyIs_shape h with ⟨i, t, rfl, rfl⟩ | ⟨x, t, rfl, rfl⟩ <;> rfl
  pyHash := fun hv h => by
    rcases keyIs_shape hv with ⟨i, t, rfl, rfl⟩ | ⟨x, t, rfl, rfl⟩
    · exact wpAny_pyHash_int h
    · exact wpAny_pyHash_str h
  eqBool := fun hu hv h => by
    rcases keyIs_shape hu with ⟨i, t, rfl, rfl⟩ | ⟨x, t, rfl, rfl⟩
    · rcases keyIs_shape hv with ⟨j, u, rfl, rfl⟩ | ⟨y, u, rfl, rfl⟩
      · rw [key_ll] at h; exact wpAny_eqBool_int h
      · rw [key_lr] at h; exact SeqAt.EqAt.int_str i t y u _ _ _ _ h
    · rcases keyIs_shape hv with ⟨j, u, rfl, rfl⟩ | ⟨y, u, rfl, rfl⟩
      · rw [key_rl] at h; exact SeqAt.EqAt.str_int x t j u _ _ _ _ h
      · rw [key_rr] at h; exact wpAny_eqBool_str h
  «strs» := fun k x t v h => by
    rcases keyIs_shape h with ⟨i, u, rfl, e⟩ | ⟨y, u, rfl, e⟩
    · exact nomatch e
    · injection e with e1 _
      subst e1
      cases v <;> rfl

end L2

namespace L2
open PySem PySem.Spec PyProof.Rows

inductive V where
  | non | bl (b : Bool) | int (i : Int) | str (x : Str) | byt (b : Array UInt8) | flt (b : UInt64) | ref (a : Addr) | ty (n : String)
  deriving DecidableEq

def RelV : V → Value → Prop
  | .non, u => u = Value.none
  | .bl b, u => u = Value.bool b
  | .int i, u => ∃ t, u = Value.int i t
  | .str x, u => ∃ t, u = Value.str x t
  | .byt b, u => ∃ t, u = Value.bytes b t
  | .flt b, u => ∃ t, u = Value.float b t
  | .ref a, u => u = Value.ref a
  | .ty n, u => u = Value.type n

abbrev Vals : List V → List Value → Prop := Paired RelV
theorem Vals.length {xs : List V} {us : List Value} (r : Vals xs us) : xs.length = us.length := Paired.length r
theorem Vals.get : ∀ {xs : List V} {us : List Value} {i : Nat} {x : V}, Vals xs us → xs[i]? = some x → ∃ u, us[i]? = some u ∧ RelV x u
  | _, _, _, _, .nil, e => by simp at e
  | _, _, 0, _, .cons r _, e => by simp at e; subst e; exact ⟨_, rfl, r⟩
  | _, _, i + 1, x, .cons _ t, e => by
    obtain ⟨u, h1, h2⟩ := Vals.get (i := i) (x := x) t (by simpa using e)
    exact ⟨u, by simpa using h1, h2⟩
theorem Vals.set {x : V} {u : Value} (r : RelV x u) : ∀ {xs : List V} {us : List Value} (i : Nat), Vals xs us → Vals (xs.set i x) (us.set i u)
  | _, _, _, .nil => .nil
  | _, _, 0, .cons _ t => .cons r t
  | _, _, i + 1, .cons q t => .cons q (Vals.set r i t)
theorem Vals.append : ∀ {xs ys : List V} {us ws : List Value}, Vals xs us → Vals ys ws → Vals (xs ++ ys) (us ++ ws)
  | _, _, _, _, .nil, s => s
  | _, _, _, _, .cons r t, s => .cons r (Vals.append t s)
theorem Vals.take : ∀ {xs : List V} {us : List Value} (n : Nat), Vals xs us → Vals (xs.take n) (us.take n)
  | _, _, 0, _ => .nil
  | _, _, _ + 1, .nil => .nil
  | _, _, n + 1, .cons r t => .cons r (Vals.take n t)
theorem Vals.drop : ∀ {xs : List V} {us : List Value} (n : Nat), Vals xs us → Vals (xs.drop n) (us.drop n)
  | _, _, 0, r => r
  | _, _, _ + 1, .nil => .nil
  | _, _, n + 1, .cons _ t => Vals.drop n t
def RelO : Option V → Option Value → Prop
  | some v, some u => RelV v u
  | none, none => True
  | _, _ => False
def KV {κ : Type} : List (κ × V) → List (κ × Value) → Prop := Paired fun (p : κ × V) (q : κ × Value) => p.1 = q.1 ∧ RelV p.2 q.2

def kV : Key → V
  | .inl i => .int i
  | .inr x => .str x

inductive HO where
  /-- a list -/
  | lst (xs : List V)
  /-- a tuple (never changes) -/
  | tup (xs : List V)
  /-- a dict whose keys are ints and texts; one whose keys are tuples of ints and texts (the empty one is both) -/
  | dK (kvs : List (Key × V)) | dT (kvs : List (List Key × V))
  /-- a set of ints: its members, its size -/
  | set (S : Int → Bool) (n : Nat)
  /-- an instance of the class at C, its dict at dx, its attributes -/
  | ins (C dx : Addr) (fs : List (Str × V))
  /-- the dict of the instance at x -/
  | own (x : Addr)
  /-- the dict of an exception -/
  | xd (fs : List (Str × V))
  /-- a bound method, f of x -/
  | met (f x : Addr)
  /-- a range object lo, lo + 1, .. below hi -/
  | rng (lo hi : Int)
  /-- a thing that is known to the object (the script; a dict while a loop walks it): read, never written while it is so -/
  | frz (o : Obj) (u : HO)
  /-- a code object's table -/
  | tbl (ps : Array Value)
  /-- any other thing, by what is true of its one object (a def of one's own: SetO a S n := HO.ext fun h => ..) -/
  | ext (φ : Heap → Prop)

abbrev Hp := Addr → Option HO
def upd (H : Hp) (a : Addr) (o : HO) : Hp := fun b => if b = a then some o else H b
theorem upd_same {H : Hp} {a : Addr} {o : HO} : upd H a o a = some o := by unfold upd; rw [if_pos rfl]
theorem upd_ne {H : Hp} {a b : Addr} {o : HO} (h : b ≠ a) : upd H a o b = H b := by unfold upd; rw [if_neg h]
theorem upd_upd {H : Hp} {a : Addr} {o u : HO} : upd (upd H a o) a u = upd H a u := by
  funext b; unfold upd; split <;> rfl
theorem ne_of {H : Hp} {a b : Addr} {o u : HO} (h : H a = some o) (h' : H b = some u) (d : o ≠ u) : a ≠ b := by
  intro e; subst e; rw [h] at h'; exact d (Option.some.inj h')
theorem ne_of_none {H : Hp} {a b : Addr} {o : HO} (h : H a = some o) (h' : H b = none) : a ≠ b := by
  intro e; subst e; rw [h] at h'; cases h'

section
variable (P : Program) (w : World)
def ObjOk (H : Hp) (h : Heap) (a : Addr) : HO → Prop
  | .lst xs => xs.length ≤ sizeLine ∧ ∃ (its : List Value) (n : Nat), Vals xs its ∧ h.get? a = some { cls := .type "list", data := .seq its.toArray n }
  | .tup xs => xs.length ≤ sizeLine ∧ ∃ its : List Value, Vals xs its ∧ IsTup h a its.toArray
  | .dK kvs => kvs.length ≤ sizeLine ∧ (a == sysModules) = false ∧ ∃ vs, KV kvs vs ∧ h.DictOf (mixKind P w) a vs
  | .dT kvs => kvs.length ≤ sizeLine ∧ (a == sysModules) = false ∧ ∃ xs : List (List Key × Addr × Value),
      Paired (fun (p : List Key × V) (q : List Key × Addr × Value) => p.1 = q.1 ∧ H q.2.1 = some (.tup (p.1.map kV)) ∧ RelV p.2 q.2.2) kvs xs ∧
      ∃ o es ep, h.get? a = some o ∧ o.ExactDict ∧ o.data = .dict es ep ∧ es.toList = xs.map (entryOfKey (tupleKind (mixKind P w))) ∧ (xs.map (·.1)).Nodup
  | .set S n => h.SetOf (intKind P w) a S n
  | .ins C dx fs => H dx = some (.own a) ∧ fs.length ≤ 1000 ∧ dx ≠ a ∧ h.get? a = some (PySem.W.instObj C dx) ∧
      ∃ mA, h.Ns1 dx mA ∧ (∀ f, RelO (fs.lookup f) (mA f)) ∧ PySem.Within mA (fs.map (·.1))
  | .own _ => ∃ o, h.get? a = some o
  | .xd fs => ∃ mA, h.Ns1 a mA ∧ ∀ f, RelO (fs.lookup f) (mA f)
  | .rng lo hi => ∃ t u v, h.get? a = some { cls := .type "range", data := .fields #[.int lo t, .int hi u, .int 1 v] }
  | .frz o u => h.get? a = some o ∧ ObjOk H h a u
  | .tbl ps => h.get? a = some { cls := .none, data := .fields ps }
  | .met f x => h.get? a = some (PySem.W.methodObj (.ref f) (.ref x))
  | .ext φ => φ h ∧ (∃ o, h.get? a = some o) ∧ ∀ h1 h2 : Heap, φ h1 → (∀ o, h1.get? a = some o → h2.get? a = some o) → φ h2
def HOk (H : Hp) (h : Heap) : Prop := ∀ a o, H a = some o → ObjOk P w H h a o
end

section
variable {P : Program} {w : World} {H H' : Hp} {h h' : Heap} {a : Addr} {o : HO}
theorem ObjOk.lt (x : ObjOk P w H h a o) : a < h.objs.size := by
  cases o with
  | lst xs => obtain ⟨_, _, _, _, e⟩ := x; exact Heap.lt_size e
  | tup xs => obtain ⟨_, _, _, p⟩ := x; exact p.lt
  | dK kvs => obtain ⟨_, _, _, _, o, _, _, e, _⟩ := x; exact Heap.lt_size e
  | dT kvs => obtain ⟨_, _, _, _, o, _, _, e, _⟩ := x; exact Heap.lt_size e
  | set S n => obtain ⟨o, _, _, _, e, _⟩ := x; exact Heap.lt_size e
  | ins C dx fs => obtain ⟨_, _, _, e, _⟩ := x; exact Heap.lt_size e
  | own y => obtain ⟨_, e⟩ := x; exact Heap.lt_size e
  | xd fs => obtain ⟨_, ⟨_, _, _, e, _⟩, _⟩ := x; exact Heap.lt_size e
  | rng lo hi => obtain ⟨_, _, _, e⟩ := x; exact Heap.lt_size e
  | frz ob u => obtain ⟨e, _⟩ := x; exact Heap.lt_size e
  | tbl ps => exact Heap.lt_size (show h.get? a = some _ from x)
  | met f y => exact Heap.lt_size (show h.get? a = some _ from x)
  | ext φ => obtain ⟨_, ⟨_, e⟩, _⟩ := x; exact Heap.lt_size e
theorem Paired.mapP {α β : Type} {F G : α → β → Prop} : ∀ {l₁ : List α} {l₂ : List β}, Paired F l₁ l₂ → (∀ a b, F a b → G a b) → Paired G l₁ l₂
  | _, _, .nil, _ => .nil
  | _, _, .cons r t, f => .cons (f _ _ r) (Paired.mapP t f)
theorem ObjOk.stay (x : ObjOk P w H h a o) (k : ∀ b u, (b = a ∨ H b = some (.own a)) → h.get? b = some u → h'.get? b = some u)
    (ho : ∀ b, H b = some (.own a) → H' b = some (.own a)) (ht : ∀ b xs, H b = some (.tup xs) → H' b = some (.tup xs)) : ObjOk P w H' h' a o := by
  induction o with
  | lst xs => obtain ⟨z, its, n, r, e⟩ := x; exact ⟨z, its, n, r, k _ _ (.inl rfl) e⟩
  | tup xs => obtain ⟨z, its, r, ob, e, c⟩ := x; exact ⟨z, its, r, ob, k _ _ (.inl rfl) e, c⟩
  | dK kvs => obtain ⟨z, y, vs, r, ob, es, ep, e, c⟩ := x; exact ⟨z, y, vs, r, ob, es, ep, k _ _ (.inl rfl) e, c⟩
  | dT kvs =>
    obtain ⟨z, y, xs, r, ob, es, ep, e, c⟩ := x
    exact ⟨z, y, xs, Paired.mapP r fun p q z => ⟨z.1, ht _ _ z.2.1, z.2.2⟩, ob, es, ep, k _ _ (.inl rfl) e, c⟩
  | set S n => obtain ⟨ob, es, ep, t, e, c⟩ := x; exact ⟨ob, es, ep, t, k _ _ (.inl rfl) e, c⟩
  | ins C dx fs =>
    obtain ⟨d, z, ne, e, mA, ⟨od, es, ep, e2, c⟩, r⟩ := x
    exact ⟨ho _ d, z, ne, k _ _ (.inl rfl) e, mA, ⟨od, es, ep, k _ _ (.inr d) e2, c⟩, r⟩
  | own y => obtain ⟨ob, e⟩ := x; exact ⟨ob, k _ _ (.inl rfl) e⟩
  | xd fs => obtain ⟨mA, ⟨od, es, ep, e, c⟩, r⟩ := x; exact ⟨mA, ⟨od, es, ep, k _ _ (.inl rfl) e, c⟩, r⟩
  | rng lo hi => obtain ⟨t, u, v, e⟩ := x; exact ⟨t, u, v, k _ _ (.inl rfl) e⟩
  | frz ob u ih => obtain ⟨e, q⟩ := x; exact ⟨k _ _ (.inl rfl) e, ih q⟩
  | tbl ps =>
    have e : h.get? a = some { cls := .none, data := .fields ps } := x
    show h'.get? a = some { cls := .none, data := .fields ps }
    exact k a _ (.inl rfl) e
  | met f y =>
    have e : h.get? a = some (PySem.W.methodObj (.ref f) (.ref y)) := x
    show h'.get? a = some (PySem.W.methodObj (.ref f) (.ref y))
    exact k a _ (.inl rfl) e
  | ext φ => obtain ⟨p, ⟨o, e⟩, st⟩ := x; exact ⟨st _ _ p fun o q => k _ _ (.inl rfl) q, ⟨o, k _ _ (.inl rfl) e⟩, st⟩
theorem HOk.lt (x : HOk P w H h) (e : H a = some o) : a < h.objs.size := (x a o e).lt
theorem HOk.fresh (x : HOk P w H h) (e : h.objs.size ≤ a) : H a = none := by
  cases q : H a with
  | none => rfl
  | some u => exact absurd (Nat.lt_of_lt_of_le (x.lt q) e) (Nat.lt_irrefl _)
theorem HOk.kept (x : HOk P w H h) (k : ∀ b u, h.get? b = some u → h'.get? b = some u) : HOk P w H h' := fun a o e =>
  (x a o e).stay (fun b u _ q => k b u q) (fun _ q => q) fun _ _ q => q
theorem HOk.laid (x : HOk P w H h) (k : ∀ b u, h.get? b = some u → h'.get? b = some u) (hp : h.objs.size ≤ a) (new : ObjOk P w (upd H a o) h' a o) : HOk P w (upd H a o) h' := fun b u e => by
  have hn := x.fresh hp
  by_cases hb : b = a
  · subst hb; rw [upd_same] at e; cases e; exact new
  · rw [upd_ne hb] at e
    exact (x b u e).stay (fun c v _ q => k c v q) (fun c q => by rw [upd_ne (ne_of_none q hn)]; exact q) fun c xs q => by rw [upd_ne (ne_of_none q hn)]; exact q
end

def Rd (H : Hp) (a : Addr) (u : HO) : Prop := H a = some u ∨ ∃ o, H a = some (.frz o u)
theorem Rd.of {H : Hp} {a : Addr} {u : HO} (h : H a = some u) : Rd H a u := .inl h
theorem Rd.ok {P : Program} {w : World} {H : Hp} {h : Heap} {a : Addr} {u : HO} (r : Rd H a u) (x : HOk P w H h) : ObjOk P w H h a u := by
  rcases r with r | ⟨o, r⟩
  · exact x a u r
  · obtain ⟨_, q⟩ := x a _ r
    exact q
def Mut : Option HO → Prop
  | some (.lst _) => True
  | some (.dK _) => True
  | some (.dT _) => True
  | some (.set _ _) => True
  | some (.ins _ _ _) => True
  | some (.ext _) => True
  | _ => False
section
variable {P : Program} {w : World} {H : Hp} {h h' : Heap} {x e : Addr} {o' : HO}
theorem HOk.write (ok : HOk P w H h) (mu : Mut (H x)) (he : e = x ∨ H e = some (.own x)) (k : ∀ b u, b ≠ e → h.get? b = some u → h'.get? b = some u) (heo : ∃ u, h'.get? e = some u)
    (new : ObjOk P w (upd H x o') h' x o') : HOk P w (upd H x o') h' := fun b u q => by
  have nown : ∀ c y, H c = some (.own y) → c ≠ x := fun c y r z => by subst z; rw [r] at mu; exact mu
  have ntup : ∀ c xs, H c = some (.tup xs) → c ≠ x := fun c xs r z => by subst z; rw [r] at mu; exact mu
  by_cases hb : b = x
  · subst hb; rw [upd_same] at q; cases q; exact new
  · rw [upd_ne hb] at q
    by_cases hbe : b = e
    · have q' : H b = some (.own x) := by
        rcases he with z | z
        · exact absurd (hbe.trans z) hb
        · rw [hbe]; exact z
      rw [q] at q'; cases q'
      obtain ⟨v, hv⟩ := heo
      exact ⟨v, by rw [hbe]; exact hv⟩
    · refine (ok b u q).stay (fun c v hc r => k c v ?_ r) (fun c r => by rw [upd_ne (nown c b r)]; exact r) fun c xs r => by rw [upd_ne (ntup c xs r)]; exact r
      rcases hc with rfl | hc
      · exact hbe
      · rintro rfl
        rcases he with z | z
        · exact nown c b hc z
        · rw [hc] at z; cases z; exact hb rfl
end

structure Un (fs ex : List Addr) (H H' : Hp) (h h' : Heap) : Prop where
  keep : ∀ b o, h.get? b = some o → H b = none → b ∉ fs → b ∉ ex → h'.get? b = some o
  slot : ∀ b o, h.get? b = some o → H b = none → b ∈ fs → b ∉ ex → ∃ sl, h'.get? b = some { o with slots := sl }
  free : ∀ b o, h.get? b = some o → H b = none → b ∉ ex → H' b = none
  there : ∀ b o, h.get? b = some o → b ∉ ex → ∃ o', h'.get? b = some o'
  tups : ∀ b xs, H b = some (.tup xs) → H' b = some (.tup xs)
  frzs : ∀ b o u, H b = some (.frz o u) → H' b = some (.frz o u)
  tbls : ∀ b ps, H b = some (.tbl ps) → ∃ more, H' b = some (.tbl (ps ++ more))
section
variable {fs fs' ex ex' : List Addr} {H H1 H2 : Hp} {h h1 h2 h' : Heap} {a x e : Addr} {o : HO}
theorem Un.any (u : Un fs ex H H1 h h1) {b : Addr} {ob : Obj} (q : h.get? b = some ob) (n : H b = none) (hx : b ∉ ex) : ∃ sl, h1.get? b = some { ob with slots := sl } := by
  by_cases hb : b ∈ fs
  · exact u.slot b ob q n hb hx
  · exact ⟨ob.slots, u.keep b ob q n hb hx⟩
theorem Un.trans (a : Un fs ex H H1 h h1) (b : Un fs ex H1 H2 h1 h2) : Un fs ex H H2 h h2 where
  keep := fun c ob q n hc hx => b.keep c ob (a.keep c ob q n hc hx) (a.free c ob q n hx) hc hx
  slot := fun c ob q n hc hx => by
    obtain ⟨sl, e1⟩ := a.slot c ob q n hc hx
    obtain ⟨sl', e2⟩ := b.slot c _ e1 (a.free c ob q n hx) hc hx
    exact ⟨sl', e2⟩
  free := fun c ob q n hx => by
    obtain ⟨o', e1⟩ := a.there c ob q hx
    exact b.free c o' e1 (a.free c ob q n hx) hx
  there := fun c ob q hx => by
    obtain ⟨o', e1⟩ := a.there c ob q hx
    exact b.there c o' e1 hx
  tups := fun c xs q => b.tups c xs (a.tups c xs q)
  frzs := fun c ob xs q => b.frzs c ob xs (a.frzs c ob xs q)
  tbls := fun c ps q => by
    obtain ⟨m1, e1⟩ := a.tbls c ps q
    obtain ⟨m2, e2⟩ := b.tbls c _ e1
    exact ⟨m1 ++ m2, by rw [e2, Array.append_assoc]⟩
theorem Un.kept (k : ∀ b u, h.get? b = some u → h'.get? b = some u) : Un fs ex H H h h' :=
  ⟨fun b ob q _ _ _ => k b ob q, fun b ob q _ _ _ => ⟨ob.slots, k b ob q⟩, fun _ _ _ n _ => n, fun b ob q _ => ⟨ob, k b ob q⟩, fun _ _ q => q, fun _ _ _ q => q, fun _ ps q => ⟨#[], by rw [q]; simp⟩⟩
theorem Un.refl : Un fs ex H H h h := Un.kept fun _ _ q => q
theorem Un.laid (k : ∀ b u, h.get? b = some u → h'.get? b = some u) (hp : h.objs.size ≤ a) (hn : H a = none) : Un fs ex H (upd H a o) h h' where
  keep := fun b u q _ _ _ => k b u q
  slot := fun b u q _ _ _ => ⟨u.slots, k b u q⟩
  free := fun b u q n _ => by rw [upd_ne (Nat.ne_of_lt (Nat.lt_of_lt_of_le (Heap.lt_size q) hp))]; exact n
  there := fun b u q _ => ⟨u, k b u q⟩
  tups := fun b xs q => by rw [upd_ne (ne_of_none q hn)]; exact q
  frzs := fun b u xs q => by rw [upd_ne (ne_of_none q hn)]; exact q
  tbls := fun b ps q => ⟨#[], by rw [upd_ne (ne_of_none q hn), q]; simp⟩
theorem Un.write (mu : Mut (H x)) (he : e = x ∨ H e = some (.own x)) (k : ∀ b u, b ≠ e → h.get? b = some u → h'.get? b = some u) (heo : ∃ u, h'.get? e = some u) : Un fs ex H (upd H x o) h h' := by
  have hx : ∀ b, H b = none → b ≠ x := fun b n z => by subst z; rw [n] at mu; exact mu
  have hb : ∀ b, H b = none → b ≠ e := fun b n z => by
    subst z
    rcases he with r | r
    · exact hx b n r
    · rw [n] at r; cases r
  have hm : ∀ b u, H b = some u → ¬ Mut (some u) → b ≠ x := fun b u q nm z => by subst z; rw [q] at mu; exact nm mu
  refine ⟨fun b u q n _ _ => k b u (hb b n) q, fun b u q n _ _ => ⟨u.slots, k b u (hb b n) q⟩, fun b u q n _ => by rw [upd_ne (hx b n)]; exact n, fun b u q _ => ?_,
    fun b xs q => by rw [upd_ne (hm b _ q fun z => z)]; exact q, fun b u xs q => by rw [upd_ne (hm b _ q fun z => z)]; exact q, fun b ps q => ⟨#[], by rw [upd_ne (hm b _ q fun z => z), q]; simp⟩⟩
  by_cases hbe : b = e
  · subst hbe; exact heo
  · exact ⟨u, k b u hbe q⟩
theorem Un.mono (u : Un fs ex H H1 h h1) (hs : ∀ b ∈ fs, b ∈ fs') (hx : ∀ b ∈ ex, b ∈ ex') : Un fs' ex' H H1 h h1 :=
  ⟨fun b ob q n hb he => u.keep b ob q n (fun z => hb (hs b z)) fun z => he (hx b z), fun _ _ q n _ he => u.any q n fun z => he (hx _ z), fun b ob q n he => u.free b ob q n fun z => he (hx b z), fun b ob q he => u.there b ob q fun z => he (hx b z), u.tups, u.frzs, u.tbls⟩
end

def trk (h : Heap) (H : Hp) : List Addr := (List.range h.objs.size).filter fun a => (H a).isSome
def hidT (h : Heap) (H : Hp) : Heap := PySem.W.hideAll h (trk h H)
theorem hidT_size (h : Heap) (H : Hp) : (hidT h H).objs.size = h.objs.size := PySem.W.hideAll_size _ _
theorem hidT_get {h : Heap} {H : Hp} {b : Addr} {o : Obj} (e : h.get? b = some o) (n : H b = none) : (hidT h H).get? b = some o :=
  PySem.W.hideAll_get _ e fun hm => by
    have q : (H b).isSome = true := (List.mem_filter.mp hm).2
    rw [n] at q; simp at q
theorem of_hidT {h : Heap} {H : Hp} {b : Addr} {o : Obj} (e : (hidT h H).get? b = some o) : h.get? b = some o ∧ H b = none := by
  have e' : h.get? b = some o := PySem.W.of_hideAll (trk h H) e
  refine ⟨e', ?_⟩
  cases q : H b with
  | none => rfl
  | some x =>
    have hm : b ∈ trk h H := List.mem_filter.mpr ⟨List.mem_range.mpr (Heap.lt_size e'), by simp [q]⟩
    have z : (hidT h H).get? b = none := PySem.W.hideAll_none (trk h H) hm
    rw [z] at e; cases e

def allNews (g h : Heap) (L : Addr) : List (Addr × Obj) := (List.range h.objs.size).filterMap fun a => if a = L ∨ (g.get? a).isSome = true then none else (h.get? a).map fun o => (a, o)
def rest (g h : Heap) (L d : Addr) : List (Addr × Obj) := (allNews g h L).filter fun p => decide (p.1 ≠ d)
end L2

namespace L2
open PySem PySem.Spec PyProof.Rows

structure Mod (K : PySem.W.Frag) (mg : Str → Option Value) (base : Heap) : Prop where
  kin : K.In base
  glob : base.Ns mainGlobals mg
  blt : ∃ mb, base.Ns builtinsNs mb ∧ ∀ x : Str, x ≠ "__name__" → mb x = bootBuiltins x
  nolimit : base.NoLimit

structure Cx where
  prog : Program
  w : World
  K : PySem.W.Frag
  mg : Str → Option Value
  base : Heap
  A : Around
  N : List Str
  s₀ : Shared
  H₀ : Hp
  env : Env
  outer : List Env
  stack : List Env
  ex : List Addr
  fn : Str → Bool
  calm : Bool
  pn : List (Addr × Obj)
  xe : Value → Shared → Prop
def frs (l : List Env) : List Addr := l.filterMap (·.frame)
abbrev Cx.fs (X : Cx) : List Addr := frs X.outer

def Vis (sc : Scope) (x : Str) : Prop := sc.names.lookup x = some .local ∨ sc.names.lookup x = some .cell ∨ sc.names.lookup x = some .free
def Loc (sc : Scope) (x : Str) : Prop := sc.names.lookup x = some .local ∨ sc.names.lookup x = some .cell
def Look (env : Env) (h : Heap) (m : Str → Option Value) (x : Str) (u : Value) : Prop :=
  (env.kindOf x = some .local ∧ m x = some u) ∨ ((env.kindOf x = some .cell ∨ env.kindOf x = some .free) ∧ ∃ c, env.cells.lookup x = some c ∧ h.IsCell c (some u))

structure Cx.Ok (X : Cx) : Prop where
  mod : Mod X.K X.mg X.base
  kind : X.env.scope.kind = .function
  glob : X.env.globals = mainGlobals
  blt : X.env.builtins = builtinsNs
  above : X.s₀.heap.objs.size ≤ X.env.locals
  inj : ∀ x y c, X.env.cells.lookup x = some c → X.env.cells.lookup y = some c → x = y
  has : ∀ x, (X.env.kindOf x = some .cell ∨ X.env.kindOf x = some .free) → ∃ c, X.env.cells.lookup x = some c
  cab : ∀ x c, X.fn x = true → X.env.cells.lookup x = some c → X.s₀.heap.objs.size ≤ c
  hd : X.calm = true → X.A.handled = none
  frames : X.A.frames = some X.stack
  stk : X.stack = X.outer ∨ (X.stack = X.env :: X.outer ∧ X.env.frame = some X.env.locals)
  exf : ∀ b ∈ X.ex, b ≠ X.env.locals ∧ ∀ x c, X.env.cells.lookup x = some c → c ≠ b
  bs : ∀ b o, X.base.get? b = some o → X.s₀.heap.get? b = some o ∧ X.H₀ b = none
  bsz : X.base.objs.size ≤ X.s₀.heap.objs.size
  noex : ∀ b o, X.base.get? b = some o → b ∉ X.ex
  exfs : ∀ b ∈ X.ex, b ∉ X.fs
  funs : X.s₀.heap.FunFrames X.base X.outer
  frf : ∀ b ∈ X.fs, X.H₀ b = none

structure Inv (X : Cx) (pins : List (Addr × Obj)) (σ : List (Option V)) (H : Hp) (s : Shared) : Prop where
  ok : X.Ok
  os : s.os = X.s₀.os
  bare : AllBare s.gens
  base : Un X.fs X.ex X.H₀ H X.s₀.heap s.heap
  loc : ∃ m, s.heap.Ns X.env.locals m ∧ ∀ (i : Nat) (x : Str) (v : V), X.N[i]? = some x → σ[i]? = some (some v) → Vis X.env.scope x → ∃ u, RelV v u ∧ Look X.env s.heap m x u
  cell : ∀ x c, X.env.cells.lookup x = some c → ∃ v, s.heap.IsCell c v
  free : H X.env.locals = none
  freeC : ∀ x c, X.env.cells.lookup x = some c → H c = none
  pin : ∀ p ∈ X.pn ++ pins, s.heap.get? p.1 = some p.2 ∧ H p.1 = none ∧ p.1 ≠ X.env.locals ∧ p.1 ∉ X.fs ∧ ∀ v, p.2.data ≠ .cell v
  hok : HOk X.prog X.w H s.heap
  len : σ.length = X.N.length

section
variable {X : Cx} {pins : List (Addr × Obj)} {σ : List (Option V)} {H H' : Hp} {s : Shared} {h' : Heap}

theorem Cx.Ok.nofr (ok : X.Ok) {b : Addr} {o : Obj} (e : X.base.get? b = some o) : b ∉ X.fs := fun hb => by
  have := (ok.funs.mem hb).1
  rw [e] at this; cases this
theorem Inv.bs (I : Inv X pins σ H s) : ∀ b o, X.base.get? b = some o → s.heap.get? b = some o ∧ H b = none := fun b o e =>
  ⟨I.base.keep b o (I.ok.bs b o e).1 (I.ok.bs b o e).2 (I.ok.nofr e) (I.ok.noex b o e), I.base.free b o (I.ok.bs b o e).1 (I.ok.bs b o e).2 (I.ok.noex b o e)⟩
theorem Inv.bk (I : Inv X pins σ H s) : ∀ b o, X.base.get? b = some o → s.heap.get? b = some o := fun b o e => (I.bs b o e).1
theorem Inv.mod (I : Inv X pins σ H s) : Mod X.K X.mg X.base := I.ok.mod
theorem Inv.kIn (I : Inv X pins σ H s) : X.K.In s.heap := I.ok.mod.kin.keeps I.bk
theorem Inv.nolimit (I : Inv X pins σ H s) : s.heap.NoLimit := I.ok.mod.nolimit.keeps I.bk
theorem Inv.fr (I : Inv X pins σ H s) : ∃ m, Fr X.base X.env.locals s.heap m :=
  let ⟨m, hn, _⟩ := I.loc
  ⟨m, hn, I.bk, Nat.le_trans I.ok.bsz I.ok.above⟩
theorem Inv.lt (I : Inv X pins σ H s) : X.env.locals < s.heap.objs.size := let ⟨_, hn, _⟩ := I.loc; hn.lt
theorem Inv.sz (I : Inv X pins σ H s) : X.s₀.heap.objs.size ≤ s.heap.objs.size := Nat.le_trans I.ok.above (Nat.le_of_lt I.lt)
theorem Inv.nofs (I : Inv X pins σ H s) {a : Addr} (h : s.heap.objs.size ≤ a) : a ∉ X.fs := fun hb => by
  obtain ⟨_, o, ho, _⟩ := I.ok.funs.mem hb
  exact absurd (Nat.lt_of_lt_of_le (Heap.lt_size ho) (Nat.le_trans I.sz h)) (Nat.lt_irrefl _)
theorem Inv.cne (I : Inv X pins σ H s) : ∀ x c, X.env.cells.lookup x = some c → c ≠ X.env.locals := fun x c e z => by
  obtain ⟨v, o, ho, hd⟩ := I.cell x c e
  obtain ⟨m, ⟨o', es, ep, ho', hd', _⟩, _⟩ := I.loc
  rw [z, ho'] at ho; cases ho; rw [hd'] at hd; cases hd
theorem Inv.funs (I : Inv X pins σ H s) : s.heap.FunFrames X.base X.outer := by
  have all : ∀ (l : List Env), (∀ b ∈ frs l, b ∈ X.fs) → X.s₀.heap.FunFrames X.base l → s.heap.FunFrames X.base l := by
    intro l
    induction l with
    | nil => intro _ _; trivial
    | cons env r ih =>
      intro hs hl
      obtain ⟨hk, ⟨L, o, hf, hn, ho, hd⟩, hr⟩ := hl
      have hL : L ∈ X.fs := hs L (by unfold frs; rw [List.filterMap_cons, hf]; exact List.mem_cons_self)
      obtain ⟨sl, e⟩ := I.base.slot L o ho (I.ok.frf L hL) hL fun z => I.ok.exfs L z hL
      exact ⟨hk, ⟨L, _, hf, hn, e, hd⟩, ih (fun b hb => hs b (by unfold frs; rw [List.filterMap_cons, hf]; exact List.mem_cons_of_mem _ hb)) hr⟩
  exact all X.outer (fun _ hb => hb) I.ok.funs

theorem Inv.stack (I : Inv X pins σ H s) : s.heap.FunFrames X.base X.stack := by
  rcases I.ok.stk with e | ⟨e, hf⟩
  · rw [e]; exact I.funs
  · rw [e]
    obtain ⟨m, hn, _⟩ := I.loc
    refine .cons (by rw [I.ok.kind]; decide) hf hn ?_ I.funs
    exact Heap.get?_none_of_le (Nat.le_trans I.ok.bsz I.ok.above)
theorem Inv.stkSub (I : Inv X pins σ H s) : ∀ b ∈ frs X.stack, b ∈ X.env.locals :: X.fs := fun b hb => by
  rcases I.ok.stk with e | ⟨e, hf⟩
  · rw [e] at hb; exact List.mem_cons_of_mem _ hb
  · rw [e] at hb
    unfold frs at hb
    rw [List.filterMap_cons, hf] at hb
    exact hb
theorem Inv.stkFree (I : Inv X pins σ H s) : ∀ b ∈ frs X.stack, H b = none := fun b hb => by
  rcases List.mem_cons.mp (I.stkSub b hb) with e | hb
  · rw [e]; exact I.free
  · obtain ⟨_, o, ho, _⟩ := I.ok.funs.mem hb
    exact I.base.free b o ho (I.ok.frf b hb) fun z => I.ok.exfs b z hb

theorem Inv.step {g' : Array GenState} {t' : Nat} {d' : Drawn} {ch : List Addr} (I : Inv X pins σ H s)
    (hch : ∀ b ∈ ch, (b ∈ X.ex ∨ X.s₀.heap.objs.size ≤ b) ∧ b ≠ X.env.locals ∧ (∀ x c, X.env.cells.lookup x = some c → c ≠ b) ∧ ∀ p ∈ X.pn ++ pins, p.1 ≠ b)
    (keep : ∀ b o, b ≠ X.env.locals → b ∉ X.fs → b ∉ ch → s.heap.get? b = some o → H b = none → h'.get? b = some o)
    (slot : ∀ b o, b ≠ X.env.locals → b ∈ X.fs → b ∉ ch → s.heap.get? b = some o → H b = none → ∃ sl, h'.get? b = some { o with slots := sl }) (free : ∀ b o, b ∉ ch → s.heap.get? b = some o → H b = none → H' b = none)
    (there : ∀ b o, b ∉ ch → s.heap.get? b = some o → ∃ o', h'.get? b = some o')
    (tups : ∀ b xs, H b = some (.tup xs) → H' b = some (.tup xs)) (frzs : ∀ b o u, H b = some (.frz o u) → H' b = some (.frz o u)) (tbls : ∀ b ps, H b = some (.tbl ps) → ∃ more, H' b = some (.tbl (ps ++ more)))
    (ns : ∀ m, s.heap.Ns X.env.locals m → h'.Ns X.env.locals m) (hok : HOk X.prog X.w H' h') (hg : AllBare g') :
    Inv X pins σ H' { s with heap := h', gens := g', drawn := d', toks := t' } := by
  have neL : ∀ b o, X.s₀.heap.get? b = some o → b ≠ X.env.locals := fun b o e => Nat.ne_of_lt (Nat.lt_of_lt_of_le (Heap.lt_size e) I.ok.above)
  have neC : ∀ b o, X.s₀.heap.get? b = some o → b ∉ X.ex → b ∉ ch := fun b o e hx hb => by
    rcases (hch b hb).1 with z | z
    · exact hx z
    · exact absurd (Nat.lt_of_lt_of_le (Heap.lt_size e) z) (Nat.lt_irrefl _)
  have cellK : ∀ x c, X.env.cells.lookup x = some c → ∀ v, s.heap.IsCell c v → h'.IsCell c v := fun x c e v ⟨o, ho, hd⟩ => by
    have nch : c ∉ ch := fun z => (hch c z).2.2.1 x c e rfl
    by_cases hc : c ∈ X.fs
    · obtain ⟨sl, q⟩ := slot c o (I.cne x c e) hc nch ho (I.freeC x c e)
      exact ⟨_, q, hd⟩
    · exact ⟨o, keep c o (I.cne x c e) hc nch ho (I.freeC x c e), hd⟩
  refine ⟨I.ok, I.os, hg, ⟨fun b o e n hb hx => ?_, fun b o e n hb hx => ?_, fun b o e n hx => ?_, fun b o e hx => ?_, fun b xs e => tups b xs (I.base.tups b xs e), fun b o xs e => frzs b o xs (I.base.frzs b o xs e), fun b ps e => ?_⟩, ?_, fun x c e => ?_, ?_, fun x c e => ?_, fun p hp => ?_, hok, I.len⟩
  · exact keep b o (neL b o e) hb (neC b o e hx) (I.base.keep b o e n hb hx) (I.base.free b o e n hx)
  · obtain ⟨sl, e1⟩ := I.base.slot b o e n hb hx
    obtain ⟨sl', e2⟩ := slot b _ (neL b o e) hb (neC b o e hx) e1 (I.base.free b o e n hx)
    exact ⟨sl', e2⟩
  · obtain ⟨o', e1⟩ := I.base.there b o e hx
    exact free b o' (neC b o e hx) e1 (I.base.free b o e n hx)
  · obtain ⟨o', e1⟩ := I.base.there b o e hx
    exact there b o' (neC b o e hx) e1
  · obtain ⟨m1, e1⟩ := I.base.tbls b ps e
    obtain ⟨m2, e2⟩ := tbls b _ e1
    exact ⟨m1 ++ m2, by rw [e2, Array.append_assoc]⟩
  · obtain ⟨m, hn, hl⟩ := I.loc
    refine ⟨m, ns m hn, fun i x v e1 e2 e3 => ?_⟩
    obtain ⟨u, r, l⟩ := hl i x v e1 e2 e3
    refine ⟨u, r, ?_⟩
    rcases l with l | ⟨k, c, e, z⟩
    · exact .inl l
    · exact .inr ⟨k, c, e, cellK x c e _ z⟩
  · obtain ⟨v, z⟩ := I.cell x c e
    exact ⟨v, cellK x c e v z⟩
  · obtain ⟨m, ⟨o, _, _, ho, _⟩, _⟩ := I.loc
    exact free _ o (fun z => (hch _ z).2.1 rfl) ho I.free
  · obtain ⟨v, o, ho, hd⟩ := I.cell x c e
    exact free c o (fun z => (hch c z).2.2.1 x c e rfl) ho (I.freeC x c e)
  · obtain ⟨e, n, ne, nf, d⟩ := I.pin p hp
    have nch : p.1 ∉ ch := fun z => (hch p.1 z).2.2.2 p hp rfl
    exact ⟨keep p.1 p.2 ne nf nch e n, free p.1 p.2 nch e n, ne, nf, d⟩
theorem Inv.un {t' : Nat} (I : Inv X pins σ H s) (u : Un X.fs [] H H' s.heap h') (hok : HOk X.prog X.w H' h') : Inv X pins σ H' { s with heap := h', toks := t' } := by
  obtain ⟨m, ⟨o, es, ep, ho, r⟩, _⟩ := id I.loc
  obtain ⟨sl, hL⟩ := u.any ho I.free (by simp)
  exact I.step (g' := s.gens) (d' := s.drawn) (ch := []) (fun _ z => nomatch z) (fun b o _ hb _ e n => u.keep b o e n hb (by simp)) (fun b o _ hb _ e n => u.slot b o e n hb (by simp)) (fun b o _ e n => u.free b o e n (by simp)) (fun b o _ e => u.there b o e (by simp)) u.tups u.frzs u.tbls (fun m' hm => by
    obtain ⟨o', es', ep', ho', r'⟩ := hm
    rw [ho] at ho'; cases ho'
    exact ⟨_, es', ep', hL, r'⟩) hok I.bare
theorem Inv.call {g' : Array GenState} {t' : Nat} {d' : Drawn} {ch : List Addr} (I : Inv X pins σ H s) (u : Un (frs X.stack) ch H H' s.heap h') (hok : HOk X.prog X.w H' h') (hg : AllBare g')
    (hch : ∀ b ∈ ch, (b ∈ X.ex ∨ X.s₀.heap.objs.size ≤ b) ∧ b ≠ X.env.locals ∧ (∀ x c, X.env.cells.lookup x = some c → c ≠ b) ∧ ∀ p ∈ X.pn ++ pins, p.1 ≠ b) :
    Inv X pins σ H' { s with heap := h', gens := g', drawn := d', toks := t' } := by
  obtain ⟨m, ⟨o, es, ep, ho, r⟩, _⟩ := id I.loc
  obtain ⟨sl, hL⟩ := u.any ho I.free fun z => (hch _ z).2.1 rfl
  exact I.step (ch := ch) hch (fun b o hL hb hc e n => u.keep b o e n (fun z => (List.mem_cons.mp (I.stkSub b z)).elim hL hb) hc) (fun b o _ _ hc e n => u.any e n hc) (fun b o hc e n => u.free b o e n hc) (fun b o hc e => u.there b o e hc) u.tups u.frzs u.tbls (fun m' hm => by
    obtain ⟨o', es', ep', ho', r'⟩ := hm
    rw [ho] at ho'; cases ho'
    exact ⟨_, es', ep', hL, r'⟩) hok hg
theorem Inv.turned {t' : Nat} {it : Addr} (I : Inv X pins σ H s) (k : ∀ b o, b ≠ it → s.heap.get? b = some o → h'.get? b = some o) (hn : H it = none) (hL : it ≠ X.env.locals)
    (h1 : it ∈ X.ex ∨ X.s₀.heap.objs.size ≤ it) (h2 : ∀ x c, X.env.cells.lookup x = some c → c ≠ it) (h3 : ∀ p ∈ X.pn ++ pins, p.1 ≠ it) : Inv X pins σ H { s with heap := h', toks := t' } := by
  have nit : ∀ b u, H b = some u → b ≠ it := fun b u e z => by rw [z, hn] at e; cases e
  refine I.step (g' := s.gens) (d' := s.drawn) (ch := [it]) (fun b hb => ?_) (fun b o _ _ hc e _ => k b o (fun z => hc (by simp [z])) e) (fun b o _ _ hc e _ => ⟨o.slots, k b o (fun z => hc (by simp [z])) e⟩) (fun _ _ _ _ n => n)
    (fun b o hc e => ⟨o, k b o (fun z => hc (by simp [z])) e⟩) (fun _ _ e => e) (fun _ _ _ e => e) (fun b ps e => ⟨#[], by rw [e]; simp⟩) (fun m hm => ?_) (fun b u e => ?_) I.bare
  · have e : b = it := by simpa using hb
    subst e
    exact ⟨h1, hL, h2, h3⟩
  · obtain ⟨o, es, ep, ho, r⟩ := hm
    exact ⟨o, es, ep, k _ o (Ne.symm hL) ho, r⟩
  · refine (I.hok b u e).stay (fun c v hc q => k c v ?_ q) (fun _ q => q) fun _ _ q => q
    rcases hc with z | z
    · rw [z]; exact nit b u e
    · exact nit c _ z
theorem Inv.tok (I : Inv X pins σ H s) (t : Nat) : Inv X pins σ H { s with toks := t } := I.un (h' := s.heap) (t' := t) Un.refl I.hok
theorem Inv.kept {t' : Nat} (I : Inv X pins σ H s) (k : ∀ b u, s.heap.get? b = some u → h'.get? b = some u) : Inv X pins σ H { s with heap := h', toks := t' } := I.un (Un.kept k) (I.hok.kept k)
theorem Inv.laid {a : Addr} {o : HO} {t' : Nat} (I : Inv X pins σ H s) (k : ∀ b u, s.heap.get? b = some u → h'.get? b = some u) (hp : s.heap.objs.size ≤ a) (new : ObjOk X.prog X.w (upd H a o) h' a o) :
    Inv X pins σ (upd H a o) { s with heap := h', toks := t' } := I.un (Un.laid k hp (I.hok.fresh hp)) (I.hok.laid k hp new)
theorem Inv.write {x e : Addr} {o : HO} {t' : Nat} (I : Inv X pins σ H s) (mu : Mut (H x)) (he : e = x ∨ H e = some (.own x)) (k : ∀ b u, b ≠ e → s.heap.get? b = some u → h'.get? b = some u) (heo : ∃ u, h'.get? e = some u)
    (new : ObjOk X.prog X.w (upd H x o) h' x o) : Inv X pins σ (upd H x o) { s with heap := h', toks := t' } := I.un (Un.write mu he k heo) (I.hok.write mu he k heo new)
theorem Inv.pins_of {pins' : List (Addr × Obj)} (I : Inv X pins σ H s) (h : ∀ p ∈ pins', s.heap.get? p.1 = some p.2 ∧ H p.1 = none ∧ p.1 ≠ X.env.locals ∧ p.1 ∉ X.fs ∧ ∀ v, p.2.data ≠ .cell v) : Inv X pins' σ H s :=
  ⟨I.ok, I.os, I.bare, I.base, I.loc, I.cell, I.free, I.freeC, fun p hp => (List.mem_append.mp hp).elim (fun z => I.pin p (List.mem_append_left _ z)) (h p), I.hok, I.len⟩

theorem nodup_ix {N : List Str} (hN : N.Nodup) {i j : Nat} {x : Str} (a : N[i]? = some x) (b : N[j]? = some x) : i = j := by
  obtain ⟨h1, e1⟩ := List.getElem?_eq_some_iff.mp a
  obtain ⟨h2, e2⟩ := List.getElem?_eq_some_iff.mp b
  exact (List.getElem_inj hN).mp (e1.trans e2.symm)

theorem store_ok2 {M : Model} {A : Around} {E : Value → Shared → Prop} {i : Nat} {x : Str} {v : V} {u : Value} {Q : Unit → Shared → Prop} (I : Inv X pins σ H s) (hN : X.N.Nodup) (hi : X.N[i]? = some x) (hx : Loc X.env.scope x) (r : RelV v u)
    (h : ∀ s', Inv X pins (σ.set i (some v)) H s' → (∃ a, Heap.SameBut a s.heap s'.heap ∧ (a = X.env.locals ∨ X.env.cells.lookup x = some a)) → Q () s') (hf : X.fn x = true ∨ X.env.scope.names.lookup x = some .local := by first | exact .inl rfl | exact .inr rfl | assumption) : wpAny M A (storeName X.env x u) Q E s := by
  obtain ⟨m, hn, hl⟩ := id I.loc
  have hcls : (X.env.scope.kind == .class || (X.env.scope.kind == .module && X.env.locals != X.env.globals)) = false := by rw [I.ok.kind]; rfl
  have hiσ : i < σ.length := by rw [I.len]; exact (List.getElem?_eq_some_iff.mp hi).1
  have cne := I.cne
  have tracked : ∀ {a : Addr} {h' : Heap}, (∃ o, s.heap.get? a = some o ∧ H a = none) → Heap.SameBut a s.heap h' → HOk X.prog X.w H h' := fun {a h'} ha hs b ob e => by
    obtain ⟨_, _, hfree⟩ := ha
    refine (I.hok b ob e).stay (fun c w' hc q => (hs.2 c ?_).trans q) (fun _ q => q) fun _ _ q => q
    rintro rfl
    rcases hc with rfl | hc
    · rw [hfree] at e; cases e
    · rw [hfree] at hc; cases hc
  rcases hx with hk | hk
  · refine wpAny_storeName_local hk hn (fun h' hn' hs => ?_) hcls
    obtain ⟨oL, _, _, hoL, _⟩ := id hn
    refine h _ ⟨I.ok, I.os, I.bare, ⟨fun b o e n hb hx => ?_, fun b o e n hb hx => ?_, I.base.free, fun b o e hx => ?_, I.base.tups, I.base.frzs, I.base.tbls⟩, ⟨_, hn', fun j y v' e1 e2 e3 => ?_⟩, fun y c e => ?_, I.free, I.freeC, fun p hp => ?_, tracked ⟨oL, hoL, I.free⟩ hs, by simpa using I.len⟩ ⟨_, hs, .inl rfl⟩
    · exact (hs.2 b (Nat.ne_of_lt (Nat.lt_of_lt_of_le (Heap.lt_size e) I.ok.above))).trans (I.base.keep b o e n hb hx)
    · obtain ⟨sl, e1⟩ := I.base.slot b o e n hb hx
      exact ⟨sl, (hs.2 b (Nat.ne_of_lt (Nat.lt_of_lt_of_le (Heap.lt_size e) I.ok.above))).trans e1⟩
    · obtain ⟨o', e1⟩ := I.base.there b o e hx
      exact ⟨o', (hs.2 b (Nat.ne_of_lt (Nat.lt_of_lt_of_le (Heap.lt_size e) I.ok.above))).trans e1⟩
    · by_cases hj : j = i
      · subst hj
        rw [hi] at e1; cases e1
        rw [List.getElem?_set_self hiσ] at e2
        cases e2
        exact ⟨u, r, .inl ⟨hk, by simp⟩⟩
      · rw [List.getElem?_set_ne (Ne.symm hj)] at e2
        obtain ⟨u', r', q⟩ := hl j y v' e1 e2 e3
        refine ⟨u', r', ?_⟩
        rcases q with ⟨k, e⟩ | ⟨k, c, e, z⟩
        · refine .inl ⟨k, ?_⟩
          have : y ≠ x := fun e => hj (nodup_ix hN e1 (e ▸ hi))
          simp [this, e]
        · exact .inr ⟨k, c, e, z.sameBut hs (cne y c e)⟩
    · obtain ⟨w', z⟩ := I.cell y c e
      exact ⟨w', z.sameBut hs (cne y c e)⟩
    · obtain ⟨e, n, ne, nf, d⟩ := I.pin p hp
      exact ⟨(hs.2 p.1 ne).trans e, n, ne, nf, d⟩
  · have hfn : X.fn x = true := by
      rcases hf with z | z
      · exact z
      · rw [z] at hk; cases hk
    obtain ⟨c, hc⟩ := I.ok.has x (.inl hk)
    obtain ⟨w', z⟩ := I.cell x c hc
    refine wpAny_storeName_cell I.ok.kind hk hc z (fun h' hc' hs => ?_)
    obtain ⟨oc, hoc, hocd⟩ := id z
    refine h { s with heap := h' } ⟨I.ok, I.os, I.bare, ⟨fun b o e n hb hx => ?_, fun b o e n hb hx => ?_, I.base.free, fun b o e hx => ?_, I.base.tups, I.base.frzs, I.base.tbls⟩, ⟨m, hn.sameBut hs (Ne.symm (cne x c hc)), fun j y v' e1 e2 e3 => ?_⟩, fun y c' e => ?_, I.free, I.freeC, fun p hp => ?_, tracked ⟨oc, hoc, I.freeC x c hc⟩ hs, by simpa using I.len⟩ ⟨c, hs, .inr hc⟩
    · exact (hs.2 b (Nat.ne_of_lt (Nat.lt_of_lt_of_le (Heap.lt_size e) (I.ok.cab x c hfn hc)))).trans (I.base.keep b o e n hb hx)
    · obtain ⟨sl, e1⟩ := I.base.slot b o e n hb hx
      exact ⟨sl, (hs.2 b (Nat.ne_of_lt (Nat.lt_of_lt_of_le (Heap.lt_size e) (I.ok.cab x c hfn hc)))).trans e1⟩
    · obtain ⟨o', e1⟩ := I.base.there b o e hx
      exact ⟨o', (hs.2 b (Nat.ne_of_lt (Nat.lt_of_lt_of_le (Heap.lt_size e) (I.ok.cab x c hfn hc)))).trans e1⟩
    · by_cases hj : j = i
      · subst hj
        rw [hi] at e1; cases e1
        rw [List.getElem?_set_self hiσ] at e2
        cases e2
        exact ⟨u, r, .inr ⟨.inl hk, c, hc, hc'⟩⟩
      · rw [List.getElem?_set_ne (Ne.symm hj)] at e2
        obtain ⟨u', r', q⟩ := hl j y v' e1 e2 e3
        refine ⟨u', r', ?_⟩
        rcases q with q | ⟨k, c', e, z'⟩
        · exact .inl q
        · refine .inr ⟨k, c', e, z'.sameBut hs ?_⟩
          rintro rfl
          exact hj (nodup_ix hN e1 (I.ok.inj _ _ _ e hc ▸ hi))
    · by_cases hcc : c' = c
      · subst hcc; exact ⟨_, hc'⟩
      · obtain ⟨w2, z2⟩ := I.cell y c' e
        exact ⟨w2, z2.sameBut hs hcc⟩
    · obtain ⟨e, n, ne, nf, d⟩ := I.pin p hp
      refine ⟨(hs.2 p.1 ?_).trans e, n, ne, nf, d⟩
      intro q
      rw [q, hoc] at e
      have q' : oc = p.2 := Option.some.inj e
      exact d w' (by rw [← q']; exact hocd)
theorem store_ok {M : Model} {A : Around} {E : Value → Shared → Prop} {i : Nat} {x : Str} {v : V} {u : Value} {Q : Unit → Shared → Prop} (I : Inv X pins σ H s) (hN : X.N.Nodup) (hi : X.N[i]? = some x) (hx : Loc X.env.scope x) (r : RelV v u)
    (h : ∀ s', Inv X pins (σ.set i (some v)) H s' → Q () s') (hf : X.fn x = true ∨ X.env.scope.names.lookup x = some .local := by first | exact .inl rfl | exact .inr rfl | assumption) : wpAny M A (storeName X.env x u) Q E s :=
  store_ok2 I hN hi hx r (fun s' I' _ => h s' I') hf
theorem Inv.call' {s' : Shared} {ch : List Addr} (I : Inv X pins σ H s) (ho : s'.os = s.os) (u : Un (frs X.stack) ch H H' s.heap s'.heap) (hok : HOk X.prog X.w H' s'.heap) (hg : AllBare s'.gens)
    (hch : ∀ b ∈ ch, (b ∈ X.ex ∨ X.s₀.heap.objs.size ≤ b) ∧ b ≠ X.env.locals ∧ (∀ x c, X.env.cells.lookup x = some c → c ≠ b) ∧ ∀ p ∈ X.pn ++ pins, p.1 ≠ b) : Inv X pins σ H' s' := by
  obtain ⟨h', g', d', t', o'⟩ := s'
  have e : o' = s.os := ho
  subst e
  exact I.call (g' := g') (t' := t') (d' := d') u hok hg hch
end

abbrev XK := Value → Option Addr → Hp → Prop
abbrev St := List (Option V)
abbrev VK := V → Hp → Prop
abbrev TE := St → Hp → VK → Prop
abbrev TT := St → Hp → (Bool → Hp → Prop) → Prop
abbrev TA := St → Hp → (List V → Hp → Prop) → Prop
structure Ends where
  nx : St → Hp → Prop
  rt : VK
  bk : St → Hp → Prop := fun _ _ => False
  ct : St → Hp → Prop := fun _ _ => False
abbrev TS := Ends → St → Hp → Prop

def EP (X : Cx) (pins : List (Addr × Obj)) (σ : St) (Q : VK) (u : Value) (s' : Shared) : Prop := ∃ v H', Inv X pins σ H' s' ∧ RelV v u ∧ Q v H'
def TP (X : Cx) (pins : List (Addr × Obj)) (σ : St) (Q : Bool → Hp → Prop) (b : Bool) (s' : Shared) : Prop := ∃ H', Inv X pins σ H' s' ∧ Q b H'
def AP (X : Cx) (pins : List (Addr × Obj)) (σ : St) (Q : List V → Hp → Prop) (us : List Value) (s' : Shared) : Prop := ∃ vs H', Inv X pins σ H' s' ∧ Vals vs us ∧ Q vs H'
def SP (X : Cx) (pins : List (Addr × Obj)) (D : Ends) (f : Flow) (s' : Shared) : Prop :=
  match f with
  | .next => ∃ σ' H', Inv X pins σ' H' s' ∧ D.nx σ' H'
  | .brk => ∃ σ' H', Inv X pins σ' H' s' ∧ D.bk σ' H'
  | .cont => ∃ σ' H', Inv X pins σ' H' s' ∧ D.ct σ' H'
  | .ret u => ∃ v σ' H', Inv X pins σ' H' s' ∧ RelV v u ∧ D.rt v H'

def PE (X : Cx) (e : Expr) (t : TE) : Prop :=
  ∀ (pins : List (Addr × Obj)) (s : Shared) (σ : St) (H : Hp) (Q : VK), Inv X pins σ H s → t σ H Q → wpAny (model X.prog X.w) X.A (eval e X.env) (EP X pins σ Q) X.xe s
def PT (X : Cx) (e : Expr) (t : TT) : Prop :=
  ∀ (pins : List (Addr × Obj)) (s : Shared) (σ : St) (H : Hp) (Q : Bool → Hp → Prop), Inv X pins σ H s → t σ H Q → wpAny (model X.prog X.w) X.A (isTrue e X.env (eval e X.env)) (TP X pins σ Q) X.xe s
def PW (X : Cx) (e : Expr) (t : TT) : Prop :=
  ∀ (whole : Sem Value) (pins : List (Addr × Obj)) (s : Shared) (σ : St) (H : Hp) (Q : Bool → Hp → Prop), Inv X pins σ H s → t σ H Q → wpAny (model X.prog X.w) X.A (isTrue e X.env whole) (TP X pins σ Q) X.xe s
theorem PW.pt {X : Cx} {e : Expr} {t : TT} (h : PW X e t) : PT X e t := h _
def PA (X : Cx) (es : List Expr) (t : TA) : Prop :=
  ∀ (pos : Pos) (pins : List (Addr × Obj)) (s : Shared) (σ : St) (H : Hp) (Q : List V → Hp → Prop), Inv X pins σ H s → t σ H Q → wpAny (model X.prog X.w) X.A (spliced (backTo pos (starEach es X.env))) (AP X pins σ Q) X.xe s
def PS (X : Cx) (st : Stmt) (t : TS) : Prop :=
  ∀ (pins : List (Addr × Obj)) (s : Shared) (σ : St) (H : Hp) (D : Ends), Inv X pins σ H s → t D σ H → wpAny (model X.prog X.w) X.A (exec st X.env) (SP X pins D) X.xe s
def PSs (X : Cx) (st : List Stmt) (t : TS) : Prop :=
  ∀ (pins : List (Addr × Obj)) (s : Shared) (σ : St) (H : Hp) (D : Ends), Inv X pins σ H s → t D σ H → wpAny (model X.prog X.w) X.A (execs st X.env) (SP X pins D) X.xe s
theorem thn {α : Type} {t : Sem α} {Q Q' : α → Shared → Prop} {M : Model} {A : Around} {E : Value → Shared → Prop} {s : Shared} (h : wpAny M A t Q E s) (hQ : ∀ a s, Q a s → Q' a s) : wpAny M A t Q' E s := wpAny_mono h hQ fun _ _ x => x
end L2

namespace L2
open PySem PySem.Spec PyProof.Rows
section
variable {X : Cx}

theorem bin {a b : Expr} {ta tb : TE} (ha : PE X a ta) (hb : PE X b tb) {pins : List (Addr × Obj)} {s : Shared} {σ : St} {H : Hp} {R : V → V → Hp → Prop} (I : Inv X pins σ H s) (h : ta σ H fun x H1 => tb σ H1 fun y H2 => R x y H2)
    {α : Type} {Q : α → Shared → Prop} {f : Value → Value → Sem α}
    (hf : ∀ v u s2 x y H2, Inv X pins σ H2 s2 → RelV x v → RelV y u → R x y H2 → wpAny (model X.prog X.w) X.A (f v u) Q X.xe s2) :
    wpAny (model X.prog X.w) X.A (eval a X.env) (fun v s₁ => wpAny (model X.prog X.w) X.A (eval b X.env) (fun u s₂ => wpAny (model X.prog X.w) X.A (f v u) Q X.xe s₂) X.xe s₁) X.xe s := by
  refine thn (ha pins s σ H _ I h) fun v s1 ⟨x, H1, I1, r1, q1⟩ => ?_
  refine thn (hb pins s1 σ H1 _ I1 q1) fun u s2 ⟨y, H2, I2, r2, q2⟩ => ?_
  exact hf v u s2 x y H2 I2 r1 r2 q2

def tVar (i : Nat) : TE := fun σ H Q => ∃ v, σ[i]? = some (some v) ∧ Q v H
def tC (v : V) : TE := fun _ H Q => Q v H
theorem pe_var {i : Nat} {x : Str} {pos : Pos} (hN : X.N[i]? = some x) (hv : Vis X.env.scope x) (hd : (x == ("__debug__" : Str)) = false := by decide) (hcd : (x == ("__classdict__" : Str)) = false := by decide) : PE X (.Name x pos) (tVar i) := by
  intro pins s σ H Q I h
  obtain ⟨v, e, h⟩ := h
  obtain ⟨m, hn, hl⟩ := I.loc
  obtain ⟨u, r, l⟩ := hl i x v hN e hv
  have fin : EP X pins σ Q u s := ⟨v, H, I, r, h⟩
  rcases l with ⟨hk, hm⟩ | ⟨hk, c, hc, hcell⟩
  · exact wpAny_Name (wpAny_loadName_local I.ok.kind hk hn hm fin) hd
  · rcases hk with hk | hk
    · exact wpAny_Name (wpAny_loadName_cell I.ok.kind hk hc hcell fin) hd
    · exact wpAny_Name (wpAny_loadName_free I.ok.kind hk hc hcell fin hcd) hd
theorem pe_int {i j pos} : PE X (.Constant (.int i) j pos) (tC (.int i)) := fun _ _ _ H _ I h => wpAny_Constant_int ⟨.int i, H, I.tok _, ⟨_, rfl⟩, h⟩
theorem pe_bl {b j pos} : PE X (.Constant (.bool b) j pos) (tC (.bl b)) := fun _ _ _ H _ I h => Constant_bool ⟨.bl b, H, I, rfl, h⟩
theorem pe_non {j pos} : PE X (.Constant .none j pos) (tC .non) := fun _ _ _ H _ I h => Constant_none ⟨.non, H, I, rfl, h⟩
theorem pe_str {x j pos} : PE X (.Constant (.str x) j pos) (tC (.str x)) := fun _ _ _ H _ I h => Calls.Constant_str ⟨.str x, H, I.tok _, ⟨_, rfl⟩, h⟩

def Gl (X : Cx) (x : Str) : Prop := X.env.kindOf x = some .globalImplicit
theorem ld_glob {E : Value → Shared → Prop} {pins : List (Addr × Obj)} {s : Shared} {σ : St} {H : Hp} {x : Str} {u : Value} {pos : Pos} {Q : Value → Shared → Prop} (I : Inv X pins σ H s) (hg : Gl X x) (hm : X.mg x = some u) (h : Q u s)
    (hd : (x == ("__debug__" : Str)) = false := by decide) : wpAny (model X.prog X.w) X.A (eval (.Name x pos) X.env) Q E s :=
  Calls.Name_function_global I.ok.kind hg (Calls.loadGlobal_global (by rw [I.ok.glob]; exact I.mod.glob.keeps I.bk) hm h) hd
theorem ld_blt {E : Value → Shared → Prop} {pins : List (Addr × Obj)} {s : Shared} {σ : St} {H : Hp} {x : Str} {u : Value} {pos : Pos} {Q : Value → Shared → Prop} (I : Inv X pins σ H s) (hg : Gl X x) (hm : X.mg x = none) (hv : bootBuiltins x = some u) (h : Q u s)
    (hn : x ≠ "__name__" := by decide) (hd : (x == ("__debug__" : Str)) = false := by decide) : wpAny (model X.prog X.w) X.A (eval (.Name x pos) X.env) Q E s := by
  obtain ⟨mb, h1, h2⟩ := I.mod.blt
  exact Calls.Name_function_global I.ok.kind hg (Calls.loadGlobal_builtin (by rw [I.ok.glob]; exact I.mod.glob.keeps I.bk) hm (by rw [I.ok.blt]; exact h1.keeps I.bk) ((h2 x hn).trans hv) h) hd
theorem pe_glob {x : Str} {v : V} {u : Value} {pos : Pos} (hg : Gl X x) (hm : X.mg x = some u) (r : RelV v u) (hd : (x == ("__debug__" : Str)) = false := by decide) : PE X (.Name x pos) (tC v) :=
  fun _ _ _ H _ I h => ld_glob I hg hm ⟨v, H, I, r, h⟩ hd
theorem pe_bltn {x : Str} {v : V} {u : Value} {pos : Pos} (hg : Gl X x) (hm : X.mg x = none) (hv : bootBuiltins x = some u) (r : RelV v u) (hn : x ≠ "__name__" := by decide) (hd : (x == ("__debug__" : Str)) = false := by decide) : PE X (.Name x pos) (tC v) :=
  fun _ _ _ H _ I h => ld_blt I hg hm hv ⟨v, H, I, r, h⟩ hn hd

def t2I (ta tb : TE) (k : Int → Int → Hp → Prop) : St → Hp → Prop := fun σ H => ta σ H fun x H1 => tb σ H1 fun y H2 => ∃ i j, x = .int i ∧ y = .int j ∧ k i j H2
variable {a b : Expr} {ta tb : TE} {pos : Pos}
def PC (X : Cx) (op : CmpOp) (a b : Expr) (t : TE) : Prop :=
  ∀ (pins : List (Addr × Obj)) (s : Shared) (σ : St) (H : Hp) (Q : VK), Inv X pins σ H s → t σ H Q →
    wpAny (model X.prog X.w) X.A (eval a X.env) (fun v s₁ => wpAny (model X.prog X.w) X.A (eval b X.env) (fun u s₂ => wpAny (model X.prog X.w) X.A (compareOp op v u) (EP X pins σ Q) X.xe s₂) X.xe s₁) X.xe s
theorem nobehind (b : Expr) {op : CmpOp} (h : op ≠ .In) (h2 : op ≠ .NotIn) : behindInMarks op b = false := by
  have e1 : (op == CmpOp.In) = false := by cases op <;> first | rfl | exact absurd rfl h
  have e2 : (op == CmpOp.NotIn) = false := by cases op <;> first | rfl | exact absurd rfl h2
  cases b <;> simp [behindInMarks, e1, e2]
def tCmp (p : Int → Int → Bool) (ta tb : TE) : TE := fun σ H Q => t2I ta tb (fun i j H2 => Q (.bl (p i j)) H2) σ H
abbrev tLt : TE → TE → TE := tCmp fun i j => decide (i < j)
abbrev tLe : TE → TE → TE := tCmp fun i j => decide (i ≤ j)
abbrev tGt : TE → TE → TE := tCmp fun i j => decide (j < i)
abbrev tGe : TE → TE → TE := tCmp fun i j => decide (j ≤ i)
abbrev tEqI : TE → TE → TE := tCmp fun i j => decide (i = j)
abbrev tNeI : TE → TE → TE := tCmp fun i j => !decide (i = j)
def tB (t : TE) : TT := fun σ H Q => t σ H fun x H1 => ∃ c, x = .bl c ∧ Q c H1
theorem pt_cmp {op : CmpOp} {t : TE} (h : PC X op a b t) (h1 : behindInMarks op b = false := by first | exact nobehind _ (by decide) (by decide) | rfl) : PT X (.Compare a [op] [b] pos) (tB t) := by
  intro pins s σ H Q I hw
  refine wpAny_isTrue_Compare1 (thn (h pins s σ H _ I hw) fun v s1 h1 => thn h1 fun u s2 h2 => thn h2 fun c s3 ⟨x, H1, I1, r1, q1⟩ => ?_) h1
  obtain ⟨d, rfl, q⟩ := q1
  cases r1
  exact wpAny_truthy_bool ⟨H1, I1, q⟩
theorem pt_val {e : Expr} {t : TE} (h : PE X e t) (he : ∀ whole, isTrue e X.env whole = (do let v ← whole; standAt e.pos; holding [v] (truthy v)) := by intro _; rfl) : PT X e (tB t) := by
  intro pins s σ H Q I hw
  refine isTrue_plain (thn (h pins s σ H _ I hw) fun v s1 ⟨x, H1, I1, r1, q1⟩ => ?_) (he _)
  obtain ⟨d, rfl, q⟩ := q1
  cases r1
  exact wpAny_truthy_bool ⟨H1, I1, q⟩

variable {tA tB' : TT} {rest : List Expr}
def tAnd (t u : TT) : TT := fun σ H Q => t σ H fun c H1 => if c = true then u σ H1 Q else Q false H1
def tOr (t u : TT) : TT := fun σ H Q => t σ H fun c H1 => if c = true then Q true H1 else u σ H1 Q
def tNot (t : TT) : TT := fun σ H Q => t σ H fun c H1 => Q (!c) H1
theorem pw_and1 (ha : PT X a tA) : PW X (.BoolOp .And [a] pos) tA := by
  intro wh pins s σ H Q I h
  refine isTrue_and (thn (ha pins s σ H Q I h) fun c s1 e => ?_)
  cases c with
  | true => exact isTrue_and_nil e
  | false => exact e
theorem pw_or1 (ha : PT X a tA) : PW X (.BoolOp .Or [a] pos) tA := by
  intro wh pins s σ H Q I h
  refine isTrue_or (thn (ha pins s σ H Q I h) fun c s1 e => ?_)
  cases c with
  | false => exact isTrue_or_nil e
  | true => exact e
theorem pw_and (ha : PT X a tA) (hb : PW X (.BoolOp .And (b :: rest) pos) tB') : PW X (.BoolOp .And (a :: b :: rest) pos) (tAnd tA tB') := by
  intro wh pins s σ H Q I h
  refine isTrue_and (thn (ha pins s σ H _ I h) fun c s1 ⟨H1, I1, q1⟩ => ?_)
  cases c with
  | true => exact hb wh pins s1 σ H1 Q I1 q1
  | false => exact ⟨H1, I1, q1⟩
theorem pw_or (ha : PT X a tA) (hb : PW X (.BoolOp .Or (b :: rest) pos) tB') : PW X (.BoolOp .Or (a :: b :: rest) pos) (tOr tA tB') := by
  intro wh pins s σ H Q I h
  refine isTrue_or (thn (ha pins s σ H _ I h) fun c s1 ⟨H1, I1, q1⟩ => ?_)
  cases c with
  | true => exact ⟨H1, I1, q1⟩
  | false => exact hb wh pins s1 σ H1 Q I1 q1
theorem pt_not (ha : PT X a tA) : PT X (.UnaryOp .Not a pos) (tNot tA) := by
  intro pins s σ H Q I h
  exact isTrue_not (ha pins s σ H (fun c H1 => Q (!c) H1) I h)
def tAndV (ta tb : TE) : TE := fun σ H Q => ta σ H fun x H1 => ∃ c, x = .bl c ∧ if c = true then tb σ H1 Q else Q (.bl false) H1
def tNotV (ta : TE) : TE := fun σ H Q => ta σ H fun x H1 => ∃ c, x = .bl c ∧ Q (.bl (!c)) H1
theorem pe_one {op} {t : TE} (h : PE X a t) : PE X (.BoolOp op [a] pos) t := fun pins s σ H Q I hw => BoolOp_one (h pins s σ H Q I hw)
theorem pe_and (ha : PE X a ta) (hb : PE X (.BoolOp .And (b :: rest) pos) tb) : PE X (.BoolOp .And (a :: b :: rest) pos) (tAndV ta tb) := by
  intro pins s σ H Q I h
  refine BoolOp_and (thn (ha pins s σ H _ I h) fun v s1 ⟨x, H1, I1, r1, q1⟩ => ?_)
  obtain ⟨c, rfl, q1⟩ := q1
  cases r1
  refine wpAny_truthy_bool ?_
  cases c with
  | true => exact hb pins s1 σ H1 Q I1 q1
  | false => exact ⟨.bl false, H1, I1, rfl, q1⟩
theorem pe_not (ha : PE X a ta) : PE X (.UnaryOp .Not a pos) (tNotV ta) := by
  intro pins s σ H Q I h
  refine UnaryOp_ (thn (ha pins s σ H _ I h) fun v s1 ⟨x, H1, I1, r1, q1⟩ => ?_)
  obtain ⟨c, rfl, q1⟩ := q1
  cases r1
  exact not_of (wpAny_truthy_bool ⟨.bl (!c), H1, I1, rfl, q1⟩)
end
end L2

namespace L2
open PySem PySem.Spec PyProof.Rows

def SqL (K : PySem.W.Frag) (H : Hp) (a : Addr) (xs : List V) : Prop :=
  Rd H a (.lst xs) ∨
    ∃ (o : Obj) (its : Array Value) (n : Nat), K.lookup a = some o ∧ o.cls = .type "list" ∧ o.dict = none ∧ o.data = .seq its n ∧ its.size ≤ sizeLine ∧ Vals xs its.toList
def SqT (K : PySem.W.Frag) (H : Hp) (a : Addr) (xs : List V) : Prop :=
  Rd H a (.tup xs) ∨
    ∃ (o : Obj) (its : Array Value) (n : Nat), K.lookup a = some o ∧ o.cls = .type "tuple" ∧ o.data = .seq its n ∧ its.size ≤ sizeLine ∧ Vals xs its.toList
def absV : Value → Option V
  | .none => some .non
  | .bool b => some (.bl b)
  | .int i _ => some (.int i)
  | .str x _ => some (.str x)
  | .bytes b _ => some (.byt b)
  | .float b _ => some (.flt b)
  | .ref a => some (.ref a)
  | .type n => some (.ty n)
  | _ => none
theorem RelV.abs {x : V} {u : Value} (r : RelV x u) : absV u = some x := by
  cases x with
  | non => cases r; rfl
  | bl _ => cases r; rfl
  | int _ => obtain ⟨t, rfl⟩ := r; rfl
  | str _ => obtain ⟨t, rfl⟩ := r; rfl
  | byt _ => obtain ⟨t, rfl⟩ := r; rfl
  | flt _ => obtain ⟨t, rfl⟩ := r; rfl
  | ref _ => cases r; rfl
  | ty _ => cases r; rfl
theorem RelV.inj {x y : V} {u : Value} (r : RelV x u) (q : RelV y u) : x = y := Option.some.inj (r.abs.symm.trans q.abs)
theorem Vals.inj : ∀ {xs ys : List V} {us : List Value}, Vals xs us → Vals ys us → xs = ys
  | _, _, _, .nil, .nil => rfl
  | _, _, _, .cons r t, .cons r' t' => by rw [r.inj r', Vals.inj t t']
section
variable {X : Cx} {pins : List (Addr × Obj)} {σ : St} {H : Hp} {s : Shared} {a : Addr} {xs ys : List V}
theorem SqL.of {K : PySem.W.Frag} (h : H a = some (.lst xs)) : SqL K H a xs := .inl (.inl h)
theorem SqT.of {K : PySem.W.Frag} (h : H a = some (.tup xs)) : SqT K H a xs := .inl (.inl h)
theorem Inv.list (I : Inv X pins σ H s) (h : SqL X.K H a xs) : ∃ its : List Value, Vals xs its ∧ PlainL s.heap a its.toArray ∧ xs.length ≤ sizeLine := by
  rcases h with h | ⟨o, its, n, hk, hc, hd, hs, hz, r⟩
  · obtain ⟨z, its, n, r, e⟩ := h.ok I.hok
    exact ⟨its, r, ⟨_, n, e, rfl, rfl, rfl⟩, z⟩
  · refine ⟨its.toList, r, ⟨o, n, I.kIn a o hk, hc, hd, by simpa using hs⟩, ?_⟩
    have e := r.length
    simp only [Array.length_toList] at e
    omega
theorem Inv.tuple (I : Inv X pins σ H s) (h : SqT X.K H a xs) : ∃ its : List Value, Vals xs its ∧ IsTup s.heap a its.toArray ∧ xs.length ≤ sizeLine := by
  rcases h with h | ⟨o, its, n, hk, hc, hs, hz, r⟩
  · obtain ⟨z, its, r, p⟩ := h.ok I.hok
    exact ⟨its, r, p, z⟩
  · refine ⟨its.toList, r, ⟨o, I.kIn a o hk, hc, n, by simpa using hs⟩, ?_⟩
    have e := r.length
    simp only [Array.length_toList] at e
    omega
theorem Inv.list_inj (I : Inv X pins σ H s) (h : SqL X.K H a xs) (h' : SqL X.K H a ys) : xs = ys := by
  obtain ⟨its, r, ⟨o, n, e, _, _, d⟩, _⟩ := I.list h
  obtain ⟨its', r', ⟨o', n', e', _, _, d'⟩, _⟩ := I.list h'
  rw [e] at e'; cases e'
  rw [d] at d'
  injection d' with d1 _
  have : its = its' := by simpa using congrArg Array.toList d1
  subst this
  exact r.inj r'
theorem Inv.tuple_inj (I : Inv X pins σ H s) (h : SqT X.K H a xs) (h' : SqT X.K H a ys) : xs = ys := by
  obtain ⟨its, r, ⟨o, e, _, n, d⟩, _⟩ := I.tuple h
  obtain ⟨its', r', ⟨o', e', _, n', d'⟩, _⟩ := I.tuple h'
  rw [e] at e'; cases e'
  rw [d] at d'
  injection d' with d1 _
  have : its = its' := by simpa using congrArg Array.toList d1
  subst this
  exact r.inj r'
end

abbrev Cx.wish (X : Cx) (E : Value → Shared → Prop) : Cx := { X with xe := E }
abbrev Cx.nox (X : Cx) : Cx := X.wish fun _ _ => False
theorem Cx.Ok.wish {X : Cx} (ok : X.Ok) (E : Value → Shared → Prop) : (X.wish E).Ok :=
  ⟨ok.mod, ok.kind, ok.glob, ok.blt, ok.above, ok.inj, ok.has, ok.cab, ok.hd, ok.frames, ok.stk, ok.exf, ok.bs, ok.bsz, ok.noex, ok.exfs, ok.funs, ok.frf⟩
theorem Cx.Ok.unwish {X : Cx} {E : Value → Shared → Prop} (ok : (X.wish E).Ok) : X.Ok :=
  ⟨ok.mod, ok.kind, ok.glob, ok.blt, ok.above, ok.inj, ok.has, ok.cab, ok.hd, ok.frames, ok.stk, ok.exf, ok.bs, ok.bsz, ok.noex, ok.exfs, ok.funs, ok.frf⟩
section
variable {X : Cx} {pins : List (Addr × Obj)} {σ : St} {H : Hp} {s : Shared} {E : Value → Shared → Prop}
theorem Inv.wish (I : Inv X pins σ H s) (E : Value → Shared → Prop) : Inv (X.wish E) pins σ H s := ⟨I.ok.wish E, I.os, I.bare, I.base, I.loc, I.cell, I.free, I.freeC, I.pin, I.hok, I.len⟩
theorem Inv.unwish (I : Inv (X.wish E) pins σ H s) : Inv X pins σ H s := ⟨I.ok.unwish, I.os, I.bare, I.base, I.loc, I.cell, I.free, I.freeC, I.pin, I.hok, I.len⟩
theorem SP.unwish {D : Ends} {f : Flow} {s' : Shared} (h : SP (X.wish E) pins D f s') : SP X pins D f s' := by
  cases f with
  | next => obtain ⟨σ', H', I, q⟩ := h; exact ⟨σ', H', I.unwish, q⟩
  | brk => obtain ⟨σ', H', I, q⟩ := h; exact ⟨σ', H', I.unwish, q⟩
  | cont => obtain ⟨σ', H', I, q⟩ := h; exact ⟨σ', H', I.unwish, q⟩
  | ret u => obtain ⟨v, σ', H', I, r, q⟩ := h; exact ⟨v, σ', H', I.unwish, r, q⟩
theorem PE.nox {e : Expr} {t : TE} (h : PE X.nox e t) : PE X e t := fun pins s σ H Q I hw =>
  wpAny_mono (h pins s σ H Q (I.wish _) hw) (fun _ _ ⟨v, H', I', r, q⟩ => ⟨v, H', I'.unwish, r, q⟩) fun _ _ z => False.elim z
theorem PT.nox {e : Expr} {t : TT} (h : PT X.nox e t) : PT X e t := fun pins s σ H Q I hw =>
  wpAny_mono (h pins s σ H Q (I.wish _) hw) (fun _ _ ⟨H', I', q⟩ => ⟨H', I'.unwish, q⟩) fun _ _ z => False.elim z
theorem PSs.nox {st : List Stmt} {t : TS} (h : PSs X.nox st t) : PSs X st t := fun pins s σ H D I hw =>
  wpAny_mono (h pins s σ H D (I.wish _) hw) (fun _ _ q => q.unwish) fun _ _ z => False.elim z
end

section
variable {X : Cx} {st : Stmt} {rest : List Stmt} {t u : TS} {e : Expr} {te : TE} {pos : Pos}
def tNext : TS := fun D σ H => D.nx σ H
def tSeq (t u : TS) : TS := fun D σ H => t { D with nx := u D } σ H
theorem pss_nil : PSs X [] tNext := fun _ _ σ H _ I h => wpAny_execs_nil ⟨σ, H, I, h⟩
theorem pss_cons (h1 : PS X st t) (h2 : PSs X rest u) : PSs X (st :: rest) (tSeq t u) := by
  intro pins s σ H D I h
  refine wpAny_execs_cons (thn (h1 pins s σ H { D with nx := u D } I h) fun f s1 q => ?_)
  cases f with
  | next =>
    obtain ⟨σ', H', I', q⟩ := q
    exact h2 pins s1 σ' H' D I' q
  | ret v => exact q
  | brk => exact q
  | cont => exact q
theorem pss_one (h1 : PS X st t) : PSs X [st] t := by
  intro pins s σ H D I h
  refine wpAny_execs_cons (thn (h1 pins s σ H D I h) fun f s1 q => ?_)
  cases f with
  | next => exact wpAny_execs_nil q
  | ret v => exact q
  | brk => exact q
  | cont => exact q
theorem Inv.quiet {pins : List (Addr × Obj)} {σ : St} {H : Hp} {s : Shared} (I : Inv X pins σ H s) : interactive X.env = false := by simp [interactive, I.ok.kind]
def tDrop (te : TE) : TS := fun D σ H => te σ H fun _ H1 => D.nx σ H1
theorem ps_expr (he : PE X e te) (hs : swapsWith e none pos.line X.env = pure false := by rfl) : PS X (.Expr e pos) (tDrop te) := by
  intro pins s σ H D I h
  exact wpAny_Expr_any (thn (he pins s σ H _ I h) fun v s1 ⟨x, H1, I1, r1, q1⟩ => ⟨σ, H1, I1, q1⟩) I.quiet hs
def tRet (te : TE) : TS := fun D σ H => te σ H D.rt
theorem ps_ret (he : PE X e te) : PS X (.Return (some e) pos) (tRet te) := by
  intro pins s σ H D I h
  exact wpAny_Return_some (thn (he pins s σ H _ I h) fun v s1 ⟨x, H1, I1, r1, q1⟩ => ⟨x, σ, H1, I1, r1, q1⟩)
def tIfS (c : TT) (t u : TS) : TS := fun D σ H => c σ H fun b H1 => if b = true then t D σ H1 else u D σ H1
theorem ps_if {c : Expr} {a b : List Stmt} {tc : TT} (hc : PT X c tc) (ha : PSs X a t) (hb : PSs X b u) : PS X (.If c a b pos) (tIfS tc t u) := by
  intro pins s σ H D I h
  refine wpAny_If (thn (hc pins s σ H _ I h) fun d s1 ⟨H1, I1, q1⟩ => ?_)
  cases d with
  | true => exact ha pins s1 σ H1 D I1 q1
  | false => exact hb pins s1 σ H1 D I1 q1
end

abbrev TG := V → St → Hp → (St → Hp → Prop) → Prop
abbrev TGs := List V → St → Hp → (St → Hp → Prop) → Prop
def PG (X : Cx) (target : Expr) (t : TG) : Prop :=
  ∀ (pins : List (Addr × Obj)) (s : Shared) (σ : St) (H : Hp) (v : V) (u : Value) (Q : St → Hp → Prop), Inv X pins σ H s → RelV v u → t v σ H Q →
    wpAny (model X.prog X.w) X.A (assign target X.env u) (fun _ s' => ∃ σ' H', Inv X pins σ' H' s' ∧ Q σ' H') X.xe s
abbrev TSet := V → V → V → Hp → (Hp → Prop) → Prop
abbrev TIp := V → V → Hp → VK → Prop
section
variable {X : Cx} {pos : Pos}
def gName (i : Nat) : TG := fun v σ H Q => Q (σ.set i (some v)) H
theorem pg_name {i : Nat} {x : Str} (hN : X.N.Nodup) (hi : X.N[i]? = some x) (hx : Loc X.env.scope x) (hf : X.fn x = true ∨ X.env.scope.names.lookup x = some .local := by first | exact .inl rfl | exact .inr rfl | assumption) : PG X (.Name x pos) (gName i) := by
  intro pins s σ H v u Q I r h
  exact wpAny_assign_Name (store_ok I hN hi hx r (fun s' I' => ⟨_, H, I', h⟩) hf)
def tAsg (te : TE) (g : TG) : TS := fun D σ H => te σ H fun x H1 => g x σ H1 D.nx
theorem ps_set {i : Nat} {x : Str} {e : Expr} {te : TE} {pos' : Pos} (hN : X.N.Nodup) (hi : X.N[i]? = some x) (hx : Loc X.env.scope x) (he : PE X e te) (hs : swapsWith e (some (.Name x pos')) pos.line X.env = pure false := by rfl) (hf : X.fn x = true ∨ X.env.scope.names.lookup x = some .local := by first | exact .inl rfl | exact .inr rfl | assumption) :
    PS X (.Assign [.Name x pos'] e pos) (tAsg te (gName i)) := by
  intro pins s σ H D I h
  refine wpAny_Assign_Name (thn (he pins s σ H _ I h) fun v s1 ⟨y, H1, I1, r1, q1⟩ => ?_) hs
  exact store_ok I1 hN hi hx r1 (fun s2 I2 => ⟨_, H1, I2, q1⟩) hf
end

section
variable {X : Cx} {pos : Pos}
end

structure It where
  go : Nat → Hp → Prop
  yld : Nat → Hp → V → Hp → Prop
  stop : Nat → Hp → Prop
def FpOk (X : Cx) (pins : List (Addr × Obj)) (H : Hp) (b : Addr) : Prop :=
  H b = none ∧ b ≠ X.env.locals ∧ b ∉ X.fs ∧ (b ∈ X.ex ∨ X.s₀.heap.objs.size ≤ b) ∧ (∀ x c, X.env.cells.lookup x = some c → c ≠ b) ∧ ∀ p ∈ X.pn ++ pins, p.1 ≠ b
theorem Inv.fpOk {X : Cx} {pins : List (Addr × Obj)} {σ : St} {H H' : Hp} {s : Shared} {b : Addr} (I : Inv X pins σ H s) (hb : s.heap.objs.size ≤ b) (hn : H' b = none) : FpOk X pins H' b := by
  refine ⟨hn, Nat.ne_of_gt (Nat.lt_of_lt_of_le I.lt hb), I.nofs hb, .inr (Nat.le_trans I.sz hb), fun x c e z => ?_, fun p hp z => ?_⟩
  · obtain ⟨v, q⟩ := I.cell x c e
    exact absurd (Nat.lt_of_lt_of_le q.lt (by rw [z]; exact hb)) (Nat.lt_irrefl _)
  · exact absurd (Nat.lt_of_lt_of_le (Heap.lt_size (I.pin p hp).1) (by rw [z]; exact hb)) (Nat.lt_irrefl _)
structure Turn (P : Program) (w : World) (K : PySem.W.Frag) (tg : Expr) (J : It) (fp : List Addr) (it : Addr) (tn : Nat → Heap → Prop) : Prop where
  mem : it ∈ fp
  obj : ∀ i h, tn i h → ∀ b ∈ fp, ∃ o, h.get? b = some o ∧ ∀ v, o.data ≠ .cell v
  keep : ∀ i h h', tn i h → (∀ b ∈ fp, ∀ o, h.get? b = some o → h'.get? b = some o) → tn i h'
  item : ∀ (X : Cx), X.prog = P → X.w = w → X.K = K → X.calm = true → ∀ (i : Nat) (pins : List (Addr × Obj)) (s : Shared) (σ : St) (H : Hp) (E : Value → Shared → Prop), Inv X pins σ H s → (∀ b ∈ fp, FpOk X pins H b) → tn i s.heap → J.go i H →
    wpAny (model P w) X.A (pyNext (.ref it)) (fun r s1 => ∃ u, r = some u ∧
      wpAny (model P w) X.A (letOwnedTupleGo tg (.ref it) u) (fun _ s2 => ∃ x H', Inv X pins σ H' s2 ∧ RelV x u ∧ J.yld i H x H' ∧ tn (i + 1) s2.heap ∧ ∀ b ∈ fp, H' b = none) E s1) E s
  done : ∀ (X : Cx), X.prog = P → X.w = w → X.K = K → X.calm = true → ∀ (i : Nat) (pins : List (Addr × Obj)) (s : Shared) (σ : St) (H : Hp) (E : Value → Shared → Prop), Inv X pins σ H s → (∀ b ∈ fp, FpOk X pins H b) → tn i s.heap → J.stop i H →
    wpAny (model P w) X.A (pyNext (.ref it)) (fun r s1 => r = none ∧ Inv X pins σ H s1) E s
  self : ∀ (A : Around) (i : Nat) (s : Shared) (Q : Value → Shared → Prop) (E : Value → Shared → Prop), tn i s.heap → Q (.ref it) s → wpAny (model P w) A (pyIter (.ref it)) Q E s
abbrev TI := St → Hp → (It → Hp → Prop) → Prop
def PIE (X : Cx) (pins : List (Addr × Obj)) (σ : St) (tg : Expr) (R : It → Hp → Prop) (itv : Value) (s2 : Shared) : Prop :=
  ∃ (it : Addr) (fp : List Addr) (tn : Nat → Heap → Prop) (J : It) (H' : Hp), itv = .ref it ∧ Inv X pins σ H' s2 ∧ Turn X.prog X.w X.K tg J fp it tn ∧ tn 0 s2.heap ∧ (∀ b ∈ fp, FpOk X pins H' b) ∧ R J H'
def PI (X : Cx) (tg iter : Expr) (wi : TI) : Prop :=
  ∀ (pins : List (Addr × Obj)) (s : Shared) (σ : St) (H : Hp) (R : It → Hp → Prop), Inv X pins σ H s → wi σ H R →
    wpAny (model X.prog X.w) X.A (eval iter X.env) (fun v s1 => wpAny (model X.prog X.w) X.A (pyIter v) (PIE X pins σ tg R) X.xe s1) X.xe s

theorem go_of {M : Model} {A : Around} {E : Value → Shared → Prop} {s : Shared} {tg : Expr} {it : Addr} {u : Value} {o : Obj} {n : String} {vs : Array Value} {Q : Unit → Shared → Prop} (ho : s.heap.get? it = some o) (hc : o.cls = .type n) (hd : o.data = .fields vs)
    (hn : ["enumerate", "zip", "dict_itemiterator", "dict_reverseitemiterator", "odict_iterator", "itertools.zip_longest", "itertools.pairwise"].contains n = false) (hQ : Q () s) : wpAny M A (letOwnedTupleGo tg (.ref it) u) Q E s := by
  unfold letOwnedTupleGo
  cases tg <;> first
    | exact wpAny_pure hQ
    | (cases u <;> first
        | exact wpAny_pure hQ
        | (refine wpAny_bind (wpAny_load ho ?_)
           rw [hc, hd]
           show wpAny M A (if (["enumerate", "zip", "dict_itemiterator", "dict_reverseitemiterator", "odict_iterator", "itertools.zip_longest", "itertools.pairwise"].contains n && vs[0]? == some (rawInt _)) = true then _ else _) Q E s
           rw [if_neg (by intro h; rw [hn, Bool.false_and] at h; cases h)]
           exact wpAny_pure hQ))

def Itl (K : PySem.W.Frag) (a : Addr) : It :=
  ⟨fun i H => ∃ xs x, SqL K H a xs ∧ xs[i]? = some x, fun i H x H' => H' = H ∧ ∀ xs, SqL K H a xs → xs[i]? = some x, fun i H => ∃ xs, SqL K H a xs ∧ xs.length ≤ i⟩
def Itt (K : PySem.W.Frag) (a : Addr) : It :=
  ⟨fun i H => ∃ xs x, SqT K H a xs ∧ xs[i]? = some x, fun i H x H' => H' = H ∧ ∀ xs, SqT K H a xs → xs[i]? = some x, fun i H => ∃ xs, SqT K H a xs ∧ xs.length ≤ i⟩
def Itr (lo : Int) (n : Nat) : It := ⟨fun i _ => i < n, fun i H x H' => H' = H ∧ x = .int (lo + i), fun i _ => n ≤ i⟩
theorem turn_list {P : Program} {w : World} {K : PySem.W.Frag} {tg : Expr} (a it : Addr) : Turn P w K tg (Itl K a) [it] it (fun i h => h.IsListIter it a i) where
  mem := by simp
  obj := fun i h st b hb => by
    have e : b = it := by simpa using hb
    subst e
    obtain ⟨o, e, c, d⟩ := st
    exact ⟨o, e, fun v z => by rw [d] at z; cases z⟩
  keep := fun i h h' st k => st.at fun o e => k it (by simp) o e
  item := by
    intro X hP hw hK hc i pins s σ H E I hf st hg
    subst hP hw hK
    obtain ⟨xs, x, hq, hx⟩ := hg
    obtain ⟨its, rv, p, hz⟩ := I.list hq
    obtain ⟨u, hu, ru⟩ := rv.get hx
    obtain ⟨f0, f1, f2, f3, f4, f5⟩ := hf it (by simp)
    refine wpAny_pyNext_list_item st p.isList (x := u) (by simpa using hu) fun h' st' sb => ?_
    have I1 : Inv X pins σ H { s with heap := h' } := I.turned (t' := s.toks) (fun b o hb e => (sb.2 b hb).trans e) f0 f1 f3 f4 f5
    obtain ⟨o, e, c, d⟩ := id st'
    exact ⟨u, rfl, go_of (s := { s with heap := h' }) e c d (by decide) ⟨x, H, I1, ru, ⟨rfl, fun ys hy => by rw [I.list_inj hy hq]; exact hx⟩, st', fun b hb => (hf b hb).1⟩⟩
  done := by
    intro X hP hw hK hc i pins s σ H E I hf st hg
    subst hP hw hK
    obtain ⟨xs, hq, hx⟩ := hg
    obtain ⟨its, rv, p, hz⟩ := I.list hq
    obtain ⟨f0, f1, f2, f3, f4, f5⟩ := hf it (by simp)
    have hl := rv.length
    exact wpAny_pyNext_list_end (I.ok.hd hc) st p.isList (by simp; omega) fun h' eb => ⟨rfl, I.turned (t' := s.toks) (fun b o hb e => eb b o hb e) f0 f1 f3 f4 f5⟩
  self := fun _ _ _ _ _ st h => wpAny_pyIter_listiter st h
theorem turn_tuple {P : Program} {w : World} {K : PySem.W.Frag} {tg : Expr} (a it : Addr) : Turn P w K tg (Itt K a) [it] it (fun i h => h.IsTupleIter it a i) where
  mem := by simp
  obj := fun i h st b hb => by
    have e : b = it := by simpa using hb
    subst e
    obtain ⟨o, e, c, d⟩ := st
    exact ⟨o, e, fun v z => by rw [d] at z; cases z⟩
  keep := fun i h h' st k => st.at fun o e => k it (by simp) o e
  item := by
    intro X hP hw hK hc i pins s σ H E I hf st hg
    subst hP hw hK
    obtain ⟨xs, x, hq, hx⟩ := hg
    obtain ⟨its, rv, p, hz⟩ := I.tuple hq
    obtain ⟨u, hu, ru⟩ := rv.get hx
    obtain ⟨f0, f1, f2, f3, f4, f5⟩ := hf it (by simp)
    refine wpAny_pyNext_tuple_item st (show s.heap.IsTuple a its.toArray from p) (x := u) (by simpa using hu) fun h' st' sb => ?_
    have I1 : Inv X pins σ H { s with heap := h' } := I.turned (t' := s.toks) (fun b o hb e => (sb.2 b hb).trans e) f0 f1 f3 f4 f5
    obtain ⟨o, e, c, d⟩ := id st'
    exact ⟨u, rfl, go_of (s := { s with heap := h' }) e c d (by decide) ⟨x, H, I1, ru, ⟨rfl, fun ys hy => by rw [I.tuple_inj hy hq]; exact hx⟩, st', fun b hb => (hf b hb).1⟩⟩
  done := by
    intro X hP hw hK hc i pins s σ H E I hf st hg
    subst hP hw hK
    obtain ⟨xs, hq, hx⟩ := hg
    obtain ⟨its, rv, p, hz⟩ := I.tuple hq
    obtain ⟨f0, f1, f2, f3, f4, f5⟩ := hf it (by simp)
    have hl := rv.length
    exact wpAny_pyNext_tuple_end (I.ok.hd hc) st (show s.heap.IsTuple a its.toArray from p) (by simp; omega) fun h' eb => ⟨rfl, I.turned (t' := s.toks) (fun b o hb e => eb b o hb e) f0 f1 f3 f4 f5⟩
  self := fun _ _ _ _ _ st h => wpAny_pyIter_tupleiter st h
theorem turn_range {P : Program} {w : World} {K : PySem.W.Frag} {tg : Expr} (it : Addr) (lo : Int) (n : Nat) : Turn P w K tg (Itr lo n) [it] it (fun i h => IsRangeIter h it (lo + (i : Nat) * 1) ((n : Int) - (i : Nat)) 1) where
  mem := by simp
  obj := fun i h st b hb => by
    have e : b = it := by simpa using hb
    subst e
    exact ⟨_, st, fun v z => by
      have z' : Data.fields _ = Data.cell v := z
      cases z'⟩
  keep := fun i h h' st k => k it (by simp) _ st
  item := by
    intro X hP hw hK hc i pins s σ H E I hf st hg
    subst hP hw hK
    obtain ⟨f0, f1, f2, f3, f4, f5⟩ := hf it (by simp)
    have W := Walks.range (prog := X.prog) (w := X.w) (I.ok.hd hc) it lo 1 n
    refine W.item i s _ _ hg st fun v h' tk hv st' kk => ?_
    obtain ⟨t, rfl⟩ := hv
    have I1 : Inv X pins σ H { s with heap := h', toks := tk } := I.turned (fun b o hb e => kk b o (by simpa using hb) e) f0 f1 f3 f4 f5
    refine ⟨_, rfl, go_of (s := { s with heap := h', toks := tk }) (n := "range_iterator") st' rfl rfl (by decide) ⟨.int (lo + i), H, I1, ⟨t, ?_⟩, ⟨rfl, rfl⟩, st', fun b hb => (hf b hb).1⟩⟩
    rw [Int.mul_one]
  done := by
    intro X hP hw hK hc i pins s σ H E I hf st hg
    subst hP hw hK
    obtain ⟨f0, f1, f2, f3, f4, f5⟩ := hf it (by simp)
    exact wpAny_pyNext_range_end (I.ok.hd hc) st (by have : n ≤ i := hg; omega) fun h' eb => ⟨rfl, I.turned (t' := s.toks) (fun b o hb e => eb b o hb e) f0 f1 f3 f4 f5⟩
  self := fun _ _ _ _ _ st h => wpAny_pyIter_rangeiter st h
end L2

namespace L2
open PySem PySem.Spec PyProof.Rows
section
variable {X : Cx} {tg : Expr}
def iList (K : PySem.W.Frag) (tl : TE) : TI := fun σ H R => tl σ H fun x H1 => ∃ a, x = .ref a ∧ (∃ xs, SqL K H1 a xs) ∧ R (Itl K a) H1
def iTup (K : PySem.W.Frag) (tl : TE) : TI := fun σ H R => tl σ H fun x H1 => ∃ a, x = .ref a ∧ (∃ xs, SqT K H1 a xs) ∧ R (Itt K a) H1
theorem pi_list {l : Expr} {tl : TE} (hl : PE X l tl) : PI X tg l (iList X.K tl) := by
  intro pins s σ H R I h
  refine thn (hl pins s σ H _ I h) fun v s1 ⟨x, H1, I1, r1, q1⟩ => ?_
  obtain ⟨a, e, ⟨xs, hq⟩, q⟩ := q1
  subst e
  cases r1
  obtain ⟨its, rv, p, hz⟩ := I1.list hq
  refine wpAny_pyIter_list p.isList ?_
  refine ⟨s1.heap.objs.size, [s1.heap.objs.size], _, _, H1, rfl, I1.kept (t' := s1.toks) fun b o e => Heap.get?_push_of_some _ e, turn_list a _, ⟨_, Heap.get?_push_size _ rfl, rfl, rfl⟩, fun b hb => ?_, q⟩
  have e : b = s1.heap.objs.size := by simpa using hb
  subst e
  exact I1.fpOk (Nat.le_refl _) (I1.hok.fresh (Nat.le_refl _))
theorem pi_tup {l : Expr} {tl : TE} (hl : PE X l tl) : PI X tg l (iTup X.K tl) := by
  intro pins s σ H R I h
  refine thn (hl pins s σ H _ I h) fun v s1 ⟨x, H1, I1, r1, q1⟩ => ?_
  obtain ⟨a, e, ⟨xs, hq⟩, q⟩ := q1
  subst e
  cases r1
  obtain ⟨its, rv, p, hz⟩ := I1.tuple hq
  refine wpAny_pyIter_tuple (show s1.heap.IsTuple a its.toArray from p) ?_
  refine ⟨s1.heap.objs.size, [s1.heap.objs.size], _, _, H1, rfl, I1.kept (t' := s1.toks) fun b o e => Heap.get?_push_of_some _ e, turn_tuple a _, ⟨_, Heap.get?_push_size _ rfl, rfl, rfl⟩, fun b hb => ?_, q⟩
  have e : b = s1.heap.objs.size := by simpa using hb
  subst e
  exact I1.fpOk (Nat.le_refl _) (I1.hok.fresh (Nat.le_refl _))
theorem range_it {pins : List (Addr × Obj)} {σ : St} {H : Hp} {s : Shared} {R : It → Hp → Prop} {E : Value → Shared → Prop} {lo hi : Int} {t u v : Tok} {tk : Nat} (I : Inv X pins σ H s) (h1 : -(2 ^ 62) ≤ lo) (h2 : lo < 2 ^ 62) (h3 : -(2 ^ 62) ≤ hi) (h4 : hi < 2 ^ 62)
    (q : R (Itr lo (hi - lo).toNat) H) : wpAny (model X.prog X.w) X.A (pyIter (.ref s.heap.objs.size)) (PIE X pins σ tg R) E { s with heap := s.heap.push { cls := .type "range", data := .fields #[.int lo t, .int hi u, .int 1 v] }, toks := tk } := by
  refine wpAny_pyIter_range (IsRange.new ..) (small_one h1 h2 h3 h4) ?_
  have I1 : Inv X pins σ H { s with heap := s.heap.push { cls := .type "range", data := .fields #[.int lo t, .int hi u, .int 1 v] }, toks := tk } := I.kept fun b o e => Heap.get?_push_of_some _ e
  refine ⟨(s.heap.push { cls := .type "range", data := .fields #[.int lo t, .int hi u, .int 1 v] }).objs.size, [(s.heap.push { cls := .type "range", data := .fields #[.int lo t, .int hi u, .int 1 v] }).objs.size], _, _, H, rfl,
    I1.kept (t' := tk) fun b o e => Heap.get?_push_of_some _ e, turn_range _ lo (hi - lo).toNat, ?_, fun b hb => ?_, q⟩
  · have e1 : lo + ((0 : Nat) : Int) * 1 = lo := by simp
    have e2 : (((hi - lo).toNat : Nat) : Int) - ((0 : Nat) : Int) = Builtin.Range.rangeSize lo hi 1 := by rw [rangeSize_one]; split <;> omega
    show IsRangeIter _ _ (lo + ((0 : Nat) : Int) * 1) ((((hi - lo).toNat : Nat) : Int) - ((0 : Nat) : Int)) 1
    rw [e1, e2]
    exact Heap.get?_push_size _ rfl
  · have e : b = (s.heap.push { cls := .type "range", data := .fields #[.int lo t, .int hi u, .int 1 v] }).objs.size := by simpa using hb
    subst e
    exact I1.fpOk (Nat.le_refl _) (I1.hok.fresh (Nat.le_refl _))
def iRng1 (ta : TA) : TI := fun σ H R => ta σ H fun vs H1 => ∃ j : Int, vs = [.int j] ∧ -(2 ^ 62) ≤ j ∧ j < 2 ^ 62 ∧ R (Itr 0 j.toNat) H1
theorem pi_range1 {a : Expr} {ta : TA} {p pos : Pos} (hg : Gl X "range") (hm : X.mg "range" = none) (ha : PA X [a] ta) (hs : starEach [a] X.env = [(false, eval a X.env)] := by rfl) : PI X tg (.Call (.Name "range" p) [a] [] pos) (iRng1 ta) := by
  intro pins s σ H R I h
  refine Call_ (ld_blt I hg hm boot_range (PyProof.Rows.callWith_type1 (thn (ha pos pins s σ H _ I h) fun us s1 ⟨vs, H1, I1, r1, q1⟩ => ?_) hs rfl))
  obtain ⟨j, e, q1, q2, q⟩ := q1
  subst e
  cases r1 with
  | cons r rr =>
    cases rr
    obtain ⟨t, rfl⟩ := r
    exact call_range_1 (range_it I1 (by omega) (by omega) q1 q2 (by simpa using q))
def tFor (wi : TI) (g : TG) (tb : TS) : TS := fun D σ H => wi σ H fun J H1 => ∃ W : Nat → Nat → St → Hp → Prop, (∃ m, W 0 m σ H1) ∧ ∀ i m σ H, W i m σ H →
  (J.stop i H ∧ D.nx σ H) ∨ (J.go i H ∧ ∃ N : St → Hp → Prop, (∀ σ' H', N σ' H' → ∃ m', m' < m ∧ W (i + 1) m' σ' H') ∧ ∀ x H', J.yld i H x H' → g x σ H' fun σ2 H2 => tb { D with nx := N, ct := N, bk := D.nx } σ2 H2)
def pinsAt (fp : List Addr) (h : Heap) : List (Addr × Obj) := fp.filterMap fun b => (h.get? b).map fun o => (b, o)
theorem mem_pinsAt {fp : List Addr} {h : Heap} {b : Addr} {o : Obj} (hb : b ∈ fp) (e : h.get? b = some o) : (b, o) ∈ pinsAt fp h := List.mem_filterMap.mpr ⟨b, hb, by rw [e]; rfl⟩
theorem of_pinsAt {fp : List Addr} {h : Heap} {p : Addr × Obj} (hp : p ∈ pinsAt fp h) : p.1 ∈ fp ∧ h.get? p.1 = some p.2 := by
  obtain ⟨b, hb, e⟩ := List.mem_filterMap.mp hp
  cases q : h.get? b with
  | none => rw [q] at e; cases e
  | some o =>
    rw [q] at e
    have e' : (b, o) = p := Option.some.inj e
    subst e'
    exact ⟨hb, q⟩
theorem Inv.pinned {pins : List (Addr × Obj)} {σ : St} {H : Hp} {s : Shared} {fp : List Addr} (I : Inv X pins σ H s) (hf : ∀ b ∈ fp, FpOk X pins H b) (ho : ∀ b ∈ fp, ∃ o, s.heap.get? b = some o ∧ ∀ v, o.data ≠ .cell v) : Inv X (pins ++ pinsAt fp s.heap) σ H s :=
  I.pins_of fun p hp => (List.mem_append.mp hp).elim (fun z => I.pin p (List.mem_append_right _ z)) fun z => by
    obtain ⟨hb, e⟩ := of_pinsAt z
    obtain ⟨f0, f1, f2, _⟩ := hf p.1 hb
    obtain ⟨o, e', d⟩ := ho p.1 hb
    rw [e] at e'; cases e'
    exact ⟨e, f0, f1, f2, d⟩
theorem Inv.unpinned {pins pl : List (Addr × Obj)} {σ : St} {H : Hp} {s : Shared} (I : Inv X (pins ++ pl) σ H s) : Inv X pins σ H s := I.pins_of fun p hp => I.pin p (List.mem_append_right _ (List.mem_append_left _ hp))
theorem ps_for {iter : Expr} {body : List Stmt} {wi : TI} {g : TG} {tb : TS} {pos : Pos} (hp : PassesOwn (model X.prog X.w) X.A X.env X.xe) (hc : X.calm = true) (hi : PI X tg iter wi) (hg : PG X tg g) (hb : PSs X body tb)
    (hs : ∀ x, foldedSetIterable iter X.env x = pure x := by intro _; rfl) : PS X (.For tg iter body [] pos) (tFor wi g tb) := by
  intro pins s σ H D I h
  refine wpAny_For (thn (hi pins s σ H _ I h) fun v s1 h1 => thn h1 fun itv s2 h2 => ?_) hs
  obtain ⟨it, fp, tn, J, H2, e, I2, T, st2, f2, W, ⟨m0, w0⟩, turn⟩ := h2
  subst e
  -- what stays true of the iterator's objects through the loop
  have stat : ∀ {H' : Hp}, (∀ b ∈ fp, H' b = none) → ∀ b ∈ fp, FpOk X pins H' b := fun hn b hb => ⟨hn b hb, (f2 b hb).2⟩
  refine codeAny_forLoop_any (fun n s' => ∃ i σ' H', Inv X pins σ' H' s' ∧ tn i s'.heap ∧ (∀ b ∈ fp, H' b = none) ∧ W i n σ' H') ?_ m0 ⟨0, σ, H2, I2, st2, fun b hb => (f2 b hb).1, w0⟩
  rintro n s3 ⟨i, σ3, H3, I3, st3, fr3, w3⟩
  rcases turn i n σ3 H3 w3 with ⟨stop, qn⟩ | ⟨go, N, hN, step⟩
  · refine wpAny_passesOwn hp (thn (T.done X rfl rfl rfl hc i pins s3 σ3 H3 X.xe I3 (stat fr3) st3 stop) fun r s4 ⟨hr, I4⟩ => ?_)
    subst hr
    exact wpAny_execs_nil ⟨σ3, H3, I4, qn⟩
  · refine wpAny_passesOwn hp (thn (T.item X rfl rfl rfl hc i pins s3 σ3 H3 X.xe I3 (stat fr3) st3 go) fun r s4 ⟨u, hr, h4⟩ => ?_)
    subst hr
    refine wpAny_passesOwn hp (thn h4 fun _ s5 ⟨x, H5, I5, r5, y5, st5, fr5⟩ => ?_)
    have I5' := I5.pinned (stat fr5) (T.obj _ _ st5)
    refine wpAny_passesOwn hp (thn (hg _ s5 σ3 H5 x u _ I5' r5 (step x H5 y5)) fun _ s6 ⟨σ6, H6, I6, q6⟩ => ?_)
    refine wpAny_passesOwn hp (thn (hb _ s6 σ6 H6 _ I6 q6) fun f s7 q7 => ?_)
    have again : ∀ {σ7 : St} {H7 : Hp}, Inv X (pins ++ pinsAt fp s5.heap) σ7 H7 s7 → N σ7 H7 → ∃ m, m < n ∧ ∃ i σ' H', Inv X pins σ' H' s7 ∧ tn i s7.heap ∧ (∀ b ∈ fp, H' b = none) ∧ W i m σ' H' := fun {σ7 H7} I7 n7 => by
      obtain ⟨m', hm, w7⟩ := hN σ7 H7 n7
      refine ⟨m', hm, i + 1, σ7, H7, I7.unpinned, T.keep _ _ _ st5 fun b hb o e => (I7.pin (b, o) (List.mem_append_right _ (List.mem_append_right _ (mem_pinsAt hb e)))).1, fun b hb => ?_, w7⟩
      obtain ⟨o, e, d⟩ := T.obj _ _ st5 b hb
      exact (I7.pin (b, o) (List.mem_append_right _ (List.mem_append_right _ (mem_pinsAt hb e)))).2.1
    cases f with
    | next => obtain ⟨σ7, H7, I7, n7⟩ := q7; exact again I7 n7
    | cont => obtain ⟨σ7, H7, I7, n7⟩ := q7; exact again I7 n7
    | brk => obtain ⟨σ7, H7, I7, q7⟩ := q7; exact ⟨σ7, H7, I7.unpinned, q7⟩
    | ret v => obtain ⟨x7, σ7, H7, I7, r7, q7⟩ := q7; exact ⟨x7, σ7, H7, I7.unpinned, r7, q7⟩
end

theorem for_list {K : PySem.W.Frag} {a : Addr} {xs : List V} {g : TG} {tb : TS} {D : Ends} {σ : St} {H : Hp} (Pv : Nat → St → Hp → Prop) (h0 : Pv 0 σ H) (hl : ∀ i σ H, i ≤ xs.length → Pv i σ H → SqL K H a xs)
    (hs : ∀ i x σ H, xs[i]? = some x → Pv i σ H → g x σ H fun σ2 H2 => tb { D with nx := Pv (i + 1), ct := Pv (i + 1), bk := D.nx } σ2 H2) (hd : ∀ σ H, Pv xs.length σ H → D.nx σ H) :
    ∃ W : Nat → Nat → St → Hp → Prop, (∃ m, W 0 m σ H) ∧ ∀ i m σ H, W i m σ H →
      ((Itl K a).stop i H ∧ D.nx σ H) ∨ ((Itl K a).go i H ∧ ∃ N : St → Hp → Prop, (∀ σ' H', N σ' H' → ∃ m', m' < m ∧ W (i + 1) m' σ' H') ∧ ∀ x H', (Itl K a).yld i H x H' → g x σ H' fun σ2 H2 => tb { D with nx := N, ct := N, bk := D.nx } σ2 H2) := by
  refine ⟨fun i m σ H => m = xs.length - i ∧ i ≤ xs.length ∧ Pv i σ H, ⟨xs.length, by simp, Nat.zero_le _, h0⟩, ?_⟩
  rintro i m σ H ⟨rfl, hi, p⟩
  have q := hl i σ H hi p
  by_cases hlt : i < xs.length
  · refine .inr ⟨⟨xs, xs[i], q, by simp [hlt]⟩, Pv (i + 1), fun σ' H' p' => ⟨xs.length - (i + 1), by omega, rfl, hlt, p'⟩, fun x H' y => ?_⟩
    obtain ⟨e, y⟩ := y
    subst e
    exact hs i x σ _ (y xs q) p
  · have e : i = xs.length := by omega
    subst e
    exact .inl ⟨⟨xs, q, Nat.le_refl _⟩, hd σ H p⟩
theorem for_tup {K : PySem.W.Frag} {a : Addr} {xs : List V} {g : TG} {tb : TS} {D : Ends} {σ : St} {H : Hp} (Pv : Nat → St → Hp → Prop) (h0 : Pv 0 σ H) (hl : ∀ i σ H, i ≤ xs.length → Pv i σ H → SqT K H a xs)
    (hs : ∀ i x σ H, xs[i]? = some x → Pv i σ H → g x σ H fun σ2 H2 => tb { D with nx := Pv (i + 1), ct := Pv (i + 1), bk := D.nx } σ2 H2) (hd : ∀ σ H, Pv xs.length σ H → D.nx σ H) :
    ∃ W : Nat → Nat → St → Hp → Prop, (∃ m, W 0 m σ H) ∧ ∀ i m σ H, W i m σ H →
      ((Itt K a).stop i H ∧ D.nx σ H) ∨ ((Itt K a).go i H ∧ ∃ N : St → Hp → Prop, (∀ σ' H', N σ' H' → ∃ m', m' < m ∧ W (i + 1) m' σ' H') ∧ ∀ x H', (Itt K a).yld i H x H' → g x σ H' fun σ2 H2 => tb { D with nx := N, ct := N, bk := D.nx } σ2 H2) := by
  refine ⟨fun i m σ H => m = xs.length - i ∧ i ≤ xs.length ∧ Pv i σ H, ⟨xs.length, by simp, Nat.zero_le _, h0⟩, ?_⟩
  rintro i m σ H ⟨rfl, hi, p⟩
  have q := hl i σ H hi p
  by_cases hlt : i < xs.length
  · refine .inr ⟨⟨xs, xs[i], q, by simp [hlt]⟩, Pv (i + 1), fun σ' H' p' => ⟨xs.length - (i + 1), by omega, rfl, hlt, p'⟩, fun x H' y => ?_⟩
    obtain ⟨e, y⟩ := y
    subst e
    exact hs i x σ _ (y xs q) p
  · have e : i = xs.length := by omega
    subst e
    exact .inl ⟨⟨xs, q, Nat.le_refl _⟩, hd σ H p⟩
theorem for_range {lo : Int} {n : Nat} {g : TG} {tb : TS} {D : Ends} {σ : St} {H : Hp} (Pv : Nat → St → Hp → Prop) (h0 : Pv 0 σ H)
    (hs : ∀ i σ H, i < n → Pv i σ H → g (.int (lo + i)) σ H fun σ2 H2 => tb { D with nx := Pv (i + 1), ct := Pv (i + 1), bk := D.nx } σ2 H2) (hd : ∀ σ H, Pv n σ H → D.nx σ H) :
    ∃ W : Nat → Nat → St → Hp → Prop, (∃ m, W 0 m σ H) ∧ ∀ i m σ H, W i m σ H →
      ((Itr lo n).stop i H ∧ D.nx σ H) ∨ ((Itr lo n).go i H ∧ ∃ N : St → Hp → Prop, (∀ σ' H', N σ' H' → ∃ m', m' < m ∧ W (i + 1) m' σ' H') ∧ ∀ x H', (Itr lo n).yld i H x H' → g x σ H' fun σ2 H2 => tb { D with nx := N, ct := N, bk := D.nx } σ2 H2) := by
  refine ⟨fun i m σ H => m = n - i ∧ i ≤ n ∧ Pv i σ H, ⟨n, by simp, Nat.zero_le _, h0⟩, ?_⟩
  rintro i m σ H ⟨rfl, hi, p⟩
  by_cases hlt : i < n
  · refine .inr ⟨hlt, Pv (i + 1), fun σ' H' p' => ⟨n - (i + 1), by omega, rfl, hlt, p'⟩, fun x H' y => ?_⟩
    obtain ⟨e, y⟩ := y
    subst e y
    exact hs i σ _ hlt p
  · have e : i = n := by omega
    subst e
    exact .inl ⟨Nat.le_refl _, hd σ H p⟩
end L2

namespace L2
open PySem PySem.Spec PyProof.Rows

abbrev R2 := V → V → Hp → VK → Prop
def OpR (X : Cx) (f : Value → Value → Sem Value) (r : R2) : Prop :=
  ∀ (pins : List (Addr × Obj)) (s : Shared) (σ : St) (H : Hp) (x y : V) (v u : Value) (Q : VK), Inv X pins σ H s → RelV x v → RelV y u → r x y H Q →
    wpAny (model X.prog X.w) X.A (f v u) (EP X pins σ Q) X.xe s
def UnR (X : Cx) (f : Value → Sem Value) (r : V → Hp → VK → Prop) : Prop :=
  ∀ (pins : List (Addr × Obj)) (s : Shared) (σ : St) (H : Hp) (x : V) (v : Value) (Q : VK), Inv X pins σ H s → RelV x v → r x H Q →
    wpAny (model X.prog X.w) X.A (f v) (EP X pins σ Q) X.xe s
def CallR (X : Cx) (f : Value) (r : List V → Hp → VK → Prop) : Prop :=
  ∀ (pins : List (Addr × Obj)) (s : Shared) (σ : St) (H : Hp) (xs : List V) (us : List Value) (Q : VK), Inv X pins σ H s → Vals xs us → r xs H Q →
    wpAny (model X.prog X.w) X.A (call f us) (EP X pins σ Q) X.xe s
def tOp (r : R2) (ta tb : TE) : TE := fun σ H Q => ta σ H fun x H1 => tb σ H1 fun y H2 => r x y H2 Q
def tUn (r : V → Hp → VK → Prop) (ta : TE) : TE := fun σ H Q => ta σ H fun x H1 => r x H1 Q
def rI (C : Int → Int → Prop) (g : Int → Int → V) : R2 := fun x y H Q => ∃ i j, x = .int i ∧ y = .int j ∧ C i j ∧ Q (g i j) H
def rI0 (g : Int → Int → V) : R2 := fun x y H Q => ∃ i j, x = .int i ∧ y = .int j ∧ Q (g i j) H
def rU (g : Int → V) : V → Hp → VK → Prop := fun x H Q => ∃ i, x = .int i ∧ Q (g i) H

section
variable {X : Cx} {a b c : Expr} {ta tb tc : TE} {pos : Pos}

theorem binT (ha : PE X a ta) (hb : PE X b tb) {pins : List (Addr × Obj)} {s : Shared} {σ : St} {H : Hp} {R : V → V → Hp → Prop} (I : Inv X pins σ H s)
    (h : ta σ H fun x H1 => tb σ H1 fun y H2 => R x y H2) {Q : Value → Shared → Prop} {f : Value → Value → Sem Value}
    (hf : ∀ v u s2 x y H2, Inv X pins σ H2 s2 → RelV x v → RelV y u → R x y H2 → wpAny (model X.prog X.w) X.A (f v u) Q X.xe s2) :
    wpAny (model X.prog X.w) X.A (eval a X.env) (fun v s₁ => wpAny (model X.prog X.w) X.A (eval b X.env) (fun u s₂ => wpAny (model X.prog X.w) X.A (f v u) Q X.xe s₂) X.xe s₁) X.xe s := by
  refine thn (ha pins s σ H _ I h) fun v s1 ⟨x, H1, I1, r1, q1⟩ => ?_
  refine thn (hb pins s1 σ H1 _ I1 q1) fun u s2 ⟨y, H2, I2, r2, q2⟩ => ?_
  exact hf v u s2 x y H2 I2 r1 r2 q2

theorem pe_op {op : Operator} {r : R2} (ho : OpR X (binaryOp op) r) (ha : PE X a ta) (hb : PE X b tb) : PE X (.BinOp a op b pos) (tOp r ta tb) := by
  intro pins s σ H Q I h
  exact wpAny_BinOp (binT ha hb I h fun v u s2 x y H2 I2 rx ry q => ho pins s2 σ H2 x y v u Q I2 rx ry q)
theorem pe_un {op : UnaryOp} {r : V → Hp → VK → Prop} (ho : UnR X (unaryOp op) r) (ha : PE X a ta) : PE X (.UnaryOp op a pos) (tUn r ta) := by
  intro pins s σ H Q I h
  exact UnaryOp_ (thn (ha pins s σ H _ I h) fun v s1 ⟨x, H1, I1, r1, q1⟩ => ho pins s1 σ H1 x v Q I1 r1 q1)
theorem opI {f : Value → Value → Sem Value} {C : Int → Int → Prop} {g : Int → Int → Int}
    (rule : ∀ (i j : Int) (t u : Tok) (s : Shared) (Q : Value → Shared → Prop) (E : Value → Shared → Prop), C i j → Q (.int (g i j) s.toks) { s with toks := s.toks + 1 } → wpAny (model X.prog X.w) X.A (f (.int i t) (.int j u)) Q E s) :
    OpR X f (rI C fun i j => .int (g i j)) := by
  intro pins s σ H x y v u Q I rx ry h
  obtain ⟨i, j, rfl, rfl, hc, q⟩ := h
  obtain ⟨t, rfl⟩ := rx
  obtain ⟨t', rfl⟩ := ry
  exact rule i j t t' s _ _ hc ⟨.int (g i j), H, I.tok _, ⟨_, rfl⟩, q⟩
theorem opI0 {f : Value → Value → Sem Value} {g : Int → Int → Int}
    (rule : ∀ (i j : Int) (t u : Tok) (s : Shared) (Q : Value → Shared → Prop) (E : Value → Shared → Prop), Q (.int (g i j) s.toks) { s with toks := s.toks + 1 } → wpAny (model X.prog X.w) X.A (f (.int i t) (.int j u)) Q E s) :
    OpR X f (rI0 fun i j => .int (g i j)) := by
  intro pins s σ H x y v u Q I rx ry h
  obtain ⟨i, j, rfl, rfl, q⟩ := h
  obtain ⟨t, rfl⟩ := rx
  obtain ⟨t', rfl⟩ := ry
  exact rule i j t t' s _ _ ⟨.int (g i j), H, I.tok _, ⟨_, rfl⟩, q⟩
theorem opB0 {f : Value → Value → Sem Value} {g : Int → Int → Bool}
    (rule : ∀ (i j : Int) (t u : Tok) (s : Shared) (Q : Value → Shared → Prop) (E : Value → Shared → Prop), Q (.bool (g i j)) s → wpAny (model X.prog X.w) X.A (f (.int i t) (.int j u)) Q E s) :
    OpR X f (rI0 fun i j => .bl (g i j)) := by
  intro pins s σ H x y v u Q I rx ry h
  obtain ⟨i, j, rfl, rfl, q⟩ := h
  obtain ⟨t, rfl⟩ := rx
  obtain ⟨t', rfl⟩ := ry
  exact rule i j t t' s _ _ ⟨.bl (g i j), H, I, rfl, q⟩

def CPow (i j : Int) : Prop := 0 ≤ j ∧ j ≤ 1000000 ∧ i.natAbs < 2 ^ 64
def CMul (i j : Int) : Prop := (-(2 ^ 64) < i ∧ i < 2 ^ 64) ∨ (-(2 ^ 64) < j ∧ j < 2 ^ 64)
theorem CMul.ok {i j : Int} (h : CMul i j) : IntMulOk i j := by
  rcases h with ⟨h1, h2⟩ | ⟨h1, h2⟩
  · exact .of_left (intBits_le_64 h1 h2)
  · exact .of_right (intBits_le_64 h1 h2)
theorem op_add : OpR X (binaryOp .Add) (rI0 fun i j => .int (i + j)) := opI0 fun _ _ _ _ _ _ _ q => add_int q
theorem op_mod : OpR X (binaryOp .Mod) (rI (fun _ j => 0 < j) fun i j => .int (i % j)) := opI fun i j _ _ _ _ _ hc q => by
  have h1 : (0 : Int) < j := hc
  exact mod_int' (by omega) (by rw [Int.fmod_eq_emod_of_nonneg i (by omega)]; exact q)
theorem op_pow : OpR X (binaryOp .Pow) (rI CPow fun i j => .int (i ^ j.toNat)) := opI fun _ _ _ _ _ _ _ hc q => pow_int_small hc.1 hc.2.1 hc.2.2 q
theorem unI {f : Value → Sem Value} {g : Int → Int}
    (rule : ∀ (i : Int) (t : Tok) (s : Shared) (Q : Value → Shared → Prop) (E : Value → Shared → Prop), Q (.int (g i) s.toks) { s with toks := s.toks + 1 } → wpAny (model X.prog X.w) X.A (f (.int i t)) Q E s) :
    UnR X f (rU fun i => .int (g i)) := by
  intro pins s σ H x v Q I rx h
  obtain ⟨i, rfl, q⟩ := h
  obtain ⟨t, rfl⟩ := rx
  exact rule i t s _ _ ⟨.int (g i), H, I.tok _, ⟨_, rfl⟩, q⟩
theorem un_neg : UnR X (unaryOp .USub) (rU fun i => .int (-i)) := unI fun _ _ _ _ _ q => neg_int q
end

def scal : V → V → Bool
  | .non, .non => true | .non, .int _ => true | .int _, .non => true | .non, .bl _ => true | .bl _, .non => true | .non, .str _ => true | .str _, .non => true
  | .int _, .int _ => true | .bl _, .bl _ => true | .str _, .str _ => true | .byt _, .byt _ => true
  | .int _, .str _ => true | .str _, .int _ => true | .bl _, .str _ => true | .str _, .bl _ => true
  | _, _ => false
def rEq : R2 := fun x y H Q => scal x y = true ∧ Q (.bl (decide (x = y))) H
def rNe : R2 := fun x y H Q => scal x y = true ∧ Q (.bl (!decide (x = y))) H

theorem dec_int {i j : Int} : decide (V.int i = V.int j) = (i == j) := by
  rw [Bool.eq_iff_iff]
  simp
theorem dec_bl {i j : Bool} : decide (V.bl i = V.bl j) = (i == j) := by
  rw [Bool.eq_iff_iff]
  simp
theorem dec_str {i j : Str} : decide (V.str i = V.str j) = (i == j) := by
  rw [Bool.eq_iff_iff]
  simp
theorem dec_byt {i j : Array UInt8} : decide (V.byt i = V.byt j) = (i.toList == j.toList) := by
  rw [Bool.eq_iff_iff]
  cases i
  cases j
  simp

section
variable {X : Cx} {a b c : Expr} {ta tb tc : TE} {pos : Pos}
theorem fin_bl {pins : List (Addr × Obj)} {σ : St} {H : Hp} {s : Shared} {Q : VK} {k k' : Bool} (I : Inv X pins σ H s) (q : Q (.bl k) H) (e : k = k') : EP X pins σ Q (.bool k') s := by
  subst e
  exact ⟨.bl k, H, I, rfl, q⟩
theorem op_eq : OpR X (compareOp .Eq) rEq := by
  intro pins s σ H x y v u Q I rx ry h
  obtain ⟨hs, q⟩ := h
  cases x with
  | non =>
    cases rx
    cases y with
    | non => cases ry; exact PySem.EqNone.eq_none_none (fin_bl I q (by simp))
    | bl j => cases ry; exact PySem.EqNone.eq_none_bool (fin_bl I q (by simp))
    | int j => obtain ⟨t', rfl⟩ := ry; exact PySem.EqNone.eq_none_int (fin_bl I q (by simp))
    | str j => obtain ⟨t', rfl⟩ := ry; exact PySem.EqNone.eq_none_str (fin_bl I q (by simp))
    | _ => exact absurd (show false = true from hs) Bool.false_ne_true
  | bl i =>
    cases rx
    cases y with
    | non => cases ry; exact PySem.EqNone.eq_bool_none (fin_bl I q (by simp))
    | bl j => cases ry; exact eq_bool (fin_bl I q dec_bl)
    | str j => obtain ⟨t', rfl⟩ := ry; exact PySem.EqMixed.eq_bool_str (fin_bl I q (by simp))
    | _ => exact absurd (show false = true from hs) Bool.false_ne_true
  | int i =>
    obtain ⟨t, rfl⟩ := rx
    cases y with
    | non => cases ry; exact PySem.EqNone.eq_int_none (fin_bl I q (by simp))
    | int j => obtain ⟨t', rfl⟩ := ry; exact eq_int (fin_bl I q dec_int)
    | str j => obtain ⟨t', rfl⟩ := ry; exact PySem.EqMixed.eq_int_str (fin_bl I q (by simp))
    | _ => exact absurd (show false = true from hs) Bool.false_ne_true
  | str i =>
    obtain ⟨t, rfl⟩ := rx
    cases y with
    | non => cases ry; exact PySem.EqNone.eq_str_none (fin_bl I q (by simp))
    | bl j => cases ry; exact PySem.EqMixed.eq_str_bool (fin_bl I q (by simp))
    | int j => obtain ⟨t', rfl⟩ := ry; exact PySem.EqMixed.eq_str_int (fin_bl I q (by simp))
    | str j => obtain ⟨t', rfl⟩ := ry; exact eq_str (fin_bl I q dec_str)
    | _ => exact absurd (show false = true from hs) Bool.false_ne_true
  | byt i =>
    obtain ⟨t, rfl⟩ := rx
    cases y with
    | byt j => obtain ⟨t', rfl⟩ := ry; exact PySem.W.eq_bytes (fin_bl I q dec_byt)
    | _ => exact absurd (show false = true from hs) Bool.false_ne_true
  | _ => cases y <;> exact absurd (show false = true from hs) Bool.false_ne_true
theorem op_ne : OpR X (compareOp .NotEq) rNe := by
  intro pins s σ H x y v u Q I rx ry h
  obtain ⟨hs, q⟩ := h
  cases x with
  | non =>
    cases rx
    cases y with
    | non => cases ry; exact PySem.EqNone.ne_none_none (fin_bl I q (by simp))
    | bl j => cases ry; exact PySem.EqNone.ne_none_bool (fin_bl I q (by simp))
    | int j => obtain ⟨t', rfl⟩ := ry; exact PySem.EqNone.ne_none_int (fin_bl I q (by simp))
    | str j => obtain ⟨t', rfl⟩ := ry; exact PySem.EqNone.ne_none_str (fin_bl I q (by simp))
    | _ => exact absurd (show false = true from hs) Bool.false_ne_true
  | bl i =>
    cases rx
    cases y with
    | non => cases ry; exact PySem.EqNone.ne_bool_none (fin_bl I q (by simp))
    | bl j => cases ry; exact ne_bool (fin_bl I q (congrArg not dec_bl))
    | str j => obtain ⟨t', rfl⟩ := ry; exact PySem.EqMixed.ne_bool_str (fin_bl I q (by simp))
    | _ => exact absurd (show false = true from hs) Bool.false_ne_true
  | int i =>
    obtain ⟨t, rfl⟩ := rx
    cases y with
    | non => cases ry; exact PySem.EqNone.ne_int_none (fin_bl I q (by simp))
    | int j => obtain ⟨t', rfl⟩ := ry; exact ne_int (fin_bl I q (congrArg not dec_int))
    | str j => obtain ⟨t', rfl⟩ := ry; exact PySem.EqMixed.ne_int_str (fin_bl I q (by simp))
    | _ => exact absurd (show false = true from hs) Bool.false_ne_true
  | str i =>
    obtain ⟨t, rfl⟩ := rx
    cases y with
    | non => cases ry; exact PySem.EqNone.ne_str_none (fin_bl I q (by simp))
    | bl j => cases ry; exact PySem.EqMixed.ne_str_bool (fin_bl I q (by simp))
    | int j => obtain ⟨t', rfl⟩ := ry; exact PySem.EqMixed.ne_str_int (fin_bl I q (by simp))
    | str j => obtain ⟨t', rfl⟩ := ry; exact ne_str (fin_bl I q (congrArg not dec_str))
    | _ => exact absurd (show false = true from hs) Bool.false_ne_true
  | byt i =>
    obtain ⟨t, rfl⟩ := rx
    cases y with
    | byt j => obtain ⟨t', rfl⟩ := ry; exact PySem.W.ne_bytes (fin_bl I q (congrArg not dec_byt))
    | _ => exact absurd (show false = true from hs) Bool.false_ne_true
  | _ => cases y <;> exact absurd (show false = true from hs) Bool.false_ne_true

theorem op_lt : OpR X (compareOp .Lt) (rI0 fun i j => .bl (decide (i < j))) := opB0 fun _ _ _ _ _ _ _ q => lt_int q
theorem op_le : OpR X (compareOp .LtE) (rI0 fun i j => .bl (decide (i ≤ j))) := opB0 fun _ _ _ _ _ _ _ q => le_int q
theorem op_gt : OpR X (compareOp .Gt) (rI0 fun i j => .bl (decide (j < i))) := opB0 fun _ _ _ _ _ _ _ q => gt_int q
theorem op_in_str : OpR X (compareOp .In) (fun x y H Q => ∃ i j, x = .str i ∧ y = .str j ∧ Q (.bl (!(Builtin.Str.occurrences j i 0 j.length 1).isEmpty)) H) := by
  intro pins s σ H x y v u Q I rx ry h
  obtain ⟨i, j, rfl, rfl, q⟩ := h
  obtain ⟨t, rfl⟩ := rx
  obtain ⟨t', rfl⟩ := ry
  exact in_str (fin_bl I q rfl)

theorem op_isN : OpR X (compareOp .Is) (fun x y H Q => y = .non ∧ Q (.bl (decide (x = .non))) H) := by
  intro pins s σ H x y v u Q I rx ry h
  obtain ⟨rfl, q⟩ := h
  cases ry
  refine is_none_gen (fin_bl I q ?_)
  cases x <;> first
    | (cases rx; rfl)
    | (obtain ⟨t, rfl⟩ := rx; rfl)
theorem op_notin_str : OpR X (compareOp .NotIn) (fun x y H Q => ∃ i j, x = .str i ∧ y = .str j ∧ Q (.bl (!(!(Builtin.Str.occurrences j i 0 j.length 1).isEmpty))) H) := by
  intro pins s σ H x y v u Q I rx ry h
  obtain ⟨i, j, rfl, rfl, q⟩ := h
  obtain ⟨t, rfl⟩ := rx
  obtain ⟨t', rfl⟩ := ry
  exact notIn_str (fin_bl I q rfl)
theorem OpR.or {f : Value → Value → Sem Value} {r r' : R2} (h : OpR X f r) (h' : OpR X f r') : OpR X f (fun x y H Q => r x y H Q ∨ r' x y H Q) := by
  intro pins s σ H x y v u Q I rx ry q
  rcases q with q | q
  · exact h pins s σ H x y v u Q I rx ry q
  · exact h' pins s σ H x y v u Q I rx ry q

theorem nomark (b : Expr) {op : CmpOp} (h : op ≠ .In := by decide) (h2 : op ≠ .NotIn := by decide) : behindInMarks op b = false := by
  have e1 : (op == CmpOp.In) = false := by cases op <;> first | rfl | exact absurd rfl h
  have e2 : (op == CmpOp.NotIn) = false := by cases op <;> first | rfl | exact absurd rfl h2
  cases b <;> simp [behindInMarks, e1, e2]
theorem pe_cmpR {op : CmpOp} {r : R2} (ho : OpR X (compareOp op) r) (ha : PE X a ta) (hb : PE X b tb) (hm : behindInMarks op b = false) : PE X (.Compare a [op] [b] pos) (tOp r ta tb) := by
  intro pins s σ H Q I h
  exact wpAny_Compare1 (binT ha hb I h fun v u s2 x y H2 I2 rx ry q => ho pins s2 σ H2 x y v u Q I2 rx ry q) hm
def tTest (t : TE) : TT := fun σ H Q => t σ H fun x H' => ∃ k, x = .bl k ∧ Q k H'
theorem pt_cmpR {op : CmpOp} {r : R2} (ho : OpR X (compareOp op) r) (ha : PE X a ta) (hb : PE X b tb) (hm : behindInMarks op b = false) : PT X (.Compare a [op] [b] pos) (tTest (tOp r ta tb)) := by
  intro pins s σ H Q I h
  refine wpAny_isTrue_Compare1 (thn (ha pins s σ H _ I h) fun v s1 ⟨x, H1, I1, r1, q1⟩ => thn (hb pins s1 σ H1 _ I1 q1) fun u s2 ⟨y, H2, I2, r2, q2⟩ =>
    thn (ho pins s2 σ H2 x y v u _ I2 r1 r2 q2) fun c s3 ⟨z, H3, I3, r3, k, e, q3⟩ => ?_) hm
  subst e
  cases r3
  exact wpAny_truthy_bool ⟨H3, I3, q3⟩
def tChain (r r' : R2) (ta tb tc : TE) : TE := fun σ H Q => ta σ H fun x H1 => tb σ H1 fun y H2 => r x y H2 fun z H3 => ∃ k, z = .bl k ∧
  (if k = true then tc σ H3 fun w' H4 => r' y w' H4 Q else Q (.bl false) H3)
theorem pe_chain {op op' : CmpOp} {r r' : R2} (ho : OpR X (compareOp op) r) (ho' : OpR X (compareOp op') r') (ha : PE X a ta) (hb : PE X b tb) (hc : PE X c tc)
    (hm : lastMarks [op, op'] [b, c] = false := by with_unfolding_all rfl) : PE X (.Compare a [op, op'] [b, c] pos) (tChain r r' ta tb tc) := by
  intro pins s σ H Q I h
  refine Compare_chain (thn (ha pins s σ H _ I h) fun v s1 ⟨x, H1, I1, r1, q1⟩ => chain_link (thn (hb pins s1 σ H1 _ I1 q1) fun u s2 ⟨y, H2, I2, r2, q2⟩ =>
    thn (ho pins s2 σ H2 x y v u _ I2 r1 r2 q2) fun d s3 ⟨z, H3, I3, r3, k, e, q3⟩ => ?_)) hm
  subst e
  cases r3
  refine wpAny_truthy_bool ?_
  cases k with
  | false => exact ite_ff ⟨.bl false, H3, I3, rfl, q3⟩
  | true => exact ite_tt (chain_last (thn (hc pins s3 σ H3 _ I3 q3) fun w' s4 ⟨z', H4, I4, r4, q4⟩ => ho' pins s4 σ H4 y z' u w' Q I4 r2 r4 q4))
theorem pt_chain {op op' : CmpOp} {r r' : R2} (ho : OpR X (compareOp op) r) (ho' : OpR X (compareOp op') r') (ha : PE X a ta) (hb : PE X b tb) (hc : PE X c tc)
    (hm : lastMarks [op, op'] [b, c] = false := by with_unfolding_all rfl) : PT X (.Compare a [op, op'] [b, c] pos) (tTest (tChain r r' ta tb tc)) := by
  intro pins s σ H Q I h
  refine isTrue_chain (thn (ha pins s σ H _ I h) fun v s1 ⟨x, H1, I1, r1, q1⟩ => test_link (thn (hb pins s1 σ H1 _ I1 q1) fun u s2 ⟨y, H2, I2, r2, q2⟩ =>
    thn (ho pins s2 σ H2 x y v u _ I2 r1 r2 q2) fun d s3 ⟨z, H3, I3, r3, k, e, q3⟩ => ?_)) hm
  subst e
  cases r3
  refine wpAny_truthy_bool ?_
  cases k with
  | false =>
    obtain ⟨k', e', q'⟩ := q3
    cases e'
    exact ite_ff ⟨H3, I3, q'⟩
  | true =>
    refine ite_tt (test_last (thn (hc pins s3 σ H3 _ I3 q3) fun w' s4 ⟨z', H4, I4, r4, q4⟩ => thn (ho' pins s4 σ H4 y z' u w' _ I4 r2 r4 q4) fun d' s5 ⟨z2, H5, I5, r5, k2, e2, q5⟩ => ?_))
    subst e2
    cases r5
    exact wpAny_truthy_bool ⟨H5, I5, q5⟩

theorem line63 : (sizeLine : Nat) < 2 ^ 63 := by rw [sizeLine_eq]; decide
theorem op_add_str : OpR X (binaryOp .Add) (fun x y H Q => ∃ i j, x = .str i ∧ y = .str j ∧ i.length + j.length ≤ sizeLine ∧ Q (.str (i ++ j)) H) := by
  intro pins s σ H x y v u Q I rx ry h
  obtain ⟨i, j, rfl, rfl, hz, q⟩ := h
  obtain ⟨t, rfl⟩ := rx
  obtain ⟨t', rfl⟩ := ry
  exact add_str (fun t' tk => ⟨.str (i ++ j), H, I.tok _, ⟨_, rfl⟩, q⟩) hz
theorem vals1 {x : V} {us : List Value} (r : Vals [x] us) : ∃ u, us = [u] ∧ RelV x u := by
  cases r with
  | cons r1 r2 => cases r2; exact ⟨_, rfl, r1⟩
theorem vals2 {x y : V} {us : List Value} (r : Vals [x, y] us) : ∃ u w', us = [u, w'] ∧ RelV x u ∧ RelV y w' := by
  cases r with
  | cons r1 r2 =>
    cases r2 with
    | cons r3 r4 => cases r4; exact ⟨_, _, rfl, r1, r3⟩
theorem call_min2 (hc : X.calm = true) : CallR X (.builtin "min") (fun xs H Q => ∃ i j, xs = [.int i, .int j] ∧ Q (.int (if j < i then j else i)) H) := by
  intro pins s σ H xs us Q I r h
  obtain ⟨i, j, rfl, q⟩ := h
  obtain ⟨u, w', rfl, ⟨t, rfl⟩, ⟨t', rfl⟩⟩ := vals2 r
  refine min_two_ints (I.ok.hd hc) fun h' tk k => ⟨_, H, I.kept k, ?_, q⟩
  by_cases hj : j < i
  · rw [if_pos hj, if_pos hj]; exact ⟨_, rfl⟩
  · rw [if_neg hj, if_neg hj]; exact ⟨_, rfl⟩
theorem call_str_int : CallR X (.type "str") (fun xs H Q => ∃ i, xs = [.int i] ∧ i.natAbs.log2 < 1920 ∧ Q (.str (toString i)) H) := by
  intro pins s σ H xs us Q I r h
  obtain ⟨i, rfl, hz, q⟩ := h
  obtain ⟨u, rfl, t, rfl⟩ := vals1 r
  exact PySem.P.str_of_int hz ⟨.str _, H, I.tok _, ⟨_, rfl⟩, q⟩
end
end L2

namespace L2
open PySem PySem.Spec PyProof.Rows

structure ObjM (h : Heap) (x dx C : Addr) (mA : Str → Option Value) : Prop where
  obj : h.get? x = some (PySem.W.instObj C dx)
  ns : h.Ns1 dx mA
  ne : dx ≠ x

theorem lookIn_ns {h : Heap} {dx : Addr} {mA : Str → Option Value} (n : h.Ns1 dx mA) : ∃ od, h.get? dx = some od ∧ ∀ name, PySem.W.lookIn name od = some (mA name) := by
  obtain ⟨o, es, ep, ho, hd, hk, _, hm⟩ := n
  refine ⟨o, ho, fun name => ?_⟩
  have e := hm name
  unfold nsFind findBy at e
  rw [← Array.find?_toList] at e
  unfold PySem.W.lookIn
  rw [hd]
  dsimp only
  split
  · rename_i y q
    rw [q] at e
    exact congrArg some e
  · rename_i q
    rw [q] at e
    have a : es.toList.any (·.refKey) = false := by
      rw [List.any_eq_false]
      intro y hy
      obtain ⟨z, t, hkey⟩ := hk y (Array.mem_toList_iff.mp hy)
      simp [DictEntry.refKey, hkey]
    have a' : ¬ es.toList.any (·.refKey) = true := by rw [a]; exact Bool.false_ne_true
    rw [if_neg a']
    exact congrArg some e

theorem ObjM.look {h : Heap} {x dx C : Addr} {mA : Str → Option Value} (I : ObjM h x dx C mA) : ∃ od, PySem.W.InstAt h x (PySem.W.instObj C dx) C (some od) ∧ ∀ name, PySem.W.lookIn name od = some (mA name) :=
  let ⟨od, ho, hl⟩ := lookIn_ns I.ns
  ⟨od, ⟨I.obj, rfl, rfl, ho⟩, hl⟩

section
variable {prog : Program} {w : World} {A : Around} {E : Value → Shared → Prop} {s : Shared} {K : PySem.W.Frag} {x dx C f : Addr} {mA : Str → Option Value} {name : Str} {v : Value}

end

section
variable {P : Program} {w : World} {H H' : Hp} {h h' : Heap} {a C dx : Addr} {fs fs' : List (Str × V)}
end

structure Cls (K : PySem.W.Frag) (C : Addr) : Prop where
  pg : PySem.W.plainGet K C Str.empty = true
  hd : PySem.W.hasDictIn K C = true
  po : PySem.W.plainOver K C = true
  sa : PySem.W.findIn K (.ref C) "__setattr__" = some (some (.builtin "object.__setattr__"))
theorem Cls.get {K : PySem.W.Frag} {C : Addr} (c : Cls K C) (f : Str) : PySem.W.plainGet K C f = true := c.pg
structure Con (K : PySem.W.Frag) (C : Addr) (f : Str) (v : V) (u : Value) : Prop where
  at_ : PySem.W.findIn K (.ref C) f = some (some u)
  rel : RelV v u
  get : PySem.W.specialIn K u "__get__" = some none
  cp : PySem.W.copiedNames.contains f = false
structure Meth (K : PySem.W.Frag) (C : Addr) (m : Str) (f : Addr) : Prop where
  at_ : PySem.W.findIn K (.ref C) m = some (some (.ref f))
  fn : PySem.W.isFn K (.ref f) = true
  kp : PySem.W.keepIn K (.ref f) = true

section
variable {X : Cx} {pins : List (Addr × Obj)} {σ : St} {H : Hp} {s : Shared} {a C dx : Addr} {fs : List (Str × V)} {f : Str} {v : V} {A : Around} {E : Value → Shared → Prop}

theorem Inv.made (I : Inv X pins σ H s) : Inv X pins σ (upd (upd H s.heap.objs.size (.own (s.heap.objs.size + 1))) (s.heap.objs.size + 1) (.ins C s.heap.objs.size []))
    { s with heap := (s.heap.push PySem.W.emptyDict).push (PySem.W.instObj C s.heap.objs.size) } := by
  have e1 : (s.heap.push PySem.W.emptyDict).get? s.heap.objs.size = some PySem.W.emptyDict := Heap.get?_push_size s.heap rfl
  have e2 : ((s.heap.push PySem.W.emptyDict).push (PySem.W.instObj C s.heap.objs.size)).get? (s.heap.objs.size + 1) = some (PySem.W.instObj C s.heap.objs.size) := by
    have := Heap.get?_push_size (s.heap.push PySem.W.emptyDict) (o := PySem.W.instObj C s.heap.objs.size) rfl
    rwa [Heap.size_push] at this
  have e3 : (s.heap.push PySem.W.emptyDict).Ns s.heap.objs.size (fun _ => none) := ⟨PySem.W.emptyDict, #[], _, e1, rfl, (fun e he => absurd he (by simp)), fun _ => rfl⟩
  have I1 := I.laid (a := s.heap.objs.size) (o := .own (s.heap.objs.size + 1)) (h' := s.heap.push PySem.W.emptyDict) (t' := s.toks) (fun b u q => Heap.get?_push_of_some _ q) (Nat.le_refl _) ⟨_, e1⟩
  refine I1.laid (a := s.heap.objs.size + 1) (o := .ins C s.heap.objs.size []) (t' := s.toks) (fun b u q => Heap.get?_push_of_some _ q) (Nat.le_of_eq (Heap.size_push _ _)) ?_
  have ne : s.heap.objs.size ≠ s.heap.objs.size + 1 := Nat.ne_of_lt (Nat.lt_succ_self _)
  refine ⟨by rw [upd_ne ne, upd_same], Nat.zero_le _, ne, e2, fun _ => none, (Heap.Ns1.of_empty e3).at fun o q => Heap.get?_push_of_some _ q, fun _ => True.intro, fun y hy => absurd rfl hy⟩

end

section
variable {X : Cx} {o e value : Expr} {f : Str} {pos pos' tpos : Pos} {ta tv : TE}
end

section
variable {X : Cx} {pins : List (Addr × Obj)} {σ : St} {H : Hp} {s : Shared} {A : Around} {E : Value → Shared → Prop} {Q : Value → Shared → Prop} {c : Value} {b : Bool}
inductive TyOf (K : PySem.W.Frag) (H : Hp) : V → Value → Prop where
  | non : TyOf K H .non (.type "NoneType")
  | bl (x : Bool) : TyOf K H (.bl x) (.type "bool")
  | int (i : Int) : TyOf K H (.int i) (.type "int")
  | str (x : Str) : TyOf K H (.str x) (.type "str")
  | flt (x : UInt64) : TyOf K H (.flt x) (.type "float")
  | lst {a : Addr} {xs : List V} (e : H a = some (.lst xs)) : TyOf K H (.ref a) (.type "list")
  | frz {a : Addr} {o : Obj} {xs : List V} (e : H a = some (.frz o (.lst xs))) : TyOf K H (.ref a) (.type "list")
  | tup {a : Addr} {xs : List V} (e : H a = some (.tup xs)) : TyOf K H (.ref a) (.type "tuple")
  | dK {a : Addr} {kvs : List (Key × V)} (e : H a = some (.dK kvs)) : TyOf K H (.ref a) (.type "dict")
  | dT {a : Addr} {kvs : List (List Key × V)} (e : H a = some (.dT kvs)) : TyOf K H (.ref a) (.type "dict")
  | ins {a C dx : Addr} {fs : List (Str × V)} (e : H a = some (.ins C dx fs)) (cl : Cls K C) (ha : PySem.W.findIn K (.ref C) "__class__" = some (some (.builtin "object.__class__")))
      (hn : PySem.W.specialIn K (.builtin "object.__class__") "__get__" = some (some (.builtin "getset_descriptor.__get__"))) (htk : PySem.W.takesIn K (.builtin "object.__class__") = some true)
      (hm : PySem.W.mroIn K C (.type "object") = some true) : TyOf K H (.ref a) (.ref C)
end
end L2

namespace L2
open PySem PySem.Spec PyProof.Rows

structure Room (k : Nat) (A : Around) : Prop where
  hd : A.handled = none
  dp : A.depth + 3 * k + 5 < recursionLimit
  un : A.units + 16 * k + 200 < cLine
theorem Room.mono {j k : Nat} {A : Around} (r : Room k A) (h : j ≤ k) : Room j A := ⟨r.hd, by have := r.dp; omega, by have := r.un; omega⟩
theorem Room.deeper {k : Nat} {A : Around} (r : Room (k + 1) A) (env : Env) : Room k (A.deeper env) :=
  ⟨r.hd, by have := r.dp; show A.depth + 1 + 3 * k + 5 < _; omega, by have := r.un; show A.units + 3 + 16 * k + 200 < _; omega⟩
theorem Room.in1 {k : Nat} {A : Around} (r : Room (k + 1) A) : Room k A.in1 :=
  ⟨r.hd, by have := r.dp; show A.depth + 3 * k + 5 < _; omega, by have := r.un; show A.units + 1 + 16 * k + 200 < _; omega⟩
theorem Room.depth {k : Nat} {A : Around} (r : Room k A) : A.depth < recursionLimit := by have := r.dp; omega
theorem Room.units {k : Nat} {A : Around} (r : Room k A) : A.units + 64 < cLine := by have := r.un; omega
def tNil : TA := fun _ H Q => Q [] H
def tCons (ta : TE) (tr : TA) : TA := fun σ H Q => ta σ H fun x H1 => tr σ H1 fun xs H2 => Q (x :: xs) H2
section
variable {X : Cx} {e : Expr} {es : List Expr} {te : TE} {t : TA} {pos : Pos}
theorem pa_nil : PA X [] tNil := fun _ _ _ _ H Q I h => Calls.spliced_nil ⟨[], H, I, .nil, h⟩
theorem pa_cons (ha : PE X e te) (hr : PA X es t) (hs : starEach (e :: es) X.env = (false, eval e X.env) :: starEach es X.env := by rfl) : PA X (e :: es) (tCons te t) := by
  intro pos pins s σ H Q I h
  rw [hs]
  show wpAny _ _ (spliced ((false, eval e X.env) :: backTo pos (starEach es X.env))) _ _ s
  refine Calls.spliced_cons (thn (ha pins s σ H _ I h) fun u s1 ⟨x, H1, I1, r1, q1⟩ => ?_)
  exact thn (hr pos pins s1 σ H1 _ I1 q1) fun us s2 ⟨xs, H2, I2, r2, q2⟩ => ⟨x :: xs, H2, I2, .cons r1 r2, q2⟩

def tTup (t : TA) : TE := fun σ H Q => t σ H fun xs H1 => xs.length ≤ sizeLine ∧ ∀ p, H1 p = none → Q (.ref p) (upd H1 p (.tup xs))
def tLst (t : TA) : TE := fun σ H Q => t σ H fun xs H1 => xs.length ≤ sizeLine ∧ ∀ p, H1 p = none → Q (.ref p) (upd H1 p (.lst xs))
theorem pe_tup {x1} (h : PA X es t) : PE X (.Tuple es x1 pos) (tTup t) := by
  intro pins s σ H Q I hq
  refine wpAny_Tuple_spliced (thn (h pos pins s σ H _ I hq) fun us s1 ⟨xs, H1, I1, r, z, q⟩ => ⟨by rw [← r.length]; exact z, ?_⟩)
  have hf : H1 s1.heap.objs.size = none := I1.hok.fresh (Nat.le_refl _)
  refine ⟨.ref s1.heap.objs.size, upd H1 s1.heap.objs.size (.tup xs), I1.laid (t' := s1.toks) (fun b u e => Heap.get?_push_of_some _ e) (Nat.le_refl _) ?_, rfl, q _ hf⟩
  exact ⟨z, us, r, ⟨_, Heap.get?_push_size _ rfl, rfl, _, rfl⟩⟩
theorem pe_lst (h : PA X es t) : PE X (.List es pos) (tLst t) := by
  intro pins s σ H Q I hq
  refine wpAny_List_spliced (thn (h pos pins s σ H _ I hq) fun us s1 ⟨xs, H1, I1, r, z, q⟩ => ⟨by rw [← r.length]; exact z, ?_⟩)
  have hf : H1 s1.heap.objs.size = none := I1.hok.fresh (Nat.le_refl _)
  refine ⟨.ref s1.heap.objs.size, upd H1 s1.heap.objs.size (.lst xs), I1.laid (t' := s1.toks) (fun b u e => Heap.get?_push_of_some _ e) (Nat.le_refl _) ?_, rfl, q _ hf⟩
  exact ⟨z, us, 0, r, Heap.get?_push_size _ rfl⟩
end

abbrev Sp := List V → Hp → VK → XK → Prop
abbrev CXT := List Env → Hp → Shared → XK → Value → Shared → Prop

structure Env0 (P : Program) (w : World) (K : PySem.W.Frag) (mg : Str → Option Value) (base : Heap) (A : Around) (outer : List Env) (s : Shared) (H : Hp) : Prop where
  frames : A.frames = some outer
  mod : Mod K mg base
  bs : ∀ b o, base.get? b = some o → s.heap.get? b = some o ∧ H b = none
  bsz : base.objs.size ≤ s.heap.objs.size
  funs : s.heap.FunFrames base outer
  frf : ∀ b ∈ frs outer, H b = none
  hok : HOk P w H s.heap
  bare : AllBare s.gens
def CE (outer : List Env) (P : Program) (w : World) (H : Hp) (s : Shared) (Q : VK) (u : Value) (s' : Shared) : Prop :=
  ∃ v H', s'.os = s.os ∧ AllBare s'.gens ∧ Un (frs outer) [] H H' s.heap s'.heap ∧ HOk P w H' s'.heap ∧ RelV v u ∧ Q v H'
def CR (CX : CXT) (outer : List Env) (P : Program) (w : World) (H : Hp) (s : Shared) (Q : VK) (E : XK) (r : Result) (s' : Shared) : Prop :=
  match r with
  | .ok (.ret u) => CE outer P w H s Q u s'
  | .ok _ => False
  | .error e => CX outer H s E e s'
structure FnOk (P : Program) (w : World) (K : PySem.W.Frag) (mg : Str → Option Value) (base : Heap) (CX : CXT) (k : Nat) (f : Addr) (fd : FuncData) (ps : List Str) (sp : Sp) : Prop where
  len : ∀ vs H Q E, sp vs H Q E → vs.length = ps.length
  run : ∀ (A : Around) (outer : List Env) (s : Shared) (H : Hp) (args : Args) (us : List Value) (vs : List V) (Q : VK) (E : XK), Room k A → Env0 P w K mg base A outer s H → BindsTo s fd args (ps.zip us) → Vals vs us → sp vs H Q E →
    codeAny (model P w) A (.call (.ref f) args) (CR CX outer P w H s Q E) s
theorem FnOk.mono {P : Program} {w : World} {K : PySem.W.Frag} {mg : Str → Option Value} {base : Heap} {CX : CXT} {j k : Nat} {f : Addr} {fd : FuncData} {ps : List Str} {sp : Sp} (F : FnOk P w K mg base CX j f fd ps sp) (h : j ≤ k) :
    FnOk P w K mg base CX k f fd ps sp := ⟨F.len, fun A outer s H args us vs Q E hr => F.run A outer s H args us vs Q E (hr.mono h)⟩
theorem Env0.in1 {P : Program} {w : World} {K : PySem.W.Frag} {mg : Str → Option Value} {base : Heap} {A : Around} {outer : List Env} {s : Shared} {H : Hp} (e : Env0 P w K mg base A outer s H) :
    Env0 P w K mg base A.in1 outer s H := ⟨e.frames, e.mod, e.bs, e.bsz, e.funs, e.frf, e.hok, e.bare⟩

section
variable {X : Cx} {pins : List (Addr × Obj)} {σ : St} {H : Hp} {s s' : Shared}
theorem Inv.env0 (I : Inv X pins σ H s) : Env0 X.prog X.w X.K X.mg X.base X.A X.stack s H :=
  ⟨I.ok.frames, I.ok.mod, I.bs, Nat.le_trans I.ok.bsz I.sz, I.stack, I.stkFree, I.hok, I.bare⟩
theorem Inv.after {Q : VK} {u : Value} (I : Inv X pins σ H s) (h : CE X.stack X.prog X.w H s Q u s') : EP X pins σ Q u s' := by
  obtain ⟨v, H', os, bare, un, hok, r, q⟩ := h
  obtain ⟨hh, g, d, t, os'⟩ := s'
  obtain rfl : os' = s.os := os
  exact ⟨v, H', I.call (h' := hh) (g' := g) (d' := d) (t' := t) (ch := []) un hok bare (fun b z => absurd z (by simp)), r, q⟩
end

def tCall (sp : Sp) (dvs : List V) (E : XK) (t : TA) : TE := fun σ H Q => t σ H fun vs H1 => sp (vs ++ dvs) H1 Q E
def Binds (K : PySem.W.Frag) (fd : FuncData) (ps : List Str) (ds : List Value) : Prop :=
  ∀ (s : Shared) (us : List Value), K.In s.heap → (us ++ ds).length = ps.length → BindsTo s fd ⟨us, []⟩ (ps.zip (us ++ ds))
theorem Binds.all {K : PySem.W.Frag} {fd : FuncData} {ps : List Str} (h : ∀ us : List Value, us.length = ps.length → bindArgs fd ⟨us, []⟩ = pure (ps.zip us)) : Binds K fd ps [] := fun s us _ hl => by
  rw [List.append_nil] at hl ⊢
  exact .of_eq (h us hl)

def Passes (CX : CXT) (X : Cx) (E : XK) : Prop := ∀ (pins : List (Addr × Obj)) (σ : St) (H : Hp) (s : Shared) (e : Value) (s' : Shared), Inv X pins σ H s → CX X.stack H s E e s' → X.xe e s'

section
variable {X : Cx} {CX : CXT} {k : Nat} {f C : Addr} {fd : FuncData} {ps : List Str} {sp : Sp} {dvs : List V} {ds : List Value} {E : XK} {x m : Str} {p pos apos : Pos} {e o : Expr} {es : List Expr} {ta : TE} {t : TA}

theorem run_fn {pins : List (Addr × Obj)} {σ : St} {H : Hp} {s : Shared} {Q : VK} {us : List Value} {vs : List V} (F : FnOk X.prog X.w X.K X.mg X.base CX k f fd ps sp) (hr : Room k X.A) (hb : Binds X.K fd ps ds) (hd : Vals dvs ds) (hx : Passes CX X E)
    (I : Inv X pins σ H s) (r : Vals vs us) (h : sp (vs ++ dvs) H Q E) : wpAny (model X.prog X.w) X.A (call (.ref f) us) (EP X pins σ Q) X.xe s := by
  have r2 : Vals (vs ++ dvs) (us ++ ds) := r.append hd
  have hl : (us ++ ds).length = ps.length := by rw [← r2.length]; exact F.len _ _ _ _ h
  refine wpAny_call (codeAny_mono (F.run X.A X.stack s H ⟨us, []⟩ (us ++ ds) (vs ++ dvs) Q E hr I.env0 (hb s us I.kIn hl) r2 h) fun r s' hq => ?_)
  cases r with
  | error e => exact hx pins σ H s e s' I hq
  | ok fl =>
    cases fl with
    | ret u => exact I.after hq
    | next => exact False.elim hq
    | brk => exact False.elim hq
    | cont => exact False.elim hq

theorem pe_call (F : FnOk X.prog X.w X.K X.mg X.base CX k f fd ps sp) (hr : Room k X.A) (hg : Gl X x) (hm : X.mg x = some (.ref f)) (hk : PySem.W.keepIn X.K (.ref f) = true) (hb : Binds X.K fd ps ds) (hd : Vals dvs ds) (hx : Passes CX X E)
    (ha : PA X (e :: es) t) (hdb : (x == ("__debug__" : Str)) = false := by decide) (he : starEach (e :: es) X.env = (false, eval e X.env) :: starEach es X.env := by rfl) (hpl : (backTo pos (starEach es X.env)).any (·.1) = false := by rfl) :
    PE X (.Call (.Name x p) (e :: es) [] pos) (tCall sp dvs E t) := by
  intro pins s σ H Q I h
  refine wpAny_Call_Name_kw (ld_glob I hg hm ?_ hdb)
  refine PySem.W.callWith_K (h₀ := X.base) I.ok.mod.kin hk (thn (ha pos pins s σ H _ I h) fun us s1 ⟨vs, H1, I1, r, q⟩ => ⟨I1.kIn, ?_⟩) he hpl
  exact run_fn F hr hb hd hx I1 r q
structure Mk (K : PySem.W.Frag) (C f : Addr) : Prop where
  makes : PySem.W.makesIn K C = true
  init : PySem.W.findIn K (.ref C) "__init__" = some (some (.ref f))
  fn : PySem.W.isFn K (.ref f) = true
  kp : PySem.W.keepIn K (.ref C) = true

end

def PK (X : Cx) (kws : List Keyword) (t : TA) : Prop :=
  ∀ (pos : Pos) (pins : List (Addr × Obj)) (s : Shared) (σ : St) (H : Hp) (Q : List V → Hp → Prop), Inv X pins σ H s → t σ H Q → wpAny (model X.prog X.w) X.A (evalAll ((backToKw pos (keywordEach kws X.env)).map (·.2))) (AP X pins σ Q) X.xe s
section
variable {X : Cx} {CX : CXT} {k : Nat} {f C : Addr} {fd : FuncData} {ps ks : List Str} {sp : Sp} {E : XK} {x m : Str} {p pos apos kpos : Pos} {e o : Expr} {es : List Expr} {kws : List Keyword} {te ta : TE} {t tk : TA} {nm : Option Str}
theorem pk_nil : PK X [] tNil := fun _ _ _ _ H Q I h => wpAny_evalAll_nil ⟨[], H, I, .nil, h⟩
theorem pk_cons (ha : PE X e te) (hr : PK X kws t) : PK X (⟨nm, e, kpos⟩ :: kws) (tCons te t) := by
  intro pos pins s σ H Q I h
  show wpAny _ _ (evalAll ((do let v ← eval e X.env; standAt pos; pure v) :: (backToKw pos (keywordEach kws X.env)).map (·.2))) _ _ s
  refine wpAny_evalAll_cons (wpAny_bind (thn (ha pins s σ H _ I h) fun u s1 ⟨x, H1, I1, r1, q1⟩ => wpAny_bind (wpAny_standAt (wpAny_pure ?_))))
  exact thn (hr pos pins s1 σ H1 _ I1 q1) fun us s2 ⟨xs, H2, I2, r2, q2⟩ => ⟨x :: xs, H2, I2, .cons r1 r2, q2⟩

structure KBinds (K : PySem.W.Frag) (fd : FuncData) (ps ks : List Str) (g : List Value → List Value → List Value) (gV : List V → List V → List V) : Prop where
  to : ∀ (s : Shared) (us ws : List Value), K.In s.heap → (g us ws).length = ps.length → BindsTo s fd ⟨us, ks.zip ws⟩ (ps.zip (g us ws))
  rel : ∀ {vs : List V} {us : List Value} {zs : List V} {ws : List Value}, Vals vs us → Vals zs ws → Vals (gV vs zs) (g us ws)
variable {g : List Value → List Value → List Value} {gV : List V → List V → List V}
end

structure FnScope (N P : List Str) (sc : Scope) : Prop where
  kind : sc.kind = .function
  co : sc.isCoroutine = false
  gen : sc.isGenerator = false
  nd : N.Nodup
  pre : N.take P.length = P
  par : ∀ x ∈ P, sc.names.lookup x = some .local ∨ sc.names.lookup x = some .cell
  nofree : ∀ y ∈ sc.names, y.2 ≠ .free

theorem bindL_out {kindOf : Str → Option NameKind} {x : Str} : ∀ {binds : List (Str × Value)} {m : Str → Option Value}, (∀ v, (x, v) ∉ binds) → bindL kindOf binds m x = m x
  | [], _, _ => rfl
  | (n, v) :: r, m, h => by
    unfold bindL
    rw [bindL_out fun w hw => h w (List.mem_cons_of_mem _ hw)]
    split
    · have : x ≠ n := by rintro rfl; exact h v List.mem_cons_self
      simp [this]
    · rfl
theorem bindC_out {kindOf : Str → Option NameKind} {x : Str} : ∀ {binds : List (Str × Value)} {m : Str → Option Value}, (∀ v, (x, v) ∉ binds) → bindC kindOf binds m x = m x
  | [], _, _ => rfl
  | (n, v) :: r, m, h => by
    unfold bindC
    rw [bindC_out fun w hw => h w (List.mem_cons_of_mem _ hw)]
    split
    · rfl
    · have : x ≠ n := by rintro rfl; exact h v List.mem_cons_self
      simp [this]
theorem bindL_get {kindOf : Str → Option NameKind} {x : Str} {v : Value} : ∀ {P : List Str} {vs : List Value} {i : Nat} {m : Str → Option Value}, P.Nodup → P[i]? = some x → vs[i]? = some v → kindOf x = some .local →
    bindL kindOf (P.zip vs) m x = some v
  | [], _, _, _, _, h, _, _ => by simp at h
  | _ :: _, [], _, _, _, _, h, _ => by simp at h
  | p :: P, w :: vs, 0, m, nd, h1, h2, hk => by
    simp at h1 h2; subst h1; subst h2
    show bindL kindOf ((p, w) :: P.zip vs) m p = _
    unfold bindL
    rw [bindL_out fun v hv => (List.nodup_cons.mp nd).1 (List.of_mem_zip hv).1, if_pos hk]
    simp
  | p :: P, w :: vs, i + 1, m, nd, h1, h2, hk => by
    show bindL kindOf ((p, w) :: P.zip vs) m x = _
    unfold bindL
    exact bindL_get (i := i) (List.nodup_cons.mp nd).2 (by simpa using h1) (by simpa using h2) hk
theorem bindC_get {kindOf : Str → Option NameKind} {x : Str} {v : Value} : ∀ {P : List Str} {vs : List Value} {i : Nat} {m : Str → Option Value}, P.Nodup → P[i]? = some x → vs[i]? = some v → kindOf x ≠ some .local →
    bindC kindOf (P.zip vs) m x = some v
  | [], _, _, _, _, h, _, _ => by simp at h
  | _ :: _, [], _, _, _, _, h, _ => by simp at h
  | p :: P, w :: vs, 0, m, nd, h1, h2, hk => by
    simp at h1 h2; subst h1; subst h2
    show bindC kindOf ((p, w) :: P.zip vs) m p = _
    unfold bindC
    rw [bindC_out fun v hv => (List.nodup_cons.mp nd).1 (List.of_mem_zip hv).1, if_neg hk]
    simp
  | p :: P, w :: vs, i + 1, m, nd, h1, h2, hk => by
    show bindC kindOf ((p, w) :: P.zip vs) m x = _
    unfold bindC
    exact bindC_get (i := i) (List.nodup_cons.mp nd).2 (by simpa using h1) (by simpa using h2) hk

def start (N : List Str) (vs : List V) : St := vs.map some ++ List.replicate (N.length - vs.length) none

def cxOf (CX : CXT) (P : Program) (w : World) (K : PySem.W.Frag) (mg : Str → Option Value) (base : Heap) (N : List Str) (qual : Str) (scope : Scope) (f : Addr) (cd : Value) (A : Around) (outer : List Env) (s : Shared) (H : Hp) (E : XK) : Cx where
  prog := P
  w := w
  K := K
  mg := mg
  base := base
  A := A.deeper (envOfC qual scope s.heap.objs.size f cd)
  N := N
  s₀ := s
  H₀ := H
  env := envOfC qual scope s.heap.objs.size f cd
  outer := outer
  stack := envOfC qual scope s.heap.objs.size f cd :: outer
  ex := []
  calm := true
  fn := fun _ => true
  pn := []
  xe := fun e s' => wpAny (model P w) (A.deeper (envOfC qual scope s.heap.objs.size f cd)) (leaving (envOfC qual scope s.heap.objs.size f cd) e) (fun _ s'' => CX outer H s E e s'') (fun e' s'' => CX outer H s E e' s'') s'

theorem cell_has {sc : Scope} {n : Nat} {x : Str} (h : sc.names.lookup x = some .cell) : ∃ c, (cellsFrom n sc.names []).lookup x = some c := by
  have q := PySem.W.cellsFrom_some sc.names n [] (.inl h)
  exact Option.isSome_iff_exists.mp q

theorem inv_start {CX : CXT} {P : Program} {w : World} {K : PySem.W.Frag} {mg : Str → Option Value} {base : Heap} {N ps : List Str} {qual : Str} {scope : Scope} {f : Addr} {cd : Value} {A : Around} {outer : List Env} {s s1 : Shared} {H : Hp} {E : XK} {us : List Value} {vs : List V}
    (S : FnScope N ps scope) (hd : A.handled = none) (e0 : Env0 P w K mg base A outer s H) (hl : vs.length = ps.length) (r : Vals vs us)
    (x : InCallC s s.heap.objs.size (bindL (envOfC qual scope s.heap.objs.size f cd).kindOf (ps.zip us) fun _ => none) (cellsFrom (s.heap.objs.size + 1) scope.names []) (bindC (envOfC qual scope s.heap.objs.size f cd).kindOf (ps.zip us) fun _ => none) s1) :
    Inv (cxOf CX P w K mg base N qual scope f cd A outer s H E) [] (start N vs) H s1 := by
  have hpl : ps.length ≤ N.length := by have := congrArg List.length S.pre; rw [List.length_take] at this; omega
  obtain ⟨h1, tk, rfl, hk⟩ := x.done
  have noA : ∀ b : Addr, b ∉ (cxOf CX P w K mg base N qual scope f cd A outer s H E).ex := fun b z => absurd (show b ∈ ([] : List Addr) from z) (by simp)
  refine ⟨⟨e0.mod, S.kind, rfl, rfl, Nat.le_refl _, fun y z c h1 h2 => ?_, fun y hy => ?_, fun y c _ h => ?_, fun _ => hd, Around.frames_deeper e0.frames, .inr ⟨rfl, rfl⟩, fun b z => absurd z (noA b), e0.bs, e0.bsz, fun b _ _ => noA b, fun b z => absurd z (noA b), e0.funs, e0.frf⟩,
    rfl, e0.bare, Un.kept hk, ⟨_, x.toInCall.ns, fun i y v h1 h2 h3 => ?_⟩, fun y c h => ⟨_, x.cell y c h⟩, e0.hok.fresh (Nat.le_refl _), fun y c h => ?_, fun p hp => absurd (show p ∈ ([] : List (Addr × Obj)) from hp) (by simp), e0.hok.kept hk, ?_⟩
  · exact name_of_addr x.apart (PySem.mem_of_lookup h1) (PySem.mem_of_lookup h2)
  · have hy : scope.names.lookup y = some .cell ∨ scope.names.lookup y = some .free := hy
    rcases hy with hy | hy
    · exact cell_has hy
    · exact absurd rfl (S.nofree _ (PySem.mem_of_lookup hy))
  · exact Nat.le_of_lt (x.above y c (PySem.mem_of_lookup h))
  · have hi : i < vs.length := by
      unfold start at h2
      by_cases hi : i < vs.length
      · exact hi
      · rw [List.getElem?_append_right (by simpa using hi)] at h2
        rw [List.getElem?_replicate] at h2
        split at h2 <;> cases h2
    have ha : vs[i]? = some v := by
      unfold start at h2
      rw [List.getElem?_append_left (by simpa using hi), List.getElem?_map] at h2
      cases e : vs[i]? with
      | none => rw [e] at h2; cases h2
      | some a => rw [e] at h2; cases h2; rfl
    obtain ⟨u, hu, rv⟩ := r.get ha
    have hp : ps[i]? = some y := by
      rw [← S.pre, List.getElem?_take_of_lt (by omega)]; exact h1
    have ndP : ps.Nodup := by rw [← S.pre]; exact S.nd.sublist (List.take_sublist _ _)
    refine ⟨u, rv, ?_⟩
    rcases S.par y (List.mem_of_getElem? hp) with k | k
    · exact .inl ⟨k, bindL_get ndP hp hu k⟩
    · obtain ⟨c, e⟩ := cell_has (n := s.heap.objs.size + 1) k
      refine .inr ⟨.inl k, c, e, ?_⟩
      have q := x.cell y c e
      rw [bindC_get ndP hp hu (by show scope.names.lookup y ≠ _; rw [k]; decide)] at q
      exact q
  · exact e0.hok.fresh (Nat.le_of_lt (x.above y c (PySem.mem_of_lookup h)))
  · unfold start
    show _ = N.length
    rw [List.length_append, List.length_map, List.length_replicate]
    omega

theorem fn_of {CX : CXT} {P : Program} {w : World} {K : PySem.W.Frag} {mg : Str → Option Value} {base : Heap} {k : Nat} {f : Addr} {name qual : Str} {params : Arguments} {body : List Stmt} {scope : Scope} {dV kV doc pm cdv ct oc : Value} {an od : Option Addr}
    {osl : Array (Option Value)} {N ps : List Str} {sp : Sp} (lk : K.lookup f = some ⟨oc, od, .func (PySem.W.fnOf name qual params body scope dV kV doc pm an cdv ct), osl⟩) (hcd : PySem.W.codeIn K cdv qual = true) (S : FnScope N ps scope)
    (len : ∀ vs H Q E, sp vs H Q E → vs.length = ps.length)
    (hbody : ∀ (A : Around) (outer : List Env) (s : Shared) (H : Hp) (vs : List V) (Q : VK) (E : XK), Room k (A.deeper (envOfC qual scope s.heap.objs.size f cdv)) → sp vs H Q E →
      ∃ t, PSs (cxOf CX P w K mg base N qual scope f cdv A outer s H E) body t ∧ t { nx := fun _ H' => Q .non H', rt := Q } (start N vs) H) :
    FnOk P w K mg base CX (k + 1) f (PySem.W.fnOf name qual params body scope dV kV doc pm an cdv ct) ps sp := by
  refine ⟨len, fun A outer s H args us vs Q E hr e0 hb r hsp => ?_⟩
  have hl := len _ _ _ _ hsp
  have KX : K.In s.heap := e0.mod.kin.keeps fun b o e => (e0.bs b o e).1
  have lim : s.heap.NoLimit := e0.mod.nolimit.keeps fun b o e => (e0.bs b o e).1
  have hkind : ∀ y ∈ ps.zip us, scope.names.lookup y.1 = some .local ∨ (scope.names.lookup y.1 = some .cell ∧ ((cellsFrom (s.heap.objs.size + 1) scope.names []).lookup y.1).isSome = true) := fun ⟨n, v⟩ hy => by
    rcases S.par n (List.of_mem_zip hy).1 with q | q
    · exact .inl q
    · exact .inr ⟨q, PySem.W.cellsFrom_some _ _ _ (.inl q)⟩
  refine codeAny_call_function hr.depth (KX _ _ lk) rfl S.co S.gen rfl (PySem.W.codeRec_of KX hcd) (hb _ _ _ _ ?_)
  refine wpAny_newFunctionEnv_cells S.kind hkind fun env he s1 x => ?_
  subst he
  refine ⟨lim.keeps x.toInCall.keep, codeAny_func ?_⟩
  obtain ⟨t, ht, hq⟩ := hbody A outer s H vs Q E (hr.deeper _) hsp
  have I : Inv (cxOf CX P w K mg base N qual scope f cdv A outer s H E) [] (start N vs) H s1 := inv_start S hr.hd e0 hl r x
  refine wpAny_mono (ht [] s1 (start N vs) H _ I hq) (fun fl s' hs => ?_) fun e s' hs => hs
  have fin : ∀ {σ' : St} {H' : Hp} {v : V} {u : Value}, Inv (cxOf CX P w K mg base N qual scope f cdv A outer s H E) [] σ' H' s' → RelV v u → Q v H' → CE outer P w H s Q u s' :=
    fun {σ' H' v u} J rv q => ⟨v, H', J.os, J.bare, J.base, J.hok, rv, q⟩
  cases fl with
  | ret u =>
    obtain ⟨v, σ', H', J, rv, q⟩ := hs
    exact fin J rv q
  | next =>
    obtain ⟨σ', H', J, q⟩ := hs
    exact fin (v := V.non) (u := Value.none) J rfl q
  | brk =>
    obtain ⟨_, _, _, q⟩ := hs
    exact False.elim q
  | cont =>
    obtain ⟨_, _, _, q⟩ := hs
    exact False.elim q
end L2

namespace L2
open PySem PySem.Spec PyProof.Rows
section
variable {X : Cx} {x : Str} {p pos : Pos} {e : Expr} {es : List Expr} {t : TA} {id T : String} {r : List V → Hp → VK → Prop}

def tCB (r : List V → Hp → VK → Prop) (t : TA) : TE := fun σ H Q => t σ H fun vs H1 => r vs H1 Q
theorem pe_callB (hc : CallR X (.builtin id) r) (hg : Gl X x) (hm : X.mg x = none) (hv : bootBuiltins x = some (.builtin id)) (ha : PA X (e :: es) t) (hn : x ≠ "__name__" := by decide) (hdb : (x == ("__debug__" : Str)) = false := by decide)
    (he : starEach (e :: es) X.env = (false, eval e X.env) :: starEach es X.env := by rfl) (hpl : (backTo pos (starEach es X.env)).any (·.1) = false := by rfl) : PE X (.Call (.Name x p) (e :: es) [] pos) (tCB r t) := by
  intro pins s σ H Q I h
  refine wpAny_Call_Name_kw (ld_blt I hg hm hv ?_ hn hdb)
  exact PyProof.Rows.callWith_builtin1 (thn (ha pos pins s σ H _ I h) fun us s1 ⟨vs, H1, I1, r1, q1⟩ => hc pins s1 σ H1 vs us Q I1 r1 q1) he hpl
theorem pe_callTy (hc : CallR X (.type T) r) (hg : Gl X x) (hm : X.mg x = none) (hv : bootBuiltins x = some (.type T)) (ha : PA X (e :: es) t) (hn : x ≠ "__name__" := by decide) (hdb : (x == ("__debug__" : Str)) = false := by decide)
    (he : starEach (e :: es) X.env = (false, eval e X.env) :: starEach es X.env := by rfl) (hpl : (backTo pos (starEach es X.env)).any (·.1) = false := by rfl) : PE X (.Call (.Name x p) (e :: es) [] pos) (tCB r t) := by
  intro pins s σ H Q I h
  refine wpAny_Call_Name_kw (ld_blt I hg hm hv ?_ hn hdb)
  exact PyProof.Rows.callWith_type1 (thn (ha pos pins s σ H _ I h) fun us s1 ⟨vs, H1, I1, r1, q1⟩ => hc pins s1 σ H1 vs us Q I1 r1 q1) he hpl
end
end L2

namespace HT
open PySem PyProof.Rows

section
open PySem.SeqAt
open PySem.AutoSeq1 (wpAny_loadPart')
open PySem.MeetsSeq PySem.MeetsSeq2 PySem.MeetsSeq3

end

section
variable {prog : Program} {w : World} {A : Around} {E : Value → Shared → Prop} {s : Shared}

def sIx (n d : Nat) : Option Int → Nat
  | none => d
  | some v => if v < 0 then (v + (n : Int)).toNat else min v.toNat n
theorem sIx_le (n d : Nat) (hd : d ≤ n) (o : Option Int) : sIx n d o ≤ n := by
  cases o with
  | none => exact hd
  | some v =>
    show (if v < 0 then (v + (n : Int)).toNat else min v.toNat n) ≤ n
    by_cases hv : v < 0
    · rw [if_pos hv]; omega
    · rw [if_neg hv]; exact Nat.min_le_right _ _
theorem clip_eq (v : Int) (n d : Nat) : (if v < 0 then max (v + (n : Int)) 0 else min v (n : Int)) = ((sIx n d (some v) : Nat) : Int) := by
  show (if v < 0 then max (v + (n : Int)) 0 else min v (n : Int)) = (((if v < 0 then (v + (n : Int)).toNat else min v.toNat n) : Nat) : Int)
  by_cases hv : v < 0
  · simp only [if_pos hv]; omega
  · simp only [if_neg hv]; omega
theorem adjust_gen (lo hi : Option Int) (n : Nat) : Builtin.Slice.sliceAdjust lo hi 1 (n : Int) = (((sIx n 0 lo : Nat) : Int), ((sIx n n hi : Nat) : Int)) := by
  have h1 : ¬ ((1 : Int) < 0) := by omega
  unfold Builtin.Slice.sliceAdjust
  simp only [h1, if_false]
  refine Prod.ext ?_ ?_
  · cases lo with
    | none => rfl
    | some v => exact clip_eq v n 0
  · cases hi with
    | none => rfl
    | some v => exact clip_eq v n n
theorem places_gen (i j : Nat) : Builtin.Slice.slicePlaces (i : Int) (j : Int) 1 = j - i := by
  unfold Builtin.Slice.slicePlaces
  have h1 : (1 : Int) > 0 := by omega
  simp only [h1, if_true, Int.ediv_one]
  split <;> omega
theorem slicePart_ {v : Value} {o : Option Int} {Q : Option Int → Shared → Prop} (p : IsPart v o) (h : Q o s) : wpAny (model prog w) A (Builtin.Slice.slicePartIndex v) Q E s := by
  cases p with
  | none => exact slicePart_none h
  | int i t => exact slicePart_int h
theorem sliceApplied_gen {sl : Addr} {vl vu : Value} {lo hi : Option Int} {n : Nat} {Q : Int × Int × Nat → Shared → Prop} (hs : s.heap.IsSliceOf sl vl vu .none) (pl : IsPart vl lo) (pu : IsPart vu hi)
    (h : Q (((sIx n 0 lo : Nat) : Int), 1, sIx n n hi - sIx n 0 lo) s) : wpAny (model prog w) A (Builtin.Slice.sliceApplied (.ref sl) (pure (n : Int))) Q E s := by
  obtain ⟨os, hos, hcs, hds⟩ := id hs
  unfold Builtin.Slice.sliceApplied Builtin.Slice.sliceFields
  refine wpAny_bind (wpAny_bind (wpAny_field hos hds (x := vl) rfl (wpAny_bind (wpAny_field hos hds (x := vu) rfl (wpAny_bind (wpAny_field hos hds (x := .none) rfl (wpAny_pure ?_)))))))
  refine wpAny_bind (slicePart_none ?_)
  show wpAny _ _ (if ((1 : Int) == 0) = true then _ else _) _ _ s
  rw [if_neg (by decide)]
  refine wpAny_bind (slicePart_ pl (wpAny_bind (slicePart_ pu (wpAny_bind (wpAny_pure ?_)))))
  show wpAny _ _ (match Builtin.Slice.sliceAdjust lo hi 1 (n : Int) with | (lo, hi) => pure (lo, (1 : Int), Builtin.Slice.slicePlaces lo hi 1)) _ _ s
  rw [adjust_gen lo hi n]
  show wpAny _ _ (pure (((sIx n 0 lo : Nat) : Int), (1 : Int), Builtin.Slice.slicePlaces ((sIx n 0 lo : Nat) : Int) ((sIx n n hi : Nat) : Int) 1)) _ _ s
  rw [places_gen]
  exact wpAny_pure h
theorem pick_gen (xs : Array Value) (i k : Nat) : ((List.range k).filterMap fun (m : Nat) => xs[((i : Int) + (m : Int) * 1).toNat]?).toArray = ((xs.toList.drop i).take k).toArray := by
  have e : (fun (m : Nat) => xs[((i : Int) + (m : Int) * 1).toNat]?) = fun m => xs[i + m]? := by
    funext m
    have : ((i : Int) + (m : Int) * 1).toNat = i + m := by omega
    rw [this]
  rw [e]
  have := pick_run xs i k
  rw [List.filterMap_map] at this
  have e2 : ((fun x => xs[x]?) ∘ fun x => i + x) = fun m => xs[i + m]? := rfl
  rw [e2] at this
  rw [this]

theorem getItem_tuple_cut {t sl : Addr} {items : Array Value} {vl vu : Value} {lo hi : Option Int} {Q : Value → Shared → Prop} (ht : IsTup s.heap t items) (hs : s.heap.IsSliceOf sl vl vu .none) (pl : IsPart vl lo) (pu : IsPart vu hi)
    (hw : ¬ (sIx items.size 0 lo = 0 ∧ sIx items.size items.size hi = items.size))
    (h : Q (.ref s.heap.objs.size) { s with heap := s.heap.push { cls := .type "tuple", data := .seq ((items.toList.drop (sIx items.size 0 lo)).take (sIx items.size items.size hi - sIx items.size 0 lo)).toArray } })
    (hsz : items.size ≤ sizeLine) : wpAny (model prog w) A (getItem (.ref t) (.ref sl)) Q E s := by
  have htake : sizeOk (.seq ((items.toList.drop (sIx items.size 0 lo)).take (sIx items.size items.size hi - sIx items.size 0 lo)).toArray) := by
    show ((items.toList.drop (sIx items.size 0 lo)).take (sIx items.size items.size hi - sIx items.size 0 lo)).toArray.size ≤ sizeLine
    rw [List.size_toArray, List.length_take, List.length_drop, Array.length_toList]
    omega
  have hj : sIx items.size items.size hi ≤ items.size := sIx_le _ _ (Nat.le_refl _) hi
  obtain ⟨os, hos, hcs, hds⟩ := id hs
  have hTs : s.TypeIs (.ref sl) "slice" := ⟨os, hos, hcs⟩
  unfold getItem
  try with_reducible refine wpAny_holding ?_
  first | refine wpAny_bind (wpAny_pure ?_) | skip
  refine wpAny_bind (wpAny_sequenceKey ht.typeIs (by decide) ?_)
  refine wpAny_bind (wpAny_callSpecial?_slot (name := Str.ofString "__getitem__") ht.typeIs PyProof.Rows.slot_tuple_getitem
    (wpAny_call_entry PyProof.Rows.slot_tuple_getitem ht.typeIs entry_tuple_getitem ?_ (args_tuple_getitem _ _)))
  show wpAny _ _ (Builtin.Tuple.tupleItemsOf (.ref t) >>= _) _ _ s
  refine wpAny_bind (tupleItemsOf_ ht ?_)
  refine wpAny_bind (wpAny_typeOf hTs ?_)
  rw [if_pos (by decide)]
  refine wpAny_bind (sliceApplied_gen hs pl pu ?_)
  have hno : ¬ ((((sIx items.size 0 lo : Nat) : Int) == 0 && (1 : Int) == 1 && (sIx items.size items.size hi - sIx items.size 0 lo) == items.size) = true) := by
    intro q
    rw [Bool.and_eq_true, Bool.and_eq_true] at q
    have q1 : ((sIx items.size 0 lo : Nat) : Int) = 0 := eq_of_beq q.1.1
    have q2 : sIx items.size items.size hi - sIx items.size 0 lo = items.size := eq_of_beq q.2
    exact hw ⟨by omega, by omega⟩
  show wpAny _ _ (if (((sIx items.size 0 lo : Nat) : Int) == 0 && (1 : Int) == 1 && (sIx items.size items.size hi - sIx items.size 0 lo) == items.size) = true then _ else _) _ _ s
  rw [if_neg hno, pick_gen]
  first
    | exact wpAny_bind (m := Builtin.Tuple.tupleExact _) (wpAny_newObj_type (wpAny_pure ⟨_, rfl, wpAny_pure h⟩) htake)
    | exact wpAny_bind (m := Builtin.Tuple.tupleExact _) (wpAny_newObj_type (wpAny_bind (wpAny_pure (wpAny_pure ⟨_, rfl, wpAny_pure h⟩))) htake)
    | exact wpAny_bind (wpAny_bind (m := Builtin.Tuple.tupleExact _) (wpAny_newObj_type (wpAny_pure (wpAny_pure ⟨_, rfl, wpAny_pure h⟩)) htake))
    | exact wpAny_bind (wpAny_bind (m := Builtin.Tuple.tupleExact _) (wpAny_newObj_type (wpAny_pure ⟨_, rfl, wpAny_pure h⟩) htake))
end
end HT

namespace L2
open PySem PySem.Spec PyProof.Rows

abbrev TO := St → Hp → (Option Int → Hp → Prop) → Prop
def PO (X : Cx) (e : Option Expr) (t : TO) : Prop :=
  ∀ (pins : List (Addr × Obj)) (s : Shared) (σ : St) (H : Hp) (Q : Option Int → Hp → Prop), Inv X pins σ H s → t σ H Q →
    wpAny (model X.prog X.w) X.A (evalPart e X.env) (fun u s' => ∃ o H', Inv X pins σ H' s' ∧ IsPart u o ∧ Q o H') X.xe s
def tNoPart : TO := fun _ H Q => Q none H
def tPart (t : TE) : TO := fun σ H Q => t σ H fun x H1 => ∃ i, x = .int i ∧ Q (some i) H1

section
variable {X : Cx} {e : Expr} {te : TE} {lo hi : Option Expr} {tl th : TO} {pos p2 : Pos}

theorem po_none : PO X none tNoPart := by
  intro pins s σ H Q I h
  rw [evalPart_none]
  exact wpAny_pure ⟨none, H, I, .none, h⟩
theorem po_some (h : PE X e te) : PO X (some e) (tPart te) := by
  intro pins s σ H Q I hw
  rw [evalPart_some]
  refine thn (h pins s σ H _ I hw) fun u s1 ⟨x, H1, I1, r1, q1⟩ => ?_
  obtain ⟨i, rfl, q⟩ := q1
  obtain ⟨t, rfl⟩ := r1
  exact ⟨some i, H1, I1, .int i t, q⟩

def SlR (X : Cx) (r : V → Option Int → Option Int → Hp → VK → Prop) : Prop :=
  ∀ (pins : List (Addr × Obj)) (s : Shared) (σ : St) (H : Hp) (x : V) (v vl vu : Value) (lo hi : Option Int) (sl : Addr) (Q : VK), Inv X pins σ H s → RelV x v → s.heap.IsSliceOf sl vl vu .none → IsPart vl lo → IsPart vu hi → r x lo hi H Q →
    ∃ T id, typeLookup (.type T) "__getitem__" = pure (some (.builtin id)) ∧ s.TypeIs v T ∧ wpAny (model X.prog X.w) X.A (getItem v (.ref sl)) (EP X pins σ Q) X.xe s
theorem SlR.or {r r' : V → Option Int → Option Int → Hp → VK → Prop} (h : SlR X r) (h' : SlR X r') : SlR X (fun x lo hi H Q => r x lo hi H Q ∨ r' x lo hi H Q) := by
  intro pins s σ H x v vl vu lo hi sl Q I rx hs pl pu q
  rcases q with q | q
  · exact h pins s σ H x v vl vu lo hi sl Q I rx hs pl pu q
  · exact h' pins s σ H x v vl vu lo hi sl Q I rx hs pl pu q
def tSl (r : V → Option Int → Option Int → Hp → VK → Prop) (te : TE) (tl th : TO) : TE := fun σ H Q => te σ H fun x H1 => tl σ H1 fun l H2 => th σ H2 fun u H3 => r x l u H3 Q
theorem pe_slice {r : V → Option Int → Option Int → Hp → VK → Prop} (hr : SlR X r) (he : PE X e te) (hl : PO X lo tl) (hu : PO X hi th) : PE X (.Subscript e (.Slice lo hi none p2) pos) (tSl r te tl th) := by
  intro pins s σ H Q I h
  refine Subscript_ (thn (he pins s σ H _ I h) fun v s1 ⟨x, H1, I1, r1, q1⟩ => ?_)
  refine wpAny_Slice (thn (hl pins s1 σ H1 _ I1 q1) fun vl s2 ⟨l, H2, I2, pl, q2⟩ => thn (hu pins s2 σ H2 _ I2 q2) fun vu s3 ⟨u, H3, I3, pu, q3⟩ => ?_)
  rw [evalPart_none]
  refine wpAny_pure ?_
  have I4 : Inv X pins σ H3 { s3 with heap := s3.heap.push { cls := .type "slice", data := .fields #[vl, vu, .none] } } := I3.kept (t' := s3.toks) fun b ob q => Heap.get?_push_of_some _ q
  obtain ⟨T, id, hT, ht, hg⟩ := hr pins { s3 with heap := s3.heap.push { cls := .type "slice", data := .fields #[vl, vu, .none] } } σ H3 x v vl vu l u s3.heap.objs.size Q I4 r1 (Heap.IsSliceOf.new ..) pl pu q3
  show wpAny (model X.prog X.w) X.A (subscriptTail e (.Slice lo hi none p2) v (.ref s3.heap.objs.size)) (EP X pins σ Q) X.xe { s3 with heap := s3.heap.push { cls := .type "slice", data := .fields #[vl, vu, .none] } }
  exact tail_any (ops := [.ref s3.heap.objs.size, v]) ht hT hg (by with_unfolding_all rfl)

def cutV (xs : List V) (lo hi : Option Int) : List V := (xs.drop (HT.sIx xs.length 0 lo)).take (HT.sIx xs.length xs.length hi - HT.sIx xs.length 0 lo)
theorem cutV_length (xs : List V) (lo hi : Option Int) : (cutV xs lo hi).length ≤ xs.length := by
  unfold cutV
  rw [List.length_take, List.length_drop]
  omega
def rSlT (K : PySem.W.Frag) : V → Option Int → Option Int → Hp → VK → Prop := fun x lo hi H Q => ∃ a xs, x = .ref a ∧ SqT K H a xs ∧
  ¬ (HT.sIx xs.length 0 lo = 0 ∧ HT.sIx xs.length xs.length hi = xs.length) ∧ ∀ p, H p = none → Q (.ref p) (upd H p (.tup (cutV xs lo hi)))
theorem sl_tup : SlR X (rSlT X.K) := by
  intro pins s σ H x v vl vu lo hi sl Q I rx hs pl pu h
  obtain ⟨a, xs, rfl, hx, hw, q⟩ := h
  cases rx
  obtain ⟨its, r, ht, hz⟩ := I.tuple hx
  have hlen : its.toArray.size = xs.length := by rw [List.size_toArray]; exact r.length.symm
  refine ⟨"tuple", _, PyProof.Rows.slot_tuple_getitem.lookup, ht.typeIs, ?_⟩
  refine HT.getItem_tuple_cut ht hs pl pu (by rw [hlen]; exact hw) ?_ (by rw [hlen]; exact hz)
  rw [hlen]
  refine ⟨.ref s.heap.objs.size, _, I.laid (t' := s.toks) (o := .tup (cutV xs lo hi)) (fun b ob q => Heap.get?_push_of_some _ q) (Nat.le_refl _) ?_, rfl, q _ (I.hok.fresh (Nat.le_refl _))⟩
  exact ⟨Nat.le_trans (cutV_length xs lo hi) hz, _, (r.drop (HT.sIx xs.length 0 lo)).take (HT.sIx xs.length xs.length hi - HT.sIx xs.length 0 lo), IsTup.new _ _⟩

end
end L2

namespace L2
open PySem PySem.Spec PyProof.Rows

def ixN (n : Nat) (i : Int) : Option Nat := if 0 ≤ i then (if i < n then some i.toNat else none) else if -(n : Int) ≤ i then some (i + n).toNat else none
def atI {α : Type} (xs : List α) (i : Int) : Option α := (ixN xs.length i).bind fun j => xs[j]?
theorem ixN_seq {n : Nat} {i : Int} {j : Nat} (h : ixN n i = some j) : seqIndex? i n = some j ∧ j < n ∧ -(n : Int) ≤ i ∧ i < n := by
  unfold ixN at h
  by_cases h0 : 0 ≤ i
  · rw [if_pos h0] at h
    by_cases h1 : i < n
    · rw [if_pos h1] at h
      have e : i.toNat = j := Option.some.inj h
      exact ⟨by rw [seqIndex_of h0 h1, e], by omega, by omega, h1⟩
    · rw [if_neg h1] at h; cases h
  · rw [if_neg h0] at h
    by_cases h1 : -(n : Int) ≤ i
    · rw [if_pos h1] at h
      have e : (i + n).toNat = j := Option.some.inj h
      exact ⟨by rw [seqIndex_neg (by omega) h1, e], by omega, h1, by omega⟩
    · rw [if_neg h1] at h; cases h
theorem atI_get {α : Type} {xs : List α} {i : Int} {v : α} (h : atI xs i = some v) : ∃ j, seqIndex? i xs.length = some j ∧ xs[j]? = some v ∧ j < xs.length ∧ -(xs.length : Int) ≤ i ∧ i < xs.length := by
  unfold atI at h
  cases e : ixN xs.length i with
  | none => rw [e] at h; cases h
  | some j =>
    rw [e] at h
    obtain ⟨h1, h2, h3, h4⟩ := ixN_seq e
    exact ⟨j, h1, h, h2, h3, h4⟩
theorem atI_nat {α : Type} {xs : List α} {j : Nat} {v : α} (h : xs[j]? = some v) : atI xs (j : Int) = some v := by
  have hj : j < xs.length := (List.getElem?_eq_some_iff.mp h).1
  have e : ixN xs.length (j : Int) = some j := by
    unfold ixN
    rw [if_pos (by omega), if_pos (by omega)]; simp
  unfold atI; rw [e]; exact h
def PlainIx (b : Expr) : Prop := ∀ o i, subscripted b false o i = operate [o, i] (getItem o i)
def IxR (X : Cx) (r : R2) : Prop :=
  ∀ (value slice : Expr) (pins : List (Addr × Obj)) (s : Shared) (σ : St) (H : Hp) (x y : V) (v u : Value) (Q : VK), Inv X pins σ H s → RelV x v → RelV y u → r x y H Q →
    subscripted slice false v u = operate [v, u] (getItem v u) → wpAny (model X.prog X.w) X.A (subscriptTail value slice v u) (EP X pins σ Q) X.xe s
def MtR (X : Cx) (id : String) (r : V → List V → Hp → VK → Prop) : Prop :=
  ∀ (pins : List (Addr × Obj)) (s : Shared) (σ : St) (H : Hp) (x : V) (xs : List V) (v : Value) (us : List Value) (Q : VK), Inv X pins σ H s → RelV x v → Vals xs us → r x xs H Q →
    wpAny (model X.prog X.w) X.A (call (.builtin id) (v :: us)) (EP X pins σ Q) X.xe s
section
variable {X : Cx} {a b : Expr} {ta tb : TE} {pos : Pos}
theorem IxR.or {r r' : R2} (h : IxR X r) (h' : IxR X r') : IxR X (fun x y H Q => r x y H Q ∨ r' x y H Q) := by
  intro value slice pins s σ H x y v u Q I rx ry q hs
  rcases q with q | q
  · exact h value slice pins s σ H x y v u Q I rx ry q hs
  · exact h' value slice pins s σ H x y v u Q I rx ry q hs
theorem MtR.or {id : String} {r r' : V → List V → Hp → VK → Prop} (h : MtR X id r) (h' : MtR X id r') : MtR X id (fun x xs H Q => r x xs H Q ∨ r' x xs H Q) := by
  intro pins s σ H x xs v us Q I rx rs q
  rcases q with q | q
  · exact h pins s σ H x xs v us Q I rx rs q
  · exact h' pins s σ H x xs v us Q I rx rs q
theorem pe_ix {r : R2} (hr : IxR X r) (ha : PE X a ta) (hb : PE X b tb) (hs : PlainIx b) : PE X (.Subscript a b pos) (tOp r ta tb) := by
  intro pins s σ H Q I h
  exact Subscript_ (binT ha hb I h fun v u s2 x y H2 I2 rx ry q => hr a b pins s2 σ H2 x y v u Q I2 rx ry q (hs _ _))

def rIxL (K : PySem.W.Frag) : R2 := fun x y H Q => ∃ p xs i v, x = .ref p ∧ y = .int i ∧ SqL K H p xs ∧ atI xs i = some v ∧ Q v H
def rIxT (K : PySem.W.Frag) : R2 := fun x y H Q => ∃ p xs i v, x = .ref p ∧ y = .int i ∧ SqT K H p xs ∧ atI xs i = some v ∧ Q v H
def rIxS : R2 := fun x y H Q => ∃ z i c, x = .str z ∧ y = .int i ∧ z.length ≤ sizeLine ∧ atI z.cps.toList i = some c ∧ Q (.str ⟨#[c]⟩) H
theorem ix_list : IxR X (rIxL X.K) := by
  intro value slice pins s σ H x y v u Q I rx ry h hs
  obtain ⟨p, xs, i, z, rfl, rfl, hq, he, q⟩ := h
  cases rx
  obtain ⟨t, rfl⟩ := ry
  obtain ⟨its, r, pl, hz⟩ := I.list hq
  obtain ⟨j, h1, h2, h3, h4, h5⟩ := atI_get he
  obtain ⟨w, ew, rw'⟩ := r.get h2
  have hl := r.length
  have hn := line63
  have fin : EP X pins σ Q w s := ⟨z, H, I, rw', q⟩
  by_cases h0 : 0 ≤ i
  · have hj : i.toNat = j := by
      rw [seqIndex_of h0 h5] at h1
      exact Option.some.inj h1
    exact item_listR pl.isList h0 (by omega) (by rw [hj]; simpa using ew) fin hs
  · have hj : (i + (its.toArray.size : Int)).toNat = j := by
      rw [seqIndex_neg (by omega) h4] at h1
      rw [List.size_toArray, ← hl]
      exact Option.some.inj h1
    exact subscriptTail_builtinR (x := w) pl.isList.typeIs slot_list_getitem.lookup
      (wpAny_getItem_list_neg (Q := fun r s' => r = w ∧ EP X pins σ Q r s') pl.isList (by omega) (by rw [List.size_toArray] <;> omega) (by omega) (by rw [hj]; simpa using ew) ⟨rfl, fin⟩) hs
theorem ix_tup : IxR X (rIxT X.K) := by
  intro value slice pins s σ H x y v u Q I rx ry h hs
  obtain ⟨p, xs, i, z, rfl, rfl, hq, he, q⟩ := h
  cases rx
  obtain ⟨t, rfl⟩ := ry
  obtain ⟨its, r, pl, hz⟩ := I.tuple hq
  obtain ⟨j, h1, h2, h3, h4, h5⟩ := atI_get he
  obtain ⟨w, ew, rw'⟩ := r.get h2
  have hl := r.length
  have hn := line63
  have fin : EP X pins σ Q w s := ⟨z, H, I, rw', q⟩
  exact subscriptTail_builtinR (x := w) pl.typeIs slot_tuple_getitem.lookup
    (getItem_tuple (j := j) (Q := fun r s' => r = w ∧ EP X pins σ Q r s') pl (by omega) (by omega) (by rw [List.size_toArray, ← hl]; exact h1) (by simpa using ew) ⟨rfl, fin⟩) hs
theorem ix_str : IxR X rIxS := by
  intro value slice pins s σ H x y v u Q I rx ry h hs
  obtain ⟨z, i, c, rfl, rfl, hz, he, q⟩ := h
  obtain ⟨t, rfl⟩ := rx
  obtain ⟨t', rfl⟩ := ry
  obtain ⟨j, h1, h2, h3, h4, h5⟩ := atI_get he
  have hl : z.cps.toList.length = z.length := by simp [Str.length]
  rw [hl] at h1 h4 h5
  have hn := line63
  exact tail_any (typeIs_str s z t) slot_str_getitem.lookup (getItem_str (c := c) (by
    have e1 : decide (i < -(2 ^ 63 : Int)) = false := decide_eq_false (by omega)
    have e2 : decide (i ≥ 2 ^ 63) = false := decide_eq_false (by omega)
    rw [e1, e2, Bool.or_false]) (by rw [h1]; simpa using h2) ⟨.str ⟨#[c]⟩, H, I.tok _, ⟨_, rfl⟩, q⟩) hs
theorem Inv.lst {pins : List (Addr × Obj)} {σ : St} {H : Hp} {s : Shared} {p : Addr} {xs : List V} (I : Inv X pins σ H s) (h : H p = some (.lst xs)) :
    ∃ (its : List Value) (n : Nat), Vals xs its ∧ s.heap.get? p = some { cls := .type "list", data := .seq its.toArray n } ∧ xs.length ≤ sizeLine := by
  obtain ⟨z, its, n, r, e⟩ := I.hok p _ h
  exact ⟨its, n, r, e, z⟩
theorem slice_bounds (lo hi : Option Int) (n : Nat) : (sliceBounds lo hi none n).1 = ((HT.sIx n 0 lo : Nat) : Int) ∧ (sliceBounds lo hi none n).2.1 = ((HT.sIx n n hi : Nat) : Int) ∧ (sliceBounds lo hi none n).2.2 = 1 := by
  refine ⟨?_, ?_, rfl⟩
  · cases lo with
    | none => simp [sliceBounds, HT.sIx]
    | some i =>
      simp only [sliceBounds, HT.sIx, Option.getD_none, show (1 : Int) > 0 by decide, if_true]
      by_cases h : i < 0
      · simp only [h, if_true] <;> omega
      · simp only [h, if_false] <;> omega
  · cases hi with
    | none => simp [sliceBounds, HT.sIx]
    | some i =>
      simp only [sliceBounds, HT.sIx, Option.getD_none, show (1 : Int) > 0 by decide, if_true]
      by_cases h : i < 0
      · simp only [h, if_true] <;> omega
      · simp only [h, if_false] <;> omega
theorem slicePick_cut (its : List Value) (lo hi : Option Int) : slicePick its.toArray lo hi none = ((its.drop (HT.sIx its.length 0 lo)).take (HT.sIx its.length its.length hi - HT.sIx its.length 0 lo)).toArray := by
  obtain ⟨h1, h2, h3⟩ := slice_bounds lo hi its.toArray.size
  unfold slicePick
  rw [h1, h2, h3]
  simp only [sliceRange_one, pick_run, List.size_toArray] <;> rfl
def rSlL (K : PySem.W.Frag) : V → Option Int → Option Int → Hp → VK → Prop := fun x lo hi H Q => ∃ a xs, x = .ref a ∧ SqL K H a xs ∧ ∀ p, H p = none → Q (.ref p) (upd H p (.lst (cutV xs lo hi)))
theorem sl_list : SlR X (rSlL X.K) := by
  intro pins s σ H x v vl vu lo hi sl Q I rx hs pl pu h
  obtain ⟨a, xs, rfl, hx, q⟩ := h
  cases rx
  obtain ⟨its, r, ht, hz⟩ := I.list hx
  have hlen := r.length
  refine ⟨"list", _, slot_list_getitem.lookup, ht.isList.typeIs, ?_⟩
  refine wpAny_getItem_list_slice ht.isList hs pl pu .none (by simp) ?_ (by rw [List.size_toArray] <;> omega)
  rw [slicePick_cut, ← hlen]
  refine ⟨.ref s.heap.objs.size, _, I.laid (t' := s.toks) (o := .lst (cutV xs lo hi)) (fun b ob q => Heap.get?_push_of_some _ q) (Nat.le_refl _) ?_, rfl, q _ (I.hok.fresh (Nat.le_refl _))⟩
  exact ⟨Nat.le_trans (cutV_length xs lo hi) hz, _, 0, (r.drop (HT.sIx xs.length 0 lo)).take (HT.sIx xs.length xs.length hi - HT.sIx xs.length 0 lo), Heap.get?_push_size _ rfl⟩

theorem call_len_seq : CallR X (.builtin "len") (fun xs H Q => ∃ p ys, xs = [.ref p] ∧ (SqL X.K H p ys ∨ SqT X.K H p ys) ∧ Q (.int ys.length) H) := by
  intro pins s σ H xs us Q I r h
  obtain ⟨p, ys, rfl, hq, q⟩ := h
  obtain ⟨u, rfl, rx⟩ := vals1 r
  cases rx
  have hn := line63
  rcases hq with hq | hq
  · obtain ⟨its, r', pl, hz⟩ := I.list hq
    have hlen := r'.length
    exact Calls.call_len_list pl.isList (by simp only [List.size_toArray] <;> omega) ⟨.int ys.length, H, I.tok _, ⟨s.toks + 1, by rw [List.size_toArray, hlen]⟩, q⟩
  · obtain ⟨its, r', pl, hz⟩ := I.tuple hq
    have hlen := r'.length
    exact len_tuple pl (by simp only [List.size_toArray] <;> omega) ⟨.int ys.length, H, I.tok _, ⟨s.toks + 1, by rw [List.size_toArray, hlen]⟩, q⟩
theorem call_len_str : CallR X (.builtin "len") (fun xs H Q => ∃ z, xs = [.str z] ∧ z.length ≤ sizeLine ∧ Q (.int z.length) H) := by
  intro pins s σ H xs us Q I r h
  obtain ⟨z, rfl, hz, q⟩ := h
  obtain ⟨u, rfl, t, rfl⟩ := vals1 r
  have hn := line63
  exact len_str (by omega) ⟨.int z.length, H, I.tok _, ⟨_, rfl⟩, q⟩
theorem CallR.or {f : Value} {r r' : List V → Hp → VK → Prop} (h : CallR X f r) (h' : CallR X f r') : CallR X f (fun xs H Q => r xs H Q ∨ r' xs H Q) := by
  intro pins s σ H xs us Q I rs q
  rcases q with q | q
  · exact h pins s σ H xs us Q I rs q
  · exact h' pins s σ H xs us Q I rs q
theorem call_list_of : CallR X (.type "list") (fun xs H Q => ∃ p ys, xs = [.ref p] ∧ (SqL X.K H p ys ∨ SqT X.K H p ys) ∧ ∀ l, H l = none → Q (.ref l) (upd H l (.lst ys))) := by
  intro pins s σ H xs us Q I r h
  obtain ⟨p, ys, rfl, hq, q⟩ := h
  obtain ⟨u, rfl, rx⟩ := vals1 r
  cases rx
  have fin : ∀ (its : List Value), Vals ys its → ys.length ≤ sizeLine → ∀ (h' : Heap) (c' : Nat), (∀ b o', s.heap.get? b = some o' → h'.get? b = some o') →
      h'.get? s.heap.objs.size = some { cls := .type "list", dict := none, data := .seq its.toArray c', slots := #[] } → EP X pins σ Q (.ref s.heap.objs.size) { s with heap := h' } := fun its r' hz h' c' kp e =>
    ⟨.ref s.heap.objs.size, _, I.laid (t' := s.toks) kp (Nat.le_refl _) (show ObjOk X.prog X.w _ h' _ (.lst ys) from ⟨hz, its, c', r', e⟩), rfl, q _ (I.hok.fresh (Nat.le_refl _))⟩
  rcases hq with hq | hq
  · obtain ⟨its, r', pl, hz⟩ := I.list hq
    have hlen := r'.length
    obtain ⟨o, ho, hc, n, hd⟩ := pl.isList
    exact call_list_seq p (.inl rfl) ho hc hd (fun h' c' kp e => fin its r' hz h' c' kp e) (by simp only [List.size_toArray] <;> omega)
  · obtain ⟨its, r', pl, hz⟩ := I.tuple hq
    have hlen := r'.length
    obtain ⟨o, ho, hc, n, hd⟩ := pl
    exact call_list_seq p (.inr rfl) ho hc hd (fun h' c' kp e => fin its r' hz h' c' kp e) (by simp only [List.size_toArray] <;> omega)
def tyV (K : PySem.W.Frag) (T : String) (x : V) (H : Hp) : Prop := match x with
  | .str _ => T = "str"
  | .int _ => T = "int"
  | .ref p => (T = "list" ∧ ∃ xs, SqL K H p xs) ∨ (T = "tuple" ∧ ∃ o, K.lookup p = some o ∧ o.cls = .type "tuple" ∧ o.dict = none) ∨
      (T = "dict" ∧ ((∃ kvs, H p = some (.dK kvs)) ∨ ∃ kvs, H p = some (.dT kvs))) ∨ (T = "set" ∧ ∃ S n, H p = some (.set S n))
  | _ => False
theorem tyV_is {pins : List (Addr × Obj)} {σ : St} {H : Hp} {s : Shared} {T : String} {x : V} {v : Value} (I : Inv X pins σ H s) (r : RelV x v) (ty : tyV X.K T x H) :
    s.TypeIs v T ∧ ∀ a, v = .ref a → ∃ ob, s.heap.get? a = some ob ∧ ob.dict = none := by
  cases x with
  | str z =>
    obtain ⟨t, rfl⟩ := r
    cases (show T = "str" from ty)
    exact ⟨typeIs_str s z t, fun _ e => nomatch e⟩
  | int i =>
    obtain ⟨t, rfl⟩ := r
    cases (show T = "int" from ty)
    exact ⟨typeIs_int s i t, fun _ e => nomatch e⟩
  | ref p =>
    cases r
    rcases ty with ⟨rfl, xs, hq⟩ | ⟨rfl, o, hk, hc, hd⟩ | ⟨rfl, hk⟩ | ⟨rfl, S, n, hk⟩
    · obtain ⟨its, _, pl, _⟩ := I.list hq
      refine ⟨pl.isList.typeIs, fun a e => ?_⟩
      cases e
      obtain ⟨o, n, e, c, hd, _⟩ := pl
      exact ⟨o, e, hd⟩
    · refine ⟨⟨o, I.kIn p o hk, hc⟩, fun a e => ?_⟩
      cases e
      exact ⟨o, I.kIn _ o hk, hd⟩
    · have z : ∃ o, s.heap.get? p = some o ∧ o.ExactDict := by
        rcases hk with ⟨kvs, hk⟩ | ⟨kvs, hk⟩
        · obtain ⟨_, _, _, _, o, _, _, e, ex, _⟩ := I.hok p _ hk
          exact ⟨o, e, ex⟩
        · obtain ⟨_, _, _, _, o, _, _, e, ex, _⟩ := I.hok p _ hk
          exact ⟨o, e, ex⟩
      obtain ⟨o, e, ex⟩ := z
      refine ⟨⟨o, e, ex.1⟩, fun a e2 => ?_⟩
      cases e2
      exact ⟨o, e, ex.2.1⟩
    · obtain ⟨o, _, _, _, e, ex, _⟩ := I.hok p _ hk
      refine ⟨⟨o, e, ex.1⟩, fun a e2 => ?_⟩
      cases e2
      exact ⟨o, e, ex.2.1⟩
  | _ => exact False.elim ty
def tBM (K : PySem.W.Frag) (T : String) (r : V → List V → Hp → VK → Prop) (to : TE) (t : TA) : TE := fun σ H Q => to σ H fun x H1 => tyV K T x H1 ∧ t σ H1 fun xs H2 => r x xs H2 Q
variable {o e : Expr} {es : List Expr} {to : TE} {t : TA} {name : Str} {apos cpos : Pos} {T id : String} {r : V → List V → Hp → VK → Prop}
theorem pe_bm (pa : PlainAttrs T) (slot : Slot T name id) (hty : typeOf (.builtin id) = pure (.type "method_descriptor")) (hm : MtR X id r) (ho : PE X o to) (ha : PA X (e :: es) t)
    (hbase : attributeBase o name X.env (eval o X.env) = eval o X.env := by rfl)
    (hfew : ((backTo cpos (starEach (e :: es) X.env)).all (fun x => !x.1) && (backToKw cpos (keywordEach [] X.env)).all (fun x => x.1.isSome)
      && decide ((e :: es).length + ([] : List Keyword).length + (if ([] : List Keyword).isEmpty then 0 else 1) < 30)) = true := by rfl)
    (hline : (apos.endLine == cpos.line) = true := by rfl) (hs : starEach (e :: es) X.env = (false, eval e X.env) :: starEach es X.env := by rfl) (hplain : (backTo cpos (starEach es X.env)).any (·.1) = false := by rfl) :
    PE X (.Call (.Attribute o name apos) (e :: es) [] cpos) (tBM X.K T r to t) := by
  intro pins s σ H Q I h
  refine wpAny_Call_method_late hbase hfew hline rfl (thn (ho pins s σ H _ I h) fun v s1 ⟨x, H1, I1, r1, ty, q1⟩ => ?_)
  obtain ⟨h1, h2⟩ := tyV_is I1 r1 ty
  refine ⟨T, id, pa, slot, hty, h1, h2, ?_⟩
  have hA := ha cpos pins s1 σ H1 _ I1 q1
  rw [hs] at hA ⊢
  refine Calls.callWith_builtin (by show (false || (backTo cpos (starEach es X.env)).any (·.1)) = false; rw [hplain] <;> rfl) (Calls.evalArgs_plain ?_)
  exact thn hA fun us s2 ⟨vs, H2, I2, r2, q2⟩ => hm pins s2 σ H2 x vs v us Q I2 r1 r2 q2
end
end L2

namespace L2
open PySem PySem.Spec PyProof.Rows

def MtM (X : Cx) (id : String) (r : V → List V → Hp → VK → Prop) : Prop :=
  ∀ (pins : List (Addr × Obj)) (s : Shared) (σ : St) (H : Hp) (x : V) (xs : List V) (v : Value) (us : List Value) (Q : VK), Inv X pins σ H s → RelV x v → Vals xs us → r x xs H Q →
    wpAny (model X.prog X.w) X.A (call (.builtin id) (v :: us)) (EP X pins σ Q) X.xe s

theorem Vals.one : ∀ {x : V} {us : List Value}, Vals [x] us → ∃ u, us = [u] ∧ RelV x u
  | _, _, .cons r .nil => ⟨_, rfl, r⟩
theorem Vals.two : ∀ {x y : V} {us : List Value}, Vals [x, y] us → ∃ u v, us = [u, v] ∧ RelV x u ∧ RelV y v
  | _, _, _, .cons r (.cons q .nil) => ⟨_, _, rfl, r, q⟩
theorem Vals.zero : ∀ {us : List Value}, Vals [] us → us = []
  | _, .nil => rfl
theorem Vals.rep {xs : List V} {us : List Value} (h : Vals xs us) : ∀ k : Nat, Vals (List.replicate k xs).flatten (List.replicate k us).flatten
  | 0 => .nil
  | k + 1 => by
    rw [List.replicate_succ, List.replicate_succ, List.flatten_cons, List.flatten_cons]
    exact Vals.append h (Vals.rep h k)
theorem foldl_rep (its : List Value) : ∀ (k : Nat) (acc : List Value),
    List.foldl (fun x1 x2 => x1 ++ x2) acc.toArray (List.replicate k its.toArray) = (acc ++ (List.replicate k its).flatten).toArray
  | 0, acc => by simp
  | k + 1, acc => by
    have e : acc.toArray ++ its.toArray = (acc ++ its).toArray := by simp
    have e2 : (acc ++ its) ++ (List.replicate k its).flatten = acc ++ (List.replicate (k + 1) its).flatten := by
      rw [List.replicate_succ, List.flatten_cons, List.append_assoc]
    rw [← e2, ← foldl_rep its k (acc ++ its), ← e, List.replicate_succ, List.foldl_cons]

section
variable {X : Cx} {pins : List (Addr × Obj)} {σ : St} {H : Hp} {s : Shared} {l b : Addr} {xs ys zs : List V}

theorem Inv.lset {its its' : List Value} {n : Nat} {f : Array Value → Array Value} {t' : Nat} (I : Inv X pins σ H s) (hH : H l = some (.lst xs))
    (e : s.heap.get? l = some { cls := .type "list", data := .seq its.toArray n }) (hf : f its.toArray = its'.toArray) (hv : Vals ys its') (hz : ys.length ≤ sizeLine) :
    Inv X pins σ (upd H l (.lst ys)) { s with heap := s.heap.update l (Obj.mapSeq f), toks := t' } := by
  have q := PySem.IsL.update e f
  rw [hf] at q
  refine I.write (x := l) (e := l) (by rw [hH]; exact trivial) (.inl rfl) (fun b' u hb hu => (Heap.get?_update_other s.heap (Obj.mapSeq f) (Ne.symm hb)).trans hu) ⟨_, q⟩ ?_
  exact ⟨hz, its', _, hv, q⟩
theorem Inv.lnew {its : List Value} {t' : Nat} (I : Inv X pins σ H s) (hv : Vals ys its) (hz : ys.length ≤ sizeLine) :
    Inv X pins σ (upd H s.heap.objs.size (.lst ys)) { s with heap := s.heap.push { cls := .type "list", data := .seq its.toArray }, toks := t' } :=
  I.laid (fun _ _ q => Heap.get?_push_of_some _ q) (Nat.le_refl _) ⟨hz, its, 0, hv, Heap.get?_push_size _ rfl⟩
theorem Inv.fresh (I : Inv X pins σ H s) : H s.heap.objs.size = none := I.hok.fresh (Nat.le_refl _)
theorem Inv.lstM (I : Inv X pins σ H s) (hH : H l = some (.lst xs)) : xs.length ≤ sizeLine ∧ ∃ (its : List Value) (n : Nat), Vals xs its ∧ xs.length = its.length ∧ s.heap.get? l = some { cls := .type "list", data := .seq its.toArray n } := by
  obtain ⟨z, its, n, r, e⟩ := I.hok l _ hH
  exact ⟨z, its, n, r, r.length, e⟩

theorem notLongL {n : Nat} (h : n ≤ sizeLine) : Builtin.List.listTooLong n = false := by
  unfold Builtin.List.listTooLong
  exact decide_eq_false (by omega)
end

section
variable {X : Cx}

def rAppend : V → List V → Hp → VK → Prop := fun x vs H Q => ∃ l xs y, x = .ref l ∧ vs = [y] ∧ H l = some (.lst xs) ∧ xs.length < sizeLine ∧ Q .non (upd H l (.lst (xs ++ [y])))
theorem mt_append : MtM X "list.append" rAppend := by
  intro pins s σ H x vs v us Q I rx rv h
  obtain ⟨l, xs, y, rfl, rfl, hH, hz, q⟩ := h
  cases rx
  obtain ⟨u, rfl, ru⟩ := rv.one
  obtain ⟨z, its, n, r, hl, e⟩ := I.lstM hH
  refine call_meets F.slot_list_append ⟨_, e, rfl⟩ F.entry_list_append (F.args_list_append_2 _ _) (PySem.list_append l its.toArray n u (by rw [List.size_toArray]; omega)) ⟨e, ?_⟩
  refine ⟨.non, _, I.lset (its' := its ++ [u]) hH e (by simp) (r.append (.cons ru .nil)) ?_, rfl, q⟩
  rw [List.length_append, List.length_singleton]
  omega

def rExtend : V → List V → Hp → VK → Prop := fun x vs H Q => ∃ l b xs zs, x = .ref l ∧ vs = [.ref b] ∧ H l = some (.lst xs) ∧ H b = some (.lst zs) ∧ xs.length + zs.length ≤ sizeLine ∧ Q .non (upd H l (.lst (xs ++ zs)))
theorem mt_extend : MtM X "list.extend" rExtend := by
  intro pins s σ H x vs v us Q I rx rv h
  obtain ⟨l, b, xs, zs, rfl, rfl, hH, hB, hz, q⟩ := h
  cases rx
  obtain ⟨u, rfl, ru⟩ := rv.one
  cases ru
  obtain ⟨z, its, n, r, hl, e⟩ := I.lstM hH
  obtain ⟨z2, its2, n2, r2, hl2, e2⟩ := I.lstM hB
  have hsz : its.toArray.size + its2.toArray.size ≤ sizeLine := by rw [List.size_toArray, List.size_toArray]; omega
  have hlong : ¬ (!its.toArray.isEmpty && Builtin.List.listTooLong (its.toArray.size + its2.toArray.size)) = true := by
    rw [notLongL hsz, Bool.and_false]
    exact Bool.false_ne_true
  refine call_meets F.slot_list_extend ⟨_, e, rfl⟩ F.entry_list_extend (F.args_list_extend_2 _ _)
    (AutoSeq1.list_extend_list_list_0 l its.toArray n b its2.toArray n2 hlong (by rw [List.size_toArray]; omega) (by omega)) ⟨e, e2, ?_⟩
  refine ⟨.non, _, I.lset (its' := its ++ its2) hH e (by simp) (r.append r2) ?_, rfl, q⟩
  rw [List.length_append]
  omega

def rCat : R2 := fun x y H Q => ∃ l b xs zs, x = .ref l ∧ y = .ref b ∧ H l = some (.lst xs) ∧ H b = some (.lst zs) ∧ xs.length + zs.length ≤ sizeLine ∧ ∀ p, H p = none → Q (.ref p) (upd H p (.lst (xs ++ zs)))
theorem op_cat : OpR X (binaryOp .Add) rCat := by
  intro pins s σ H x y v u Q I rx ry h
  obtain ⟨l, b, xs, zs, rfl, rfl, hH, hB, hz, q⟩ := h
  cases rx
  cases ry
  obtain ⟨z, its, n, r, hl, e⟩ := I.lstM hH
  obtain ⟨z2, its2, n2, r2, hl2, e2⟩ := I.lstM hB
  refine PySem.P.add_list e e2 ?_ (by rw [List.size_toArray, List.size_toArray]; omega)
  have ea : its.toArray ++ its2.toArray = (its ++ its2).toArray := by simp
  rw [ea]
  exact ⟨.ref _, _, I.lnew (t' := s.toks) (r.append r2) (by rw [List.length_append]; omega), rfl, q _ I.fresh⟩
def rRep : R2 := fun x y H Q => ∃ l k xs, x = .ref l ∧ y = .int k ∧ H l = some (.lst xs) ∧ -(2 ^ 63) ≤ k ∧ k < 2 ^ 63 ∧ xs.length * k.toNat ≤ sizeLine ∧
  ∀ p, H p = none → Q (.ref p) (upd H p (.lst (List.replicate k.toNat xs).flatten))
theorem len_rep {α : Type} (xs : List α) (k : Nat) : (List.replicate k xs).flatten.length = k * xs.length := by
  induction k with
  | zero => simp
  | succ k ih => rw [List.replicate_succ, List.flatten_cons, List.length_append, ih, Nat.succ_mul, Nat.add_comm]
theorem op_rep : OpR X (binaryOp .Mult) rRep := by
  intro pins s σ H x y v u Q I rx ry h
  obtain ⟨l, k, xs, rfl, rfl, hH, h1, h2, hz, q⟩ := h
  cases rx
  obtain ⟨t, rfl⟩ := ry
  obtain ⟨z, its, n, r, hl, e⟩ := I.lstM hH
  have hlen : its.toArray.size * k.toNat ≤ sizeLine := by rw [List.size_toArray, ← hl]; exact hz
  have hcap : ¬ its.toArray.size * k.toNat > (2 ^ 63 - 1) / 8 := by
    have : (sizeLine : Nat) ≤ (2 ^ 63 - 1) / 8 := by decide
    omega
  have hfit : ¬ (!Builtin.List.listFitsIndex k) = true := by
    rw [fitsIndex_both h1 h2]
    exact Bool.false_ne_true
  have hlong : ¬ Builtin.List.listTooLong (its.toArray.size * k.toNat) = true := by
    rw [notLongL hlen]
    exact Bool.false_ne_true
  have hnew : List.foldl (fun x1 x2 => x1 ++ x2) #[] (List.replicate (if its.toArray.isEmpty = true then 0 else k.toNat) its.toArray) = (List.replicate k.toNat its).flatten.toArray := by
    have f0 : ∀ m : Nat, List.foldl (fun x1 x2 => x1 ++ x2) #[] (List.replicate m its.toArray) = (List.replicate m its).flatten.toArray := fun m => by
      have := foldl_rep its m []
      rw [List.nil_append] at this
      exact this
    rw [f0]
    cases its with
    | nil => simp
    | cons a r' => rw [if_neg (by simp)]
  refine wpAny_binaryOp_repeat_ref (T := "list") (U := "int") (by decide) ⟨_, e, rfl⟩ (fun s' => typeIs_int s' k t) noFill_list_mul F.fills_int_mul F.slot_int_rmul repeat_list F.slot_int_index.lookup
    (call_meets F.slot_int_rmul (typeIs_int s k t) F.entry_int_rmul (F.args_int_rmul_2 _ _) (int___rmul___int_list k t l its.toArray n)
      ⟨e, rfl, ⟨_, e, rfl⟩, call_meets F.slot_list_mul ⟨_, e, rfl⟩ F.entry_list_mul (F.args_list_mul_2 _ _) (AutoListH.list___mul___list_int_3 l its.toArray n k t hfit hcap hlong) ⟨e, ?_⟩⟩)
  rw [hnew]
  exact ⟨.ref _, _, I.lnew (t' := s.toks) (r.rep k.toNat) (by rw [len_rep, Nat.mul_comm]; exact hz), rfl, q _ I.fresh⟩

end

section
variable {prog : Program} {w : World} {A : Around} {E : Value → Shared → Prop} {s : Shared}
end

section
variable {X : Cx}
end
end L2

namespace L2
open PySem PySem.Spec PyProof.Rows

section
variable {κ : Type} [DecidableEq κ]
def valV (kvs : List (κ × V)) (k : κ) : Option V := (kvs.find? fun kv => decide (kv.1 = k)).map (·.2)
def putK (kvs : List (κ × V)) (k : κ) (v : V) : List (κ × V) :=
  if (kvs.any fun kv => decide (kv.1 = k)) = true then kvs.map (fun kv => if kv.1 = k then (kv.1, v) else kv) else kvs ++ [(k, v)]
def dropK (kvs : List (κ × V)) (k : κ) : List (κ × V) := kvs.filter fun kv => decide (kv.1 ≠ k)

theorem valV_nil {k : κ} : valV ([] : List (κ × V)) k = none := rfl
theorem valV_pos {p : κ × V} {r : List (κ × V)} {k : κ} (e : p.1 = k) : valV (p :: r) k = some p.2 := by simp [valV, List.find?_cons, e]
theorem valV_neg {p : κ × V} {r : List (κ × V)} {k : κ} (e : ¬ p.1 = k) : valV (p :: r) k = valV r k := by simp [valV, List.find?_cons, e]
theorem RelO.getD {o : Option V} {u : Option Value} {d : V} {d' : Value} (r : RelO o u) (rd : RelV d d') : RelV (o.getD d) (u.getD d') := by
  cases o with
  | none => cases u with
    | none => exact rd
    | some _ => exact (show False from r).elim
  | some _ => cases u with
    | none => exact (show False from r).elim
    | some _ => exact r

theorem KV.val {kvs : List (κ × V)} {vs : List (κ × Value)} (r : KV kvs vs) (k : κ) : RelO (valV kvs k) (valueAt vs k) := by
  unfold KV at r
  induction r with
  | nil => exact True.intro
  | @cons p q ps qs h t ih =>
    obtain ⟨h1, h2⟩ := h
    by_cases e : p.1 = k
    · have e' : q.1 = k := h1.symm.trans e
      have b : valueAt (q :: qs) k = some q.2 := by simp [valueAt, List.find?_cons, e']
      rw [valV_pos e, b]; exact h2
    · have e' : ¬ q.1 = k := fun z => e (h1.trans z)
      have b : valueAt (q :: qs) k = valueAt qs k := by simp [valueAt, List.find?_cons, e']
      rw [valV_neg e, b]; exact ih
theorem KV.any {kvs : List (κ × V)} {vs : List (κ × Value)} (r : KV kvs vs) (k : κ) : (kvs.any fun kv => decide (kv.1 = k)) = vs.any fun kv => decide (kv.1 = k) := by
  unfold KV at r
  induction r with
  | nil => rfl
  | cons h t ih => rw [List.any_cons, List.any_cons, ih, h.1]
theorem KV.drop {kvs : List (κ × V)} {vs : List (κ × Value)} (r : KV kvs vs) (k : κ) : KV (dropK kvs k) (without vs k) := by
  unfold KV at r ⊢
  unfold dropK without
  induction r with
  | nil => exact .nil
  | @cons p q ps qs h t ih =>
    obtain ⟨h1, h2⟩ := h
    rw [List.filter_cons, List.filter_cons]
    by_cases e : p.1 = k
    · have a : ¬ decide (p.1 ≠ k) = true := by simp [e]
      have b : ¬ decide (q.1 ≠ k) = true := by simp [h1.symm.trans e]
      rw [if_neg a, if_neg b]; exact ih
    · have e' : ¬ q.1 = k := fun z => e (h1.trans z)
      have a : decide (p.1 ≠ k) = true := by simp [e]
      have b : decide (q.1 ≠ k) = true := by simp [e']
      rw [if_pos a, if_pos b]; exact .cons ⟨h1, h2⟩ ih
theorem KV.keys {kvs : List (κ × V)} {vs : List (κ × Value)} (r : KV kvs vs) : kvs.map (·.1) = vs.map (·.1) := by
  unfold KV at r
  induction r with
  | nil => rfl
  | cons h t ih => rw [List.map_cons, List.map_cons, ih, h.1]
theorem KV.length {kvs : List (κ × V)} {vs : List (κ × Value)} (r : KV kvs vs) : kvs.length = vs.length := Paired.length r
theorem dropK_le (kvs : List (κ × V)) (k : κ) : (dropK kvs k).length ≤ kvs.length := List.length_filter_le _ _
end


abbrev KT (H : Hp) : List (List Key × V) → List (List Key × Addr × Value) → Prop := Paired fun p q => p.1 = q.1 ∧ H q.2.1 = some (.tup (p.1.map kV)) ∧ RelV p.2 q.2.2
theorem KT.val {H : Hp} {kvs : List (List Key × V)} {xs : List (List Key × Addr × Value)} (r : KT H kvs xs) (k : List Key) : RelO (valV kvs k) ((atKey xs k).map (·.2)) := by
  induction r with
  | nil => exact True.intro
  | @cons p q ps qs h t ih =>
    obtain ⟨h1, _, h2⟩ := h
    by_cases e : p.1 = k
    · have e' : q.1 = k := h1.symm.trans e
      have b : atKey (q :: qs) k = some q.2 := by simp [atKey, List.find?_cons, e']
      rw [valV_pos e, b]; exact h2
    · have e' : ¬ q.1 = k := fun z => e (h1.trans z)
      have b : atKey (q :: qs) k = atKey qs k := by simp [atKey, List.find?_cons, e']
      rw [valV_neg e, b]; exact ih
theorem KT.keeps {H H' : Hp} {kvs : List (List Key × V)} {xs : List (List Key × Addr × Value)} (r : KT H kvs xs) (ht : ∀ b ys, H b = some (.tup ys) → H' b = some (.tup ys)) : KT H' kvs xs :=
  Paired.mapP r fun _ _ z => ⟨z.1, ht _ _ z.2.1, z.2.2⟩

section
variable {P : Program} {w : World} {H : Hp} {h : Heap} {a : Addr}
end

def DGet (H : Hp) (a : Addr) (y : V) (r : Option V) : Prop :=
  (∃ kvs k, Rd H a (.dK kvs) ∧ y = kV k ∧ r = valV kvs k) ∨ ∃ kvs k b, Rd H a (.dT kvs) ∧ y = .ref b ∧ H b = some (.tup (k.map kV)) ∧ r = valV kvs k
def DPut (H : Hp) (a : Addr) (y v : V) (H' : Hp) : Prop :=
  (∃ kvs k, H a = some (.dK kvs) ∧ y = kV k ∧ kvs.length < sizeLine ∧ H' = upd H a (.dK (putK kvs k v))) ∨
  ∃ kvs k b, H a = some (.dT kvs) ∧ y = .ref b ∧ H b = some (.tup (k.map kV)) ∧ kvs.length < sizeLine ∧ H' = upd H a (.dT (putK kvs k v))
theorem DGet.k {H : Hp} {a : Addr} {kvs : List (Key × V)} {k : Key} (e : H a = some (.dK kvs)) : DGet H a (kV k) (valV kvs k) := .inl ⟨kvs, k, .inl e, rfl, rfl⟩
theorem DGet.t {H : Hp} {a b : Addr} {kvs : List (List Key × V)} {k : List Key} (e : H a = some (.dT kvs)) (eb : H b = some (.tup (k.map kV))) : DGet H a (.ref b) (valV kvs k) := .inr ⟨kvs, k, b, .inl e, rfl, eb, rfl⟩
theorem DPut.k {H : Hp} {a : Addr} {kvs : List (Key × V)} {k : Key} {v : V} (e : H a = some (.dK kvs)) (hl : kvs.length < sizeLine) : DPut H a (kV k) v (upd H a (.dK (putK kvs k v))) := .inl ⟨kvs, k, e, rfl, hl, rfl⟩
theorem DPut.t {H : Hp} {a b : Addr} {kvs : List (List Key × V)} {k : List Key} {v : V} (e : H a = some (.dT kvs)) (eb : H b = some (.tup (k.map kV))) (hl : kvs.length < sizeLine) :
    DPut H a (.ref b) v (upd H a (.dT (putK kvs k v))) := .inr ⟨kvs, k, b, e, rfl, eb, hl, rfl⟩


section
variable {X : Cx} {pins : List (Addr × Obj)} {σ : St} {H : Hp} {s : Shared} {a : Addr} {y v : V} {u r : Value} {o : Option V} {A : Around} {E : Value → Shared → Prop}

theorem Inv.big (I : Inv X pins σ H s) : sysModules < s.heap.objs.size := by
  have h : mainGlobals < s.heap.objs.size := (I.mod.glob.keeps I.bk).lt
  exact Nat.lt_trans (by decide) h

end

section
variable {X : Cx} {pins : List (Addr × Obj)} {σ : St} {H : Hp} {s : Shared} {a : Addr} {kvs : List (Key × V)} {k : Key} {u : Value} {A : Around} {E : Value → Shared → Prop}
end


section
variable {X : Cx} {o i e value : Expr} {pos pos' tpos : Pos} {td ty tv : TE}
end


section
variable {X : Cx} {pos : Pos}
end

abbrev VV : List (V × V) → List (Value × Value) → Prop := Paired fun p q => RelV p.1 q.1 ∧ RelV p.2 q.2
structure M1 (X : Cx) (o : Expr) (m : Str) (apos : Pos) (e : Expr) (cpos : Pos) : Prop where
  base : attributeBase o m X.env (eval o X.env) = eval o X.env
  few : ((backTo cpos (starEach [e] X.env)).all (fun x => !x.1) && (backToKw cpos (keywordEach [] X.env)).all (fun x => x.1.isSome)
    && decide (([e] : List Expr).length + ([] : List Keyword).length + (if ([] : List Keyword).isEmpty then 0 else 1) < 30)) = true
  line : (apos.endLine == cpos.line) = true
  trees : backTo cpos (starEach [e] X.env) = [(false, eval e X.env)]
structure M2 (X : Cx) (o : Expr) (m : Str) (apos : Pos) (e f : Expr) (cpos : Pos) : Prop where
  base : attributeBase o m X.env (eval o X.env) = eval o X.env
  few : ((backTo cpos (starEach [e, f] X.env)).all (fun x => !x.1) && (backToKw cpos (keywordEach [] X.env)).all (fun x => x.1.isSome)
    && decide (([e, f] : List Expr).length + ([] : List Keyword).length + (if ([] : List Keyword).isEmpty then 0 else 1) < 30)) = true
  line : (apos.endLine == cpos.line) = true
  trees : backTo cpos (starEach [e, f] X.env) = [(false, eval e X.env), (false, eval f X.env)]

section
variable {X : Cx} {pins : List (Addr × Obj)} {σ : St} {H : Hp} {s : Shared} {a : Addr} {y d : V} {u r : Value} {o : Option V} {A : Around} {E : Value → Shared → Prop}
end

section
variable {X : Cx} {o e f : Expr} {apos cpos : Pos} {td ty tx : TE}
end

section
variable {X : Cx} {pins : List (Addr × Obj)} {σ : St} {H : Hp} {s : Shared} {a : Addr} {kvs : List (Key × V)} {A : Around} {E : Value → Shared → Prop}
end


section
variable {X : Cx} {pins : List (Addr × Obj)} {σ : St} {H : Hp} {s : Shared} {a : Addr} {y : V} {u : Value} {A : Around} {E : Value → Shared → Prop}
end
end L2

namespace Att
open PySem PySem.W PySem.Calls PyProof.Rows

theorem ints_of_wellAll {P : Params} {h : Heap} : ∀ (ns : List Int) (vs : List Value), WellAll P h vs (ns.map WData.int) → IntsAre vs ns := by
  intro ns
  induction ns with
  | nil =>
    intro vs w
    rw [List.map_nil] at w
    cases w
    exact .nil
  | cons n ns ih =>
    intro vs w
    rw [List.map_cons] at w
    cases w with
    | cons a b =>
      cases a
      exact .cons _ _ (ih _ b)

theorem script_of {l : OpenLaw} {n : Nat} (hn : l.most = some n) {P : Params} {h : Heap} {args : List WData} {vals : List Value}
    (hpre : l.row.toRowW.claim.pre args = true) (hwl : WellAll P h vals args) :
    ∃ a vs ns, vals = [Value.ref a] ∧ args = [WData.list (ns.map WData.int)] ∧ h.get? a = some { cls := .type "list", data := .seq vs.toArray } ∧ IntsAre vs ns ∧ ns.length ≤ n := by
  have hsh : WShape.hasAll [] args [.list .int] = true := (pre_splitW hpre).1
  have hc : l.pre.holds [] { args := args } = true := (pre_splitW hpre).2
  obtain ⟨d, r, rfl, h1, h2⟩ := hasAllW_cons hsh
  obtain rfl := hasAllW_nil h2
  obtain ⟨xs, rfl, h3⟩ := hasW_list h1
  obtain ⟨ns, rfl⟩ := items_int h3
  have hlen : ns.length ≤ n := by
    unfold OpenLaw.pre at hc
    have h4 : (WTm.not (.lt (.lit (.int (n : Int))) (.len (.arg 0)))).holds [] { args := [.list (ns.map .int)] } = true := by
      have h4 := (holds_andW hc).1
      rw [hn] at h4
      exact h4
    have h5 := condW_of h4 (w_not (w_lt w_lit (w_len_list (w_arg rfl))))
    rw [List.length_map] at h5
    refine Nat.le_of_not_lt fun q => ?_
    have q' : (n : Int) < ((ns.length : Nat) : Int) := by omega
    first
      | (rw [decide_eq_true q'] at h5; exact absurd h5 (by decide))
      | (simp at h5; omega)
  cases hwl with
  | cons w1 w2 =>
    cases w2
    cases w1 with
    | list ho hall => exact ⟨_, _, ns, rfl, rfl, ho, ints_of_wellAll ns _ hall, hlen⟩

theorem post_true (l : OpenLaw) (args : List WData) : l.row.toRowW.claim.post args (.bool true) args = true :=
  postW_of (r := l.row.toRowW) (X := (true == true))
    (show WShape.has [] (.bool true) .bool = true by first | rfl | decide | simp [WShape.has, WShape.arms, WShape.armsAll])
    (show (WTm.eq .res (.lit (.bool true))).value [] { args := args, res := some (.bool true), after := args } = some (.bool (true == true)) from w_eq_bool (w_res rfl) w_lit) rfl

theorem attach {l : OpenLaw} {n : Nat} {q : Program} {loose : List Str} {XP : (Str → Option Value) → Heap → Prop} {YP : World → Heap → Prop} {d : DefRec} {x : Str}
    (hn : l.most = some n) (hdf : d.params.defaults = [])
    (hbind : ∀ pm cd doc v : Value, bindArgs (docDef d.name d.params d.body d.scope pm cd doc) ⟨[v], []⟩ = pure [(x, v)])
    (hx : d.scope.names.lookup x = some .local ∨ d.scope.names.lookup x = some .cell)
    (hk : d.scope.kind = .function) (hco : d.scope.isCoroutine = false) (hgen : d.scope.isGenerator = false)
    (body : ∀ (w : World) (s₀ s₁ s : Shared) (mg mb : Str → Option Value) (fa : Addr) (o : Obj) (pm cd doc : Value) (a : Addr) (vs : List Value) (ns : List Int),
      Ground q loose [] XP w s₀ mg mb s₁.heap → YP w s₁.heap →
      s₁.heap.get? fa = some o → o.data = .func (docDef d.name d.params d.body d.scope pm cd doc) → s₁.heap.CodeRec cd d.name → mg d.name = some (.ref fa) →
      s₁.heap.get? a = some { cls := .type "list", data := .seq vs.toArray } → IntsAre vs ns → ns.length ≤ n →
      s.gens = #[] → s.os = s₁.os →
      Fr s₁.heap s₁.heap.objs.size s.heap (bindL (envOfC d.name d.scope s₁.heap.objs.size fa cd).kindOf [(x, .ref a)] fun _ => none) →
      Cl s₁.heap.objs.size (cellsFrom (s₁.heap.objs.size + 1) d.scope.names []) s.heap (bindC (envOfC d.name d.scope s₁.heap.objs.size fa cd).kindOf [(x, .ref a)] fun _ => none) →
      wpAny (model l.prog w) (callerA.deeper (envOfC d.name d.scope s₁.heap.objs.size fa cd)) (execs d.body (envOfC d.name d.scope s₁.heap.objs.size fa cd))
        (fun f s' => f = .ret (.bool true) ∧ OldK s₁.heap s'.heap ∧ s'.os = s₁.os ∧ AllBare s'.gens) (fun _ _ => False) s) :
    WalkO q loose XP YP l.row.toRowW d [] (fun f vs => PySem.call f vs) := by
  intro w s₀ s₁ mg mb G Y fa o pm cd doc dV kV ho hd hcd hD hmg hg args vals as hpre hlay hrd hwl hlo
  obtain rfl : dV = .none := Dflts.none hD hdf
  obtain rfl : kV = .none := Dflts.noKw hD
  obtain ⟨a, vs, ns, rfl, rfl, hobj, hints, hlen⟩ := script_of hn hpre hwl
  refine enter_call ?_
  refine call_cells_ret (o := o) (by rw [depth_caller]; decide) ho (fd_plain hd) G.T.nolimit hcd (hbind pm cd doc (.ref a)) (fun y hy => ?_) (fun h₁ tk F X => ?_) hco hgen hk
  · obtain rfl : y = (x, Value.ref a) := List.mem_singleton.mp hy
    rcases hx with e | e
    · exact .inl e
    · exact .inr ⟨e, cellsFrom_some _ _ _ (.inl e)⟩
  · refine wpAny_mono (body w s₀ s₁ { s₁ with heap := h₁, toks := tk } mg mb fa o pm cd doc a vs ns G Y ho (fd_plain hd) hcd hmg hobj hints hlen hg rfl F X) (fun f s' hq => ?_) (fun _ _ hq => hq)
    obtain ⟨rfl, h2, h3, h4⟩ := hq
    exact ⟨.inl ⟨.bool true, .bool true, [], rfl, fun _ => rfl, .bool true, post_true l _, fun _ => ⟨List.Pairwise.nil, fun _ hm => (nomatch hm)⟩⟩, h2, h3, h4⟩

theorem attach_call {l : OpenLaw} {n : Nat} {q : Program} {loose : List Str} {XP : (Str → Option Value) → Heap → Prop} {YP : World → Heap → Prop} {d : DefRec}
    (hn : l.most = some n) (hdf : d.params.defaults = [])
    (call : ∀ (w : World) (s₀ s₁ : Shared) (mg mb : Str → Option Value) (fa : Addr) (o : Obj) (pm cd doc : Value) (a : Addr) (vs : List Value) (ns : List Int),
      Ground q loose [] XP w s₀ mg mb s₁.heap → YP w s₁.heap →
      s₁.heap.get? fa = some o → o.data = .func (docDef d.name d.params d.body d.scope pm cd doc) → s₁.heap.CodeRec cd d.name → mg d.name = some (.ref fa) →
      s₁.heap.get? a = some { cls := .type "list", data := .seq vs.toArray } → IntsAre vs ns → ns.length ≤ n → s₁.gens = #[] →
      codeAny (model l.prog w) callerA (.call (.ref fa) ⟨[.ref a], []⟩) (fun r s' => r = .ok (.ret (.bool true)) ∧ OldK s₁.heap s'.heap ∧ s'.os = s₁.os ∧ AllBare s'.gens) s₁) :
    WalkO q loose XP YP l.row.toRowW d [] (fun f vs => PySem.call f vs) := by
  intro w s₀ s₁ mg mb G Y fa o pm cd doc dV kV ho hd hcd hD hmg hg args vals as hpre hlay hrd hwl hlo
  obtain rfl : dV = .none := Dflts.none hD hdf
  obtain rfl : kV = .none := Dflts.noKw hD
  obtain ⟨a, vs, ns, rfl, rfl, hobj, hints, hlen⟩ := script_of hn hpre hwl
  refine enter_call (codeAny_mono (call w s₀ s₁ mg mb fa o pm cd doc a vs ns G Y ho (fd_plain hd) hcd hmg hobj hints hlen hg) fun r s' hq => ?_)
  obtain ⟨rfl, h2, h3, h4⟩ := hq
  exact ⟨.inl ⟨.bool true, .bool true, [], rfl, fun _ => rfl, .bool true, post_true l _, fun _ => ⟨List.Pairwise.nil, fun _ hm => (nomatch hm)⟩⟩, h2, h3, h4⟩

section
variable {prog : Program} {w : World} {A : Around} {E : Value → Shared → Prop} {s : Shared} {K : Frag}

end
end Att

namespace L2
open PySem PySem.Spec PyProof.Rows

theorem vals_ints : ∀ {vs : List Value} {ns : List Int}, IntsAre vs ns → Vals (ns.map V.int) vs
  | _, _, .nil => .nil
  | _, _, .cons n t h => .cons ⟨t, rfl⟩ (vals_ints h)

def Only (H : Hp) : Prop := ∀ b, H b = none ∨ ∃ o xs, H b = some (.frz o (.lst xs))

theorem law_call {P : Program} {w : World} {K : PySem.W.Frag} {mg mb : Str → Option Value} {CX : CXT} {k : Nat} {fa a : Addr} {fd : FuncData} {x : Str} {sp : Sp} {s₁ : Shared} {vs : List Value} {ns : List Int}
    (KX : K.In s₁.heap) (hns : s₁.heap.Ns mainGlobals mg) (hb : s₁.heap.Ns builtinsNs mb) (hbb : ∀ x : Str, x ≠ "__name__" → mb x = bootBuiltins x) (hlim : s₁.heap.NoLimit) (hg : s₁.gens = #[])
    (ha : s₁.heap.get? a = some { cls := .type "list", data := .seq vs.toArray }) (hi : IntsAre vs ns) (hl : ns.length ≤ sizeLine) (hr : Room k callerA)
    (F : ∀ base : Heap, K.In base → base.Ns mainGlobals mg → FnOk P w K mg base CX k fa fd [x] sp) (hbind : ∀ (s : Shared) (u : Value), BindsTo s fd ⟨[u], []⟩ [(x, u)])
    (hsp : ∀ H : Hp, Only H → SqL K H a (ns.map V.int) → sp [.ref a] H (fun v _ => v = .bl true) fun _ _ _ => False)
    (hCX : ∀ H e s', CX [] H s₁ (fun _ _ _ => False) e s' → False) :
    codeAny (model P w) callerA (.call (.ref fa) ⟨[.ref a], []⟩) (fun r s' => r = .ok (.ret (.bool true)) ∧ OldK s₁.heap s'.heap ∧ s'.os = s₁.os ∧ AllBare s'.gens) s₁ := by
  have rv := vals_ints hi
  have lenV := hi.length
  -- from an abstract heap in which nothing but the script may be tracked
  have core : ∀ H : Hp, Only H → SqL K H a (ns.map V.int) → HOk P w H s₁.heap → (∀ b, H b ≠ none → b = a) → (H a ≠ none → K.lookup a = none) →
      codeAny (model P w) callerA (.call (.ref fa) ⟨[.ref a], []⟩) (fun r s' => r = .ok (.ret (.bool true)) ∧ OldK s₁.heap s'.heap ∧ s'.os = s₁.os ∧ AllBare s'.gens) s₁ := by
    intro H hO hS hok hA hK
    have base_of : ∀ {b : Addr} {o : Obj}, s₁.heap.get? b = some o → H b = none → (hidT s₁.heap H).get? b = some o := fun e n => hidT_get e n
    have noA : ∀ {b : Addr} {o : Obj} {es : Array DictEntry} {ep : Nat}, s₁.heap.get? b = some o → o.data = .dict es ep → H b = none := fun {b o es ep} e d => by
      cases q : H b with
      | none => rfl
      | some u =>
        have e' : b = a := hA b (by rw [q]; simp)
        subst e'
        rw [ha] at e; cases e
        have d' : Data.seq vs.toArray _ = Data.dict es ep := d
        cases d'
    have nsK : ∀ {b : Addr} {m : Str → Option Value}, s₁.heap.Ns b m → (hidT s₁.heap H).Ns b m := fun {b m} ⟨o, es, ep, e, d, r⟩ => ⟨o, es, ep, base_of e (noA e d), d, r⟩
    have hKb : K.In (hidT s₁.heap H) := fun b o e => base_of (KX b o e) (by
      cases q : H b with
      | none => rfl
      | some u =>
        have e' : b = a := hA b (by rw [q]; simp)
        subst e'
        rw [hK (by rw [q]; simp)] at e; cases e)
    have hM : Mod K mg (hidT s₁.heap H) := ⟨hKb, nsK hns, ⟨mb, nsK hb, hbb⟩, let ⟨mc, h1, h2⟩ := hlim; ⟨mc, nsK h1, h2⟩⟩
    have e0 : Env0 P w K mg (hidT s₁.heap H) callerA [] s₁ H := ⟨rfl, hM, fun b o e => of_hidT e, Nat.le_of_eq (hidT_size _ _), trivial, fun b hb => absurd (show b ∈ ([] : List Addr) from hb) (by simp), hok, .of_eq hg⟩
    refine codeAny_mono ((F _ hKb (nsK hns)).run callerA [] s₁ H ⟨[.ref a], []⟩ [.ref a] [.ref a] _ _ hr e0 (hbind s₁ (.ref a)) (.cons rfl .nil) (hsp H hO hS)) fun r s' h => ?_
    cases r with
    | error e => exact (hCX H e s' h).elim
    | ok fl =>
      cases fl with
      | next => exact False.elim h
      | brk => exact False.elim h
      | cont => exact False.elim h
      | ret u =>
        obtain ⟨v, H', os, bare, un, hok', r', q⟩ := h
        have q' : v = .bl true := q
        subst q'
        obtain rfl : u = Value.bool true := r'
        refine ⟨rfl, OldK.of_keep fun b o e => ?_, os, bare⟩
        cases q : H b with
        | none => exact un.keep b o e q (by intro z; exact absurd (show b ∈ ([] : List Addr) from z) (by simp)) (by simp)
        | some u =>
          rcases hO b with z | ⟨ob, xs, z⟩
          · rw [q] at z; cases z
          · have z2 := un.frzs b ob _ z
            obtain ⟨e1, _⟩ := hok b _ z
            obtain ⟨e2, _⟩ := hok' b _ z2
            rw [e] at e1; cases e1
            exact e2
  cases hk : K.lookup a with
  | some o =>
    -- the script is one of the module's own objects
    have e := KX a o hk
    rw [ha] at e
    cases e
    refine core (fun _ => none) (fun _ => .inl rfl) (.inr ⟨_, vs.toArray, _, hk, rfl, rfl, rfl, by rw [List.size_toArray, lenV]; exact hl, by simpa using rv⟩) (fun b u z => by have z' : (none : Option HO) = some u := z; cases z') (fun b z => absurd rfl z) fun z => absurd rfl z
  | none =>
    refine core (fun b => if b = a then some (.frz { cls := .type "list", data := .seq vs.toArray } (.lst (ns.map V.int))) else none) (fun b => ?_) (.inl (.inr ⟨{ cls := .type "list", data := .seq vs.toArray }, if_pos rfl⟩)) (fun b u z => ?_) (fun b z => ?_) fun _ => hk
    · by_cases hb : b = a
      · exact .inr ⟨_, _, if_pos hb⟩
      · exact .inl (if_neg hb)
    · by_cases hb : b = a
      · have z' := (if_pos hb).symm.trans z
        cases z'
        subst hb
        exact ⟨ha, by rw [List.length_map]; exact hl, vs, _, rv, ha⟩
      · have z' := (if_neg hb).symm.trans z
        cases z'
    · by_cases hb : b = a
      · exact hb
      · exact absurd (if_neg hb) z
end L2

namespace L2
open PySem PySem.Spec PyProof.Rows

abbrev KOf {K : PySem.W.Frag} {h : Heap} (_ : K.In h) : PySem.W.Frag := K

theorem walk_of {l : PySem.W.OpenLaw} {n k : Nat} {q : Program} {loose : List Str} {XP : (Str → Option Value) → Heap → Prop} {YP : World → Heap → Prop} {d : DefRec} {K : Params → PySem.W.Frag} {CX : World → CXT} {sp : World → Sp} {x : Str}
    (hn : l.most = some n) (hn2 : n ≤ sizeLine) (hdf : d.params.defaults = []) (hr : Room k callerA)
    (hY : ∀ (w : World) (h : Heap), YP w h → (K w.params).In h)
    (F : ∀ (w : World) (mg : Str → Option Value) (fa : Addr) (h : Heap), (K w.params).In h → h.Ns mainGlobals mg → mg d.name = some (.ref fa) →
      ∃ fd : FuncData, (∀ (s : Shared) (u : Value), BindsTo s fd ⟨[u], []⟩ [(x, u)]) ∧
        ∀ base : Heap, (K w.params).In base → base.Ns mainGlobals mg → FnOk l.prog w (K w.params) mg base (CX w) k fa fd [x] (sp w))
    (hsp : ∀ (w : World) (H : Hp) (a : Addr) (ns : List Int), ns.length ≤ n → Only H → SqL (K w.params) H a (ns.map V.int) → sp w [.ref a] H (fun v _ => v = .bl true) fun _ _ _ => False)
    (hCX : ∀ (w : World) (H : Hp) (s : Shared) (e : Value) (s' : Shared), CX w [] H s (fun _ _ _ => False) e s' → False) :
    PySem.W.WalkO q loose XP YP l.row.toRowW d [] (fun f vs => PySem.call f vs) := by
  refine Att.attach_call hn hdf fun w s₀ s₁ mg mb fa o pm cd doc a vs ns G Y ho hd hcd hmg hobj hints hlen hg => ?_
  have KX := hY w _ Y
  obtain ⟨fd, hb, hF⟩ := F w mg fa _ KX G.T.g hmg
  exact law_call KX G.T.g G.T.b G.T.builtins G.T.nolimit hg hobj hints (Nat.le_trans hlen hn2) hr hF hb (fun H hO hS => hsp w H a ns hlen hO hS) fun H e s' => hCX w H s₁ e s'
theorem walk_ofK {l : PySem.W.OpenLaw} {n k : Nat} {q : Program} {loose : List Str} {XP : (Str → Option Value) → Heap → Prop} {YP : World → Heap → Prop} {d : DefRec} {K : Params → PySem.W.Frag} {CX : CXT} {sp : PySem.W.Frag → Sp} {x : Str}
    (hn : l.most = some n) (hn2 : n ≤ sizeLine) (hdf : d.params.defaults = []) (hr : Room k callerA)
    (hY : ∀ (w : World) (h : Heap), YP w h → (K w.params).In h)
    (F : ∀ (w : World) (mg : Str → Option Value) (fa : Addr) (h : Heap), (K w.params).In h → h.Ns mainGlobals mg → mg d.name = some (.ref fa) →
      ∃ fd : FuncData, (∀ (s : Shared) (u : Value), BindsTo s fd ⟨[u], []⟩ [(x, u)]) ∧
        ∀ base : Heap, (K w.params).In base → base.Ns mainGlobals mg → FnOk l.prog w (K w.params) mg base CX k fa fd [x] (sp (K w.params)))
    (hsp : ∀ (K : PySem.W.Frag) (H : Hp) (a : Addr) (ns : List Int), ns.length ≤ n → Only H → SqL K H a (ns.map V.int) → sp K [.ref a] H (fun v _ => v = .bl true) fun _ _ _ => False)
    (hCX : ∀ (H : Hp) (s : Shared) (e : Value) (s' : Shared), CX [] H s (fun _ _ _ => False) e s' → False) :
    PySem.W.WalkO q loose XP YP l.row.toRowW d [] (fun f vs => PySem.call f vs) :=
  walk_of (K := K) (CX := fun _ => CX) (sp := fun w => sp (K w.params)) hn hn2 hdf hr hY F (fun w H a ns h1 h2 h3 => hsp (K w.params) H a ns h1 h2 h3) fun _ H s e s' => hCX H s e s'
end L2

namespace L2
open PySem PySem.Spec PyProof.Rows

def defArgs (s : Stmt) : Arguments := match s with
  | .FunctionDef _ a _ _ _ _ _ _ _ _ => a
  | _ => { posonlyargs := [], args := [], vararg := none, kwonlyargs := [], kw_defaults := [], kwarg := none, defaults := [] }
def defBody (s : Stmt) : List Stmt := match s with
  | .FunctionDef _ _ b _ _ _ _ _ _ _ => b
  | _ => []
def defScope (s : Stmt) : Scope := match s with
  | .FunctionDef _ _ _ _ _ _ sc _ _ _ => sc
  | _ => { kind := .function, names := [], isGenerator := false, isCoroutine := false }

abbrev CX0 : CXT := fun _ _ _ _ _ _ => False
abbrev E0 : XK := fun _ _ _ => False
theorem pass0 {X : Cx} : Passes CX0 X E0 := fun _ _ _ _ _ _ _ h => h.elim

structure Fun (K : PySem.W.Frag) (x qual : Str) (st : Stmt) (f : Addr) (fd : FuncData) : Prop where
  ex : ∃ (oc : Value) (od : Option Addr) (kV doc pm : Value) (an : Option Addr) (cdv ct : Value) (osl : Array (Option Value)),
    fd = PySem.W.fnOf x qual (defArgs st) (defBody st) (defScope st) .none kV doc pm an cdv ct ∧ K.lookup f = some ⟨oc, od, .func fd, osl⟩ ∧ PySem.W.codeIn K cdv qual = true
  kp : PySem.W.keepIn K (.ref f) = true
section
variable {P : Program} {w : World} {K : PySem.W.Frag} {mg : Str → Option Value} {base : Heap}
theorem Fun.ok {x qual : Str} {st : Stmt} {f : Addr} {fd : FuncData} {N ps : List Str} {k : Nat} {sp : Sp} (F : Fun K x qual st f fd) (S : FnScope N ps (defScope st)) (len : ∀ vs H Q E, sp vs H Q E → vs.length = ps.length)
    (hbody : ∀ (cdv : Value) (A : Around) (outer : List Env) (s : Shared) (H : Hp) (vs : List V) (Q : VK) (E : XK), Room k (A.deeper (envOfC qual (defScope st) s.heap.objs.size f cdv)) → sp vs H Q E →
      ∃ t, PSs (cxOf CX0 P w K mg base N qual (defScope st) f cdv A outer s H E).nox (defBody st) t ∧ t { nx := fun _ H' => Q .non H', rt := Q } (start N vs) H) : FnOk P w K mg base CX0 (k + 1) f fd ps sp := by
  obtain ⟨oc, od, kV, doc, pm, an, cdv, ct, osl, rfl, lk, hcd⟩ := F.ex
  refine fn_of lk hcd S len fun A outer s H vs Q E hr hsp => ?_
  obtain ⟨t, h, q⟩ := hbody cdv A outer s H vs Q E hr hsp
  exact ⟨t, h.nox, q⟩
theorem Fun.binds {x qual : Str} {st : Stmt} {f : Addr} {fd : FuncData} {ps : List Str} (F : Fun K x qual st f fd)
    (h : ∀ (kV doc pm : Value) (an : Option Addr) (cdv ct : Value) (us : List Value), us.length = ps.length → bindArgs (PySem.W.fnOf x qual (defArgs st) (defBody st) (defScope st) .none kV doc pm an cdv ct) ⟨us, []⟩ = pure (ps.zip us)) : Binds K fd ps [] := by
  obtain ⟨oc, od, kV, doc, pm, an, cdv, ct, osl, rfl, lk, hcd⟩ := F.ex
  exact .all (h kV doc pm an cdv ct)
theorem fun_mk {x qual : Str} {st : Stmt} {f : Addr} {oc : Value} {od an : Option Addr} {osl : Array (Option Value)} {kV doc pm cdv ct : Value} (l : K.lookup f = some ⟨oc, od, .func (PySem.W.fnOf x qual (defArgs st) (defBody st) (defScope st) .none kV doc pm an cdv ct), osl⟩)
    (c : PySem.W.codeIn K cdv qual = true) (k : PySem.W.keepIn K (.ref f) = true) : Fun K x qual st f (PySem.W.fnOf x qual (defArgs st) (defBody st) (defScope st) .none kV doc pm an cdv ct) := ⟨⟨oc, od, kV, doc, pm, an, cdv, ct, osl, rfl, l, c⟩, k⟩
end
section
variable {X : Cx}
theorem pv (i : Nat) {x : Str} {pos : Pos} (hN : X.N[i]? = some x := by rfl) (hv : Vis X.env.scope x := by first | exact Or.inl rfl | exact Or.inr (Or.inl rfl) | exact Or.inr (Or.inr rfl)) (hd : (x == ("__debug__" : Str)) = false := by decide)
    (hcd : (x == ("__classdict__" : Str)) = false := by decide) : PE X (.Name x pos) (tVar i) := pe_var hN hv hd hcd
end

theorem iteF {A B : Prop} (h : B) : if false = true then A else B := by
  rw [if_neg Bool.false_ne_true]
  exact h
theorem iteT {A B : Prop} (h : A) : if true = true then A else B := by
  rw [if_pos rfl]
  exact h
def Same (H H' : Hp) : Prop := ∀ b o, H b = some o → H' b = some o
theorem Same.refl (H : Hp) : Same H H := fun _ _ h => h
theorem Same.trans {H H1 H2 : Hp} (a : Same H H1) (b : Same H1 H2) : Same H H2 := fun c o h => b c o (a c o h)
theorem Same.free {H H' : Hp} (e : Same H H') {l : Addr} (h : H' l = Option.none) : H l = Option.none := by
  cases q : H l with
  | none => rfl
  | some o =>
    rw [e l o q] at h
    cases h
theorem Same.seq {K : PySem.W.Frag} {H H' : Hp} {a : Addr} {xs : List V} (e : Same H H') (h : SqL K H a xs) : SqL K H' a xs := by
  rcases h with (h | ⟨o, h⟩) | h
  · exact .inl (.inl (e _ _ h))
  · exact .inl (.inr ⟨o, e _ _ h⟩)
  · exact .inr h

section
variable {κ : Type} [DecidableEq κ]
theorem dropK_pos {p : κ × V} {r : List (κ × V)} {k : κ} (e : p.1 = k) : dropK (p :: r) k = dropK r k := by
  unfold dropK
  rw [List.filter_cons, if_neg (by simp [e])]
theorem dropK_neg {p : κ × V} {r : List (κ × V)} {k : κ} (e : ¬ p.1 = k) : dropK (p :: r) k = p :: dropK r k := by
  unfold dropK
  rw [List.filter_cons, if_pos (by simp [e])]
theorem dropK_mem {kvs : List (κ × V)} {k : κ} {p : κ × V} (h : p ∈ dropK kvs k) : p ∈ kvs := (List.mem_filter.mp h).1
theorem nd_dropK : ∀ {kvs : List (κ × V)} {k : κ}, (kvs.map (·.1)).Nodup → ((dropK kvs k).map (·.1)).Nodup
  | [], _, _ => List.nodup_nil
  | p :: r, k, h => by
    have h : (p.1 :: r.map (·.1)).Nodup := h
    obtain ⟨h1, h2⟩ := List.nodup_cons.mp h
    by_cases e : p.1 = k
    · rw [dropK_pos e]
      exact nd_dropK h2
    · rw [dropK_neg e]
      show (p.1 :: (dropK r k).map (·.1)).Nodup
      refine List.nodup_cons.mpr ⟨fun m => h1 ?_, nd_dropK h2⟩
      obtain ⟨q, hq, eq⟩ := List.mem_map.mp m
      exact List.mem_map.mpr ⟨q, dropK_mem hq, eq⟩
end
end L2

namespace L2
open PySem PySem.Spec PyProof.Rows

def hid (own : List Str) (x : Str) : Str := if own.contains x = true then "" else x
structure CompScope (sc : Scope) (N own : List Str) (scope : Scope) : Prop where
  kind : scope.kind = .function
  nocell : ∀ y ∈ scope.names, y.2 ≠ .cell
  names : ∀ y ∈ scope.names, y.2 = .local → scope.names.lookup y.1 = some .local
  free : ∀ y ∈ scope.names, y.2 = .free → sc.names.lookup y.1 = some .cell ∨ sc.names.lookup y.1 = some .free
  dis : ∀ x ∈ N, scope.names.lookup x = some .local → own.contains x = true
  no : scope.names.lookup ("" : Str) = none

def cxComp (X : Cx) (own : List Str) (scope : Scope) (cl : List (Str × Addr)) (C : Addr) (s : Shared) (H : Hp) (ex : List Addr) : Cx :=
  { X with N := own ++ X.N.map (hid own), s₀ := s, H₀ := H, env := compEnvC scope cl C X.env, outer := X.stack, stack := X.stack, ex := ex, fn := fun _ => false, pn := [], xe := fun _ _ => False }

theorem closure_of {scope : Scope} {env : Env} (h : ∀ y ∈ scope.names, y.2 = .free → ∃ c, env.cells.lookup y.1 = some c) :
    ∃ cl, closureFor scope env = pure cl ∧ (∀ x c, cl.lookup x = some c → env.cells.lookup x = some c) ∧ ∀ y ∈ scope.names, y.2 = .free → ∃ c, cl.lookup y.1 = some c := by
  have gen : ∀ (names : List (Str × NameKind)) (acc : List (Str × Addr)), (∀ y ∈ names, y.2 = .free → ∃ c, env.cells.lookup y.1 = some c) → (∀ x c, acc.lookup x = some c → env.cells.lookup x = some c) →
      ∃ cl, (forIn names acc fun (x : Str × NameKind) (r : List (Str × Addr)) => if (x.2 == NameKind.free) = true then (do let a ← cellOf env x.1; pure (ForInStep.yield ((x.1, a) :: r))) else pure (ForInStep.yield r) : Sem (List (Str × Addr))) = pure cl ∧ (∀ x c, cl.lookup x = some c → env.cells.lookup x = some c) ∧
        (∀ y ∈ names, y.2 = .free → ∃ c, cl.lookup y.1 = some c) ∧ ∀ x c, acc.lookup x = some c → ∃ c', cl.lookup x = some c' := by
    intro names
    induction names with
    | nil => intro acc _ ha; exact ⟨acc, by simp [List.forIn_nil], ha, fun y hy => by simp at hy, fun x c e => ⟨c, e⟩⟩
    | cons y r ih =>
      intro acc hn ha
      rw [List.forIn_cons]
      by_cases hf : y.2 = .free
      · obtain ⟨c, hc⟩ := hn y List.mem_cons_self hf
        have e1 : (y.2 == NameKind.free) = true := by rw [hf]; rfl
        have ce : cellOf env y.1 = pure c := by unfold cellOf; rw [hc]
        obtain ⟨cl, h1, h2, h3, h4⟩ := ih ((y.1, c) :: acc) (fun z hz => hn z (List.mem_cons_of_mem _ hz)) (fun x c' e => by
          rw [List.lookup_cons] at e
          cases q : x == y.1 with
          | true => rw [q] at e; cases e; rw [eq_of_beq q]; exact hc
          | false => rw [q] at e; exact ha x c' e)
        refine ⟨cl, ?_, h2, ?_, ?_⟩
        · rw [if_pos e1, ce]
          simpa using h1
        · intro z hz zf
          rcases List.mem_cons.mp hz with rfl | hz
          · exact h4 z.1 c (by rw [List.lookup_cons]; simp)
          · exact h3 z hz zf
        · intro x c' e
          cases q : x == y.1 with
          | true => exact h4 x c (by rw [List.lookup_cons, q])
          | false => exact h4 x c' (by rw [List.lookup_cons, q]; exact e)
      · have e1 : ¬ (y.2 == NameKind.free) = true := by intro z; exact hf (by simpa using z)
        obtain ⟨cl, h1, h2, h3, h4⟩ := ih acc (fun z hz => hn z (List.mem_cons_of_mem _ hz)) ha
        refine ⟨cl, ?_, h2, ?_, h4⟩
        · rw [if_neg e1]
          simpa using h1
        · intro z hz zf
          rcases List.mem_cons.mp hz with rfl | hz
          · exact absurd zf hf
          · exact h3 z hz zf
  obtain ⟨cl, h1, h2, h3, _⟩ := gen scope.names [] h (fun x c e => by simp at e)
  refine ⟨cl, ?_, h2, h3⟩
  unfold closureFor
  simpa using h1

theorem relabel_local {scope : Scope} {env : Env} : ∀ {names : List (Str × NameKind)} {x : Str}, (∀ y ∈ names, y.2 ≠ .cell) →
    (names.map fun (n, k) => if (k == NameKind.free && env.scope.kind == .function && env.kindOf n == some .cell) = true then (n, NameKind.cell) else (n, k)).lookup x = some .local → names.lookup x = some .local
  | [], _, _, h => by simp at h
  | (n, k) :: r, x, hc, h => by
    rw [List.map_cons, List.lookup_cons] at h
    rw [List.lookup_cons]
    by_cases q : (k == NameKind.free && env.scope.kind == .function && env.kindOf n == some .cell) = true
    · simp only [q, if_true] at h
      cases e : x == n with
      | true => rw [e] at h; cases h
      | false => rw [e] at h; exact relabel_local (scope := scope) (env := env) (fun y hy => hc y (List.mem_cons_of_mem _ hy)) h
    · simp only [q] at h
      cases e : x == n with
      | true => simpa [e] using h
      | false =>
        have h' : (r.map fun (n, k) => if (k == NameKind.free && env.scope.kind == .function && env.kindOf n == some .cell) = true then (n, NameKind.cell) else (n, k)).lookup x = some .local := by simpa [e] using h
        exact relabel_local (scope := scope) (env := env) (fun y hy => hc y (List.mem_cons_of_mem _ hy)) h'
theorem relabel_outer {scope : Scope} {env : Env} : ∀ {names : List (Str × NameKind)} {x : Str}, (∀ y ∈ names, y.2 ≠ .cell) →
    ((names.map fun (n, k) => if (k == NameKind.free && env.scope.kind == .function && env.kindOf n == some .cell) = true then (n, NameKind.cell) else (n, k)).lookup x = some .cell ∨
     (names.map fun (n, k) => if (k == NameKind.free && env.scope.kind == .function && env.kindOf n == some .cell) = true then (n, NameKind.cell) else (n, k)).lookup x = some .free) → (x, NameKind.free) ∈ names
  | [], _, _, h => by simp at h
  | (n, k) :: r, x, hc, h => by
    rw [List.map_cons, List.lookup_cons] at h
    by_cases q : (k == NameKind.free && env.scope.kind == .function && env.kindOf n == some .cell) = true
    · have kf : k = .free := by
        simp only [Bool.and_eq_true, beq_iff_eq] at q
        exact q.1.1
      simp only [q, if_true] at h
      cases e : x == n with
      | true => rw [eq_of_beq e, kf]; exact List.mem_cons_self
      | false =>
        rw [e] at h
        exact List.mem_cons_of_mem _ (relabel_outer (scope := scope) (env := env) (fun y hy => hc y (List.mem_cons_of_mem _ hy)) h)
    · simp only [q] at h
      cases e : x == n with
      | true =>
        have h' : k = .cell ∨ k = .free := by simpa [e] using h
        rcases h' with z | z
        · exact absurd z (hc (n, k) List.mem_cons_self)
        · rw [eq_of_beq e, z]; exact List.mem_cons_self
      | false =>
        have h' : ((r.map fun (n, k) => if (k == NameKind.free && env.scope.kind == .function && env.kindOf n == some .cell) = true then (n, NameKind.cell) else (n, k)).lookup x = some .cell ∨
     (r.map fun (n, k) => if (k == NameKind.free && env.scope.kind == .function && env.kindOf n == some .cell) = true then (n, NameKind.cell) else (n, k)).lookup x = some .free) := by simpa [e] using h
        exact List.mem_cons_of_mem _ (relabel_outer (scope := scope) (env := env) (fun y hy => hc y (List.mem_cons_of_mem _ hy)) h')

theorem relabel_none {env : Env} : ∀ {names : List (Str × NameKind)} {x : Str}, names.lookup x = none →
    (names.map fun (n, k) => if (k == NameKind.free && env.scope.kind == .function && env.kindOf n == some .cell) = true then (n, NameKind.cell) else (n, k)).lookup x = none
  | [], _, _ => rfl
  | (n, k) :: r, x, h => by
    rw [List.lookup_cons] at h
    rw [List.map_cons, List.lookup_cons]
    cases e : x == n with
    | true => rw [e] at h; cases h
    | false =>
      rw [e] at h
      by_cases q : (k == NameKind.free && env.scope.kind == .function && env.kindOf n == some .cell) = true
      · simp only [q, if_true, e]
        exact relabel_none h
      · simp only [q, e]
        simpa [e] using relabel_none (env := env) h
theorem Inv.block {X : Cx} {pins : List (Addr × Obj)} {σ : St} {H : Hp} {s : Shared} {own : List Str} {scope : Scope} {cl : List (Str × Addr)} {fp : List Addr} {h' : Heap}
    (I : Inv X pins σ H s) (S : CompScope X.env.scope X.N own scope)
    (c1 : ∀ x c, cl.lookup x = some c → X.env.cells.lookup x = some c) (c2 : ∀ y ∈ scope.names, y.2 = .free → ∃ c, cl.lookup y.1 = some c)
    (f : ∀ b ∈ fp, FpOk X pins H b) (fo : ∀ b ∈ fp, b < s.heap.objs.size)
    (ns : h'.Ns s.heap.objs.size (fun _ => none)) (k : ∀ b o, s.heap.get? b = some o → h'.get? b = some o) {t' : Nat} :
    Inv (cxComp X own scope cl s.heap.objs.size s H fp) [] (List.replicate own.length none ++ σ) H { s with heap := h', toks := t' } := by
  have kd : ∀ x, (compEnvC scope cl s.heap.objs.size X.env).kindOf x = some .cell ∨ (compEnvC scope cl s.heap.objs.size X.env).kindOf x = some .free → (x, NameKind.free) ∈ scope.names := fun x h => relabel_outer (scope := scope) (env := X.env) S.nocell h
  have okY : (cxComp X own scope cl s.heap.objs.size s H fp).Ok := by
    refine ⟨I.ok.mod, S.kind, I.ok.glob, I.ok.blt, Nat.le_refl _, fun x y c hx hy => I.ok.inj x y c (c1 x c hx) (c1 y c hy), fun x hx => ?_, fun x c hf => (nomatch hf), I.ok.hd, I.ok.frames, .inl rfl, fun b hb => ⟨?_, fun x c hc => ?_⟩, I.bs, Nat.le_trans I.ok.bsz I.sz, fun b o e hb => ?_, fun b hb hfs => ?_, I.stack, I.stkFree⟩
    · exact c2 (x, .free) (kd x hx) rfl
    · exact Nat.ne_of_lt (fo b hb)
    · exact (f b hb).2.2.2.2.1 x c (c1 x c hc)
    · rcases (f b hb).2.2.2.1 with z | z
      · exact I.ok.noex b o e z
      · exact absurd (Nat.lt_of_lt_of_le (Heap.lt_size e) (Nat.le_trans I.ok.bsz z)) (Nat.lt_irrefl _)
    · obtain ⟨_, f1, f2, _⟩ := f b hb
      rcases List.mem_cons.mp (I.stkSub b hfs) with z | z
      · exact f1 z
      · exact f2 z
  refine ⟨okY, rfl, I.bare, Un.kept k, ⟨_, ns, fun i x v e1 e2 e3 => ?_⟩, fun x c hc => ?_, I.hok.fresh (Nat.le_refl _), fun x c hc => I.freeC x c (c1 x c hc), fun p hp => by simp [cxComp] at hp, I.hok.kept k, ?_⟩
  · by_cases hi : i < own.length
    · have e2' : (List.replicate own.length (none : Option V) ++ σ)[i]? = some (some v) := e2
      rw [List.getElem?_append_left (by simpa using hi), List.getElem?_replicate, if_pos hi] at e2'
      cases e2'
    · have hle : own.length ≤ i := Nat.le_of_not_lt hi
      have e2' : σ[i - own.length]? = some (some v) := by
        have e2' : (List.replicate own.length (none : Option V) ++ σ)[i]? = some (some v) := e2
        rw [List.getElem?_append_right (by simpa using hle)] at e2'
        simpa using e2'
      have e1'' : (X.N.map (hid own))[i - own.length]? = some x := by
        have e1' : (own ++ X.N.map (hid own))[i]? = some x := e1
        rwa [List.getElem?_append_right hle] at e1'
      rw [List.getElem?_map] at e1''
      obtain ⟨y, e1', ey⟩ := Option.map_eq_some_iff.mp e1''
      have hy : own.contains y = false := by
        cases hc : own.contains y with
        | false => rfl
        | true =>
          unfold hid at ey
          rw [if_pos hc] at ey
          subst ey
          have e3' : (scope.names.map fun (n, k) => if (k == NameKind.free && X.env.scope.kind == .function && X.env.kindOf n == some .cell) = true then (n, NameKind.cell) else (n, k)).lookup ("" : Str) ≠ none := by
            rcases e3 with z | z | z <;> (intro q; have z' : (scope.names.map fun (n, k) => if (k == NameKind.free && X.env.scope.kind == .function && X.env.kindOf n == some .cell) = true then (n, NameKind.cell) else (n, k)).lookup ("" : Str) = _ := z; rw [q] at z'; cases z')
          exact absurd (relabel_none S.no) e3'
      have exy : y = x := by
        unfold hid at ey
        rw [if_neg (by rw [hy]; exact Bool.false_ne_true)] at ey
        exact ey
      subst exy
      have hm : y ∈ X.N := List.mem_of_getElem? e1'
      have h3 : (compEnvC scope cl s.heap.objs.size X.env).kindOf y = some .cell ∨ (compEnvC scope cl s.heap.objs.size X.env).kindOf y = some .free := by
        rcases e3 with z | z
        · have := S.dis y hm (relabel_local (scope := scope) (env := X.env) S.nocell z)
          rw [hy] at this
          cases this
        · exact z
      have hfree := kd y h3
      obtain ⟨c, hc⟩ := c2 (y, .free) hfree rfl
      have hout := S.free (y, .free) hfree rfl
      obtain ⟨m, hn, hl⟩ := I.loc
      obtain ⟨u, r, l⟩ := hl _ y v e1' e2' (hout.elim (fun z => .inr (.inl z)) (fun z => .inr (.inr z)))
      refine ⟨u, r, .inr ⟨h3, c, hc, ?_⟩⟩
      rcases l with ⟨kl, _⟩ | ⟨_, c', hc', hcell⟩
      · rcases hout with z | z
        · rw [show X.env.kindOf y = X.env.scope.names.lookup y from rfl, z] at kl; cases kl
        · rw [show X.env.kindOf y = X.env.scope.names.lookup y from rfl, z] at kl; cases kl
      · rw [c1 y c hc] at hc'
        cases hc'
        obtain ⟨o, ho, hd⟩ := hcell
        exact ⟨o, k c o ho, hd⟩
  · obtain ⟨v, o, ho, hd⟩ := I.cell x c (c1 x c hc)
    exact ⟨v, o, k c o ho, hd⟩
  · show (List.replicate own.length (none : Option V) ++ σ).length = (own ++ X.N.map (hid own)).length
    rw [List.length_append, List.length_append, List.length_replicate, List.length_map, I.len]

def PIf (X : Cx) (ifs : List Expr) (tc : TT) : Prop :=
  ∀ (pins : List (Addr × Obj)) (s : Shared) (σ : St) (H : Hp) (Q : Bool → Hp → Prop), Inv X pins σ H s → tc σ H Q →
    wpAny (model X.prog X.w) X.A (forIn ifs true fun c r => if r = true then do let ok ← isTrue c X.env (eval c X.env); pure (ForInStep.yield ok) else pure (ForInStep.yield r)) (TP X pins σ Q) X.xe s
def tNoIf : TT := fun _ H Q => Q true H
theorem pif_nil {X : Cx} : PIf X [] tNoIf := by
  intro pins s σ H Q I h
  rw [List.forIn_nil]
  exact wpAny_pure ⟨H, I, h⟩
def tLoopC (k : Nat) (g : TG) (tc : TT) (te : TE) (J : It) (p : Addr) (R : Hp → Prop) (σ : St) (H : Hp) : Prop :=
  ∃ W : Nat → Nat → St → Hp → Prop, (∃ m, W 0 m (List.replicate k none ++ σ) (upd H p (.lst []))) ∧ ∀ i m σ' H', W i m σ' H' →
    (J.stop i H' ∧ R H') ∨ (J.go i H' ∧ ∃ N : St → Hp → Prop, (∀ σ2 H2, N σ2 H2 → ∃ m', m' < m ∧ W (i + 1) m' σ2 H2) ∧ ∀ x H1, J.yld i H' x H1 → g x σ' H1 fun σ2 H2 => tc σ2 H2 fun b H3 =>
      if b = true then te σ2 H3 fun v H4 => ∃ ys, H4 p = some (.lst ys) ∧ ys.length < sizeLine ∧ N σ2 (upd H4 p (.lst (ys ++ [v]))) else N σ2 H3)
def tComp (k : Nat) (wi : TI) (g : TG) (tc : TT) (te : TE) : TE := fun σ H Q => wi σ H fun J H1 => ∀ p, H1 p = none → tLoopC k g tc te J p (fun H' => Q (.ref p) H') σ H1

theorem comp_core {X : Cx} {tg elt iter : Expr} {ifs : List Expr} {scope : Scope} {pos : Pos} {own : List Str} {wi : TI} {g : TG} {tc : TT} {te : TE} {pins : List (Addr × Obj)} {σ : St} {H : Hp} {s : Shared} {use : Option (Value → Sem Unit)} {Q : Value → Shared → Prop} {R : Addr → Hp → Prop}
    (hc : X.calm = true) (S : CompScope X.env.scope X.N own scope) (hi : PI X tg iter wi)
    (hg : ∀ cl C s₀ H₀ ex, PG (cxComp X own scope cl C s₀ H₀ ex) tg g) (ht : ∀ cl C s₀ H₀ ex, PIf (cxComp X own scope cl C s₀ H₀ ex) ifs tc) (he : ∀ cl C s₀ H₀ ex, PE (cxComp X own scope cl C s₀ H₀ ex) elt te)
    (hs : ∀ x, foldedSetIterable iter X.env x = pure x)
    (I : Inv X pins σ H s) (h : wi σ H fun J H1 => ∀ p, H1 p = none → tLoopC own.length g tc te J p (R p) σ H1)
    (fin : ∀ (p : Addr) (H' : Hp) (s' : Shared) (C : Addr) (m : Str → Option Value), Inv X pins σ H' s' → FpOk X pins H' C → s'.heap.Ns C m → R p H' → compPost (model X.prog X.w) X.A X.xe use Q (.ref p) C (.ok .next) s') :
    wpAny (model X.prog X.w) X.A (comprehension (.ListComp elt [⟨tg, iter, ifs, 0⟩] scope pos) scope X.env (firstIterPos [⟨tg, iter, ifs, 0⟩] pos) (newList []) false (eval iter X.env) use) Q X.xe s := by
  obtain ⟨cl, hcl, c1, c2⟩ := closure_of (scope := scope) (env := X.env) fun y hy hf => I.ok.has y.1 (S.free y hy hf)
  refine wpAny_comprehension_free (use := use) rfl hs hcl S.kind S.names (thn (hi pins s σ H _ I h) fun xv s1 h1 => thn h1 fun itv s2 h2 => ?_)
  obtain ⟨it, fp, tn, J, H2, e, I2, T, st2, f2, q2⟩ := h2
  subst e
  -- the list that is made
  refine wpAny_newObj_type ?_
  have hp : H2 s2.heap.objs.size = none := I2.hok.fresh (Nat.le_refl _)
  obtain ⟨W, ⟨m0, w0⟩, turn⟩ := q2 _ hp
  generalize hP : s2.heap.objs.size = P at hp W w0 turn ⊢
  have kP : ∀ b u, s2.heap.get? b = some u → (s2.heap.push { cls := .type "list", dict := none, data := .seq ([] : List Value).toArray }).get? b = some u := fun b u e => Heap.get?_push_of_some _ e
  have I3 : Inv X pins σ (upd H2 P (.lst [])) { s2 with heap := s2.heap.push { cls := .type "list", dict := none, data := .seq ([] : List Value).toArray }, toks := s2.toks } :=
    I2.laid (a := P) (o := .lst []) (t' := s2.toks) kP (by rw [hP]; exact Nat.le_refl _) ⟨Nat.zero_le _, [], 0, .nil, by rw [← hP]; exact Heap.get?_push_size _ rfl⟩
  have fP : ∀ b ∈ fp, b ≠ P := fun b hb z => by
    obtain ⟨o, ho, _⟩ := T.obj _ _ st2 b hb
    have q := Heap.lt_size ho
    rw [hP, z] at q
    exact Nat.lt_irrefl _ q
  have f3 : ∀ b ∈ fp, FpOk X pins (upd H2 P (.lst [])) b := fun b hb => ⟨by rw [upd_ne (fP b hb)]; exact (f2 b hb).1, (f2 b hb).2⟩
  have st3 : tn 0 (s2.heap.push { cls := .type "list", dict := none, data := .seq ([] : List Value).toArray }) := T.keep _ _ _ st2 fun b _ o e => kP b o e
  generalize hS3 : ({ s2 with heap := s2.heap.push { cls := .type "list", dict := none, data := .seq ([] : List Value).toArray }, toks := s2.toks } : Shared) = s3 at I3
  have st3' : tn 0 s3.heap := by rw [← hS3]; exact st3
  have fo : ∀ b ∈ fp, b < s3.heap.objs.size := fun b hb => by
    obtain ⟨o, ho, _⟩ := T.obj _ _ st3' b hb
    exact Heap.lt_size ho
  refine wpAny_newFunctionEnv S.nocell (by intro y hy; simp at hy) (fun h4 hns hsb => ?_) S.kind
  try dsimp only at hns hsb ⊢
  have k4 : ∀ b o, s3.heap.get? b = some o → h4.get? b = some o := fun b o e => hsb.extBut b o (Nat.ne_of_lt (Heap.lt_size e)) (Heap.get?_push_of_some _ e)
  have I4 := Inv.block (own := own) (h' := h4) (t' := s3.toks + ([] : List (Str × Value)).length) I3 S c1 c2 f3 fo (by simpa using hns) k4
  -- what is true of the iterator within the block
  have fpY : ∀ {H' : Hp}, (∀ b ∈ fp, H' b = none) → ∀ b ∈ fp, FpOk (cxComp X own scope cl s3.heap.objs.size s3 (upd H2 P (.lst [])) fp) [] H' b := fun hn b hb => by
    refine ⟨hn b hb, Nat.ne_of_lt (fo b hb), ?_, .inl hb, fun x c hx => (f3 b hb).2.2.2.2.1 x c (c1 x c hx), fun p hp => by simp [cxComp] at hp⟩
    intro hfs
    rcases List.mem_cons.mp (I3.stkSub b hfs) with z | z
    · exact (f3 b hb).2.1 z
    · exact (f3 b hb).2.2.1 z
  have loop : codeAny (model X.prog X.w) X.A (.compLoop (.ListComp elt [⟨tg, iter, ifs, 0⟩] scope pos) 0 (.ref it) (.ref P) (compEnvC scope cl s3.heap.objs.size X.env)) (compPost (model X.prog X.w) X.A X.xe use Q (.ref P) s3.heap.objs.size) { s3 with heap := h4, toks := s3.toks + ([] : List (Str × Value)).length } := by
    refine codeAny_loop rfl (fun n s' => ∃ i σ' H', Inv (cxComp X own scope cl s3.heap.objs.size s3 (upd H2 P (.lst [])) fp) [] σ' H' s' ∧ tn i s'.heap ∧ (∀ b ∈ fp, H' b = none) ∧ W i n σ' H') ?_ m0 ⟨0, _, _, I4, T.keep _ _ _ st3' fun b _ o e => k4 b o e, fun b hb => (f3 b hb).1, w0⟩
    rintro n s5 ⟨i, σ5, H5, I5, st5, fr5, w5⟩
    show wpAny _ _ ((compTurn (.ListComp elt [⟨tg, iter, ifs, 0⟩] scope pos) 0 (.ref it) (.ref P) (compEnvC scope cl s3.heap.objs.size X.env)).onRaise (fun x => do noteFrame x (compEnvC scope cl s3.heap.objs.size X.env); theTreesLotGoes x)) _ _ s5
    refine wpAny_noted ?_
    rw [compTurn_list]
    have nE : ∀ {α : Type} {t : Sem α} {QQ : α → Shared → Prop} {E' : Value → Shared → Prop} {ss : Shared}, wpAny (model X.prog X.w) X.A t QQ (fun _ _ => False) ss → wpAny (model X.prog X.w) X.A t QQ E' ss := fun h => wpAny_mono h (fun _ _ q => q) fun _ _ z => z.elim
    refine wpAny_bind (wpAny_standAt (wpAny_bind ?_))
    rcases turn i n σ5 H5 w5 with ⟨stop, qn⟩ | ⟨go, N, hN, step⟩
    · refine thn (T.done (cxComp X own scope cl s3.heap.objs.size s3 (upd H2 P (.lst [])) fp) rfl rfl rfl hc i [] s5 σ5 H5 _ I5 (fpY fr5) st5 stop) fun r s6 ⟨hr, I6⟩ => ?_
      subst hr
      refine wpAny_pure ?_
      have back : ∀ h', Heap.SameBut s3.heap.objs.size s6.heap h' → Inv X pins σ H5 { s6 with heap := h' } := fun h' sb => by
        have nC : ∀ b o, s3.heap.get? b = some o → b ≠ s3.heap.objs.size := fun b o e => Nat.ne_of_lt (Heap.lt_size e)
        have nH : ∀ b u, H5 b = some u → b ≠ s3.heap.objs.size := fun b u e z => by
          have : H5 s3.heap.objs.size = none := I6.free
          rw [z, this] at e; cases e
        refine I3.call' (s' := { s6 with heap := h' }) (ch := fp) I6.os ⟨fun b o e n hb hx => ?_, fun b o e n hb hx => ?_, I6.base.free, fun b o e hx => ?_, I6.base.tups, I6.base.frzs, I6.base.tbls⟩ ?_ I6.bare fun b hb => ?_
        · exact (sb.2 b (nC b o e)).trans (I6.base.keep b o e n hb hx)
        · obtain ⟨sl, z⟩ := I6.base.slot b o e n hb hx
          exact ⟨sl, (sb.2 b (nC b o e)).trans z⟩
        · obtain ⟨o', z⟩ := I6.base.there b o e hx
          exact ⟨o', (sb.2 b (nC b o e)).trans z⟩
        · intro b u e
          refine (I6.hok b u e).stay (fun c v hc q => (sb.2 c ?_).trans q) (fun _ q => q) fun _ _ q => q
          rcases hc with z | z
          · rw [z]; exact nH b u e
          · exact nH c _ z
        · obtain ⟨_, g1, g2, g3, g4, g5⟩ := f3 b hb
          exact ⟨g3, g1, g4, g5⟩
      obtain ⟨m, hn, _⟩ := I6.loc
      exact fin P H5 s6 s3.heap.objs.size m (back s6.heap (.refl ..)) (I3.fpOk (Nat.le_refl _) I6.free) hn qn
    · refine thn (T.item (cxComp X own scope cl s3.heap.objs.size s3 (upd H2 P (.lst [])) fp) rfl rfl rfl hc i [] s5 σ5 H5 _ I5 (fpY fr5) st5 go) fun r s6 ⟨u, hr, h6⟩ => ?_
      subst hr
      refine wpAny_bind (thn h6 fun _ s7 ⟨x, H7, I7, r7, y7, st7, fr7⟩ => ?_)
      have I7' := I7.pinned (fpY fr7) (T.obj _ _ st7)
      refine wpAny_bind (nE (thn (hg cl s3.heap.objs.size s3 (upd H2 P (.lst [])) fp _ s7 σ5 H7 x u _ I7' r7 (step x H7 y7)) fun _ s8 ⟨σ8, H8, I8, q8⟩ => ?_))
      have again : ∀ {s9 : Shared} {H9 : Hp}, Inv (cxComp X own scope cl s3.heap.objs.size s3 (upd H2 P (.lst [])) fp) ([] ++ pinsAt fp s7.heap) σ8 H9 s9 → N σ8 H9 → ∃ m, m < n ∧ ∃ i σ' H', Inv (cxComp X own scope cl s3.heap.objs.size s3 (upd H2 P (.lst [])) fp) [] σ' H' s9 ∧ tn i s9.heap ∧ (∀ b ∈ fp, H' b = none) ∧ W i m σ' H' := fun {s9 H9} I9 n9 => by
        obtain ⟨m', hm, w9⟩ := hN σ8 H9 n9
        refine ⟨m', hm, i + 1, σ8, H9, I9.unpinned, T.keep _ _ _ st7 fun b hb o e => (I9.pin (b, o) (List.mem_append_right _ (List.mem_append_right _ (mem_pinsAt hb e)))).1, fun b hb => ?_, w9⟩
        obtain ⟨o, e, d⟩ := T.obj _ _ st7 b hb
        exact (I9.pin (b, o) (List.mem_append_right _ (List.mem_append_right _ (mem_pinsAt hb e)))).2.1
      refine wpAny_bind (nE (thn (ht cl s3.heap.objs.size s3 (upd H2 P (.lst [])) fp _ s8 σ8 H8 _ I8 q8) fun ok s9 ⟨H9, I9, q9⟩ => ?_))
      cases ok with
      | false =>
        rw [if_neg (by decide)] at q9
        exact wpAny_pure ⟨rfl, again I9 q9⟩
      | true =>
        rw [if_pos rfl] at q9
        refine wpAny_bind (wpAny_bind (nE (thn (he cl s3.heap.objs.size s3 (upd H2 P (.lst [])) fp _ s9 σ8 H9 _ I9 q9) fun y s10 ⟨v, H10, I10, r10, ys, e10, l10, q10⟩ => ?_)))
        refine wpAny_bind (nE (thn (mt_append (X := cxComp X own scope cl s3.heap.objs.size s3 (upd H2 P (.lst [])) fp) _ s10 σ8 H10 (.ref P) [v] (.ref P) [y] (fun _ H' => N σ8 H') I10 rfl (.cons r10 .nil) ⟨P, ys, v, rfl, rfl, e10, l10, q10⟩) fun _ s11 ⟨_, H11, I11, _, q11⟩ => ?_))
        exact wpAny_pure (wpAny_pure ⟨rfl, again I11 q11⟩)
  have lself := T.self X.A 0 ({ s3 with heap := h4, toks := s3.toks + ([] : List (Str × Value)).length } : Shared) (fun it' s' => codeAny (model X.prog X.w) X.A (.compLoop (.ListComp elt [⟨tg, iter, ifs, 0⟩] scope pos) 0 it' (.ref P) (compEnvC scope cl s3.heap.objs.size X.env)) (compPost (model X.prog X.w) X.A X.xe use Q (.ref P) s3.heap.objs.size) s')
    (notedBy (model X.prog X.w) X.A (compEnvC scope cl s3.heap.objs.size X.env) fun x s' => compPost (model X.prog X.w) X.A X.xe use Q (.ref P) s3.heap.objs.size (.error x) s') (T.keep _ _ _ st3' fun b _ o e => k4 b o e) loop
  exact codeAny_compStart_list loop lself

theorem pe_comp {X : Cx} {tg elt iter : Expr} {ifs : List Expr} {scope : Scope} {pos : Pos} (own : List Str) {wi : TI} {g : TG} {tc : TT} {te : TE}
    (hc : X.calm = true) (S : CompScope X.env.scope X.N own scope) (hi : PI X tg iter wi)
    (hg : ∀ cl C s₀ H₀ ex, PG (cxComp X own scope cl C s₀ H₀ ex) tg g) (ht : ∀ cl C s₀ H₀ ex, PIf (cxComp X own scope cl C s₀ H₀ ex) ifs tc) (he : ∀ cl C s₀ H₀ ex, PE (cxComp X own scope cl C s₀ H₀ ex) elt te)
    (hs : ∀ x, foldedSetIterable iter X.env x = pure x := by intro _; rfl) :
    PE X (.ListComp elt [⟨tg, iter, ifs, 0⟩] scope pos) (tComp own.length wi g tc te) := by
  intro pins s σ H Q I h
  rw [eval_ListComp]
  refine comp_core (use := none) (R := fun p H' => Q (.ref p) H') hc S hi hg ht he hs I h fun p H' s' C m I' f hn q => ?_
  obtain ⟨f0, f1, f2, f3, f4, f5⟩ := f
  exact ⟨m, hn, fun h' sb => ⟨.ref p, H', I'.turned (t' := s'.toks) (fun b o hb e => (sb.2 b hb).trans e) f0 f1 f3 f4 f5, rfl, q⟩⟩
theorem ps_setC {X : Cx} {tg elt iter : Expr} {ifs : List Expr} {scope : Scope} {pos : Pos} (own : List Str) {wi : TI} {g : TG} {tc : TT} {te : TE} {i : Nat} {x : Str} {pos' spos : Pos}
    (hN : X.N.Nodup) (hx0 : X.N[i]? = some x) (hx : X.env.scope.names.lookup x = some .local) (hc : X.calm = true) (S : CompScope X.env.scope X.N own scope) (hi : PI X tg iter wi)
    (hg : ∀ cl C s₀ H₀ ex, PG (cxComp X own scope cl C s₀ H₀ ex) tg g) (ht : ∀ cl C s₀ H₀ ex, PIf (cxComp X own scope cl C s₀ H₀ ex) ifs tc) (he : ∀ cl C s₀ H₀ ex, PE (cxComp X own scope cl C s₀ H₀ ex) elt te)
    (hsw : swapsWith (.ListComp elt [⟨tg, iter, ifs, 0⟩] scope pos) (some (.Name x pos')) spos.line X.env = pure true := by rfl)
    (hs : ∀ x, foldedSetIterable iter X.env x = pure x := by intro _; rfl) :
    PS X (.Assign [.Name x pos'] (.ListComp elt [⟨tg, iter, ifs, 0⟩] scope pos) spos) (tAsg (tComp own.length wi g tc te) (gName i)) := by
  intro pins s σ H D I h
  rw [exec_Assign_Name_used _ _ _ _ hsw]
  refine wpAny_bind (wpAny_standAt (wpAny_bind ?_))
  show wpAny _ X.A (do let _ ← comprehension (.ListComp elt [⟨tg, iter, ifs, 0⟩] scope pos) scope X.env _ (newList []) false (eval iter X.env) (some (assign (.Name x pos') X.env))) _ _ s
  refine wpAny_bind (thn (comp_core (use := some (assign (.Name x pos') X.env)) (Q := fun _ s' => SP X pins D .next s') (R := fun p H' => D.nx (σ.set i (some (.ref p))) H') hc S hi hg ht he hs I h fun p H' s' C m I' f hn q => ?_) fun _ s' hq => wpAny_pure (wpAny_pure hq))
  obtain ⟨f0, f1, f2, f3, f4, f5⟩ := f
  show wpAny _ X.A (assign (.Name x pos') X.env (.ref p)) _ _ s'
  refine wpAny_assign_Name (store_ok2 I' hN hx0 (.inl hx) (v := .ref p) rfl (fun s2 I2 ⟨a, sb, ha⟩ => ?_) (.inr hx))
  have hCa : C ≠ a := by
    rcases ha with z | z
    · rw [z]; exact f1
    · exact fun e => f4 x a z e.symm
  exact ⟨m, hn.sameBut sb hCa, fun h' sb' => ⟨_, H', I2.turned (t' := s2.toks) (fun b o hb e => (sb'.2 b hb).trans e) f0 f1 f3 f4 f5, q⟩⟩
end L2
namespace L2
open PySem PySem.Spec PyProof.Rows

def DefAt (K : PySem.W.Frag) (mg : Str → Option Value) (x : Str) (st : Stmt) : Prop := ∃ f fd, Fun K x x st f fd ∧ mg x = some (.ref f)
theorem defAt_mk {K : PySem.W.Frag} {h : Heap} {mg : Str → Option Value} {x : Str} {st : Stmt} {f : Addr} {oc : Value} {od an : Option Addr} {osl : Array (Option Value)} {kV doc pm cdv ct : Value} (X : K.In h) (G : h.Ns mainGlobals mg)
    (a : PySem.W.nsIn K mainGlobals x = some (some (.ref f))) (l : K.lookup f = some ⟨oc, od, .func (PySem.W.fnOf x x (defArgs st) (defBody st) (defScope st) .none kV doc pm an cdv ct), osl⟩)
    (c : PySem.W.codeIn K cdv x = true) (k : PySem.W.keepIn K (.ref f) = true) : DefAt K mg x st :=
  ⟨f, _, fun_mk l c k, PySem.W.mg_of X G a⟩
def CalF (P : Program) (w : World) (K : PySem.W.Frag) (mg : Str → Option Value) (base : Heap) (k : Nat) (f : Addr) (sp : Sp) : Prop :=
  ∃ fd ps, FnOk P w K mg base CX0 k f fd ps sp ∧ PySem.W.keepIn K (.ref f) = true ∧ Binds K fd ps []
def Cal (P : Program) (w : World) (K : PySem.W.Frag) (mg : Str → Option Value) (base : Heap) (k : Nat) (x : Str) (sp : Sp) : Prop :=
  ∃ f, mg x = some (.ref f) ∧ CalF P w K mg base k f sp
section
variable {P : Program} {w : World} {K : PySem.W.Frag} {mg : Str → Option Value} {base : Heap}
theorem CalF.mono {j k : Nat} {f : Addr} {sp : Sp} (c : CalF P w K mg base j f sp) (h : j ≤ k) : CalF P w K mg base k f sp :=
  let ⟨fd, ps, F, kp, b⟩ := c
  ⟨fd, ps, F.mono h, kp, b⟩
theorem Cal.mono {j k : Nat} {x : Str} {sp : Sp} (c : Cal P w K mg base j x sp) (h : j ≤ k) : Cal P w K mg base k x sp :=
  let ⟨f, m, c⟩ := c
  ⟨f, m, c.mono h⟩
theorem cal_of {x : Str} {st : Stmt} {N ps : List Str} {k : Nat} {sp : Sp} (D : DefAt K mg x st) (S : FnScope N ps (defScope st)) (len : ∀ vs H Q E, sp vs H Q E → vs.length = ps.length)
    (hb : ∀ (kV doc pm : Value) (an : Option Addr) (cdv ct : Value) (us : List Value), us.length = ps.length → bindArgs (PySem.W.fnOf x x (defArgs st) (defBody st) (defScope st) .none kV doc pm an cdv ct) ⟨us, []⟩ = pure (ps.zip us))
    (hbody : ∀ (f : Addr) (cdv : Value) (A : Around) (outer : List Env) (s : Shared) (H : Hp) (vs : List V) (Q : VK) (E : XK), Room k (A.deeper (envOfC x (defScope st) s.heap.objs.size f cdv)) → sp vs H Q E →
      ∃ t, PSs (cxOf CX0 P w K mg base N x (defScope st) f cdv A outer s H E).nox (defBody st) t ∧ t { nx := fun _ H' => Q .non H', rt := Q } (start N vs) H) : Cal P w K mg base (k + 1) x sp := by
  obtain ⟨f, fd, F, m⟩ := D
  exact ⟨f, m, fd, ps, F.ok S len (hbody f), F.kp, F.binds hb⟩
end

section
variable {X : Cx} {k : Nat} {x : Str} {sp : Sp} {p pos : Pos} {e func : Expr} {es : List Expr} {t : TA} {tf : TE}
theorem pe_cal (c : Cal X.prog X.w X.K X.mg X.base k x sp) (hr : Room k X.A) (hg : Gl X x) (ha : PA X (e :: es) t) (hdb : (x == ("__debug__" : Str)) = false := by decide)
    (he : starEach (e :: es) X.env = (false, eval e X.env) :: starEach es X.env := by rfl) (hpl : (backTo pos (starEach es X.env)).any (·.1) = false := by rfl) :
    PE X (.Call (.Name x p) (e :: es) [] pos) (tCall sp [] E0 t) := by
  obtain ⟨f, m, fd, ps, F, kp, b⟩ := c
  exact pe_call F hr hg m kp b .nil pass0 ha hdb he hpl
end

def CDivW (i j : Int) : Prop := 0 < j ∧ j < 2 ^ 200
section
variable {X : Cx}
theorem log2_small {n : Nat} (h : n < 2 ^ 200) : n.log2 < 9000 := by
  by_cases z : n = 0
  · subst z; decide
  · have := (Nat.log2_lt z).mpr h
    omega
theorem op_fdivW : OpR X (binaryOp .FloorDiv) (rI CDivW fun i j => .int (i / j)) := opI fun i j _ _ _ _ _ hc q => by
  refine floordiv_int (by have := hc.1; omega) ?_ (.inl (PyProof.noPylong_of_log2 (log2_small ?_)))
  · rw [Int.fdiv_eq_ediv_of_nonneg _ (Int.le_of_lt hc.1)]
    exact q
  · have h1 := hc.1
    have h2 := hc.2
    have e : ((j.natAbs : Nat) : Int) = j := Int.natAbs_of_nonneg (Int.le_of_lt h1)
    have : ((j.natAbs : Nat) : Int) < ((2 ^ 200 : Nat) : Int) := by rw [e]; exact h2
    exact Int.ofNat_lt.mp this
end

def isiV : V → String → Option Bool
  | .int _, "int" => some true
  | .int _, "bool" => some false
  | .int _, "str" => some false
  | .int _, "tuple" => some false
  | .int _, "list" => some false
  | .bl _, "bool" => some true
  | .bl _, "int" => some true
  | .bl _, "str" => some false
  | .str _, "str" => some true
  | .str _, "int" => some false
  | .str _, "bool" => some false
  | .str _, "tuple" => some false
  | .str _, "list" => some false
  | _, _ => none
section
variable {X : Cx}
theorem call_isi : CallR X (.builtin "isinstance") (fun xs H Q => ∃ x T b, xs = [x, .ty T] ∧ isiV x T = some b ∧ Q (.bl b) H) := by
  intro pins s σ H xs us Q I r h
  obtain ⟨x, T, b, rfl, e, q⟩ := h
  obtain ⟨u, v, rfl, ru, rv⟩ := vals2 r
  obtain rfl : v = Value.type T := rv
  unfold isiV at e
  split at e <;> first
    | (cases e; obtain ⟨t, rfl⟩ := ru; first
        | exact IsiPair.int_int ⟨.bl true, H, I, rfl, q⟩
        | exact IsiPair.int_bool ⟨.bl false, H, I.tok _, rfl, q⟩
        | exact IsiPair.int_str ⟨.bl false, H, I.tok _, rfl, q⟩
        | exact IsiPair.int_tuple ⟨.bl false, H, I.tok _, rfl, q⟩
        | exact IsiPair.int_list ⟨.bl false, H, I.tok _, rfl, q⟩
        | exact IsiPair.str_str ⟨.bl true, H, I, rfl, q⟩
        | exact IsiPair.str_int ⟨.bl false, H, I.tok _, rfl, q⟩
        | exact IsiPair.str_bool ⟨.bl false, H, I.tok _, rfl, q⟩
        | exact IsiPair.str_tuple ⟨.bl false, H, I.tok _, rfl, q⟩
        | exact IsiPair.str_list ⟨.bl false, H, I.tok _, rfl, q⟩)
    | (cases e; cases ru; first
        | exact IsiPair.bool_bool ⟨.bl true, H, I, rfl, q⟩
        | exact IsiPair.bool_int ⟨.bl true, H, I, rfl, q⟩
        | exact IsiPair.bool_str ⟨.bl false, H, I.tok _, rfl, q⟩)
    | cases e
end

section
variable {X : Cx} {o i : Expr} {td ty : TE} {pos : Pos}
end

section
variable {σ : St} {H : Hp} {Q : VK} {D : Ends} {i : Nat} {v : V}
theorem rd_C (q : Q v H) : tC v σ H Q := q
theorem rd_V (e : σ[i]? = some (some v)) (q : Q v H) : tVar i σ H Q := ⟨v, e, q⟩
theorem rd_op {r : R2} {ta tb : TE} (q : ta σ H fun x H1 => tb σ H1 fun y H2 => r x y H2 Q) : tOp r ta tb σ H Q := q
theorem rd_un {r : V → Hp → VK → Prop} {ta : TE} (q : ta σ H fun x H1 => r x H1 Q) : tUn r ta σ H Q := q
theorem rd_I {C : Int → Int → Prop} {g : Int → Int → V} {a b : Int} (c : C a b) (q : Q (g a b) H) : rI C g (.int a) (.int b) H Q := ⟨a, b, rfl, rfl, c, q⟩
theorem rd_I0 {g : Int → Int → V} {a b : Int} (q : Q (g a b) H) : rI0 g (.int a) (.int b) H Q := ⟨a, b, rfl, rfl, q⟩
theorem rd_U {g : Int → V} {a : Int} (q : Q (g a) H) : rU g (.int a) H Q := ⟨a, rfl, q⟩
theorem rd_eqI {a b : Int} (q : Q (.bl (decide (a = b))) H) : rEq (.int a) (.int b) H Q := by
  refine ⟨rfl, ?_⟩
  have e : decide (V.int a = V.int b) = decide (a = b) := decide_eq_decide.mpr ⟨fun h => V.int.inj h, fun h => by rw [h]⟩
  rw [e]; exact q
theorem rd_neI {a b : Int} (q : Q (.bl (!decide (a = b))) H) : rNe (.int a) (.int b) H Q := by
  refine ⟨rfl, ?_⟩
  have e : decide (V.int a = V.int b) = decide (a = b) := decide_eq_decide.mpr ⟨fun h => V.int.inj h, fun h => by rw [h]⟩
  rw [e]; exact q
theorem rd_eqS {a b : Str} (q : Q (.bl (decide (a = b))) H) : rEq (.str a) (.str b) H Q := by
  refine ⟨rfl, ?_⟩
  have e : decide (V.str a = V.str b) = decide (a = b) := decide_eq_decide.mpr ⟨fun h => V.str.inj h, fun h => by rw [h]⟩
  rw [e]; exact q
theorem rd_neS {a b : Str} (q : Q (.bl (!decide (a = b))) H) : rNe (.str a) (.str b) H Q := by
  refine ⟨rfl, ?_⟩
  have e : decide (V.str a = V.str b) = decide (a = b) := decide_eq_decide.mpr ⟨fun h => V.str.inj h, fun h => by rw [h]⟩
  rw [e]; exact q
theorem rd_seq {t u : TS} (q : t { D with nx := u D } σ H) : tSeq t u D σ H := q
theorem rd_asg {te : TE} {g : TG} (q : te σ H fun x H1 => g x σ H1 D.nx) : tAsg te g D σ H := q
theorem rd_name {R : St → Hp → Prop} (q : R (σ.set i (some v)) H) : gName i v σ H R := q
theorem rd_ret {te : TE} (q : te σ H D.rt) : tRet te D σ H := q
theorem rd_next (q : D.nx σ H) : tNext D σ H := q
theorem rd_drop {te : TE} (q : te σ H fun _ H1 => D.nx σ H1) : tDrop te D σ H := q
theorem rd_ifS {c : TT} {t u : TS} (q : c σ H fun b H1 => if b = true then t D σ H1 else u D σ H1) : tIfS c t u D σ H := q
theorem rd_test {te : TE} {R : Bool → Hp → Prop} (q : te σ H fun x H' => ∃ k, x = .bl k ∧ R k H') : tTest te σ H R := q
theorem rd_B {te : TE} {R : Bool → Hp → Prop} (q : te σ H fun x H' => ∃ k, x = .bl k ∧ R k H') : tB te σ H R := q
theorem rd_bl {b : Bool} {R : Bool → Prop} (q : R b) : ∃ k, V.bl b = .bl k ∧ R k := ⟨b, rfl, q⟩
theorem rd_and {t u : TT} {R : Bool → Hp → Prop} (q : t σ H fun c H1 => if c = true then u σ H1 R else R false H1) : tAnd t u σ H R := q
theorem rd_or {t u : TT} {R : Bool → Hp → Prop} (q : t σ H fun c H1 => if c = true then R true H1 else u σ H1 R) : tOr t u σ H R := q
theorem rd_not {t : TT} {R : Bool → Hp → Prop} (q : t σ H fun c H1 => R (!c) H1) : tNot t σ H R := q
theorem rd_andV {ta tb : TE} (q : ta σ H fun x H1 => ∃ c, x = .bl c ∧ if c = true then tb σ H1 Q else Q (.bl false) H1) : tAndV ta tb σ H Q := q
theorem rd_notV {ta : TE} (q : ta σ H fun x H1 => ∃ c, x = .bl c ∧ Q (.bl (!c)) H1) : tNotV ta σ H Q := q
theorem rd_cons {ta : TE} {tr : TA} {R : List V → Hp → Prop} (q : ta σ H fun x H1 => tr σ H1 fun xs H2 => R (x :: xs) H2) : tCons ta tr σ H R := q
theorem rd_nil {R : List V → Hp → Prop} (q : R [] H) : tNil σ H R := q
theorem rd_call {sp : Sp} {t : TA} (q : t σ H fun vs H1 => sp vs H1 Q E0) : tCall sp [] E0 t σ H Q := by
  unfold tCall
  have e : (fun (vs : List V) H1 => sp (vs ++ []) H1 Q E0) = fun vs H1 => sp vs H1 Q E0 := by funext vs H1; rw [List.append_nil]
  rw [e]
  exact q
theorem rd_CB {r : List V → Hp → VK → Prop} {t : TA} (q : t σ H fun vs H1 => r vs H1 Q) : tCB r t σ H Q := q
theorem rd_chain {r r' : R2} {ta tb tc : TE} (q : ta σ H fun x H1 => tb σ H1 fun y H2 => r x y H2 fun z H3 => ∃ k, z = .bl k ∧ if k = true then tc σ H3 fun u H4 => r' y u H4 Q else Q (.bl false) H3) : tChain r r' ta tb tc σ H Q := q
theorem rd_tup {t : TA} (q : t σ H fun xs H1 => xs.length ≤ sizeLine ∧ ∀ p, H1 p = none → Q (.ref p) (upd H1 p (.tup xs))) : tTup t σ H Q := q
theorem rd_lst {t : TA} (q : t σ H fun xs H1 => xs.length ≤ sizeLine ∧ ∀ p, H1 p = none → Q (.ref p) (upd H1 p (.lst xs))) : tLst t σ H Q := q
theorem rd_iteD {c A B : Prop} [Decidable c] (h1 : c → A) (h2 : ¬ c → B) : if decide c = true then A else B := by
  by_cases h : c
  · rw [if_pos (decide_eq_true h)]; exact h1 h
  · rw [if_neg (by rw [decide_eq_false h]; exact Bool.false_ne_true)]; exact h2 h
theorem rd_iteND {c A B : Prop} [Decidable c] (h1 : ¬ c → A) (h2 : c → B) : if (!decide c) = true then A else B := by
  by_cases h : c
  · rw [decide_eq_true h]; exact iteF (h2 h)
  · rw [decide_eq_false h]; exact iteT (h1 h)
theorem rd_fin {u : V} (e : u = v) (q : Q v H) : Q u H := by rw [e]; exact q
end

def GlobAt (mg : Str → Option Value) (x : Str) (v : V) : Prop := ∃ u, mg x = some u ∧ RelV v u
section
variable {X : Cx} {x : Str} {v : V} {T : String} {pos : Pos}
theorem pe_glA (hg : Gl X x) (h : GlobAt X.mg x v) (hd : (x == ("__debug__" : Str)) = false := by decide) : PE X (.Name x pos) (tC v) :=
  let ⟨_, m, r⟩ := h
  pe_glob hg m r hd
theorem pe_blA (hg : Gl X x) (hm : X.mg x = none) (hv : bootBuiltins x = some (.type T)) (hn : x ≠ "__name__" := by decide) (hd : (x == ("__debug__" : Str)) = false := by decide) : PE X (.Name x pos) (tC (.ty T)) :=
  pe_bltn hg hm hv rfl hn hd
end

end L2
namespace L2
open PySem PySem.Spec PyProof.Rows

theorem SqL.updN {K : PySem.W.Frag} {H : Hp} {a p : Addr} {xs : List V} {o : HO} (h : SqL K H a xs) (n : H p = none) : SqL K (upd H p o) a xs := by
  rcases h with (h | ⟨ob, h⟩) | h
  · exact .inl (.inl (by rw [upd_ne (ne_of_none h n)]; exact h))
  · exact .inl (.inr ⟨ob, by rw [upd_ne (ne_of_none h n)]; exact h⟩)
  · exact .inr h
theorem SqT.updN {K : PySem.W.Frag} {H : Hp} {a p : Addr} {xs : List V} {o : HO} (h : SqT K H a xs) (n : H p = none) : SqT K (upd H p o) a xs := by
  rcases h with (h | ⟨ob, h⟩) | h
  · exact .inl (.inl (by rw [upd_ne (ne_of_none h n)]; exact h))
  · exact .inl (.inr ⟨ob, by rw [upd_ne (ne_of_none h n)]; exact h⟩)
  · exact .inr h
theorem Same.tup {K : PySem.W.Frag} {H H' : Hp} {a : Addr} {xs : List V} (e : Same H H') (h : SqT K H a xs) : SqT K H' a xs := by
  rcases h with (h | ⟨o, h⟩) | h
  · exact .inl (.inl (e _ _ h))
  · exact .inl (.inr ⟨o, e _ _ h⟩)
  · exact .inr h
theorem Same.new {H : Hp} {p : Addr} {o : HO} (n : H p = none) : Same H (upd H p o) := fun b u e => by rw [upd_ne (ne_of_none e n)]; exact e
theorem Same.newT {H H' : Hp} {p : Addr} {o : HO} (s : Same H H') (n : H' p = none) : Same H (upd H' p o) := s.trans (Same.new n)
theorem sql_new {K : PySem.W.Frag} {H : Hp} {p : Addr} {xs : List V} : SqL K (upd H p (.lst xs)) p xs := .inl (.inl upd_same)
theorem sqt_new {K : PySem.W.Frag} {H : Hp} {p : Addr} {xs : List V} : SqT K (upd H p (.tup xs)) p xs := .inl (.inl upd_same)
theorem sql_of {K : PySem.W.Frag} {H : Hp} {p : Addr} {xs : List V} (h : H p = some (.lst xs)) : SqL K H p xs := .inl (.inl h)
theorem sqt_of {K : PySem.W.Frag} {H : Hp} {p : Addr} {xs : List V} (h : H p = some (.tup xs)) : SqT K H p xs := .inl (.inl h)
theorem atI_nat' {α : Type} {xs : List α} {i : Nat} {j : Int} {v : α} (h : xs[i]? = some v) (e : j = (i : Int)) : atI xs j = some v := by rw [e]; exact atI_nat h
theorem cutV_take {ns : List V} {n : Nat} : cutV ns none (some (n : Int)) = ns.take n := by
  have e : HT.sIx ns.length ns.length (some (n : Int)) = min n ns.length := by
    unfold HT.sIx
    simp only []
    split <;> omega
  have e0 : HT.sIx ns.length 0 none = 0 := rfl
  unfold cutV
  rw [e, e0, List.drop_zero, Nat.sub_zero, List.take_eq_take_iff]
  omega

section
variable {σ : St} {H : Hp} {Q : VK} {K : PySem.W.Frag} {p a b : Addr} {xs ys : List V} {v : V}
theorem rd_ixL {i : Int} (h : SqL K H p xs) (e : atI xs i = some v) (q : Q v H) : rIxL K (.ref p) (.int i) H Q := ⟨p, xs, i, v, rfl, rfl, h, e, q⟩
theorem rd_ixT {i : Int} (h : SqT K H p xs) (e : atI xs i = some v) (q : Q v H) : rIxT K (.ref p) (.int i) H Q := ⟨p, xs, i, v, rfl, rfl, h, e, q⟩
theorem rd_slL {lo hi : Option Int} (h : SqL K H a xs) (q : ∀ p, H p = none → Q (.ref p) (upd H p (.lst (cutV xs lo hi)))) : rSlL K (.ref a) lo hi H Q := ⟨a, xs, rfl, h, q⟩
theorem rd_sl {r : V → Option Int → Option Int → Hp → VK → Prop} {te : TE} {tl th : TO} (q : te σ H fun x H1 => tl σ H1 fun l H2 => th σ H2 fun u H3 => r x l u H3 Q) : tSl r te tl th σ H Q := q
theorem rd_noPart {R : Option Int → Hp → Prop} (q : R none H) : tNoPart σ H R := q
theorem rd_part {R : Option Int → Hp → Prop} {t : TE} (q : t σ H fun x H1 => ∃ i, x = .int i ∧ R (some i) H1) : tPart t σ H R := q
theorem rd_ei {R : Int → Prop} {i : Int} (q : R i) : ∃ j, V.int i = .int j ∧ R j := ⟨i, rfl, q⟩
theorem rd_cat (h1 : H a = some (.lst xs)) (h2 : H b = some (.lst ys)) (hz : xs.length + ys.length ≤ sizeLine) (q : ∀ p, H p = none → Q (.ref p) (upd H p (.lst (xs ++ ys)))) : rCat (.ref a) (.ref b) H Q := ⟨a, b, xs, ys, rfl, rfl, h1, h2, hz, q⟩
theorem comp_map {te : TE} {R : Hp → Prop} (hl : SqL K H a xs) (hp : H p = none) (hn : ys.length = xs.length) (hz : xs.length ≤ sizeLine)
    (he : ∀ (i : Nat) (x y : V) (H' : Hp) (Q : VK), xs[i]? = some x → ys[i]? = some y → Same H H' → Q y H' → te (some x :: σ) H' Q) (fin : R (upd H p (.lst ys))) :
    tLoopC 1 (gName 0) tNoIf te (Itl K a) p R σ H := by
  refine ⟨fun i m σ' H' => m = xs.length - i ∧ i ≤ xs.length ∧ H' = upd H p (.lst (ys.take i)) ∧ ∃ v, σ' = v :: σ, ⟨xs.length, by omega, Nat.zero_le _, rfl, none, rfl⟩, ?_⟩
  rintro i m σ' H' ⟨rfl, hi, rfl, v, rfl⟩
  have hs : SqL K (upd H p (.lst (ys.take i))) a xs := hl.updN hp
  by_cases hlt : i < xs.length
  · refine .inr ⟨⟨xs, xs[i], hs, by simp [hlt]⟩, fun σ2 H2 => H2 = upd H p (.lst (ys.take (i + 1))) ∧ ∃ v, σ2 = v :: σ, fun σ2 H2 ⟨e, v', e'⟩ => ⟨xs.length - (i + 1), by omega, rfl, hlt, e, v', e'⟩, fun x H1 ⟨e, y⟩ => ?_⟩
    subst e
    have hx := y xs hs
    refine rd_name ?_
    simp only [tNoIf, if_true, List.set_cons_zero]
    have hyl : i < ys.length := by omega
    refine he i x ys[i] _ _ hx (by simp [hyl]) (Same.new hp) ?_
    refine ⟨ys.take i, upd_same, ?_, ?_, some x, rfl⟩
    · rw [List.length_take]; omega
    · rw [upd_upd, List.take_succ_eq_append_getElem hyl]
  · have e : i = xs.length := by omega
    subst e
    refine .inl ⟨⟨xs, hs, Nat.le_refl _⟩, ?_⟩
    rw [← hn, List.take_length]
    exact fin
end
theorem iteNT {A B : Prop} (h : B) : if (!true) = true then A else B := iteF h
theorem iteNF {A B : Prop} (h : A) : if (!false) = true then A else B := iteT h
section
variable {σ : St} {H : Hp} {Q : VK} {D : Ends}
theorem rd_comp {k : Nat} {wi : TI} {g : TG} {tc : TT} {te : TE} (q : wi σ H fun J H1 => ∀ p, H1 p = none → tLoopC k g tc te J p (fun H' => Q (.ref p) H') σ H1) : tComp k wi g tc te σ H Q := q
theorem rd_iList {K : PySem.W.Frag} {tl : TE} {R : It → Hp → Prop} (q : tl σ H fun x H1 => ∃ a, x = .ref a ∧ (∃ xs, SqL K H1 a xs) ∧ R (Itl K a) H1) : iList K tl σ H R := q
theorem rd_iTup {K : PySem.W.Frag} {tl : TE} {R : It → Hp → Prop} (q : tl σ H fun x H1 => ∃ a, x = .ref a ∧ (∃ xs, SqT K H1 a xs) ∧ R (Itt K a) H1) : iTup K tl σ H R := q
theorem rd_iRng1 {ta : TA} {R : It → Hp → Prop} (q : ta σ H fun vs H1 => ∃ j : Int, vs = [.int j] ∧ -(2 ^ 62) ≤ j ∧ j < 2 ^ 62 ∧ R (Itr 0 j.toNat) H1) : iRng1 ta σ H R := q
theorem rd_for {wi : TI} {g : TG} {tb : TS} (q : wi σ H fun J H1 => ∃ W : Nat → Nat → St → Hp → Prop, (∃ m, W 0 m σ H1) ∧ ∀ i m σ H, W i m σ H →
  (J.stop i H ∧ D.nx σ H) ∨ (J.go i H ∧ ∃ N : St → Hp → Prop, (∀ σ' H', N σ' H' → ∃ m', m' < m ∧ W (i + 1) m' σ' H') ∧ ∀ x H', J.yld i H x H' → g x σ H' fun σ2 H2 => tb { D with nx := N, ct := N, bk := D.nx } σ2 H2)) : tFor wi g tb D σ H := q
end
section
variable {CX : CXT} {P : Program} {w : World} {K : PySem.W.Frag} {mg : Str → Option Value} {base : Heap} {N : List Str} {q : Str} {sc : Scope} {f : Addr} {cd : Value} {A : Around} {outer : List Env} {s : Shared} {H : Hp} {E : XK}
theorem nox_K : (cxOf CX P w K mg base N q sc f cd A outer s H E).nox.K = K := rfl
theorem nox_P : (cxOf CX P w K mg base N q sc f cd A outer s H E).nox.prog = P := rfl
theorem nox_w : (cxOf CX P w K mg base N q sc f cd A outer s H E).nox.w = w := rfl
theorem nox_mg : (cxOf CX P w K mg base N q sc f cd A outer s H E).nox.mg = mg := rfl
theorem nox_base : (cxOf CX P w K mg base N q sc f cd A outer s H E).nox.base = base := rfl
end
theorem globAt_int {K : PySem.W.Frag} {h : Heap} {mg : Str → Option Value} {x : Str} {i : Int} {t : Tok} (X : K.In h) (G : h.Ns mainGlobals mg) (a : PySem.W.nsIn K mainGlobals x = some (some (.int i t))) : GlobAt mg x (.int i) := ⟨_, PySem.W.mg_of X G a, t, rfl⟩
theorem globAt_str {K : PySem.W.Frag} {h : Heap} {mg : Str → Option Value} {x : Str} {i : Str} {t : Tok} (X : K.In h) (G : h.Ns mainGlobals mg) (a : PySem.W.nsIn K mainGlobals x = some (some (.str i t))) : GlobAt mg x (.str i) := ⟨_, PySem.W.mg_of X G a, t, rfl⟩
theorem fun_binds1 {K : PySem.W.Frag} {x qual p : Str} {st : Stmt} {f : Addr} {fd : FuncData} (F : Fun K x qual st f fd)
    (hb : ∀ (kV doc pm : Value) (an : Option Addr) (cdv ct u : Value), bindArgs (PySem.W.fnOf x qual (defArgs st) (defBody st) (defScope st) .none kV doc pm an cdv ct) ⟨[u], []⟩ = pure [(p, u)] := by intros; rfl) : ∀ (s : Shared) (u : Value), BindsTo s fd ⟨[u], []⟩ [(p, u)] := by
  obtain ⟨oc, od, kV, doc, pm, an, cdv, ct, osl, rfl, lk, hcd⟩ := F.ex
  exact fun s u => .of_eq (hb kV doc pm an cdv ct u)
section
variable {σ : St} {H : Hp} {Q : VK} {D : Ends} {i : Nat} {x : V}
end
abbrev RC := List V → Hp → VK → Prop
def rMin2 : RC := fun xs H Q => ∃ i j, xs = [.int i, .int j] ∧ Q (.int (if j < i then j else i)) H
def rIsi : RC := fun xs H Q => ∃ x T b, xs = [x, .ty T] ∧ isiV x T = some b ∧ Q (.bl b) H
def rLenS (K : PySem.W.Frag) : RC := fun xs H Q => ∃ p ys, xs = [.ref p] ∧ (SqL K H p ys ∨ SqT K H p ys) ∧ Q (.int ys.length) H
section
variable {X : Cx} {H : Hp} {Q : VK} {K : PySem.W.Frag}
theorem cn_min (hc : X.calm = true) : CallR X (.builtin "min") rMin2 := call_min2 hc
theorem cn_isi : CallR X (.builtin "isinstance") rIsi := call_isi
theorem cn_len : CallR X (.builtin "len") (rLenS X.K) := call_len_seq
theorem rd_min2 {a b : Int} (q : Q (.int (if b < a then b else a)) H) : rMin2 [.int a, .int b] H Q := ⟨a, b, rfl, q⟩
theorem rd_lenL {p : Addr} {xs : List V} (h : SqL K H p xs) (q : Q (.int xs.length) H) : rLenS K [.ref p] H Q := ⟨p, xs, rfl, .inl h, q⟩
theorem rd_lenT {p : Addr} {xs : List V} (h : SqT K H p xs) (q : Q (.int xs.length) H) : rLenS K [.ref p] H Q := ⟨p, xs, rfl, .inr h, q⟩
end
end L2
namespace L2
open PySem PySem.Spec PyProof.Rows
section
variable {σ : St} {H : Hp} {Q : VK} {K : PySem.W.Frag} {p : Addr} {xs : List V} {v : V}
theorem rd_bm {T : String} {r : V → List V → Hp → VK → Prop} {to : TE} {t : TA} (q : to σ H fun x H1 => tyV K T x H1 ∧ t σ H1 fun xs H2 => r x xs H2 Q) : tBM K T r to t σ H Q := q
theorem ty_list (h : SqL K H p xs) : tyV K "list" (.ref p) H := .inl ⟨rfl, _, h⟩
theorem rd_append (h : H p = some (.lst xs)) (hz : xs.length < sizeLine) (q : Q .non (upd H p (.lst (xs ++ [v])))) : rAppend (.ref p) [v] H Q := ⟨p, xs, v, rfl, rfl, h, hz, q⟩
end
end L2
namespace L2
open PySem PySem.Spec PyProof.Rows
section
variable {σ : St} {H : Hp} {Q : VK} {K : PySem.W.Frag} {p : Addr}
theorem comp_range {te : TE} {R : Hp → Prop} {lo : Int} {n : Nat} {ys : List V} (hp : H p = none) (hn : ys.length = n) (hz : n ≤ sizeLine)
    (he : ∀ (i : Nat) (y : V) (H' : Hp) (Q : VK), i < n → ys[i]? = some y → Same H H' → Q y H' → te (some (.int (lo + i)) :: σ) H' Q) (fin : R (upd H p (.lst ys))) :
    tLoopC 1 (gName 0) tNoIf te (Itr lo n) p R σ H := by
  refine ⟨fun i m σ' H' => m = n - i ∧ i ≤ n ∧ H' = upd H p (.lst (ys.take i)) ∧ ∃ v, σ' = v :: σ, ⟨n, by omega, Nat.zero_le _, rfl, none, rfl⟩, ?_⟩
  rintro i m σ' H' ⟨rfl, hi, rfl, v, rfl⟩
  by_cases hlt : i < n
  · refine .inr ⟨hlt, fun σ2 H2 => H2 = upd H p (.lst (ys.take (i + 1))) ∧ ∃ v, σ2 = v :: σ, fun σ2 H2 ⟨e, v', e'⟩ => ⟨n - (i + 1), by omega, rfl, hlt, e, v', e'⟩, fun x H1 ⟨e, y⟩ => ?_⟩
    subst e y
    refine rd_name ?_
    simp only [tNoIf, if_true, List.set_cons_zero]
    have hyl : i < ys.length := by omega
    refine he i ys[i] _ _ hlt (by simp [hyl]) (Same.new hp) ?_
    refine ⟨ys.take i, upd_same, ?_, ?_, some _, rfl⟩
    · rw [List.length_take]; omega
    · rw [upd_upd, List.take_succ_eq_append_getElem hyl]
  · have e : i = n := by omega
    subst e
    refine .inl ⟨Nat.le_refl _, ?_⟩
    rw [← hn, List.take_length]
    exact fin
end
def isiSeq : Bool → String → Option Bool
  | true, "tuple" => some true
  | true, "list" => some false
  | true, "int" => some false
  | true, "bool" => some false
  | true, "str" => some false
  | false, "list" => some true
  | false, "tuple" => some false
  | false, "int" => some false
  | false, "bool" => some false
  | false, "str" => some false
  | _, _ => none
def rIsiQ (K : PySem.W.Frag) : RC := fun xs H Q => ∃ a T ys b, xs = [.ref a, .ty T] ∧ ((SqT K H a ys ∧ isiSeq true T = some b) ∨ (SqL K H a ys ∧ isiSeq false T = some b)) ∧ Q (.bl b) H
theorem call_isiQ {X : Cx} : CallR X (.builtin "isinstance") (rIsiQ X.K) := by
  intro pins s σ H xs us Q I r h
  obtain ⟨a, T, ys, b, rfl, e, q⟩ := h
  obtain ⟨u, v, rfl, ru, rv⟩ := vals2 r
  obtain rfl : v = Value.type T := rv
  obtain rfl : u = Value.ref a := ru
  have kp : ∀ b o, s.heap.get? b = some o → s.heap.get? b = some o := fun _ _ z => z
  rcases e with ⟨hq, e⟩ | ⟨hq, e⟩
  · obtain ⟨its, rv, p, hz⟩ := I.tuple hq
    have p' : s.heap.IsTuple a its.toArray := p
    unfold isiSeq at e
    split at e <;> first
      | contradiction
      | (cases e; first
        | exact IsiPair.isTuple_tuple p' kp ⟨.bl true, H, I, rfl, q⟩
        | exact IsiPair.isTuple_list p' kp ⟨.bl false, H, I.tok _, rfl, q⟩
        | exact IsiPair.isTuple_int p' kp ⟨.bl false, H, I.tok _, rfl, q⟩
        | exact IsiPair.isTuple_bool p' kp ⟨.bl false, H, I.tok _, rfl, q⟩
        | exact IsiPair.isTuple_str p' kp ⟨.bl false, H, I.tok _, rfl, q⟩)
      | cases e
      | (rename_i z _; cases z)
  · obtain ⟨its, rv, p, hz⟩ := I.list hq
    have p' : s.heap.IsList a its.toArray := p.isList
    unfold isiSeq at e
    split at e <;> first
      | contradiction
      | (cases e; first
        | exact IsiPair.isList_list p' kp ⟨.bl true, H, I, rfl, q⟩
        | exact IsiPair.isList_tuple p' kp ⟨.bl false, H, I.tok _, rfl, q⟩
        | exact IsiPair.isList_int p' kp ⟨.bl false, H, I.tok _, rfl, q⟩
        | exact IsiPair.isList_bool p' kp ⟨.bl false, H, I.tok _, rfl, q⟩
        | exact IsiPair.isList_str p' kp ⟨.bl false, H, I.tok _, rfl, q⟩)
      | cases e
      | (rename_i z _; cases z)
def rIsiA (K : PySem.W.Frag) : RC := fun xs H Q => rIsi xs H Q ∨ rIsiQ K xs H Q
theorem cn_isiA {X : Cx} : CallR X (.builtin "isinstance") (rIsiA X.K) := cn_isi.or call_isiQ
section
variable {H : Hp} {Q : VK} {K : PySem.W.Frag}
theorem rd_isiS {x : V} {T : String} {b : Bool} (e : isiV x T = some b) (q : Q (.bl b) H) : rIsiA K [x, .ty T] H Q := .inl ⟨x, T, b, rfl, e, q⟩
theorem rd_isiT {a : Addr} {T : String} {ys : List V} {b : Bool} (h : SqT K H a ys) (e : isiSeq true T = some b) (q : Q (.bl b) H) : rIsiA K [.ref a, .ty T] H Q := .inr ⟨a, T, ys, b, rfl, .inl ⟨h, e⟩, q⟩
theorem rd_isiL {a : Addr} {T : String} {ys : List V} {b : Bool} (h : SqL K H a ys) (e : isiSeq false T = some b) (q : Q (.bl b) H) : rIsiA K [.ref a, .ty T] H Q := .inr ⟨a, T, ys, b, rfl, .inr ⟨h, e⟩, q⟩
end
section
variable {σ : St} {H : Hp} {Q : VK} {P : Program} {w : World} {K : PySem.W.Frag} {td ty : TE}
end
section
variable {H : Hp} {Q : VK} {P : Program} {w : World} {K : PySem.W.Frag}
end
section
variable {CX : CXT} {P : Program} {w : World} {K : PySem.W.Frag} {mg : Str → Option Value} {base : Heap} {N : List Str} {q : Str} {sc : Scope} {f : Addr} {cd : Value} {A : Around} {outer : List Env} {s : Shared} {H : Hp} {E : XK}
theorem cxOf_K : (cxOf CX P w K mg base N q sc f cd A outer s H E).K = K := rfl
theorem cxOf_P : (cxOf CX P w K mg base N q sc f cd A outer s H E).prog = P := rfl
theorem cxOf_w : (cxOf CX P w K mg base N q sc f cd A outer s H E).w = w := rfl
theorem cxOf_mg : (cxOf CX P w K mg base N q sc f cd A outer s H E).mg = mg := rfl
theorem cxOf_base : (cxOf CX P w K mg base N q sc f cd A outer s H E).base = base := rfl
end
structure FunD (K : PySem.W.Frag) (x qual : Str) (st : Stmt) (items : Array Value) (f : Addr) (fd : FuncData) : Prop where
  ex : ∃ (oc : Value) (od : Option Addr) (T : Addr) (kV doc pm : Value) (an : Option Addr) (cdv ct : Value) (osl : Array (Option Value)) (o : Obj) (n : Nat),
    fd = PySem.W.fnOf x qual (defArgs st) (defBody st) (defScope st) (.ref T) kV doc pm an cdv ct ∧ K.lookup f = some ⟨oc, od, .func fd, osl⟩ ∧ PySem.W.codeIn K cdv qual = true ∧ K.lookup T = some o ∧ o.data = .seq items n
  kp : PySem.W.keepIn K (.ref f) = true
section
variable {P : Program} {w : World} {K : PySem.W.Frag} {mg : Str → Option Value} {base : Heap}
theorem FunD.fn {x qual : Str} {st : Stmt} {items : Array Value} {f : Addr} {fd : FuncData} {N ps : List Str} {k : Nat} {sp : Sp} (F : FunD K x qual st items f fd) (S : FnScope N ps (defScope st)) (len : ∀ vs H Q E, sp vs H Q E → vs.length = ps.length)
    (hbody : ∀ (cdv : Value) (A : Around) (outer : List Env) (s : Shared) (H : Hp) (vs : List V) (Q : VK) (E : XK), Room k (A.deeper (envOfC qual (defScope st) s.heap.objs.size f cdv)) → sp vs H Q E →
      ∃ t, PSs (cxOf CX0 P w K mg base N qual (defScope st) f cdv A outer s H E).nox (defBody st) t ∧ t { nx := fun _ H' => Q .non H', rt := Q } (start N vs) H) : FnOk P w K mg base CX0 (k + 1) f fd ps sp := by
  obtain ⟨oc, od, T, kV, doc, pm, an, cdv, ct, osl, o, n, rfl, lk, hcd, lt, ld⟩ := F.ex
  refine fn_of lk hcd S len fun A outer s H vs Q E hr hsp => ?_
  obtain ⟨t, h, q⟩ := hbody cdv A outer s H vs Q E hr hsp
  exact ⟨t, h.nox, q⟩
theorem FunD.binds {x qual : Str} {st : Stmt} {items : Array Value} {f : Addr} {fd : FuncData} {ps : List Str} (F : FunD K x qual st items f fd) (ds : List Value)
    (h : ∀ (T : Addr) (kV doc pm : Value) (an : Option Addr) (cdv ct : Value) (us : List Value), (us ++ ds).length = ps.length → ∃ k : Option (Array Value) → Sem (List (Str × Value)), bindArgs (PySem.W.fnOf x qual (defArgs st) (defBody st) (defScope st) (.ref T) kV doc pm an cdv ct) ⟨us, []⟩ = seqItems? (.ref T) >>= k ∧ k (some items) = pure (ps.zip (us ++ ds))) : Binds K fd ps ds := by
  obtain ⟨oc, od, T, kV, doc, pm, an, cdv, ct, osl, o, n, rfl, lk, hcd, lt, ld⟩ := F.ex
  intro s us X hl
  obtain ⟨k, h1, h2⟩ := h T kV doc pm an cdv ct us hl
  exact BindsTo.of_defaults (fd := PySem.W.fnOf x qual (defArgs st) (defBody st) (defScope st) (.ref T) kV doc pm an cdv ct) rfl (X _ _ lt) ld h1 h2
end
end L2
namespace L2
open PySem PySem.Spec PyProof.Rows PySem.SeqAt
inductive Dt where
  | non
  | bl (b : Bool)
  | int (i : Int)
  | str (x : Str)
  | lst (ds : List Dt)
  | tup (ds : List Dt)
mutual
def Dt.eq : Dt → Dt → Bool
  | .non, .non => true
  | .bl a, .bl b => a == b
  | .bl a, .int b => (if a then 1 else 0) == b
  | .int a, .bl b => a == (if b then 1 else 0)
  | .int a, .int b => a == b
  | .str a, .str b => a == b
  | .lst a, .lst b => Dt.eqs a b
  | .tup a, .tup b => Dt.eqs a b
  | _, _ => false
def Dt.eqs : List Dt → List Dt → Bool
  | [], [] => true
  | a :: r, b :: t => Dt.eq a b && Dt.eqs r t
  | _, _ => false
end
mutual
def Dt.dep : Dt → Nat
  | .lst ds => Dt.deps ds + 1
  | .tup ds => Dt.deps ds + 1
  | _ => 0
def Dt.deps : List Dt → Nat
  | [] => 0
  | d :: r => max (Dt.dep d) (Dt.deps r)
end
mutual
/-- the value tells the datum -/
def DV (K : PySem.W.Frag) (H : Hp) : Dt → V → Prop
  | .non, v => v = .non
  | .bl b, v => v = .bl b
  | .int i, v => v = .int i
  | .str x, v => v = .str x
  | .lst ds, v => ∃ a xs, v = .ref a ∧ SqL K H a xs ∧ DVs K H ds xs
  | .tup ds, v => ∃ a xs, v = .ref a ∧ SqT K H a xs ∧ DVs K H ds xs
def DVs (K : PySem.W.Frag) (H : Hp) : List Dt → List V → Prop
  | [], xs => xs = []
  | d :: r, xs => ∃ x t, xs = x :: t ∧ DV K H d x ∧ DVs K H r t
end
theorem DVs.length {K : PySem.W.Frag} {H : Hp} : ∀ {ds : List Dt} {xs : List V}, DVs K H ds xs → ds.length = xs.length
  | [], xs, h => by unfold DVs at h; subst h; rfl
  | d :: r, xs, h => by
    unfold DVs at h
    obtain ⟨x, t, rfl, _, h⟩ := h
    rw [List.length_cons, List.length_cons, DVs.length h]
theorem DVs.get {K : PySem.W.Frag} {H : Hp} : ∀ {ds : List Dt} {xs : List V} {i : Nat} {d : Dt} {x : V}, DVs K H ds xs → ds[i]? = some d → xs[i]? = some x → DV K H d x
  | [], xs, i, d, x, h, e, _ => by simp at e
  | d0 :: r, xs, i, d, x, h, e1, e2 => by
    unfold DVs at h
    obtain ⟨x0, t, rfl, h0, h⟩ := h
    cases i with
    | zero => simp at e1 e2; subst e1 e2; exact h0
    | succ i => exact DVs.get (i := i) h (by simpa using e1) (by simpa using e2)
theorem Dt.dep_le : ∀ {ds : List Dt} {i : Nat} {d : Dt}, ds[i]? = some d → d.dep ≤ Dt.deps ds
  | [], i, d, e => by simp at e
  | d0 :: r, i, d, e => by
    unfold Dt.deps
    cases i with
    | zero => simp at e; subst e; exact Nat.le_max_left _ _
    | succ i => exact Nat.le_trans (Dt.dep_le (i := i) (by simpa using e)) (Nat.le_max_right _ _)
theorem Dt.eqs_range : ∀ (ds es : List Dt), ds.length = es.length → (List.range ds.length).all (fun j => Dt.eq (ds.getD j .non) (es.getD j .non)) = Dt.eqs ds es
  | [], [], _ => by unfold Dt.eqs; rfl
  | d :: r, e :: t, h => by
    have ih := Dt.eqs_range r t (by simpa using h)
    rw [List.length_cons, List.range_succ_eq_map, List.all_cons, List.all_map]
    unfold Dt.eqs
    rw [← ih]
    rfl
  | [], _ :: _, h => by simp at h
  | _ :: _, [], h => by simp at h
theorem Dt.eqs_len : ∀ (ds es : List Dt), ds.length ≠ es.length → Dt.eqs ds es = false
  | [], [], h => absurd rfl h
  | d :: r, e :: t, h => by
    unfold Dt.eqs
    rw [Dt.eqs_len r t (by simpa using h), Bool.and_false]
  | [], _ :: _, _ => by unfold Dt.eqs; rfl
  | _ :: _, [], _ => by unfold Dt.eqs; rfl

section
variable {X : Cx} {pins : List (Addr × Obj)} {σ : St} {H : Hp} {s : Shared}
theorem DV.same (I : Inv X pins σ H s) : ∀ (n : Nat) (d e : Dt) (x : V), d.dep ≤ n → DV X.K H d x → DV X.K H e x → Dt.eq d e = true := by
  intro n
  induction n with
  | zero =>
    intro d e x hn h1 h2
    cases d with
    | lst ds => unfold Dt.dep at hn; omega
    | tup ds => unfold Dt.dep at hn; omega
    | non => unfold DV at h1; subst h1; cases e <;> unfold DV at h2 <;> first | (cases h2; done) | (obtain ⟨_, _, z, _⟩ := h2; cases z; done) | (unfold Dt.eq; rfl)
    | bl b => unfold DV at h1; subst h1; cases e <;> unfold DV at h2 <;> first | (cases h2; unfold Dt.eq; simp; done) | (obtain ⟨_, _, z, _⟩ := h2; cases z; done) | (cases h2; done)
    | int b => unfold DV at h1; subst h1; cases e <;> unfold DV at h2 <;> first | (cases h2; unfold Dt.eq; simp; done) | (obtain ⟨_, _, z, _⟩ := h2; cases z; done) | (cases h2; done)
    | str b => unfold DV at h1; subst h1; cases e <;> unfold DV at h2 <;> first | (cases h2; unfold Dt.eq; simp; done) | (obtain ⟨_, _, z, _⟩ := h2; cases z; done) | (cases h2; done)
  | succ n ih =>
    intro d e x hn h1 h2
    have lists : ∀ (ds es : List Dt) (xs : List V), Dt.deps ds ≤ n → DVs X.K H ds xs → DVs X.K H es xs → Dt.eqs ds es = true := by
      intro ds es xs hd a b
      have l1 := a.length
      have l2 := b.length
      rw [← Dt.eqs_range ds es (l1.trans l2.symm), List.all_eq_true]
      intro j hj
      have hj' : j < ds.length := List.mem_range.mp hj
      have e1 : ds[j]? = some ds[j] := List.getElem?_eq_getElem hj'
      have e2 : es[j]? = some (es[j]'(by omega)) := List.getElem?_eq_getElem (by omega)
      have e3 : xs[j]? = some (xs[j]'(by omega)) := List.getElem?_eq_getElem (by omega)
      rw [List.getD_eq_getElem?_getD, List.getD_eq_getElem?_getD, e1, e2]
      exact ih _ _ _ (Nat.le_trans (Dt.dep_le e1) hd) (a.get e1 e3) (b.get e2 e3)
    cases d with
    | lst ds =>
      unfold Dt.dep at hn
      unfold DV at h1
      obtain ⟨a, xs, rfl, q1, r1⟩ := h1
      cases e with
      | lst es =>
        unfold DV at h2
        obtain ⟨b, ys, z, q2, r2⟩ := h2
        cases z
        rw [I.list_inj q2 q1] at r2
        unfold Dt.eq
        exact lists ds es xs (by omega) r1 r2
      | tup es =>
        unfold DV at h2
        obtain ⟨b, ys, z, q2, r2⟩ := h2
        cases z
        obtain ⟨i1, _, p1, _⟩ := I.list q1
        obtain ⟨i2, _, p2, _⟩ := I.tuple q2
        obtain ⟨o1, g1, c1, _⟩ := p1.isList
        have p2' : s.heap.IsTuple a i2.toArray := p2
        obtain ⟨o2, g2, c2, _⟩ := p2'
        rw [g1] at g2
        cases g2
        rw [c1] at c2
        exact absurd c2 (by decide)
      | non => unfold DV at h2; cases h2
      | bl b => unfold DV at h2; cases h2
      | int b => unfold DV at h2; cases h2
      | str b => unfold DV at h2; cases h2
    | tup ds =>
      unfold Dt.dep at hn
      unfold DV at h1
      obtain ⟨a, xs, rfl, q1, r1⟩ := h1
      cases e with
      | tup es =>
        unfold DV at h2
        obtain ⟨b, ys, z, q2, r2⟩ := h2
        cases z
        rw [I.tuple_inj q2 q1] at r2
        unfold Dt.eq
        exact lists ds es xs (by omega) r1 r2
      | lst es =>
        unfold DV at h2
        obtain ⟨b, ys, z, q2, r2⟩ := h2
        cases z
        obtain ⟨i1, _, p1, _⟩ := I.list q2
        obtain ⟨i2, _, p2, _⟩ := I.tuple q1
        obtain ⟨o1, g1, c1, _⟩ := p1.isList
        have p2' : s.heap.IsTuple a i2.toArray := p2
        obtain ⟨o2, g2, c2, _⟩ := p2'
        rw [g1] at g2
        cases g2
        rw [c1] at c2
        exact absurd c2 (by decide)
      | non => unfold DV at h2; cases h2
      | bl b => unfold DV at h2; cases h2
      | int b => unfold DV at h2; cases h2
      | str b => unfold DV at h2; cases h2
    | non => exact ih _ e x (by unfold Dt.dep; omega) h1 h2
    | bl b => exact ih _ e x (by unfold Dt.dep; omega) h1 h2
    | int b => exact ih _ e x (by unfold Dt.dep; omega) h1 h2
    | str b => exact ih _ e x (by unfold Dt.dep; omega) h1 h2
end
end L2
namespace L2
open PySem PySem.Spec PyProof.Rows PySem.SeqAt
section
variable {X : Cx} {pins : List (Addr × Obj)} {σ : St} {H : Hp} {s : Shared}
theorem dvs_items {K : PySem.W.Frag} {ds : List Dt} {xs : List V} {its : List Value} (h : DVs K H ds xs) (rv : Vals xs its) {j : Nat} (hj : j < its.toArray.size) : ∃ d x, ds[j]? = some d ∧ xs[j]? = some x ∧ DV K H d x ∧ RelV x (its.toArray[j]) ∧ ds.getD j .non = d := by
  have hj' : j < its.length := by simpa using hj
  have l1 := h.length
  have l2 := rv.length
  have e1 : ds[j]? = some (ds[j]'(by omega)) := List.getElem?_eq_getElem (by omega)
  have e2 : xs[j]? = some (xs[j]'(by omega)) := List.getElem?_eq_getElem (by omega)
  obtain ⟨u, hu, ru⟩ := rv.get e2
  refine ⟨_, _, e1, e2, h.get e1 e2, ?_, by rw [List.getD_eq_getElem?_getD, e1]; rfl⟩
  have : its.toArray[j] = u := by
    have q : its[j]? = some its[j] := List.getElem?_eq_getElem hj'
    rw [q] at hu
    simpa using Option.some.inj hu
  rw [this]
  exact ru
theorem in1_units (A : Around) : A.in1.units = A.units + 1 := rfl
theorem eq_all (I : Inv X pins σ H s) : ∀ (n : Nat) (d e : Dt) (x y : V) (u v : Value) (A : Around), d.dep ≤ n → A.units + n < cLine → DV X.K H d x → DV X.K H e y → RelV x u → RelV y v →
    EqAt A s u v (Dt.eq d e) ∧ RcAt A s u v (Dt.eq d e) ∧ RcNeAt A s u v (!Dt.eq d e) := by
  intro n
  induction n with
  | zero =>
    intro d e x y u v A hn hA h1 h2 r1 r2
    have hu : A.units < cLine := by omega
    cases d with
    | lst ds => unfold Dt.dep at hn; omega
    | tup ds => unfold Dt.dep at hn; omega
    | non =>
      unfold DV at h1; subst h1; cases r1
      cases e <;> unfold DV at h2
      case lst es => obtain ⟨a, xs, rfl, q, _⟩ := h2; cases r2; obtain ⟨its, _, p, _⟩ := I.list q; unfold Dt.eq; exact ⟨EqAt.none_list p.isList hu, RcAt.none_list p.isList hu, RcNeAt.none_list p.isList hu⟩
      case tup es => obtain ⟨a, xs, rfl, q, _⟩ := h2; cases r2; obtain ⟨its, _, p, _⟩ := I.tuple q; unfold Dt.eq; exact ⟨EqAt.none_tuple (show s.heap.IsTuple a its.toArray from p) hu, RcAt.none_tuple (show s.heap.IsTuple a its.toArray from p) hu, RcNeAt.none_tuple (show s.heap.IsTuple a its.toArray from p) hu⟩
      case non => subst h2; cases r2; unfold Dt.eq; exact ⟨EqAt.same _, RcAt.none_none, RcNeAt.none_none⟩
      case bl b => subst h2; cases r2; unfold Dt.eq; exact ⟨EqAt.none_bool _, RcAt.none_bool _, RcNeAt.none_bool _⟩
      case int b => subst h2; obtain ⟨t, rfl⟩ := r2; unfold Dt.eq; exact ⟨EqAt.none_int _ _, RcAt.none_int _ _, RcNeAt.none_int _ _⟩
      case str b => subst h2; obtain ⟨t, rfl⟩ := r2; unfold Dt.eq; exact ⟨EqAt.none_str _ _, RcAt.none_str _ _, RcNeAt.none_str _ _⟩
    | bl b0 =>
      unfold DV at h1; subst h1; cases r1
      cases e <;> unfold DV at h2
      case lst es => obtain ⟨a, xs, rfl, q, _⟩ := h2; cases r2; obtain ⟨its, _, p, _⟩ := I.list q; unfold Dt.eq; exact ⟨EqAt.bool_list _ p.isList hu, RcAt.bool_list _ p.isList hu, RcNeAt.bool_list _ p.isList hu⟩
      case tup es => obtain ⟨a, xs, rfl, q, _⟩ := h2; cases r2; obtain ⟨its, _, p, _⟩ := I.tuple q; unfold Dt.eq; exact ⟨EqAt.bool_tuple _ (show s.heap.IsTuple a its.toArray from p) hu, RcAt.bool_tuple _ (show s.heap.IsTuple a its.toArray from p) hu, RcNeAt.bool_tuple _ (show s.heap.IsTuple a its.toArray from p) hu⟩
      case non => subst h2; cases r2; unfold Dt.eq; exact ⟨EqAt.bool_none _, RcAt.bool_none _, RcNeAt.bool_none _⟩
      case bl b => subst h2; cases r2; unfold Dt.eq; exact ⟨EqAt.bool_bool _ _, RcAt.bool_bool _ _, RcNeAt.bool_bool _ _⟩
      case int b => subst h2; obtain ⟨t, rfl⟩ := r2; unfold Dt.eq; exact ⟨EqAt.bool_int _ _ _, RcAt.bool_int _ _ _, RcNeAt.bool_int _ _ _⟩
      case str b => subst h2; obtain ⟨t, rfl⟩ := r2; unfold Dt.eq; exact ⟨EqAt.bool_str _ _ _, RcAt.bool_str _ _ _, RcNeAt.bool_str _ _ _⟩
    | int b0 =>
      unfold DV at h1; subst h1; obtain ⟨t0, rfl⟩ := r1
      cases e <;> unfold DV at h2
      case lst es => obtain ⟨a, xs, rfl, q, _⟩ := h2; cases r2; obtain ⟨its, _, p, _⟩ := I.list q; unfold Dt.eq; exact ⟨EqAt.int_list _ _ p.isList hu, RcAt.int_list _ _ p.isList hu, RcNeAt.int_list _ _ p.isList hu⟩
      case tup es => obtain ⟨a, xs, rfl, q, _⟩ := h2; cases r2; obtain ⟨its, _, p, _⟩ := I.tuple q; unfold Dt.eq; exact ⟨EqAt.int_tuple _ _ (show s.heap.IsTuple a its.toArray from p) hu, RcAt.int_tuple _ _ (show s.heap.IsTuple a its.toArray from p) hu, RcNeAt.int_tuple _ _ (show s.heap.IsTuple a its.toArray from p) hu⟩
      case non => subst h2; cases r2; unfold Dt.eq; exact ⟨EqAt.int_none _ _, RcAt.int_none _ _, RcNeAt.int_none _ _⟩
      case bl b => subst h2; cases r2; unfold Dt.eq; exact ⟨EqAt.int_bool _ _ _, RcAt.int_bool _ _ _, RcNeAt.int_bool _ _ _⟩
      case int b => subst h2; obtain ⟨t, rfl⟩ := r2; unfold Dt.eq; exact ⟨EqAt.int_int _ _ _ _, RcAt.int_int _ _ _ _, RcNeAt.int_int _ _ _ _⟩
      case str b => subst h2; obtain ⟨t, rfl⟩ := r2; unfold Dt.eq; exact ⟨EqAt.int_str _ _ _ _, RcAt.int_str _ _ _ _, RcNeAt.int_str _ _ _ _⟩
    | str b0 =>
      unfold DV at h1; subst h1; obtain ⟨t0, rfl⟩ := r1
      cases e <;> unfold DV at h2
      case lst es => obtain ⟨a, xs, rfl, q, _⟩ := h2; cases r2; obtain ⟨its, _, p, _⟩ := I.list q; unfold Dt.eq; exact ⟨EqAt.str_list _ _ p.isList hu, RcAt.str_list _ _ p.isList hu, RcNeAt.str_list _ _ p.isList hu⟩
      case tup es => obtain ⟨a, xs, rfl, q, _⟩ := h2; cases r2; obtain ⟨its, _, p, _⟩ := I.tuple q; unfold Dt.eq; exact ⟨EqAt.str_tuple _ _ (show s.heap.IsTuple a its.toArray from p) hu, RcAt.str_tuple _ _ (show s.heap.IsTuple a its.toArray from p) hu, RcNeAt.str_tuple _ _ (show s.heap.IsTuple a its.toArray from p) hu⟩
      case non => subst h2; cases r2; unfold Dt.eq; exact ⟨EqAt.str_none _ _, RcAt.str_none _ _, RcNeAt.str_none _ _⟩
      case bl b => subst h2; cases r2; unfold Dt.eq; exact ⟨EqAt.str_bool _ _ _, RcAt.str_bool _ _ _, RcNeAt.str_bool _ _ _⟩
      case int b => subst h2; obtain ⟨t, rfl⟩ := r2; unfold Dt.eq; exact ⟨EqAt.str_int _ _ _ _, RcAt.str_int _ _ _ _, RcNeAt.str_int _ _ _ _⟩
      case str b => subst h2; obtain ⟨t, rfl⟩ := r2; unfold Dt.eq; exact ⟨EqAt.str_str _ _ _ _, RcAt.str_str _ _ _ _, RcNeAt.str_str _ _ _ _⟩
  | succ n ih =>
    intro d e x y u v A hn hA h1 h2 r1 r2
    have hu : A.units < cLine := by omega
    -- from the comparison of two objects to the test with identity
    have wrap : ∀ (a b : Addr), u = .ref a → v = .ref b → x = .ref a → y = .ref b → RcAt A s u v (Dt.eq d e) → EqAt A s u v (Dt.eq d e) := fun a b eu ev ex ey rc => by
      subst eu ev ex ey
      by_cases hab : a = b
      · subst hab
        rw [DV.same I (n + 1) d e (.ref a) hn h1 h2]
        exact EqAt.same _
      · exact EqAt.of_refs hab rc
    have items : ∀ (ds es : List Dt) (xs ys : List V) (its jts : List Value), Dt.deps ds ≤ n → DVs X.K H ds xs → DVs X.K H es ys → Vals xs its → Vals ys jts →
        ∀ j (g1 : j < its.toArray.size) (g2 : j < jts.toArray.size), EqAt A.in1 s its.toArray[j] jts.toArray[j] (Dt.eq (ds.getD j .non) (es.getD j .non)) := by
      intro ds es xs ys its jts hd a b ra rb j g1 g2
      obtain ⟨d', x', e1, _, v1, q1, z1⟩ := dvs_items a ra g1
      obtain ⟨d'', x'', e2, _, v2, q2, z2⟩ := dvs_items b rb g2
      rw [z1, z2]
      exact (ih d' d'' x' x'' _ _ A.in1 (Nat.le_trans (Dt.dep_le e1) hd) (by rw [in1_units]; omega) v1 v2 q1 q2).1
    cases d with
    | lst ds =>
      unfold Dt.dep at hn
      unfold DV at h1
      obtain ⟨a, xs, rfl, q1, w1⟩ := id h1
      cases r1
      obtain ⟨its, rv, p, _⟩ := I.list q1
      cases e with
      | lst es =>
        unfold DV at h2
        obtain ⟨b, ys, rfl, q2, w2⟩ := id h2
        cases r2
        obtain ⟨jts, rv2, p2, _⟩ := I.list q2
        have rcs : RcAt A s (.ref a) (.ref b) (Dt.eq (.lst ds) (.lst es)) ∧ RcNeAt A s (.ref a) (.ref b) (!Dt.eq (.lst ds) (.lst es)) := by
          unfold Dt.eq
          have l1 : its.toArray.size = ds.length := by rw [List.size_toArray, ← rv.length, w1.length]
          have l2 : jts.toArray.size = es.length := by rw [List.size_toArray, ← rv2.length, w2.length]
          by_cases hl : ds.length = es.length
          · have hi := items ds es xs ys its jts (by omega) w1 w2 rv rv2
            rw [← Dt.eqs_range ds es hl, ← l1]
            exact ⟨RcAt.lists p.isList p2.isList (by omega) hu hi, RcNeAt.lists p.isList p2.isList (by omega) hu hi⟩
          · have hne : (its.toArray.size != jts.toArray.size) = true := by rw [l1, l2]; simpa using hl
            rw [Dt.eqs_len ds es hl]
            exact ⟨RcAt.lists_lengths p.isList p2.isList hne hu, RcNeAt.lists_lengths p.isList p2.isList hne hu⟩
        exact ⟨wrap a b rfl rfl rfl rfl rcs.1, rcs⟩
      | tup es =>
        unfold DV at h2
        obtain ⟨b, ys, rfl, q2, w2⟩ := id h2
        cases r2
        obtain ⟨jts, rv2, p2, _⟩ := I.tuple q2
        have p2' : s.heap.IsTuple b jts.toArray := p2
        unfold Dt.eq
        exact ⟨EqAt.list_tuple p.isList p2' hu, RcAt.list_tuple p.isList p2' hu, RcNeAt.list_tuple p.isList p2' hu⟩
      | non => unfold DV at h2; subst h2; cases r2; unfold Dt.eq; exact ⟨EqAt.list_none p.isList hu, RcAt.list_none p.isList hu, RcNeAt.list_none p.isList hu⟩
      | bl b => unfold DV at h2; subst h2; cases r2; unfold Dt.eq; exact ⟨EqAt.list_bool _ p.isList hu, RcAt.list_bool _ p.isList hu, RcNeAt.list_bool _ p.isList hu⟩
      | int b => unfold DV at h2; subst h2; obtain ⟨t, rfl⟩ := r2; unfold Dt.eq; exact ⟨EqAt.list_int _ _ p.isList hu, RcAt.list_int _ _ p.isList hu, RcNeAt.list_int _ _ p.isList hu⟩
      | str b => unfold DV at h2; subst h2; obtain ⟨t, rfl⟩ := r2; unfold Dt.eq; exact ⟨EqAt.list_str _ _ p.isList hu, RcAt.list_str _ _ p.isList hu, RcNeAt.list_str _ _ p.isList hu⟩
    | tup ds =>
      unfold Dt.dep at hn
      unfold DV at h1
      obtain ⟨a, xs, rfl, q1, w1⟩ := id h1
      cases r1
      obtain ⟨its, rv, p0, _⟩ := I.tuple q1
      have p : s.heap.IsTuple a its.toArray := p0
      cases e with
      | tup es =>
        unfold DV at h2
        obtain ⟨b, ys, rfl, q2, w2⟩ := id h2
        cases r2
        obtain ⟨jts, rv2, p20, _⟩ := I.tuple q2
        have p2 : s.heap.IsTuple b jts.toArray := p20
        have l1 : its.toArray.size = ds.length := by rw [List.size_toArray, ← rv.length, w1.length]
        have l2 : jts.toArray.size = es.length := by rw [List.size_toArray, ← rv2.length, w2.length]
        have hi := items ds es xs ys its jts (by omega) w1 w2 rv rv2
        have ev : ((List.range (min its.toArray.size jts.toArray.size)).all (fun j => Dt.eq (ds.getD j .non) (es.getD j .non)) && its.toArray.size == jts.toArray.size) = Dt.eqs ds es := by
          rw [l1, l2]
          by_cases hl : ds.length = es.length
          · rw [← Dt.eqs_range ds es hl, hl, Nat.min_self]
            simp
          · rw [Dt.eqs_len ds es hl]
            simp [hl]
        have rcs : RcAt A s (.ref a) (.ref b) (Dt.eq (.tup ds) (.tup es)) ∧ RcNeAt A s (.ref a) (.ref b) (!Dt.eq (.tup ds) (.tup es)) := by
          unfold Dt.eq
          rw [← ev]
          exact ⟨RcAt.tuples p p2 hu hi, RcNeAt.tuples p p2 hu hi⟩
        exact ⟨wrap a b rfl rfl rfl rfl rcs.1, rcs⟩
      | lst es =>
        unfold DV at h2
        obtain ⟨b, ys, rfl, q2, w2⟩ := id h2
        cases r2
        obtain ⟨jts, rv2, p2, _⟩ := I.list q2
        unfold Dt.eq
        exact ⟨EqAt.tuple_list p p2.isList hu, RcAt.tuple_list p p2.isList hu, RcNeAt.tuple_list p p2.isList hu⟩
      | non => unfold DV at h2; subst h2; cases r2; unfold Dt.eq; exact ⟨EqAt.tuple_none p hu, RcAt.tuple_none p hu, RcNeAt.tuple_none p hu⟩
      | bl b => unfold DV at h2; subst h2; cases r2; unfold Dt.eq; exact ⟨EqAt.tuple_bool _ p hu, RcAt.tuple_bool _ p hu, RcNeAt.tuple_bool _ p hu⟩
      | int b => unfold DV at h2; subst h2; obtain ⟨t, rfl⟩ := r2; unfold Dt.eq; exact ⟨EqAt.tuple_int _ _ p hu, RcAt.tuple_int _ _ p hu, RcNeAt.tuple_int _ _ p hu⟩
      | str b => unfold DV at h2; subst h2; obtain ⟨t, rfl⟩ := r2; unfold Dt.eq; exact ⟨EqAt.tuple_str _ _ p hu, RcAt.tuple_str _ _ p hu, RcNeAt.tuple_str _ _ p hu⟩
    | non => exact ih _ e x y u v A (by unfold Dt.dep; omega) (by omega) h1 h2 r1 r2
    | bl b => exact ih _ e x y u v A (by unfold Dt.dep; omega) (by omega) h1 h2 r1 r2
    | int b => exact ih _ e x y u v A (by unfold Dt.dep; omega) (by omega) h1 h2 r1 r2
    | str b => exact ih _ e x y u v A (by unfold Dt.dep; omega) (by omega) h1 h2 r1 r2
end
def rEqD (K : PySem.W.Frag) : R2 := fun x y H Q => ∃ d e, DV K H d x ∧ DV K H e y ∧ d.dep ≤ 64 ∧ Q (.bl (Dt.eq d e)) H
def rNeD (K : PySem.W.Frag) : R2 := fun x y H Q => ∃ d e, DV K H d x ∧ DV K H e y ∧ d.dep ≤ 64 ∧ Q (.bl (!Dt.eq d e)) H
section
variable {X : Cx}
theorem op_eqD (hu : X.A.units + 64 < cLine) : OpR X (compareOp .Eq) (rEqD X.K) := by
  intro pins s σ H x y v u Q I rx ry h
  obtain ⟨d, e, h1, h2, hd, q⟩ := h
  exact (eq_all I 64 d e x y v u X.A hd hu h1 h2 rx ry).2.1 _ _ _ _ ⟨.bl (Dt.eq d e), H, I, rfl, q⟩
theorem op_neD (hu : X.A.units + 64 < cLine) : OpR X (compareOp .NotEq) (rNeD X.K) := by
  intro pins s σ H x y v u Q I rx ry h
  obtain ⟨d, e, h1, h2, hd, q⟩ := h
  exact (eq_all I 64 d e x y v u X.A hd hu h1 h2 rx ry).2.2 _ _ _ _ ⟨.bl (!Dt.eq d e), H, I, rfl, q⟩
end
def Dt.ints (ns : List Int) : List Dt := ns.map Dt.int
theorem dvs_ints {K : PySem.W.Frag} {H : Hp} : ∀ ns : List Int, DVs K H (Dt.ints ns) (ns.map V.int)
  | [] => by unfold Dt.ints DVs; rfl
  | n :: r => by
    show DVs K H (Dt.int n :: Dt.ints r) (V.int n :: r.map V.int)
    unfold DVs
    exact ⟨_, _, rfl, by unfold DV; rfl, dvs_ints r⟩
theorem deps_ints : ∀ ns : List Int, Dt.deps (Dt.ints ns) = 0
  | [] => by unfold Dt.ints Dt.deps; rfl
  | n :: r => by
    show Dt.deps (Dt.int n :: Dt.ints r) = 0
    unfold Dt.deps
    rw [deps_ints r]
    unfold Dt.dep
    rfl
theorem dv_lints {K : PySem.W.Frag} {H : Hp} {a : Addr} {ns : List Int} (h : SqL K H a (ns.map V.int)) : DV K H (.lst (Dt.ints ns)) (.ref a) := by unfold DV; exact ⟨a, _, rfl, h, dvs_ints ns⟩
section
variable {H : Hp} {Q : VK} {K : PySem.W.Frag} {a b : Addr}
end
mutual
theorem DV.keep {K : PySem.W.Frag} {H H' : Hp} (s : Same H H') : ∀ {d : Dt} {v : V}, DV K H d v → DV K H' d v
  | .non, v, h => by unfold DV at h ⊢; exact h
  | .bl b, v, h => by unfold DV at h ⊢; exact h
  | .int i, v, h => by unfold DV at h ⊢; exact h
  | .str x, v, h => by unfold DV at h ⊢; exact h
  | .lst ds, v, h => by
    unfold DV at h ⊢
    obtain ⟨a, xs, e, q, r⟩ := h
    exact ⟨a, xs, e, s.seq q, DVs.keep s r⟩
  | .tup ds, v, h => by
    unfold DV at h ⊢
    obtain ⟨a, xs, e, q, r⟩ := h
    exact ⟨a, xs, e, s.tup q, DVs.keep s r⟩
theorem DVs.keep {K : PySem.W.Frag} {H H' : Hp} (s : Same H H') : ∀ {ds : List Dt} {xs : List V}, DVs K H ds xs → DVs K H' ds xs
  | [], xs, h => by unfold DVs at h ⊢; exact h
  | d :: r, xs, h => by
    unfold DVs at h ⊢
    obtain ⟨x, t, e, h1, h2⟩ := h
    exact ⟨x, t, e, DV.keep s h1, DVs.keep s h2⟩
end
end L2
namespace L2
open PySem PySem.Spec PyProof.Rows Builtin Builtin.Str

def cutN (xs : List Nat) (lo hi : Option Int) : List Nat := (xs.drop (HT.sIx xs.length 0 lo)).take (HT.sIx xs.length xs.length hi - HT.sIx xs.length 0 lo)
def cutS (z : Str) (lo hi : Option Int) : Str := ⟨(cutN z.cps.toList lo hi).toArray⟩
theorem sIdx_eq (lo hi : Option Int) (n : Nat) : strSliceIndices lo hi 1 n = (List.range (HT.sIx n n hi - HT.sIx n 0 lo)).map (HT.sIx n 0 lo + ·) := by
  obtain ⟨h1, h2, _⟩ := slice_bounds lo hi n
  have e : strSliceIndices lo hi 1 n = sliceRange (sliceBounds lo hi none n).1 (sliceBounds lo hi none n).2.1 1 := by cases lo <;> cases hi <;> rfl
  rw [e, h1, h2, sliceRange_one]
theorem slice_cut (z : Str) (lo hi : Option Int) : Txt.slice z lo hi = cutS z lo hi := by
  have hl : z.length = z.cps.toList.length := by simp [Str.length]
  have e2 : (strSliceIndices lo hi 1 z.length).filterMap (z.cps[·]?) = cutN z.cps.toList lo hi := by
    rw [sIdx_eq, pick_run, hl]
    rfl
  unfold Txt.slice cutS
  rw [e2]
  split
  · rename_i h
    have hn : (strSliceIndices lo hi 1 z.length).length = z.length := by simpa using h
    rw [sIdx_eq, List.length_map, List.length_range] at hn
    have e3 : cutN z.cps.toList lo hi = z.cps.toList := by
      unfold cutN
      rw [← hl]
      have hb := HT.sIx_le z.length z.length (Nat.le_refl _) hi
      have h0 : HT.sIx z.length 0 lo = 0 ∨ z.length = 0 := by omega
      rcases h0 with h0 | h0
      · have h1 : HT.sIx z.length z.length hi = z.length := by omega
        rw [h0, h1, List.drop_zero, Nat.sub_zero, hl, List.take_length]
      · have : z.cps.toList = [] := List.eq_nil_of_length_eq_zero (by omega)
        rw [this]
        simp
    rw [e3]
  · rfl
def rSlS : V → Option Int → Option Int → Hp → VK → Prop := fun x lo hi H Q => ∃ z, x = .str z ∧ z.length ≤ sizeLine ∧ Q (.str (cutS z lo hi)) H
theorem part_of {v : Value} {o : Option Int} (p : IsPart v o) : ∃ q : Option (Int × Tok), v = partValue q ∧ q.map (·.1) = o := by
  cases p with
  | none => exact ⟨none, rfl, rfl⟩
  | int i t => exact ⟨some (i, t), rfl, rfl⟩
theorem sl_str {X : Cx} : SlR X rSlS := by
  intro pins s σ H x v vl vu lo hi sl Q I rx hs pl pu h
  obtain ⟨z, rfl, hz, q⟩ := h
  obtain ⟨t, rfl⟩ := rx
  obtain ⟨l, rfl, rfl⟩ := part_of pl
  obtain ⟨u, rfl, rfl⟩ := part_of pu
  refine ⟨"str", _, F.slot_str_getitem.lookup, typeIs_str _ _ _, wpAny_getItem_str_slice (l := l) (u := u) (st := none) hs rfl ?_⟩
  refine post_val_or_str ⟨Nat.le_trans (Txt.slice_le z _ _) hz, fun t' k => ⟨.str (cutS z (l.map (·.1)) (u.map (·.1))), H, I.tok _, ⟨t', ?_⟩, q⟩⟩
  rw [← slice_cut]
  rfl
def Its (z : Str) : It := ⟨fun i _ => i < z.cps.size, fun i H x H' => H' = H ∧ ∃ c, z.cps[i]? = some c ∧ x = .str ⟨#[c]⟩, fun i _ => z.cps.size ≤ i⟩
theorem turn_str {P : Program} {w : World} {K : PySem.W.Frag} {tg : Expr} (z : Str) (t : Tok) (it : Addr) (T : String) (hT : T = "str_ascii_iterator" ∨ T = "str_iterator") :
    Turn P w K tg (Its z) [it] it (fun i h => i ≤ z.cps.size ∧ h.IsStrIter it T z t i) where
  mem := by simp
  obj := fun i h st b hb => by
    have e : b = it := by simpa using hb
    subst e
    obtain ⟨_, o, e, c, d⟩ := st
    exact ⟨o, e, fun v z => by rw [d] at z; cases z⟩
  keep := fun i h h' st k => ⟨st.1, by obtain ⟨_, o, e, c⟩ := st; exact ⟨o, k it (by simp) o e, c⟩⟩
  item := by
    intro X hP hw hK hc i pins s σ H E I hf st hg
    subst hP hw hK
    obtain ⟨f0, f1, f2, f3, f4, f5⟩ := hf it (by simp)
    have hlt : i < z.cps.size := hg
    have W : Walks X.prog X.w X.A it [it] [it] z.cps.size (SignAt z) (fun i h => h.IsStrIter it T z t i) := by
      rcases hT with rfl | rfl
      · exact Walks.strAscii (I.ok.hd hc) it z t
      · exact Walks.strWide (I.ok.hd hc) it z t
    refine W.item i s _ _ hlt st.2 fun v h' tk hv st' kk => ?_
    obtain ⟨c, u, hx, rfl⟩ := hv
    have I1 : Inv X pins σ H { s with heap := h', toks := tk } := I.turned (fun b o hb e => kk b o (by simpa using hb) e) f0 f1 f3 f4 f5
    obtain ⟨o, e, c1, d⟩ := id st'
    refine ⟨_, rfl, go_of (s := { s with heap := h', toks := tk }) e c1 d (by rcases hT with rfl | rfl <;> decide) ⟨.str ⟨#[c]⟩, H, I1, ⟨u, rfl⟩, ⟨rfl, c, hx, rfl⟩, ⟨hlt, st'⟩, fun b hb => (hf b hb).1⟩⟩
  done := by
    intro X hP hw hK hc i pins s σ H E I hf st hg
    subst hP hw hK
    obtain ⟨f0, f1, f2, f3, f4, f5⟩ := hf it (by simp)
    have h2 : z.cps.size ≤ i := hg
    have hx : z.cps[i]? = none := by simp [h2]
    have st2 := st.2
    rcases hT with rfl | rfl
    · exact wpAny_pyNext_ascii_end (I.ok.hd hc) st2 hx fun h' eb => ⟨rfl, I.turned (t' := s.toks) (fun b o hb e => eb b o hb e) f0 f1 f3 f4 f5⟩
    · exact wpAny_pyNext_wide_end (I.ok.hd hc) st2 hx fun h' eb => ⟨rfl, I.turned (t' := s.toks) (fun b o hb e => eb b o hb e) f0 f1 f3 f4 f5⟩
  self := fun _ _ _ _ _ st h => by
    have st2 := st.2
    rcases hT with rfl | rfl
    · exact wpAny_pyIter_striter_ascii st2 h
    · exact wpAny_pyIter_striter_wide st2 h
def iStr (tl : TE) : TI := fun σ H R => tl σ H fun x H1 => ∃ z, x = .str z ∧ R (Its z) H1
theorem pi_str {X : Cx} {tg l : Expr} {tl : TE} (hl : PE X l tl) : PI X tg l (iStr tl) := by
  intro pins s σ H R I h
  refine thn (hl pins s σ H _ I h) fun v s1 ⟨x, H1, I1, r1, q1⟩ => ?_
  obtain ⟨z, e, q⟩ := q1
  subst e
  obtain ⟨t, rfl⟩ := r1
  have hfp : ∀ o : Obj, ∀ b ∈ [s1.heap.objs.size], FpOk X pins H1 b := fun o b hb => by
    have e : b = s1.heap.objs.size := by simpa using hb
    subst e
    exact I1.fpOk (Nat.le_refl _) (I1.hok.fresh (Nat.le_refl _))
  cases ha : z.cps.all (· < 128)
  · refine wpAny_pyIter_wide ha ?_
    exact ⟨s1.heap.objs.size, [s1.heap.objs.size], _, _, H1, rfl, I1.kept (t' := s1.toks) fun b o e => Heap.get?_push_of_some _ e, turn_str z t _ "str_iterator" (.inr rfl), ⟨Nat.zero_le _, _, Heap.get?_push_size _ rfl, rfl, rfl⟩, hfp default, q⟩
  · refine wpAny_pyIter_ascii ha ?_
    exact ⟨s1.heap.objs.size, [s1.heap.objs.size], _, _, H1, rfl, I1.kept (t' := s1.toks) fun b o e => Heap.get?_push_of_some _ e, turn_str z t _ "str_ascii_iterator" (.inl rfl), ⟨Nat.zero_le _, _, Heap.get?_push_size _ rfl, rfl, rfl⟩, hfp default, q⟩
theorem rd_iStr {tl : TE} {σ : St} {H : Hp} {R : It → Hp → Prop} (q : tl σ H fun x H1 => ∃ z, x = .str z ∧ R (Its z) H1) : iStr tl σ H R := q
theorem for_str {z : Str} {g : TG} {tb : TS} {D : Ends} {σ : St} {H : Hp} (Pv : Nat → St → Hp → Prop) (h0 : Pv 0 σ H)
    (hs : ∀ i c σ H, i < z.length → z.cps[i]? = some c → Pv i σ H → g (.str ⟨#[c]⟩) σ H fun σ2 H2 => tb { D with nx := Pv (i + 1), ct := Pv (i + 1), bk := D.nx } σ2 H2) (hd : ∀ σ H, Pv z.length σ H → D.nx σ H) :
    ∃ W : Nat → Nat → St → Hp → Prop, (∃ m, W 0 m σ H) ∧ ∀ i m σ H, W i m σ H →
      ((Its z).stop i H ∧ D.nx σ H) ∨ ((Its z).go i H ∧ ∃ N : St → Hp → Prop, (∀ σ' H', N σ' H' → ∃ m', m' < m ∧ W (i + 1) m' σ' H') ∧ ∀ x H', (Its z).yld i H x H' → g x σ H' fun σ2 H2 => tb { D with nx := N, ct := N, bk := D.nx } σ2 H2) := by
  refine ⟨fun i m σ H => m = z.length - i ∧ i ≤ z.length ∧ Pv i σ H, ⟨z.length, by simp, Nat.zero_le _, h0⟩, ?_⟩
  rintro i m σ H ⟨rfl, hi, p⟩
  by_cases hlt : i < z.length
  · refine .inr ⟨hlt, Pv (i + 1), fun σ' H' p' => ⟨z.length - (i + 1), by omega, rfl, hlt, p'⟩, fun x H' y => ?_⟩
    obtain ⟨e, c, hc, ex⟩ := y
    subst e ex
    exact hs i c σ _ hlt hc p
  · have e : i = z.length := by omega
    subst e
    exact .inl ⟨Nat.le_refl _, hd σ H p⟩
end L2
namespace L2
open PySem PySem.Spec PyProof.Rows Builtin Builtin.Str

def rAddS : R2 := fun x y H Q => ∃ i j, x = .str i ∧ y = .str j ∧ i.length + j.length ≤ sizeLine ∧ Q (.str (i ++ j)) H
def rInS : R2 := fun x y H Q => ∃ i j, x = .str i ∧ y = .str j ∧ Q (.bl (!(occurrences j i 0 j.length 1).isEmpty)) H
def rNotInS : R2 := fun x y H Q => ∃ i j, x = .str i ∧ y = .str j ∧ Q (.bl (!(!(occurrences j i 0 j.length 1).isEmpty))) H
def rStrI : RC := fun xs H Q => ∃ i, xs = [.int i] ∧ i.natAbs.log2 < 1920 ∧ Q (.str (toString i)) H
def rLenZ : RC := fun xs H Q => ∃ z, xs = [.str z] ∧ z.length ≤ sizeLine ∧ Q (.int z.length) H
abbrev RM := V → List V → Hp → VK → Prop
def rSplit : RM := fun x xs H Q => ∃ z y, x = .str z ∧ xs = [.str y] ∧ y.length ≠ 0 ∧ z.length + 2 ≤ sizeLine ∧ (Txt.split z y).length ≤ sizeLine ∧ ∀ p, H p = none → Q (.ref p) (upd H p (.lst ((Txt.split z y).map V.str)))
def rJoin (K : PySem.W.Frag) : RM := fun x xs H Q => ∃ z p ts, x = .str z ∧ xs = [.ref p] ∧ SqL K H p (ts.map V.str) ∧ JoinOk z ts = true ∧ Q (.str (Txt.join z ts)) H
section
variable {X : Cx}
theorem op_addS : OpR X (binaryOp .Add) rAddS := op_add_str
theorem op_inS : OpR X (compareOp .In) rInS := op_in_str
theorem op_notInS : OpR X (compareOp .NotIn) rNotInS := op_notin_str
theorem ct_str : CallR X (.type "str") rStrI := call_str_int
theorem cn_lenZ : CallR X (.builtin "len") rLenZ := call_len_str
theorem vals_strs : ∀ {ts : List Str} {us : List Value}, Vals (ts.map V.str) us → ∃ l : List (Str × Tok), us = strValues l ∧ l.map (·.1) = ts
  | [], _, r => by cases r; exact ⟨[], rfl, rfl⟩
  | a :: ts, _, r => by
    rw [List.map_cons] at r
    cases r with
    | cons r1 r2 =>
      obtain ⟨t, e⟩ := r1
      subst e
      obtain ⟨l, e1, e2⟩ := vals_strs r2
      subst e1
      exact ⟨(a, t) :: l, rfl, by rw [List.map_cons, e2]⟩
theorem strs_vals : ∀ (l : List (Str × Tok)), Vals ((l.map (·.1)).map V.str) (strValues l)
  | [] => .nil
  | (a, t) :: l => .cons ⟨t, rfl⟩ (strs_vals l)
theorem mt_join : MtR X "str.join" (rJoin X.K) := by
  intro pins s σ H x xs v us Q I rx rs h
  obtain ⟨z, p, ts, rfl, rfl, hq, hj, q⟩ := h
  obtain ⟨t, rfl⟩ := rx
  obtain ⟨u, rfl, e⟩ := vals1 rs
  cases e
  obtain ⟨its, r', pl, hz⟩ := I.list hq
  obtain ⟨l, e1, e2⟩ := vals_strs r'
  subst e1
  exact SC.join pl.isList e2 hj fun t' k => ⟨.str _, H, I.tok _, ⟨_, rfl⟩, q⟩
theorem mt_split : MtR X "str.split" rSplit := by
  intro pins s σ H x xs v us Q I rx rs h
  obtain ⟨z, y, rfl, rfl, hy, hz, hn, q⟩ := h
  obtain ⟨t, rfl⟩ := rx
  obtain ⟨u, rfl, t', rfl⟩ := vals1 rs
  have hy' : (y.length == 0) = false := by simpa using hy
  have fin : ∀ (l : List (Str × Tok)) (k : Nat), l.map (·.1) = Txt.split z y → EP X pins σ Q (.ref s.heap.objs.size) { s with heap := s.heap.push { cls := .type "list", data := .seq (strValues l).toArray }, toks := k } := fun l k e => by
    have hf : H s.heap.objs.size = none := I.hok.fresh (Nat.le_refl _)
    refine ⟨.ref s.heap.objs.size, _, I.laid (o := .lst ((Txt.split z y).map V.str)) (fun b ob q => Heap.get?_push_of_some _ q) (Nat.le_refl _) ?_, rfl, q _ hf⟩
    refine ⟨by rw [List.length_map]; exact hn, _, 0, ?_, Heap.get?_push_size _ rfl⟩
    rw [← e]
    exact strs_vals l
  cases h1 : (decide (z.length < y.length) || decide (strKind z < strKind y))
  · cases hf : (occurrences z y 0 z.length (z.length + 1)).isEmpty
    · have e : Txt.split z y = partsBetween z (occurrences z y 0 z.length (z.length + 1)) y.length := (if_neg (ne_true_of_eq_false h1)).trans (if_neg (ne_true_of_eq_false hf))
      refine call_meets F.slot_str_split (typeIs_str _ _ _) F.entry_str_split (F.args_str_split_2 _ _) (meets_str_split_sep z y t t' h1 hy' hf (by omega) (by rw [← e]; exact hn)) ?_
      show wants (EP X pins σ Q) X.xe _ { s with toks := _, heap := s.heap.push { cls := .type "list", data := .seq (strsFrom s.toks (partsBetween z (occurrences z y 0 z.length (z.length + 1)) y.length)).toArray } }
      rw [strsFrom_eq]
      exact fin _ _ ((numbered_texts _ _).trans e.symm)
    · exact call_meets F.slot_str_split (typeIs_str _ _ _) F.entry_str_split (F.args_str_split_2 _ _) (meets_str_split_not_found z y t t' h1 hy' hf) (fin [(z, t)] _ ((if_neg (ne_true_of_eq_false h1)).trans (if_pos hf)).symm)
  · exact call_meets F.slot_str_split (typeIs_str _ _ _) F.entry_str_split (F.args_str_split_2 _ _) (meets_str_split_cannot_occur z y t t' h1) (fin [(z, t)] _ (if_pos h1).symm)
variable {o e : Expr} {es : List Expr} {to : TE} {t : TA} {apos cpos : Pos}
end
section
variable {X : Cx} {H : Hp} {Q : VK} {K : PySem.W.Frag} {z y : Str} {p : Addr} {ts : List Str}
theorem rd_inS (q : Q (.bl (!(occurrences y z 0 y.length 1).isEmpty)) H) : rInS (.str z) (.str y) H Q := ⟨z, y, rfl, rfl, q⟩
theorem rd_notInS (q : Q (.bl (!(!(occurrences y z 0 y.length 1).isEmpty))) H) : rNotInS (.str z) (.str y) H Q := ⟨z, y, rfl, rfl, q⟩
theorem rd_strI {i : Int} (h : i.natAbs.log2 < 1920) (q : Q (.str (toString i)) H) : rStrI [.int i] H Q := ⟨i, rfl, h, q⟩
theorem rd_lenZ (h : z.length ≤ sizeLine) (q : Q (.int z.length) H) : rLenZ [.str z] H Q := ⟨z, rfl, h, q⟩
theorem rd_split (hy : y.length ≠ 0) (hz : z.length + 2 ≤ sizeLine) (hn : (Txt.split z y).length ≤ sizeLine) (q : ∀ p, H p = none → Q (.ref p) (upd H p (.lst ((Txt.split z y).map V.str)))) : rSplit (.str z) [.str y] H Q := ⟨z, y, rfl, rfl, hy, hz, hn, q⟩
theorem rd_join (h : SqL K H p (ts.map V.str)) (hj : JoinOk z ts = true) (q : Q (.str (Txt.join z ts)) H) : rJoin K (.str z) [.ref p] H Q := ⟨z, p, ts, rfl, rfl, h, hj, q⟩
theorem rd_ixS {i : Int} {c : Nat} (h : z.length ≤ sizeLine) (e : atI z.cps.toList i = some c) (q : Q (.str ⟨#[c]⟩) H) : rIxS (.str z) (.int i) H Q := ⟨z, i, c, rfl, rfl, h, e, q⟩
end
end L2
namespace L2
open PySem PySem.Spec PyProof.Rows Builtin Builtin.Str

def dval (ds : List Nat) : Nat := ds.foldl (fun a c => a * 10 + (c - 48)) 0
def isDig (c : Nat) : Bool := decide (48 ≤ c) && decide (c ≤ 57)
def sNum (m : Nat) : List Nat := (Nat.toDigits 10 m).map Char.toNat
theorem sNum_le {k m : Nat} (hk : 1 ≤ k) (h : m < 10 ^ k) : (sNum m).length ≤ k := by
  unfold sNum
  rw [List.length_map]
  exact digits10_le hk h
theorem str_numI {i : Int} (h : 0 ≤ i) : Str.ofString (toString i) = ⟨(sNum i.toNat).toArray⟩ := by
  obtain ⟨m, rfl⟩ := Int.eq_ofNat_of_zero_le h
  exact text_ofNat m
theorem find_fig (c : Nat) : Txt.find (Str.ofString "0123456789") ⟨#[c]⟩ = if isDig c = true then (c : Int) - 48 else -1 := by
  by_cases h : isDig c = true
  · rw [if_pos h]
    simp only [isDig, Bool.and_eq_true, decide_eq_true_eq] at h
    have hc : c = 48 ∨ c = 49 ∨ c = 50 ∨ c = 51 ∨ c = 52 ∨ c = 53 ∨ c = 54 ∨ c = 55 ∨ c = 56 ∨ c = 57 := by omega
    rcases hc with rfl | rfl | rfl | rfl | rfl | rfl | rfl | rfl | rfl | rfl <;> decide +kernel
  · rw [if_neg h]
    have hm : ¬ c ∈ (Str.ofString "0123456789").cps.toList := fun e => by
      have e' : c ∈ [48, 49, 50, 51, 52, 53, 54, 55, 56, 57] := e
      apply h
      simp only [isDig, Bool.and_eq_true, decide_eq_true_eq]
      simp only [List.mem_cons, List.not_mem_nil, or_false] at e'
      omega
    have := StrLaws.found_one (Str.ofString "0123456789") c
    rw [decide_eq_false hm] at this
    have e : occurrences (Str.ofString "0123456789") ⟨#[c]⟩ 0 (Str.ofString "0123456789").length 1 = [] := by
      simpa using this
    unfold Txt.find
    rw [e]
theorem in_fig (c : Nat) : (!(occurrences (Str.ofString "0123456789") ⟨#[c]⟩ 0 (Str.ofString "0123456789").length 1).isEmpty) = isDig c := by
  rw [StrLaws.found_one]
  by_cases h : isDig c = true
  · rw [h]
    simp only [isDig, Bool.and_eq_true, decide_eq_true_eq] at h
    refine decide_eq_true ?_
    show c ∈ [48, 49, 50, 51, 52, 53, 54, 55, 56, 57]
    simp only [List.mem_cons, List.not_mem_nil, or_false]
    omega
  · rw [Bool.not_eq_true] at h
    rw [h]
    refine decide_eq_false fun e => ?_
    have e' : c ∈ [48, 49, 50, 51, 52, 53, 54, 55, 56, 57] := e
    have : isDig c = true := by
      simp only [isDig, Bool.and_eq_true, decide_eq_true_eq]
      simp only [List.mem_cons, List.not_mem_nil, or_false] at e'
      omega
    rw [this] at h
    cases h
end L2
namespace L2
open PySem PySem.Spec PyProof.Rows Builtin Builtin.Str

def rIsN : R2 := fun x y H Q => y = .non ∧ Q (.bl (decide (x = .non))) H
def optV : Option Nat → V
  | none => .non
  | some n => .int n
section
variable {X : Cx} {σ : St} {H : Hp} {Q : VK} {K : PySem.W.Frag} {z y : Str} {R : Prop}
theorem op_isNn : OpR X (compareOp .Is) rIsN := op_isN
theorem rd_isN0 (q : Q (.bl true) H) : rIsN .non .non H Q := ⟨rfl, by rw [decide_eq_true rfl]; exact q⟩
theorem rd_isNi {i : Int} (q : Q (.bl false) H) : rIsN (.int i) .non H Q := ⟨rfl, by rw [decide_eq_false (fun e => nomatch e)]; exact q⟩
theorem rd_isNr {p : Addr} (q : Q (.bl false) H) : rIsN (.ref p) .non H Q := ⟨rfl, by rw [decide_eq_false (fun e => nomatch e)]; exact q⟩
theorem rd_tyS (q : R) : tyV K "str" (.str z) H ∧ R := ⟨rfl, q⟩
theorem log_1920 {i : Int} (h0 : 0 ≤ i) (h : i < 2 ^ 200) : i.natAbs.log2 < 1920 := by
  by_cases e : i.natAbs = 0
  · rw [e]; decide
  · have : ((i.natAbs : Nat) : Int) < ((2 ^ 200 : Nat) : Int) := by rw [Int.natAbs_of_nonneg h0]; exact h
    have := (Nat.log2_lt e).mpr (Int.ofNat_lt.mp this)
    omega
end
theorem len_ofL (l : List Nat) : (⟨l.toArray⟩ : Str).length = l.length := by simp [Str.length]
theorem len_cps (z : Str) : z.cps.toList.length = z.length := by simp [Str.length]
theorem cutN_le (xs : List Nat) (lo hi : Option Int) : (cutN xs lo hi).length ≤ xs.length := by
  unfold cutN
  rw [List.length_take, List.length_drop]
  omega
theorem cutS_le (z : Str) (lo hi : Option Int) : (cutS z lo hi).length ≤ z.length := by
  unfold cutS
  rw [len_ofL, ← len_cps]
  exact cutN_le _ _ _
theorem len_app (x y : Str) : (x ++ y).length = x.length + y.length := Str.length_append x y
theorem atI_some {α : Type} {xs : List α} {i : Int} (h0 : 0 ≤ i) (h : i < xs.length) : ∃ c, atI xs i = some c ∧ xs[i.toNat]? = some c := by
  have hl : i.toNat < xs.length := by omega
  exact ⟨xs[i.toNat], atI_nat' (i := i.toNat) (by simp [hl]) (by omega), by simp [hl]⟩
theorem comp_rel {σ : St} {H : Hp} {K : PySem.W.Frag} {p a : Addr} {xs : List V} {te : TE} {Fin : Hp → Prop} (Re : V → V → Prop) (hl : SqL K H a xs) (hp : H p = none) (hz : xs.length ≤ sizeLine)
    (he : ∀ (i : Nat) (x : V) (H' : Hp) (Q : VK), xs[i]? = some x → Same H H' → (∀ y, Re x y → Q y H') → te (some x :: σ) H' Q)
    (fin : ∀ ys : List V, ys.length = xs.length → (∀ (i : Nat) (x y : V), xs[i]? = some x → ys[i]? = some y → Re x y) → Fin (upd H p (.lst ys))) :
    tLoopC 1 (gName 0) tNoIf te (Itl K a) p Fin σ H := by
  refine ⟨fun i m σ' H' => m = xs.length - i ∧ i ≤ xs.length ∧ (∃ ys : List V, ys.length = i ∧ (∀ (j : Nat) (x y : V), xs[j]? = some x → ys[j]? = some y → Re x y) ∧ H' = upd H p (.lst ys)) ∧ ∃ v, σ' = v :: σ,
    ⟨xs.length, by omega, Nat.zero_le _, ⟨[], rfl, fun j x y _ h => by simp at h, rfl⟩, none, rfl⟩, ?_⟩
  rintro i m σ' H' ⟨rfl, hi, ⟨ys, hn, hr, rfl⟩, v, rfl⟩
  have hs : SqL K (upd H p (.lst ys)) a xs := hl.updN hp
  by_cases hlt : i < xs.length
  · refine .inr ⟨⟨xs, xs[i], hs, by simp [hlt]⟩, fun σ2 H2 => (∃ ys : List V, ys.length = i + 1 ∧ (∀ (j : Nat) (x y : V), xs[j]? = some x → ys[j]? = some y → Re x y) ∧ H2 = upd H p (.lst ys)) ∧ ∃ v, σ2 = v :: σ,
      fun σ2 H2 ⟨e, v', e'⟩ => ⟨xs.length - (i + 1), by omega, rfl, hlt, e, v', e'⟩, fun x H1 ⟨e, y⟩ => ?_⟩
    subst e
    have hx := y xs hs
    refine rd_name ?_
    simp only [tNoIf, if_true, List.set_cons_zero]
    refine he i x _ _ hx (Same.new hp) fun y hy => ?_
    refine ⟨ys, upd_same, by omega, ⟨ys ++ [y], by simp [hn], ?_, ?_⟩, some x, rfl⟩
    · intro j x' y' hx' hy'
      by_cases hj : j < ys.length
      · rw [List.getElem?_append_left hj] at hy'
        exact hr j x' y' hx' hy'
      · rw [List.getElem?_append_right (by omega)] at hy'
        have ej : j = i := by
          have := (List.getElem?_eq_some_iff.mp hy').1
          simp at this
          omega
        subst ej
        rw [hn, Nat.sub_self] at hy'
        rw [hx] at hx'
        cases hx'
        cases hy'
        exact hy
    · rw [upd_upd]
  · have e : i = xs.length := by omega
    exact .inl ⟨⟨xs, hs, by omega⟩, fin ys (by omega) hr⟩
section
variable {H : Hp} {Q : VK} {z y : Str} {i : Int} {lo hi : Option Int}
theorem rd_ixJ (h : z.length ≤ sizeLine) (h0 : 0 ≤ i) (h1 : i < z.length) (q : ∀ c, z.cps.toList[i.toNat]? = some c → Q (.str ⟨#[c]⟩) H) : rIxS (.str z) (.int i) H Q := by
  obtain ⟨c, e1, e2⟩ := atI_some (xs := z.cps.toList) h0 (by rw [len_cps]; exact h1)
  exact ⟨z, i, c, rfl, rfl, h, e1, q c e2⟩
theorem rd_ixK1 (h : z.length ≤ sizeLine) (h0 : 0 ≤ i) (h1 : i < z.length) (q : ∀ y : Str, y.length = 1 → Q (.str y) H) : rIxS (.str z) (.int i) H Q := rd_ixJ h h0 h1 fun c _ => q _ rfl
theorem rd_slJ (h : z.length ≤ sizeLine) (q : ∀ y : Str, y.length ≤ z.length → Q (.str y) H) : rSlS (.str z) lo hi H Q := ⟨z, rfl, h, q _ (cutS_le _ _ _)⟩
theorem rd_addJ (h : z.length + y.length ≤ sizeLine) (q : ∀ x : Str, x.length = z.length + y.length → Q (.str x) H) : rAddS (.str z) (.str y) H Q := ⟨z, y, rfl, rfl, h, q _ (len_app _ _)⟩
end
end L2
namespace L2
open PySem PySem.Spec PyProof.Rows
def rListOf (K : PySem.W.Frag) : RC := fun xs H Q => ∃ p ys, xs = [.ref p] ∧ (SqL K H p ys ∨ SqT K H p ys) ∧ ∀ l, H l = none → Q (.ref l) (upd H l (.lst ys))
theorem ct_list {X : Cx} : CallR X (.type "list") (rListOf X.K) := call_list_of
section
variable {H : Hp} {Q : VK} {K : PySem.W.Frag} {p : Addr} {xs : List V}
theorem rd_listL (h : SqL K H p xs) (q : ∀ l, H l = none → Q (.ref l) (upd H l (.lst xs))) : rListOf K [.ref p] H Q := ⟨p, xs, rfl, .inl h, q⟩
end
end L2
namespace L2
open PySem PySem.Spec PyProof.Rows
structure ClsF (K : PySem.W.Frag) (mg : Str → Option Value) (x : Str) (C : Addr) : Prop where
  cl : Cls K C
  ms : PySem.W.makesIn K C = true
  kc : PySem.W.keepIn K (.ref C) = true
  mgC : mg x = some (.ref C)
def MCal (P : Program) (w : World) (K : PySem.W.Frag) (mg : Str → Option Value) (base : Heap) (k : Nat) (C : Addr) (m : Str) (sp : Sp) : Prop :=
  Cls K C ∧ ∃ f fd ps, Meth K C m f ∧ FnOk P w K mg base CX0 k f fd ps sp ∧ Binds K fd ps []
section
variable {P : Program} {w : World} {K : PySem.W.Frag} {mg : Str → Option Value} {base : Heap}
theorem MCal.mono {j k : Nat} {C : Addr} {m : Str} {sp : Sp} (c : MCal P w K mg base j C m sp) (h : j ≤ k) : MCal P w K mg base k C m sp :=
  let ⟨cl, f, fd, ps, M, F, b⟩ := c
  ⟨cl, f, fd, ps, M, F.mono h, b⟩
end
section
variable {X : Cx} {k : Nat} {C : Addr} {sp : Sp} {x m : Str} {p pos apos : Pos} {e o : Expr} {es : List Expr} {ta : TE} {t : TA}
end
section
variable {σ : St} {H : Hp} {Q : VK} {K : PySem.W.Frag} {a C dx : Addr} {fs : List (Str × V)} {f m : Str} {v : V} {D : Ends} {sp : Sp}
end
section
variable {σ : St} {H : Hp} {Q : VK} {a : Addr} {kvs : List (Key × V)} {k : Key} {v : V} {R : Prop}
end
end L2
namespace L2
open PySem PySem.Spec PyProof.Rows
theorem Same.wr {H H' : Hp} {l : Addr} {o : HO} (s : Same H H') (n : H l = none) : Same H (upd H' l o) := fun b u e => by rw [upd_ne (ne_of_none e n)]; exact s b u e
theorem Same.fresh {H H' : Hp} {q : Addr} (s : Same H H') (hq : H' q = none) : H q = none := by
  cases e : H q with
  | none => rfl
  | some o => rw [s _ _ e] at hq; cases hq
def rAll (K : PySem.W.Frag) : RC := fun xs H Q => ∃ (p : Addr) (bs : List Bool), xs = [.ref p] ∧ SqL K H p (bs.map V.bl) ∧ Q (.bl (bs.all id)) H
theorem vals_bl {bs : List Bool} {us : List Value} (r : Vals (bs.map V.bl) us) : us = bs.map Value.bool := by
  induction bs generalizing us with
  | nil => cases r; rfl
  | cons b bs ih =>
    cases r with
    | cons h t =>
      have e : _ = Value.bool b := h
      rw [e, ih t]
      rfl
theorem range_all (bs : List Bool) : (List.range bs.length).all (fun i => bs.getD i true) = bs.all id := by
  rw [Bool.eq_iff_iff, List.all_eq_true, List.all_eq_true]
  constructor
  · intro h b hb
    obtain ⟨i, hi, e⟩ := List.mem_iff_getElem.mp hb
    have := h i (List.mem_range.mpr hi)
    simpa [List.getD, hi, e] using this
  · intro h i hi
    have hi := List.mem_range.mp hi
    have := h (bs[i]) (List.getElem_mem hi)
    simpa [List.getD, hi] using this
theorem cn_all {X : Cx} (hc : X.calm = true) : CallR X (.builtin "all") (rAll X.K) := by
  intro pins s σ H xs us Q I r h
  obtain ⟨p, bs, rfl, hq, q⟩ := h
  obtain ⟨u, rfl, rx⟩ := vals1 r
  cases rx
  obtain ⟨its, rv, pl, hz⟩ := I.list hq
  have hb : its = bs.map Value.bool := vals_bl rv
  refine call_all_walk (wpAny_pyIter_list pl.isList ?_)
  have hlt : p < s.heap.objs.size := by
    obtain ⟨o, ho, _⟩ := pl.isList
    exact Heap.lt_size ho
  have hh : X.A.in1.handled = none := I.ok.hd hc
  refine ⟨s.heap.objs.size, _, _, _, _, _, fun i => bs.getD i true, rfl, Walks.list hh s.heap.objs.size p (Nat.ne_of_lt hlt) its.toArray, ⟨⟨_, Heap.get?_push_size _ rfl, rfl, rfl⟩, pl.isList.at fun o e => Heap.get?_push_of_some _ e⟩, ?_, fun h' tk kp => ?_⟩
  · intro i v s' Q' E' hv hQ
    rw [hb] at hv
    simp only [List.getElem?_toArray, List.getElem?_map] at hv
    obtain ⟨b, hb1, rfl⟩ := Option.map_eq_some_iff.mp hv
    have e : bs.getD i true = b := by simp [List.getD, hb1]
    have hQ : Q' (bs.getD i true) s' := hQ
    rw [e] at hQ
    exact wpAny_truthy_bool hQ
  · have hn : its.toArray.size = bs.length := by rw [hb]; simp
    rw [hn, range_all]
    exact ⟨.bl (bs.all id), H, I.kept (t' := tk) fun b o e => kp b o (by
      intro z
      have e' := Heap.lt_size e
      rw [List.mem_singleton.mp z] at e'
      exact absurd e' (Nat.lt_irrefl _)) (Heap.get?_push_of_some _ e), rfl, q⟩
theorem rd_all {K : PySem.W.Frag} {H : Hp} {Q : VK} {p : Addr} {bs : List Bool} (h : SqL K H p (bs.map V.bl)) (q : Q (.bl (bs.all id)) H) : rAll K [.ref p] H Q := ⟨p, bs, rfl, h, q⟩
def rIntS : RC := fun xs H Q => ∃ z n, xs = [.str z] ∧ z.length ≤ 640 ∧ PySem.intText? z = some n ∧ Q (.int n) H
theorem ct_intS {X : Cx} : CallR X (.type "int") rIntS := by
  intro pins s σ H xs us Q I r h
  obtain ⟨z, n, rfl, hl, hn, q⟩ := h
  obtain ⟨u, rfl, rx⟩ := vals1 r
  obtain ⟨t, rfl⟩ := rx
  exact PySem.W.KIN.call_text hn hl ⟨.int n, H, I.tok _, ⟨_, rfl⟩, q⟩
theorem rd_intS {H : Hp} {Q : VK} {z : Str} {n : Int} (hl : z.length ≤ 640) (hn : PySem.intText? z = some n) (q : Q (.int n) H) : rIntS [.str z] H Q := ⟨z, n, rfl, hl, hn, q⟩
end L2
namespace L2
open PySem PySem.Spec PyProof.Rows
def Itp (lo : Int) (n : Nat) : It := ⟨fun i _ => i < n, fun i H x H' => H' = H ∧ x = .int (lo + i * 2), fun i _ => n ≤ i⟩
section
variable {σ : St} {H : Hp} {p : Addr}
theorem comp_range2 {te : TE} {R : Hp → Prop} {lo : Int} {n : Nat} {ys : List V} (hp : H p = none) (hn : ys.length = n) (hz : n ≤ sizeLine)
    (he : ∀ (i : Nat) (y : V) (H' : Hp) (Q : VK), i < n → ys[i]? = some y → Same H H' → Q y H' → te (some (.int (lo + i * 2)) :: σ) H' Q) (fin : R (upd H p (.lst ys))) :
    tLoopC 1 (gName 0) tNoIf te (Itp lo n) p R σ H := by
  refine ⟨fun i m σ' H' => m = n - i ∧ i ≤ n ∧ H' = upd H p (.lst (ys.take i)) ∧ ∃ v, σ' = v :: σ, ⟨n, by omega, Nat.zero_le _, rfl, none, rfl⟩, ?_⟩
  rintro i m σ' H' ⟨rfl, hi, rfl, v, rfl⟩
  by_cases hlt : i < n
  · refine .inr ⟨hlt, fun σ2 H2 => H2 = upd H p (.lst (ys.take (i + 1))) ∧ ∃ v, σ2 = v :: σ, fun σ2 H2 ⟨e, v', e'⟩ => ⟨n - (i + 1), by omega, rfl, hlt, e, v', e'⟩, fun x H1 ⟨e, y⟩ => ?_⟩
    subst e y
    refine rd_name ?_
    simp only [tNoIf, if_true, List.set_cons_zero]
    have hyl : i < ys.length := by omega
    refine he i ys[i] _ _ hlt (by simp [hyl]) (Same.new hp) ?_
    refine ⟨ys.take i, upd_same, ?_, ?_, some _, rfl⟩
    · rw [List.length_take]; omega
    · rw [upd_upd, List.take_succ_eq_append_getElem hyl]
  · have e : i = n := by omega
    subst e
    refine .inl ⟨Nat.le_refl _, ?_⟩
    rw [← hn, List.take_length]
    exact fin
end
section
variable {σ : St} {H : Hp} {p : Addr} {xs : List V} {v : V}
end
section
variable {σ : St} {H : Hp} {p a : Addr} {K : PySem.W.Frag} {xs : List V}
theorem comp_str {te : TE} {R : Hp → Prop} {z : Str} {ys : List V} (hp : H p = none) (hn : ys.length = z.length) (hz : z.length ≤ sizeLine)
    (he : ∀ (i c : Nat) (y : V) (H' : Hp) (Q : VK), z.cps[i]? = some c → ys[i]? = some y → Same H H' → Q y H' → te (some (.str ⟨#[c]⟩) :: σ) H' Q) (fin : R (upd H p (.lst ys))) :
    tLoopC 1 (gName 0) tNoIf te (Its z) p R σ H := by
  refine ⟨fun i m σ' H' => m = z.length - i ∧ i ≤ z.length ∧ H' = upd H p (.lst (ys.take i)) ∧ ∃ v, σ' = v :: σ, ⟨z.length, by omega, Nat.zero_le _, rfl, none, rfl⟩, ?_⟩
  rintro i m σ' H' ⟨rfl, hi, rfl, v, rfl⟩
  by_cases hlt : i < z.length
  · refine .inr ⟨hlt, fun σ2 H2 => H2 = upd H p (.lst (ys.take (i + 1))) ∧ ∃ v, σ2 = v :: σ, fun σ2 H2 ⟨e, v', e'⟩ => ⟨z.length - (i + 1), by omega, rfl, hlt, e, v', e'⟩, fun x H1 ⟨e, c, hc, ex⟩ => ?_⟩
    subst e ex
    refine rd_name ?_
    simp only [tNoIf, if_true, List.set_cons_zero]
    have hyl : i < ys.length := by omega
    refine he i c ys[i] _ _ hc (by simp [hyl]) (Same.new hp) ?_
    refine ⟨ys.take i, upd_same, ?_, ?_, some _, rfl⟩
    · rw [List.length_take]; omega
    · rw [upd_upd, List.take_succ_eq_append_getElem hyl]
  · have e : i = z.length := by omega
    subst e
    refine .inl ⟨Nat.le_refl _, ?_⟩
    rw [← hn, List.take_length]
    exact fin
end
end L2
namespace L2
open PySem PySem.Spec PyProof.Rows
mutual
theorem Dt.eq_self : ∀ d : Dt, Dt.eq d d = true
  | .non => by unfold Dt.eq; rfl
  | .bl b => by unfold Dt.eq; exact beq_self_eq_true b
  | .int i => by unfold Dt.eq; exact beq_self_eq_true i
  | .str x => by unfold Dt.eq; exact beq_self_eq_true x
  | .lst ds => by unfold Dt.eq; exact Dt.eqs_self ds
  | .tup ds => by unfold Dt.eq; exact Dt.eqs_self ds
theorem Dt.eqs_self : ∀ ds : List Dt, Dt.eqs ds ds = true
  | [] => by unfold Dt.eqs; rfl
  | d :: r => by unfold Dt.eqs; rw [Dt.eq_self d, Dt.eqs_self r]; rfl
end
section
variable {K : PySem.W.Frag} {H : Hp} {Q : VK} {x y : V} {d : Dt}
theorem rd_eqD1 (h1 : DV K H d x) (h2 : DV K H d y) (hd : d.dep ≤ 64) (q : Q (.bl true) H) : rEqD K x y H Q := ⟨d, d, h1, h2, hd, by rw [Dt.eq_self]; exact q⟩
theorem rd_neD1 (h1 : DV K H d x) (h2 : DV K H d y) (hd : d.dep ≤ 64) (q : Q (.bl false) H) : rNeD K x y H Q := ⟨d, d, h1, h2, hd, by rw [Dt.eq_self]; exact q⟩
theorem dv_int {i : Int} : DV K H (.int i) (.int i) := by unfold DV; rfl
theorem dv_str {i : Str} : DV K H (.str i) (.str i) := by unfold DV; rfl
theorem dvs_nil : DVs K H [] [] := by unfold DVs; rfl
theorem dvs_cons {d : Dt} {r : List Dt} {x : V} {t : List V} (h : DV K H d x) (h2 : DVs K H r t) : DVs K H (d :: r) (x :: t) := by unfold DVs; exact ⟨x, t, rfl, h, h2⟩
theorem dv_tup {a : Addr} {xs : List V} {ds : List Dt} (h : SqT K H a xs) (h2 : DVs K H ds xs) : DV K H (.tup ds) (.ref a) := by unfold DV; exact ⟨a, xs, rfl, h, h2⟩
theorem dv_lst {a : Addr} {xs : List V} {ds : List Dt} (h : SqL K H a xs) (h2 : DVs K H ds xs) : DV K H (.lst ds) (.ref a) := by unfold DV; exact ⟨a, xs, rfl, h, h2⟩
end
theorem cutV_drop {ns : List V} {n : Nat} : cutV ns (some (n : Int)) none = ns.drop n := by
  have e : HT.sIx ns.length ns.length none = ns.length := rfl
  have e0 : HT.sIx ns.length 0 (some (n : Int)) = min n ns.length := by
    unfold HT.sIx
    simp only []
    split <;> omega
  unfold cutV
  rw [e, e0]
  by_cases h : n ≤ ns.length
  · rw [Nat.min_eq_left h, List.take_of_length_le (by simp)]
  · rw [Nat.min_eq_right (by omega), List.drop_length, List.drop_eq_nil_of_le (by omega), List.take_nil]
theorem cutV_range {ns : List V} {m n : Nat} : cutV ns (some (m : Int)) (some (n : Int)) = (ns.drop m).take (n - m) := by
  have e : HT.sIx ns.length ns.length (some (n : Int)) = min n ns.length := by
    unfold HT.sIx
    simp only []
    split <;> omega
  have e0 : HT.sIx ns.length 0 (some (m : Int)) = min m ns.length := by
    unfold HT.sIx
    simp only []
    split <;> omega
  unfold cutV
  rw [e, e0]
  by_cases h : m ≤ ns.length
  · rw [Nat.min_eq_left h, List.take_eq_take_iff, List.length_drop]
    omega
  · rw [Nat.min_eq_right (show ns.length ≤ m by omega), List.drop_length, List.drop_eq_nil_of_le (show ns.length ≤ m by omega), List.take_nil, List.take_nil]
theorem rd_nameN {σ σ' : St} {H : Hp} {i : Nat} {v : V} {R : St → Hp → Prop} (e : σ.set i (some v) = σ') (q : R σ' H) : gName i v σ H R := by subst e; exact q
theorem Same.made {H H' : Hp} {x dx C : Addr} {o : HO} (hx : H x = none) (hd : H dx = none) (k : ∀ b u, (upd (upd H dx o) x (.ins C dx [])) b = some u → b ≠ x → H' b = some u) : Same H H' := fun b u e =>
  k b u (by rw [upd_ne (ne_of_none e hx), upd_ne (ne_of_none e hd)]; exact e) (ne_of_none e hx)
end L2
namespace L2
open PySem PySem.Spec PyProof.Rows
def Imm (u : HO) : Prop := (∃ xs, u = .tup xs) ∨ ∃ o w, u = .frz o w
def SameI (H H' : Hp) : Prop := ∀ b u, H b = some u → Imm u → H' b = some u
theorem SameI.refl (H : Hp) : SameI H H := fun _ _ h _ => h
theorem SameI.trans {H H1 H2 : Hp} (a : SameI H H1) (b : SameI H1 H2) : SameI H H2 := fun c u h i => b c u (a c u h i) i
theorem Same.imm {H H' : Hp} (s : Same H H') : SameI H H' := fun b u h _ => s b u h
theorem SameI.upd {H : Hp} {a : Addr} {u o : HO} (h : H a = some u) (n : ¬ Imm u) : SameI H (upd H a o) := fun b v e i => by
  rw [upd_ne (ne_of e h (fun z => n (z ▸ i)))]; exact e
theorem SameI.new {H : Hp} {a : Addr} {o : HO} (h : H a = none) : SameI H (L2.upd H a o) := (Same.new h).imm
theorem SameI.tup {K : PySem.W.Frag} {H H' : Hp} {a : Addr} {xs : List V} (e : SameI H H') (h : SqT K H a xs) : SqT K H' a xs := by
  rcases h with (h | ⟨o, h⟩) | h
  · exact .inl (.inl (e _ _ h (.inl ⟨_, rfl⟩)))
  · exact .inl (.inr ⟨o, e _ _ h (.inr ⟨_, _, rfl⟩)⟩)
  · exact .inr h
theorem notImm_dK {kvs : List (Key × V)} : ¬ Imm (.dK kvs) := by rintro (⟨_, z⟩ | ⟨_, _, z⟩) <;> cases z
def SameND (H H' : Hp) : Prop := ∀ b u, H b = some u → (∀ kvs, u ≠ .dK kvs) → H' b = some u
theorem SameND.refl (H : Hp) : SameND H H := fun _ _ h _ => h
theorem SameND.trans {H H1 H2 : Hp} (a : SameND H H1) (b : SameND H1 H2) : SameND H H2 := fun c u h i => b c u (a c u h i) i
theorem Same.nd {H H' : Hp} (s : Same H H') : SameND H H' := fun b u h _ => s b u h
theorem SameND.imm {H H' : Hp} (s : SameND H H') : SameI H H' := fun b u h i => s b u h (by
  rintro kvs rfl
  exact notImm_dK i)
theorem SameND.seq {K : PySem.W.Frag} {H H' : Hp} {a : Addr} {xs : List V} (e : SameND H H') (h : SqL K H a xs) : SqL K H' a xs := by
  rcases h with (h | ⟨o, h⟩) | h
  · exact .inl (.inl (e _ _ h (by intro _ z; cases z)))
  · exact .inl (.inr ⟨o, e _ _ h (by intro _ z; cases z)⟩)
  · exact .inr h
abbrev Row := Str × Option Int
def rowVs : Row → List V
  | (w, none) => [.str w]
  | (w, some n) => [.str w, .int n]
def rowD : Row → Dt
  | (w, none) => .tup [.str w]
  | (w, some n) => .tup [.str w, .int n]
def RowAt (K : PySem.W.Frag) (H : Hp) (r : Row) (v : V) : Prop := ∃ t, v = .ref t ∧ SqT K H t (rowVs r)
def RowsAt (K : PySem.W.Frag) (H : Hp) (rs : List Row) (xs : List V) : Prop := rs.length = xs.length ∧ ∀ (i : Nat) (r : Row) (x : V), rs[i]? = some r → xs[i]? = some x → RowAt K H r x
theorem RowAt.keep {K : PySem.W.Frag} {H H' : Hp} {r : Row} {v : V} (h : RowAt K H r v) (s : SameI H H') : RowAt K H' r v := let ⟨t, e, q⟩ := h; ⟨t, e, s.tup q⟩
theorem RowsAt.keep {K : PySem.W.Frag} {H H' : Hp} {rs : List Row} {xs : List V} (h : RowsAt K H rs xs) (s : SameI H H') : RowsAt K H' rs xs := ⟨h.1, fun i r x h1 h2 => (h.2 i r x h1 h2).keep s⟩
theorem RowsAt.nil {K : PySem.W.Frag} {H : Hp} : RowsAt K H [] [] := ⟨rfl, fun i r x h => by simp at h⟩
theorem RowsAt.tail {K : PySem.W.Frag} {H : Hp} {r : Row} {rs : List Row} {x : V} {xs : List V} (h : RowsAt K H (r :: rs) (x :: xs)) : RowAt K H r x ∧ RowsAt K H rs xs :=
  ⟨h.2 0 r x rfl rfl, by have := h.1; simpa using this, fun i r' x' h1 h2 => h.2 (i + 1) r' x' (by simpa using h1) (by simpa using h2)⟩
theorem RowsAt.cons {K : PySem.W.Frag} {H : Hp} {r : Row} {rs : List Row} {x : V} {xs : List V} (h1 : RowAt K H r x) (h : RowsAt K H rs xs) : RowsAt K H (r :: rs) (x :: xs) := by
  refine ⟨by simp [h.1], fun i r' x' e1 e2 => ?_⟩
  cases i with
  | zero => cases e1; cases e2; exact h1
  | succ i => exact h.2 i r' x' (by simpa using e1) (by simpa using e2)
theorem RowAt.dv {K : PySem.W.Frag} {H : Hp} {r : Row} {v : V} (h : RowAt K H r v) : DV K H (rowD r) v := by
  obtain ⟨t, rfl, q⟩ := h
  obtain ⟨w, o⟩ := r
  cases o with
  | none => exact dv_tup q (dvs_cons dv_str dvs_nil)
  | some n => exact dv_tup q (dvs_cons dv_str (dvs_cons dv_int dvs_nil))
theorem RowsAt.dvs {K : PySem.W.Frag} {H : Hp} : ∀ {rs : List Row} {xs : List V}, RowsAt K H rs xs → DVs K H (rs.map rowD) xs
  | [], [], _ => dvs_nil
  | r :: rs, x :: xs, h => dvs_cons h.tail.1.dv h.tail.2.dvs
  | [], x :: xs, h => by have := h.1; simp at this
  | r :: rs, [], h => by have := h.1; simp at this
def putFn (f : Int → Int) (i v : Int) : Int → Int := fun j => if j = i then v else f j
def DictF (H : Hp) (d : Addr) (f : Int → Int) (m : Nat) : Prop := ∃ kvs, H d = some (.dK kvs) ∧ kvs.length ≤ m ∧ ∀ i : Int, (valV kvs (Sum.inl i : Key)).getD (.int 0) = .int (f i)
def StoreAt (H : Hp) (d : Addr) (f : Int → Int) (m : Nat) : Prop := ∃ kvs, H d = some (.dK kvs) ∧ kvs.length ≤ m ∧ (kvs.map (·.1)).Nodup ∧ (∀ p ∈ kvs, ∃ i n : Int, p = (Sum.inl i, .int n) ∧ n ≠ 0) ∧ ∀ i : Int, (valV kvs (Sum.inl i : Key)).getD (.int 0) = .int (f i)
theorem valV_drop {κ : Type} [DecidableEq κ] (k j : κ) : ∀ kvs : List (κ × V), valV (dropK kvs k) j = if j = k then none else valV kvs j
  | [] => by
    have : dropK ([] : List (κ × V)) k = [] := rfl
    rw [this, valV_nil]
    split <;> rfl
  | p :: r => by
    have ih := valV_drop k j r
    by_cases e : p.1 = k
    · rw [dropK_pos e, ih]
      by_cases z : j = k
      · rw [if_pos z, if_pos z]
      · rw [if_neg z, if_neg z, valV_neg (fun q => z (q.symm.trans e))]
    · rw [dropK_neg e]
      by_cases q : p.1 = j
      · rw [valV_pos q, valV_pos q, if_neg (fun z => e (q.trans z))]
      · rw [valV_neg q, valV_neg q, ih]
theorem StoreAt.drop {H : Hp} {d : Addr} {kvs : List (Key × V)} {f : Int → Int} {m : Nat} (hl : kvs.length ≤ m) (hn : (kvs.map (·.1)).Nodup) (hz : ∀ p ∈ kvs, ∃ i n : Int, p = (Sum.inl i, .int n) ∧ n ≠ 0) (hf : ∀ i : Int, (valV kvs (Sum.inl i : Key)).getD (.int 0) = .int (f i)) (i : Int) :
    StoreAt (upd H d (.dK (dropK kvs (Sum.inl i)))) d (putFn f i 0) (m + 1) := by
  refine ⟨_, upd_same, Nat.le_trans (dropK_le ..) (Nat.le_trans hl (Nat.le_succ _)), nd_dropK hn, fun p hp => hz p (dropK_mem hp), fun j => ?_⟩
  rw [valV_drop]
  unfold putFn
  by_cases e : j = i
  · subst e
    rw [if_pos rfl, if_pos rfl]
    rfl
  · rw [if_neg (fun z => e (Sum.inl.inj z)), if_neg e]
    exact hf j
theorem StoreAt.same {H H' : Hp} {d : Addr} {f : Int → Int} {m : Nat} (h : StoreAt H d f m) (e : H' d = H d) : StoreAt H' d f m := let ⟨kvs, a, b⟩ := h; ⟨kvs, e.trans a, b⟩
theorem DictF.same {H H' : Hp} {d : Addr} {f : Int → Int} {m : Nat} (h : DictF H d f m) (e : H' d = H d) : DictF H' d f m := let ⟨kvs, a, b⟩ := h; ⟨kvs, e.trans a, b⟩
theorem StoreAt.le {H : Hp} {d : Addr} {f : Int → Int} {m m' : Nat} (h : StoreAt H d f m) (e : m ≤ m') : StoreAt H d f m' := let ⟨kvs, a, b, c⟩ := h; ⟨kvs, a, Nat.le_trans b e, c⟩
theorem DictF.le {H : Hp} {d : Addr} {f : Int → Int} {m m' : Nat} (h : DictF H d f m) (e : m ≤ m') : DictF H d f m' := let ⟨kvs, a, b, c⟩ := h; ⟨kvs, a, Nat.le_trans b e, c⟩
section
variable {σ : St} {H : Hp} {Q : VK} {a : Addr} {kvs : List (Key × V)}
end
end L2
namespace L2
open PySem PySem.Spec PyProof.Rows
section
variable {σ : St} {H : Hp} {K : PySem.W.Frag} {a l : Addr} {xs : List V} {n : Nat} {t : TGs} {Q : St → Hp → Prop} {v : V} {r : List V} {g : TG} {u : TGs}
end
end L2
namespace L2
open PySem PySem.Spec PyProof.Rows
section
variable {σ : St} {H : Hp} {p a : Addr} {K : PySem.W.Frag} {xs : List V}
def compNx (Pv : Nat → Hp → Prop) (i : Nat) (σ : St) : St → Hp → Prop := fun σ2 H2 => Pv i H2 ∧ ∃ v, σ2 = v :: σ
theorem comp_invL {tc : TT} {te : TE} {R : Hp → Prop} (Pv : Nat → Hp → Prop) (h0 : Pv 0 (upd H p (.lst []))) (hl : ∀ i H', Pv i H' → SqL K H' a xs)
    (hs : ∀ (i : Nat) (x : V) (H' : Hp), xs[i]? = some x → Pv i H' → tc (some x :: σ) H' fun b H1 => if b = true then te (some x :: σ) H1 fun y H2 => ∃ ys, H2 p = some (.lst ys) ∧ ys.length < sizeLine ∧ compNx Pv (i + 1) σ (some x :: σ) (upd H2 p (.lst (ys ++ [y]))) else compNx Pv (i + 1) σ (some x :: σ) H1)
    (fin : ∀ H', Pv xs.length H' → R H') : tLoopC 1 (gName 0) tc te (Itl K a) p R σ H := by
  refine ⟨fun i m σ' H' => m = xs.length - i ∧ i ≤ xs.length ∧ Pv i H' ∧ ∃ v, σ' = v :: σ, ⟨xs.length, by omega, Nat.zero_le _, h0, none, rfl⟩, ?_⟩
  rintro i m σ' H' ⟨rfl, hi, hp, v, rfl⟩
  have hs' := hl i H' hp
  by_cases hlt : i < xs.length
  · refine .inr ⟨⟨xs, xs[i], hs', by simp [hlt]⟩, compNx Pv (i + 1) σ, fun σ2 H2 ⟨e, v', e'⟩ => ⟨xs.length - (i + 1), by omega, rfl, hlt, e, v', e'⟩, fun x H1 ⟨e, y⟩ => ?_⟩
    subst e
    have hx := y xs hs'
    refine rd_name ?_
    simp only [List.set_cons_zero]
    exact hs i x _ hx hp
  · have e : i = xs.length := by omega
    subst e
    exact .inl ⟨⟨xs, hs', Nat.le_refl _⟩, fin H' hp⟩
end
theorem RowsAt.ins {K : PySem.W.Frag} {H : Hp} {rs : List Row} {xs : List V} {r : Row} {x : V} (h : RowsAt K H rs xs) (h1 : RowAt K H r x) (k : Nat) : RowsAt K H (rs.take k ++ r :: rs.drop k) (xs.take k ++ x :: xs.drop k) := by
  have ht : RowsAt K H (rs.take k) (xs.take k) := ⟨by simp [h.1], fun i r' x' e1 e2 => by
    rw [List.getElem?_take] at e1 e2
    split at e1
    · rename_i hk
      rw [if_pos hk] at e2
      exact h.2 i r' x' e1 e2
    · cases e1⟩
  have hd : RowsAt K H (r :: rs.drop k) (x :: xs.drop k) := .cons h1 ⟨by simp [h.1], fun i r' x' e1 e2 => by
    rw [List.getElem?_drop] at e1 e2
    exact h.2 _ r' x' e1 e2⟩
  refine ⟨by rw [List.length_append, List.length_append, ht.1, hd.1], fun i r' x' e1 e2 => ?_⟩
  by_cases hi : i < (rs.take k).length
  · rw [List.getElem?_append_left hi] at e1
    rw [List.getElem?_append_left (by rw [← ht.1]; exact hi)] at e2
    exact ht.2 i r' x' e1 e2
  · rw [List.getElem?_append_right (by omega)] at e1
    rw [List.getElem?_append_right (by rw [← ht.1]; omega), ← ht.1] at e2
    exact hd.2 _ r' x' e1 e2
end L2
namespace L2
open PySem PySem.Spec PyProof.Rows PySem.Calls PySem.W
section
variable {Pr : Program} {wo : World} {Ar : Around} {Ex : Value → Shared → Prop} {sh : Shared} {Ty : String} {ro di : Addr} {cnt : Nat} {Pp : Nat → Value → Prop} {Okd : Heap → Prop}
end
section
variable {K : PySem.W.Frag} {H : Hp} {Q : VK} {d : Addr} {ns : List Int}
end
section
variable {K : PySem.W.Frag} {H : Hp} {Q : VK} {t l b : Addr}
end
end L2
namespace L2
open PySem PySem.Builtin PySem.Builtin.Str PySem.StrLaws
def Gap (w : Nat) : List Nat → Prop
  | [] => True
  | [_] => True
  | a :: b :: r => a + w ≤ b ∧ Gap w (b :: r)
theorem Gap.tail {w a : Nat} {r : List Nat} (h : Gap w (a :: r)) : Gap w r := by
  cases r with
  | nil => trivial
  | cons b r => exact h.2
end L2
namespace L2
open PySem PySem.Builtin PySem.Builtin.Str PySem.StrLaws
end L2
namespace L2
open PySem PySem.Spec PyProof.Rows
section
variable {X : Cx} {pins : List (Addr × Obj)} {σ : St} {H : Hp} {s : Shared} {a : Addr} {o : Obj} {kvs : List (Key × V)}
end
end L2
namespace L2
open PySem PySem.Spec PyProof.Rows
section
variable {σ : St} {H : Hp} {Q : VK} {D : Ends} {td : TE} {g : TG} {tc : TT} {te : TE} {tb : TS} {k : Nat} {a : Addr} {o : Obj} {kvs : List (Key × V)} {p : Addr}
theorem DGet.frz {k : Key} (e : H a = some (.frz o (.dK kvs))) : DGet H a (kV k) (valV kvs k) := .inl ⟨kvs, k, .inr ⟨o, e⟩, rfl, rfl⟩
end
section
variable {K : PySem.W.Frag} {σ : St} {H : Hp} {D : Ends} {a C dx : Addr} {fs : List (Str × V)} {f : Str} {i j : Int}
end
end L2
namespace L2
open PySem PySem.Spec PyProof.Rows
end L2
namespace L2
open PySem PySem.Spec PyProof.Rows PySem.Calls
section
variable {H : Hp} {Q : VK} {σ : St}
end
section
variable {H : Hp} {Q : VK} {σ : St} {K : PySem.W.Frag} {p a : Addr} {xs ys : List V}
end
end L2
namespace L2
open PySem PySem.Spec PyProof.Rows PySem.Calls
theorem KV.at {kvs : List (Key × V)} {vs : List (Key × Value)} : KV kvs vs → ∀ {i : Nat} {p : Key × V}, kvs[i]? = some p → ∃ u, vs[i]? = some (p.1, u) ∧ RelV p.2 u := by
  intro h
  unfold KV at h
  induction h with
  | nil => intro i p e; simp at e
  | @cons a b as bs ab _ ih =>
    intro i p e
    cases i with
    | zero =>
      cases e
      refine ⟨b.2, ?_, ab.2⟩
      rw [ab.1]
      rfl
    | succ i => exact ih (by simpa using e)
section
variable {σ : St} {H : Hp} {Q : VK} {D : Ends} {td : TE} {g : TG} {tb : TS} {a : Addr} {o : Obj} {kvs : List (Key × V)}
end
section
variable {σ : St} {H : Hp} {Q : VK}
end
end L2
namespace L2
open PySem PySem.Spec PyProof.Rows PySem.Calls
structure Fly (base h : Heap) (e T : Addr) (cls : Value) : Prop where
  x : ∃ oe vs oT ts, h.get? e = some oe ∧ oe.cls = cls ∧ oe.data = .fields vs ∧ vs[1]? = some (.ref T) ∧ h.get? T = some oT ∧ oT.data = .fields ts ∧ ts[3]? = some .none
  nT : base.get? T = none
  ne : T ≠ e
  dn : ∀ o, h.get? e = some o → o.dict = none
structure Gone (base : Heap) (l : List Env) (e : Addr) (cls : Value) (ch : List Addr) (h h' : Heap) : Prop where
  st : base.StaysIn h'
  fr : h'.FunFrames base l
  fly : ∃ T, Fly base h' e T cls ∧ (T ∈ ch ∨ h.objs.size ≤ T)
  keep : ∀ b o, b ∉ l.filterMap (·.frame) → b ≠ e → b ∉ ch → h.get? b = some o → h'.get? b = some o
  slot : ∀ b o, b ∈ l.filterMap (·.frame) → h.get? b = some o → ∃ sl, h'.get? b = some { o with slots := sl }
theorem dict_mapF {o : Obj} {vs : Array Value} {f : Array Value → Array Value} (d : o.data = .fields vs) : (Obj.mapFields f o).dict = o.dict := by
  obtain ⟨c, dd, dt, sl⟩ := o
  subst d
  rfl
section
variable {M : Model} {A : Around} {E : Value → Shared → Prop} {s : Shared} {base : Heap} {env : Env} {outer : List Env} {L e : Addr} {Q : Unit → Shared → Prop}
theorem entry_gone {oe : Obj} {vs : Array Value} {head : Value} {hadNext : Bool} (fr : A.frames = some (env :: outer)) (fl : s.heap.FunFrames base (env :: outer)) (lf : env.frame = some L)
    (ae : s.heap.get? e = some oe) (sb : base.StaysIn s.heap) (ne : base.get? e = none) (da : oe.data = .fields vs) (dn : oe.dict = none) (sz : 1 < vs.size)
    (go : ∀ h', Gone base (env :: outer) e oe.cls [] s.heap h' → Q () { s with heap := h' }) :
    wpAny M A (do
      let a ← frameOf env
      let pl ← entryPlaceOf L hadNext
      let b ← EntryCells.newEntry head a .none (rawInt L) .none pl
      setField (.ref e) 1 b) (fun _ s' => wpAny M A (setFlight (.ref e) none) Q E s') E s := by
  have nef : e ∉ (env :: outer).filterMap (·.frame) := by
    intro hm
    obtain ⟨_, o, ho, hnf⟩ := fl.mem hm
    rw [ae] at ho
    cases ho
    exact hnf vs da
  refine wpAny_bind (wpAny_frameOf_fun fr fl lf fun h1 so => ?_)
  refine wpAny_bind (wpAny_entryPlaceOf fun pl hpl => ?_)
  unfold EntryCells.newEntry newFields
  refine wpAny_bind (wpAny_newObj_type ?_ (hpl.sizeOk5 _ _ _ _ _))
  have ae1 : h1.get? e = some oe := by rw [so.2.1 e nef]; exact ae
  have sb1 : base.StaysIn h1 := fun b o hb => by
    rw [so.2.1 b fun hm => by rw [(fl.mem hm).1] at hb; cases hb]
    exact sb b o hb
  generalize hTo : ({ cls := .type "traceback", dict := none, data := .fields ([head, .ref L, .none, rawInt L, .none] ++ (if pl.isEmpty then List.replicate 6 Value.none else pl)).toArray } : Obj) = To
  have dTo : To.data = .fields ([head, .ref L, .none, rawInt L, .none] ++ (if pl.isEmpty then List.replicate 6 Value.none else pl)).toArray := by rw [← hTo]
  have ae2 : (h1.push To).get? e = some oe := Heap.get?_push_of_some _ ae1
  have aT2 : (h1.push To).get? h1.objs.size = some To := Heap.get?_push_size _ (by rw [← hTo]; rfl)
  refine wpAny_setField ae2 da sz ?_
  have nTe : h1.objs.size ≠ e := Nat.ne_of_gt (Heap.lt_size ae1)
  have da3 := Obj.data_mapFields da (·.setIfInBounds 1 (Value.ref h1.objs.size))
  have ae3 := Heap.get?_update_self (Obj.mapFields (·.setIfInBounds 1 (Value.ref h1.objs.size))) ae2 (Obj.isFreed_of_fields da3)
  have oth3 : ∀ b, b ≠ e → ((h1.push To).update e (Obj.mapFields (·.setIfInBounds 1 (Value.ref h1.objs.size)))).get? b = (h1.push To).get? b := fun b hb => Heap.get?_update_other _ _ (Ne.symm hb)
  have aT3 := (oth3 _ nTe).trans aT2
  generalize (h1.push To).update e (Obj.mapFields (·.setIfInBounds 1 (Value.ref h1.objs.size))) = h3 at ae3 oth3 aT3 ⊢
  unfold setFlight
  refine wpAny_bind (wpAny_field ae3 da3 (x := .ref h1.objs.size) (by simp [sz]) ?_)
  rw [if_pos (by simp)]
  have sz3 : 3 < ([head, .ref L, .none, rawInt L, .none] ++ (if pl.isEmpty then List.replicate 6 Value.none else pl)).toArray.size := by simp
  refine wpAny_setField aT3 dTo sz3 (go _ ?_)
  have dT4 := Obj.data_mapFields dTo (·.setIfInBounds 3 ((none : Option Addr).elim Value.none fun f => rawInt f))
  have aT4 := Heap.get?_update_self (Obj.mapFields (·.setIfInBounds 3 ((none : Option Addr).elim Value.none fun f => rawInt f))) aT3 (Obj.isFreed_of_fields dT4)
  have oth4 : ∀ b, b ≠ h1.objs.size → (h3.update h1.objs.size (Obj.mapFields (·.setIfInBounds 3 ((none : Option Addr).elim Value.none fun f => rawInt f)))).get? b = h3.get? b := fun b hb => Heap.get?_update_other _ _ (Ne.symm hb)
  generalize h3.update h1.objs.size (Obj.mapFields (·.setIfInBounds 3 ((none : Option Addr).elim Value.none fun f => rawInt f))) = h4 at aT4 oth4 ⊢
  have kp : ∀ b o, b ≠ e → h1.get? b = some o → h4.get? b = some o := fun b o hb ho => by
    rw [oth4 b (Nat.ne_of_lt (Heap.lt_size ho)), oth3 b hb]
    exact Heap.get?_push_of_some _ ho
  have nf : ∀ b o, s.heap.get? b = some o → (∀ vs, o.data ≠ .fields vs) → b ≠ e := fun b o hb hnf z => by
    rw [z, ae] at hb
    cases hb
    exact hnf vs da
  refine ⟨fun b o hb => kp b o (fun z => by rw [z, ne] at hb; cases hb) (sb1 b o hb), fl.of_keeps fun b o hb hnf => ?_, ⟨h1.objs.size, ⟨⟨_, _, _, _, (oth4 e (Ne.symm nTe)).trans ae3, Obj.cls_mapFields _ _, da3, by simp [sz], aT4, dT4, by simp⟩, sb1.fresh, nTe, fun o ho => by rw [(oth4 e (Ne.symm nTe)).trans ae3] at ho; cases ho; exact (dict_mapF da).trans dn⟩, ?_⟩, fun b o h1' h2' _ ho => kp b o h2' (by rw [so.2.1 b h1']; exact ho), fun b o hm ho => ?_⟩
  · obtain ⟨sl, q⟩ := so.2.2 b o hb
    exact ⟨_, kp b _ (nf b o hb hnf) q, rfl⟩
  · exact .inr (Nat.le_of_eq so.1.symm)
  · obtain ⟨sl, q⟩ := so.2.2 b o ho
    exact ⟨sl, kp b _ (fun z => nef (by rw [← z]; exact hm)) q⟩
theorem leave_first {oe : Obj} {vs : Array Value} (fr : A.frames = some (env :: outer)) (fl : s.heap.FunFrames base (env :: outer)) (lf : env.frame = some L)
    (ae : s.heap.get? e = some oe) (sb : base.StaysIn s.heap) (ne : base.get? e = none) (da : oe.data = .fields vs) (dn : oe.dict = none) (v1 : vs[1]? = some .none)
    (go : ∀ h', Gone base (env :: outer) e oe.cls [] s.heap h' → Q () { s with heap := h' }) : wpAny M A (leaving env (.ref e)) Q E s := by
  unfold leaving noteFrame
  simp only [lf]
  refine wpAny_bind (wpAny_bind (wpAny_field ae da v1 ?_))
  rw [if_neg (by decide)]
  exact entry_gone fr fl lf ae sb ne da dn (Array.getElem?_eq_some_iff.mp v1).1 go
theorem note_next {T : Addr} {cls : Value} (fr : A.frames = some (env :: outer)) (fl : s.heap.FunFrames base (env :: outer)) (lf : env.frame = some L)
    (f : Fly base s.heap e T cls) (sb : base.StaysIn s.heap) (ne : base.get? e = none)
    (go : ∀ h', Gone base (env :: outer) e cls [T] s.heap h' → Q () { s with heap := h' }) : wpAny M A (noteFrame (.ref e) env) (fun _ s₂ => wpAny M A (setFlight (.ref e) none) Q E s₂) E s := by
  obtain ⟨oe, vs, oT, ts, ae, ce, da, v1, aT, dT, t3⟩ := f.x
  subst ce
  unfold noteFrame
  simp only [lf]
  refine wpAny_bind (wpAny_field ae da v1 ?_)
  rw [if_pos (by simp)]
  refine wpAny_bind (wpAny_field aT dT t3 ?_)
  rw [if_neg (by simp [rawInt])]
  refine wpAny_bind (wpAny_setField aT dT (Array.getElem?_eq_some_iff.mp t3).1 ?_)
  have oth : ∀ b, b ≠ T → (s.heap.update T (Obj.mapFields (·.setIfInBounds 3 Value.none))).get? b = s.heap.get? b := fun b hb => Heap.get?_update_other _ _ (Ne.symm hb)
  have nT : ∀ b o, s.heap.get? b = some o → (∀ vs, o.data ≠ .fields vs) → b ≠ T := fun b o hb hnf z => by
    rw [z, aT] at hb
    cases hb
    exact hnf ts dT
  have szu : (s.heap.update T (Obj.mapFields (·.setIfInBounds 3 Value.none))).objs.size = s.heap.objs.size := Heap.size_update _ _ _
  have nTf : T ∉ (env :: outer).filterMap (·.frame) := fun hm => by
    obtain ⟨_, o, ho, hnf⟩ := fl.mem hm
    rw [aT] at ho
    cases ho
    exact hnf ts dT
  refine entry_gone (s := { s with heap := s.heap.update T (Obj.mapFields (·.setIfInBounds 3 Value.none)) }) fr (fl.of_keeps fun b o hb hnf => ⟨o, (oth b (nT b o hb hnf)).trans hb, rfl⟩) lf ((oth e (Ne.symm f.ne)).trans ae) (fun b o hb => (oth b fun z => by rw [z, f.nT] at hb; cases hb).trans (sb b o hb)) ne da (f.dn _ ae) (Array.getElem?_eq_some_iff.mp v1).1 fun h' g => go h' ⟨g.st, g.fr, ?_, fun b o h1 h2 h3 ho => g.keep b o h1 h2 (by simp) ((oth b (by simpa using h3)).trans ho), fun b o hm ho => g.slot b o hm ((oth b (fun z => nTf (by rw [← z]; exact hm))).trans ho)⟩
  obtain ⟨T2, f2, l2⟩ := g.fly
  refine ⟨T2, f2, .inr ?_⟩
  rcases l2 with z | z
  · simp at z
  · rw [← szu]; exact z
theorem leave_next {T : Addr} {cls : Value} (fr : A.frames = some (env :: outer)) (fl : s.heap.FunFrames base (env :: outer)) (lf : env.frame = some L)
    (f : Fly base s.heap e T cls) (sb : base.StaysIn s.heap) (ne : base.get? e = none)
    (go : ∀ h', Gone base (env :: outer) e cls [T] s.heap h' → Q () { s with heap := h' }) : wpAny M A (leaving env (.ref e)) Q E s := by
  unfold leaving
  exact wpAny_bind (note_next fr fl lf f sb ne go)
end
def CXE (P : Program) (w : World) (base : Heap) : CXT := fun outer H s E e s' => ∃ (a T C : Addr) (H' : Hp), e = .ref a ∧ Fly base s'.heap a T (.ref C) ∧ base.get? a = none ∧ H' a = none ∧ H' T = none ∧ s.heap.get? a = none ∧ s.heap.get? T = none ∧
  s'.os = s.os ∧ AllBare s'.gens ∧ Un (frs outer) [] H H' s.heap s'.heap ∧ HOk P w H' s'.heap ∧ E e (some C) H'
theorem none_ge {h : Heap} {a : Addr} (l : h.objs.size ≤ a) : h.get? a = none := by
  cases e : h.get? a with
  | none => rfl
  | some o => exact absurd (Nat.lt_of_lt_of_le (Heap.lt_size e) l) (Nat.lt_irrefl _)
theorem Inv.none0 {X : Cx} {pins : List (Addr × Obj)} {σ : St} {H : Hp} {s : Shared} {a : Addr} (I : Inv X pins σ H s) (hex : X.ex = []) (n : s.heap.get? a = none) : X.s₀.heap.get? a = none := by
  cases e : X.s₀.heap.get? a with
  | none => rfl
  | some o =>
    obtain ⟨o', q⟩ := I.base.there a o e (by rw [hex]; simp)
    rw [n] at q
    cases q
theorem ObjOk.is {P : Program} {w : World} {H : Hp} {h : Heap} {a : Addr} {o : HO} (x : ObjOk P w H h a o) : ∃ q, h.get? a = some q := by
  cases o with
  | lst xs => obtain ⟨_, _, _, _, e⟩ := x; exact ⟨_, e⟩
  | tup xs => obtain ⟨_, _, _, p⟩ := x; obtain ⟨_, e, _⟩ := p; exact ⟨_, e⟩
  | dK kvs => obtain ⟨_, _, _, _, o, _, _, e, _⟩ := x; exact ⟨_, e⟩
  | dT kvs => obtain ⟨_, _, _, _, o, _, _, e, _⟩ := x; exact ⟨_, e⟩
  | set S n => obtain ⟨o, _, _, _, e, _⟩ := x; exact ⟨_, e⟩
  | ins C dx fs => obtain ⟨_, _, _, e, _⟩ := x; exact ⟨_, e⟩
  | own y => exact x
  | xd fs => obtain ⟨_, ⟨_, _, _, e, _⟩, _⟩ := x; exact ⟨_, e⟩
  | rng lo hi => obtain ⟨_, _, _, e⟩ := x; exact ⟨_, e⟩
  | frz ob u => exact ⟨_, x.1⟩
  | tbl ps => exact ⟨_, x⟩
  | met f y => exact ⟨_, x⟩
  | ext φ => exact x.2.1
section
variable {X : Cx} {pins : List (Addr × Obj)} {σ : St} {H' : Hp} {s' : Shared} {h' : Heap} {a : Addr} {cls : Value} {ch : List Addr}
theorem gone_out (J : Inv X pins σ H' s') (g : Gone X.base X.stack a cls ch s'.heap h') (hst : X.stack = X.env :: X.outer) (hlf : X.env.frame = some X.env.locals) (hex : X.ex = []) (ha : H' a = none) (hsa : X.s₀.heap.get? a = none) (hch : ∀ b ∈ ch, H' b = none ∧ X.s₀.heap.get? b = none) :
    (∃ T, Fly X.base h' a T cls ∧ H' T = none ∧ X.s₀.heap.get? T = none) ∧ Un (frs X.outer) [] X.H₀ H' X.s₀.heap h' ∧ HOk X.prog X.w H' h' := by
  have B := J.base
  rw [hex] at B
  have old : ∀ b o, X.s₀.heap.get? b = some o → b ≠ X.env.locals ∧ b ≠ a ∧ b ∉ ch := fun b o e => by
    have hb := Heap.lt_size e
    refine ⟨Nat.ne_of_lt (Nat.lt_of_lt_of_le hb J.ok.above), fun z => ?_, fun z => ?_⟩
    · rw [z, hsa] at e; cases e
    · rw [(hch b z).2] at e; cases e
  have fm : ∀ b, b ∈ X.stack.filterMap (·.frame) ↔ b = X.env.locals ∨ b ∈ frs X.outer := fun b => by
    rw [hst, List.filterMap_cons, hlf]
    exact List.mem_cons
  have hfree : ∀ b ∈ X.stack.filterMap (·.frame), H' b = none := fun b hb => J.stkFree b hb
  refine ⟨?_, ⟨fun b o e n hb _ => ?_, fun b o e n hb _ => ?_, fun b o e n hx => B.free b o e n hx, fun b o e _ => ?_, B.tups, B.frzs, B.tbls⟩, fun b u e => ?_⟩
  · obtain ⟨T, f, l⟩ := g.fly
    rcases l with z | z
    · exact ⟨T, f, (hch T z).1, (hch T z).2⟩
    · exact ⟨T, f, J.hok.fresh z, none_ge (Nat.le_trans J.sz z)⟩
  · obtain ⟨n1, n2, n3⟩ := old b o e
    exact g.keep b o (fun z => by rcases (fm b).mp z with z | z; exact n1 z; exact hb z) n2 n3 (B.keep b o e n hb (by simp))
  · obtain ⟨sl, q⟩ := B.slot b o e n hb (by simp)
    obtain ⟨sl2, q2⟩ := g.slot b _ ((fm b).mpr (.inr hb)) q
    exact ⟨sl2, q2⟩
  · obtain ⟨n1, n2, n3⟩ := old b o e
    obtain ⟨o1, q1⟩ := B.there b o e (by simp)
    by_cases z : b ∈ X.stack.filterMap (·.frame)
    · obtain ⟨sl, q⟩ := g.slot b o1 z q1
      exact ⟨_, q⟩
    · exact ⟨o1, g.keep b o1 z n2 n3 q1⟩
  · have nn : ∀ c v, H' c = some v → ∀ q, s'.heap.get? c = some q → h'.get? c = some q := fun c v hc q hq => g.keep c q (fun z => by rw [hfree c z] at hc; cases hc) (fun z => by rw [z, ha] at hc; cases hc) (fun z => by rw [(hch c z).1] at hc; cases hc) hq
    refine (J.hok b u e).stay (fun c v hc q => ?_) (fun _ q => q) fun _ _ q => q
    rcases hc with z | z
    · rw [z] at q ⊢; exact nn b u e v q
    · exact nn c _ z v q
theorem passE {P : Program} {w : World} {K : PySem.W.Frag} {mg : Str → Option Value} {base : Heap} {N : List Str} {qual : Str} {scope : Scope} {f : Addr} {cd : Value} {A : Around} {outer : List Env} {s₀ : Shared} {H₀ : Hp} {E : XK} :
    Passes (CXE P w base) (cxOf (CXE P w base) P w K mg base N qual scope f cd A outer s₀ H₀ E) E := by
  intro pins σ H s e s' I h
  obtain ⟨a, T, C, H', rfl, fly, nb, ha, hT, la, lT, os, bare, un, hok, q⟩ := h
  obtain ⟨hh, g, d, t, os'⟩ := s'
  obtain rfl : os' = s.os := os
  have J := I.call (h' := hh) (g' := g) (d' := d) (t' := t) (ch := []) un hok bare (fun b z => absurd z (by simp))
  refine leave_next (base := base) (L := (envOfC qual scope s₀.heap.objs.size f cd).locals) J.ok.frames J.stack rfl fly J.bk nb fun h' gn => ?_
  obtain ⟨⟨T2, f2, hT2, l2⟩, U, O⟩ := gone_out J gn rfl rfl rfl ha (I.none0 rfl la) (fun b hb => by rw [List.mem_singleton.mp hb]; exact ⟨hT, I.none0 rfl lT⟩)
  exact ⟨a, T2, C, H', rfl, f2, nb, ha, hT2, I.none0 rfl la, l2, J.os, J.bare, U, O, q⟩
end
def RaiseOk (X : Cx) (C : Addr) (EX : Hp → Prop) : Prop := ∀ (pins : List (Addr × Obj)) (σ : St) (H : Hp) (s : Shared) (e : Addr) (h' : Heap) (vs : List Value), Inv X pins σ H s → Heap.MadeExcOf s.heap h' e (.ref C) vs → EX H → X.xe (.ref e) { s with heap := h' }
theorem raise_ok {P : Program} {w : World} {K : PySem.W.Frag} {mg : Str → Option Value} {base : Heap} {N : List Str} {qual : Str} {scope : Scope} {f C : Addr} {cd : Value} {A : Around} {outer : List Env} {s₀ : Shared} {H₀ : Hp} {E : XK} :
    RaiseOk (cxOf (CXE P w base) P w K mg base N qual scope f cd A outer s₀ H₀ E) C (fun H => ∀ a, E (.ref a) (some C) H) := by
  intro pins σ H s e h' vs I mk q
  obtain ⟨t, ae, nt, at'⟩ := mk.there
  have J : Inv (cxOf (CXE P w base) P w K mg base N qual scope f cd A outer s₀ H₀ E) pins σ H { s with heap := h', toks := s.toks } := I.kept (t' := s.toks) mk.keeps
  have ha : H e = none := by
    cases z : H e with
    | none => rfl
    | some o =>
      obtain ⟨q, hq⟩ := (I.hok e o z).is
      rw [mk.new] at hq
      cases hq
  have nb : base.get? e = none := by
    cases z : base.get? e with
    | none => rfl
    | some o =>
      have := I.bk e o z
      rw [mk.new] at this
      cases this
  refine leave_first (s := { s with heap := h' }) (base := base) (L := (envOfC qual scope s₀.heap.objs.size f cd).locals) J.ok.frames J.stack rfl ae J.bk nb rfl rfl rfl fun h2 gn => ?_
  obtain ⟨⟨T2, f2, hT2, l2⟩, U, O⟩ := gone_out J gn rfl rfl rfl ha (I.none0 rfl mk.new) (fun b hb => by simp at hb)
  exact ⟨e, T2, C, H, rfl, f2, nb, ha, hT2, I.none0 rfl mk.new, l2, J.os, J.bare, U, O, q e⟩
theorem ps_raise {X : Cx} {x : Str} {C : Addr} {bm : List Value} {B newId initId : String} {np cpos pos : Pos} {e₀ : Expr} {rest : List Expr} {t : TA} {EX : Hp → Prop} (O : OwnCls x C bm newId X.mg X.base) (FB : ExcBaseFacts B newId initId bm) (hc : X.calm = true) (hg : Gl X x) (ok : RaiseOk X C EX) (ha : PA X (e₀ :: rest) t)
    (he : starEach (e₀ :: rest) X.env = (false, eval e₀ X.env) :: starEach rest X.env := by rfl) (hpl : (backTo cpos (starEach rest X.env)).any (·.1) = false := by rfl) (hd : (x == ("__debug__" : Str)) = false := by decide) :
    PS X (.Raise (some (.Call (.Name x np) (e₀ :: rest) [] cpos)) none pos) (fun _ σ H => t σ H fun vs H1 => vs.length ≤ sizeLine ∧ EX H1) := by
  intro pins s σ H D I h
  obtain ⟨tl, N, nm, q, bs, hdct, sn, sub, ab, col, dd, k0, k1, k2, k3, k5, mN, hC, hN, hni, T⟩ := O.obj
  refine wpAny_Raise_call_subT (C := C) (nm := nm) (q := q) (N := N) (bs := bs) (bm := tl) (hdct := hdct) (sn := sn) (sub := sub) (ab := ab) (col := col) (dd := dd) (k0 := k0) (k1 := k1) (k2 := k2) (k3 := k3) (k5 := k5) FB (mN := mN) (T.hasType FB.hasBase) (I.ok.hd hc) (by rw [he]; exact hpl) hni (ld_glob I hg O.bound ⟨rfl, ?_⟩ hd)
  rw [he]
  have hh := ha cpos pins s σ H _ I h
  rw [he] at hh
  refine Calls.evalArgs_plain (wpAny_mono hh (fun us s1 z => ?_) fun _ _ y => y)
  obtain ⟨ys, H1, I1, r, q⟩ := z
  have kb : ∀ b o, X.base.get? b = some o → s1.heap.get? b = some o := I1.bk
  exact ⟨rfl, by rw [← r.length]; exact q.1, kb _ _ hC, hN.keeps kb, T.keeps kb, fun h' e mk => ok pins σ H1 s1 e h' us I1 mk q.2⟩
end L2
namespace L2
open PySem PySem.Spec PyProof.Rows PySem.Calls
def CalE (P : Program) (w : World) (K : PySem.W.Frag) (mg : Str → Option Value) (base : Heap) (k : Nat) (x : Str) (sp : Sp) : Prop :=
  ∃ f, mg x = some (.ref f) ∧ ∃ fd ps, FnOk P w K mg base (CXE P w base) k f fd ps sp ∧ PySem.W.keepIn K (.ref f) = true ∧ Binds K fd ps []
theorem CalE.mono {P : Program} {w : World} {K : PySem.W.Frag} {mg : Str → Option Value} {base : Heap} {j k : Nat} {x : Str} {sp : Sp} (c : CalE P w K mg base j x sp) (h : j ≤ k) : CalE P w K mg base k x sp :=
  let ⟨f, m, fd, ps, F, kp, b⟩ := c
  ⟨f, m, fd, ps, F.mono h, kp, b⟩
theorem cal_ofE {P : Program} {w : World} {K : PySem.W.Frag} {mg : Str → Option Value} {base : Heap} {x : Str} {st : Stmt} {N ps : List Str} {k : Nat} {sp : Sp} (D : DefAt K mg x st) (S : FnScope N ps (defScope st)) (len : ∀ vs H Q E, sp vs H Q E → vs.length = ps.length)
    (hb : ∀ (kV doc pm : Value) (an : Option Addr) (cdv ct : Value) (us : List Value), us.length = ps.length → bindArgs (PySem.W.fnOf x x (defArgs st) (defBody st) (defScope st) .none kV doc pm an cdv ct) ⟨us, []⟩ = pure (ps.zip us))
    (hbody : ∀ (f : Addr) (cdv : Value) (A : Around) (outer : List Env) (s : Shared) (H : Hp) (vs : List V) (Q : VK) (E : XK), Room k (A.deeper (envOfC x (defScope st) s.heap.objs.size f cdv)) → sp vs H Q E →
      ∃ t, PSs (cxOf (CXE P w base) P w K mg base N x (defScope st) f cdv A outer s H E) (defBody st) t ∧ t { nx := fun _ H' => Q .non H', rt := Q } (start N vs) H) : CalE P w K mg base (k + 1) x sp := by
  obtain ⟨f, fd, F, m⟩ := D
  have b := F.binds hb
  have kp := F.kp
  obtain ⟨oc, od, kV, doc, pm, an, cdv, ct, osl, rfl, lk, hcd⟩ := F.ex
  exact ⟨f, m, _, ps, fn_of lk hcd S len fun A outer s H vs Q E hr hsp => hbody f cdv A outer s H vs Q E hr hsp, kp, b⟩
theorem gone_un {P : Program} {w : World} {base : Heap} {l : List Env} {H H' : Hp} {h hh h' : Heap} {a : Addr} {cls : Value} {ch : List Addr} (un : Un (frs l) [] H H' h hh) (hok : HOk P w H' hh) (fr : ∀ b ∈ frs l, H' b = none) (g : Gone base l a cls ch hh h') (ha : H' a = none) (hsa : h.get? a = none)
    (hch : ∀ b ∈ ch, H' b = none ∧ h.get? b = none) : Un (frs l) [] H H' h h' ∧ HOk P w H' h' := by
  have old : ∀ b o, h.get? b = some o → b ≠ a ∧ b ∉ ch := fun b o e => by
    refine ⟨fun z => ?_, fun z => ?_⟩
    · rw [z, hsa] at e; cases e
    · rw [(hch b z).2] at e; cases e
  refine ⟨⟨fun b o e n hb _ => ?_, fun b o e n hb _ => ?_, fun b o e n hx => un.free b o e n hx, fun b o e _ => ?_, un.tups, un.frzs, un.tbls⟩, fun b u e => ?_⟩
  · obtain ⟨n2, n3⟩ := old b o e
    exact g.keep b o hb n2 n3 (un.keep b o e n hb (by simp))
  · obtain ⟨sl, q⟩ := un.slot b o e n hb (by simp)
    obtain ⟨sl2, q2⟩ := g.slot b _ hb q
    exact ⟨sl2, q2⟩
  · obtain ⟨n2, n3⟩ := old b o e
    obtain ⟨o1, q1⟩ := un.there b o e (by simp)
    by_cases z : b ∈ frs l
    · obtain ⟨sl, q⟩ := g.slot b o1 z q1
      exact ⟨_, q⟩
    · exact ⟨o1, g.keep b o1 z n2 n3 q1⟩
  · have nn : ∀ c v, H' c = some v → ∀ q, hh.get? c = some q → h'.get? c = some q := fun c v hc q hq => g.keep c q (fun z => by rw [fr c z] at hc; cases hc) (fun z => by rw [z, ha] at hc; cases hc) (fun z => by rw [(hch c z).1] at hc; cases hc) hq
    refine (hok b u e).stay (fun c v hc q => ?_) (fun _ q => q) fun _ _ q => q
    rcases hc with z | z
    · rw [z] at q ⊢; exact nn b u e v q
    · exact nn c _ z v q
def Caught (X : Cx) (pins : List (Addr × Obj)) (σ : St) (E : XK) (e : Value) (s : Shared) : Prop := ∃ a T C H, e = .ref a ∧ Inv X pins σ H s ∧ Fly X.base s.heap a T (.ref C) ∧ E e (some C) H ∧ H a = none
def cxTry (X : Cx) (pins : List (Addr × Obj)) (σ : St) (E : XK) : Cx :=
  { X with pn := X.pn ++ pins, xe := fun e s' => wpAny (model X.prog X.w) X.A (noteFrame e X.env) (fun _ s₂ => wpAny (model X.prog X.w) X.A (setFlight e none) (fun _ s₃ => Caught X pins σ E e s₃) (fun _ _ => False) s₂) (fun _ _ => False) s' }
section
variable {X : Cx} {pins pins' : List (Addr × Obj)} {σ σ' : St} {H : Hp} {s : Shared} {E : XK}
theorem Inv.toTry (I : Inv X pins σ' H s) : Inv (cxTry X pins σ E) [] σ' H s :=
  ⟨⟨I.ok.mod, I.ok.kind, I.ok.glob, I.ok.blt, I.ok.above, I.ok.inj, I.ok.has, I.ok.cab, I.ok.hd, I.ok.frames, I.ok.stk, I.ok.exf, I.ok.bs, I.ok.bsz, I.ok.noex, I.ok.exfs, I.ok.funs, I.ok.frf⟩, I.os, I.bare, I.base, I.loc, I.cell, I.free, I.freeC, fun p hp => I.pin p (by simpa [cxTry] using hp), I.hok, I.len⟩
theorem Inv.ofTry (I : Inv (cxTry X pins σ E) pins' σ' H s) : Inv X pins σ' H s :=
  ⟨⟨I.ok.mod, I.ok.kind, I.ok.glob, I.ok.blt, I.ok.above, I.ok.inj, I.ok.has, I.ok.cab, I.ok.hd, I.ok.frames, I.ok.stk, I.ok.exf, I.ok.bs, I.ok.bsz, I.ok.noex, I.ok.exfs, I.ok.funs, I.ok.frf⟩, I.os, I.bare, I.base, I.loc, I.cell, I.free, I.freeC, fun p hp => I.pin p (List.mem_append_left _ hp), I.hok, I.len⟩
def cxHand (X : Cx) (e : Value) : Cx := { X with A := X.A.mark (some e), calm := false, xe := fun _ _ => False }
theorem Inv.toHand {e : Value} (I : Inv X pins σ H s) : Inv (cxHand X e) pins σ H s :=
  ⟨⟨I.ok.mod, I.ok.kind, I.ok.glob, I.ok.blt, I.ok.above, I.ok.inj, I.ok.has, I.ok.cab, fun z => absurd z Bool.false_ne_true, I.ok.frames, I.ok.stk, I.ok.exf, I.ok.bs, I.ok.bsz, I.ok.noex, I.ok.exfs, I.ok.funs, I.ok.frf⟩, I.os, I.bare, I.base, I.loc, I.cell, I.free, I.freeC, I.pin, I.hok, I.len⟩
theorem Inv.ofHand {e : Value} (ok : X.Ok) (I : Inv (cxHand X e) pins σ H s) : Inv X pins σ H s :=
  ⟨ok, I.os, I.bare, I.base, I.loc, I.cell, I.free, I.freeC, I.pin, I.hok, I.len⟩

theorem SP.ofTry {D : Ends} {f : Flow} {s' : Shared} (h : SP (cxTry X pins σ E) pins' D f s') : SP X pins D f s' := by
  cases f with
  | next => obtain ⟨σ', H', I, q⟩ := h; exact ⟨σ', H', I.ofTry, q⟩
  | brk => obtain ⟨σ', H', I, q⟩ := h; exact ⟨σ', H', I.ofTry, q⟩
  | cont => obtain ⟨σ', H', I, q⟩ := h; exact ⟨σ', H', I.ofTry, q⟩
  | ret u => obtain ⟨v, σ', H', I, r, q⟩ := h; exact ⟨v, σ', H', I.ofTry, r, q⟩
theorem SP.ofHand {e : Value} {D : Ends} {f : Flow} {s' : Shared} (ok : X.Ok) (h : SP (cxHand X e) pins D f s') : SP X pins D f s' := by
  cases f with
  | next => obtain ⟨σ', H', I, q⟩ := h; exact ⟨σ', H', I.ofHand ok, q⟩
  | brk => obtain ⟨σ', H', I, q⟩ := h; exact ⟨σ', H', I.ofHand ok, q⟩
  | cont => obtain ⟨σ', H', I, q⟩ := h; exact ⟨σ', H', I.ofHand ok, q⟩
  | ret u => obtain ⟨v, σ', H', I, r, q⟩ := h; exact ⟨v, σ', H', I.ofHand ok, r, q⟩
end
section
variable {X : Cx} {pins pins' : List (Addr × Obj)} {σ : St} {H : Hp} {s s' : Shared} {E : XK} {e : Value}
theorem passT (hst : X.stack = X.env :: X.outer) (hlf : X.env.frame = some X.env.locals) (I : Inv (cxTry X pins σ E) pins' σ H s) (h : CXE X.prog X.w X.base X.stack H s E e s') : (cxTry X pins σ E).xe e s' := by
  have I0 := I.ofTry
  obtain ⟨a, T, C, H', rfl, fly, nb, ha, hT, la, lT, os, bare, un, hok, q⟩ := h
  obtain ⟨hh, g, d, t, os'⟩ := s'
  obtain rfl : os' = s.os := os
  have J := I0.call (h' := hh) (g' := g) (d' := d) (t' := t) (ch := []) un hok bare (fun b z => absurd z (by simp))
  have fr := J.ok.frames
  have st := J.stack
  rw [hst] at fr st
  refine note_next (base := X.base) (L := X.env.locals) fr st hlf fly J.bk nb fun h' gn => ?_
  rw [← hst] at gn
  obtain ⟨U, O⟩ := gone_un un hok (fun b hb => J.stkFree b hb) gn ha la (fun b hb => by rw [List.mem_singleton.mp hb]; exact ⟨hT, lT⟩)
  obtain ⟨T2, f2, l2⟩ := gn.fly
  exact ⟨a, T2, C, H', rfl, Inv.call (s := s) (h' := h') (g' := g) (d' := d) (t' := t) (ch := []) I0 U O bare (fun b z => absurd z (by simp)), f2, q, ha⟩
end
def tAt (σ₀ : St) (t : TE) : TE := fun σ H Q => σ = σ₀ ∧ t σ H Q
theorem pe_calT {X : Cx} {pins : List (Addr × Obj)} {σ : St} {E : XK} {k : Nat} {x : Str} {sp : Sp} {p pos : Pos} {e : Expr} {es : List Expr} {t : TA} (hst : X.stack = X.env :: X.outer) (hlf : X.env.frame = some X.env.locals) (c : CalE X.prog X.w X.K X.mg X.base k x sp) (hr : Room k X.A) (hg : Gl X x)
    (ha : PA (cxTry X pins σ E) (e :: es) t) (hdb : (x == ("__debug__" : Str)) = false := by decide)
    (he : starEach (e :: es) X.env = (false, eval e X.env) :: starEach es X.env := by rfl) (hpl : (backTo pos (starEach es X.env)).any (·.1) = false := by rfl) :
    PE (cxTry X pins σ E) (.Call (.Name x p) (e :: es) [] pos) (tAt σ (tCall sp [] E t)) := by
  intro pins' s σ' H Q I h
  obtain ⟨es', h⟩ := h
  subst es'
  obtain ⟨f, m, fd, ps, F, kp, b⟩ := c
  refine wpAny_Call_Name_kw (ld_glob I hg m ?_ hdb)
  refine PySem.W.callWith_K (h₀ := X.base) I.ok.mod.kin kp (thn (ha pos pins' s _ H _ I h) fun us s1 ⟨vs, H1, I1, r, q⟩ => ⟨I1.kIn, ?_⟩) he hpl
  have q : sp (vs ++ []) H1 Q E := q
  rw [List.append_nil] at q
  have hl : us.length = ps.length := by rw [← r.length]; exact F.len _ _ _ _ q
  have bb := b s1 us I1.kIn (by rw [List.append_nil]; exact hl)
  rw [List.append_nil] at bb
  refine wpAny_call (codeAny_mono (F.run X.A X.stack s1 H1 ⟨us, []⟩ us vs Q E hr I1.env0 bb r q) fun r s' hq => ?_)
  cases r with
  | error e => exact passT hst hlf I1 hq
  | ok fl =>
    cases fl with
    | ret u => exact I1.after hq
    | next => exact False.elim hq
    | brk => exact False.elim hq
    | cont => exact False.elim hq
theorem same_fields {o : Obj} {ts : Array Value} {i : Nat} {v : Value} (d : o.data = .fields ts) (h : ts[i]? = some v) : Obj.mapFields (·.setIfInBounds i v) o = o := by
  obtain ⟨hi, e⟩ := Array.getElem?_eq_some_iff.mp h
  have : ts.setIfInBounds i v = ts := by
    apply Array.ext (by simp)
    intro j h1 h2
    rw [Array.getElem_setIfInBounds]
    split
    · rename_i z; subst z; exact e.symm
    · rfl
  obtain ⟨c, dd, dt, sl⟩ := o
  subst d
  show Obj.mk c dd (.fields (ts.setIfInBounds i v)) sl = _
  rw [this]
def tTry (C : Addr) (tb : St → XK → TS) (th : TS) : TS := fun D σ H => tb σ (fun _ c H' => c = some C ∧ th D σ H') D σ H
theorem ps_try {X : Cx} {x : Str} {C : Addr} {bm : List Value} {newId : String} {np hp pos : Pos} {body suite : List Stmt} {b₀ : Stmt} {tb : St → XK → TS} {th : TS} (O : OwnCls x C bm newId X.mg X.base) (hg : Gl X x) (hbase : bm.contains (.type "BaseException") = true)
    (hb : ∀ pins σ E, PSs (cxTry X pins σ E) body (tb σ E)) (hs : ∀ e, PSs (cxHand X e) (b₀ :: suite) th) (hd : (x == ("__debug__" : Str)) = false := by decide) :
    PS X (.Try body [.ExceptHandler (some (.Name x np)) none (b₀ :: suite) hp] [] [] pos) (tTry C tb th) := by
  intro pins s σ H D I h
  refine wpAny_Try_except (wpAny_mono (hb pins σ _ [] s σ H D I.toTry h) (fun f s1 q => ?_) fun e s1 q => ?_)
  · have q := q.ofTry
    cases f with
    | next => exact wpAny_execs_nil q
    | brk => exact q
    | cont => exact q
    | ret u => exact q
  · refine wpAny_mono q (fun _ s2 q2 => wpAny_mono q2 (fun _ s3 q3 => ?_) fun _ _ z => z.elim) fun _ _ z => z.elim
    obtain ⟨a, T, C', H', rfl, J, fly, ⟨eC, q4⟩, _⟩ := q3
    obtain rfl : C' = C := Option.some.inj eC
    refine wpAny_handleBy_cons (codeAny_handlers_test (ld_glob (X := cxHand X (.ref a)) J.toHand hg O.bound ?_ hd)) (by intro q; cases q)
    obtain ⟨tl, N, nm, q, bs, hdct, sn, sub, ab, col, dd, k0, k1, k2, k3, k5, mN, hC, hN, hni, tail⟩ := O.obj
    obtain ⟨oe, vs, oT, ts, ae, ce, da, v1, aT, dT, t3⟩ := fly.x
    have hC3 := J.bk _ _ hC
    obtain ⟨hh, g, d, tk, os⟩ := s3
    refine wpAny_excMatches_sub_self hC3 ae ce (tail.hasType hbase) ?_
    refine codeAny_handlers_suite (wpAny_setFlight_none ae da v1 aT dT (Array.getElem?_eq_some_iff.mp t3).1 ?_)
    have J2 := J.kept (t' := tk) (h' := hh.update T (Obj.mapFields (·.setIfInBounds 3 .none))) fun b u hb => by
      by_cases z : b = T
      · subst z
        have ez : oT = u := Option.some.inj (aT.symm.trans hb)
        subst ez
        have e1 := Heap.get?_update_self (Obj.mapFields (·.setIfInBounds 3 Value.none)) aT (Obj.isFreed_of_fields (Obj.data_mapFields dT _))
        rw [e1, same_fields dT t3]
      · rw [Heap.get?_update_other _ _ (Ne.symm z)]
        exact hb
    exact wpAny_mono (hs (.ref a) pins _ σ H' D J2.toHand q4) (fun f s q => q.ofHand J.ok) fun _ _ z => z.elim
end L2
namespace L2
open PySem PySem.Spec PyProof.Rows PySem.Calls
end L2
namespace L2
open PySem PySem.Spec PyProof.Rows PySem.Calls
section
variable {prog : Program} {w : World} {A : Around} {E : Value → Shared → Prop} {s : Shared} {r : Addr}
end
abbrev Exc (x : Str) (C : Addr) (mg : Str → Option Value) (base : Heap) : Prop := OwnCls x C [.type "ValueError", .type "Exception", .type "BaseException", .type "object"] "ValueError.__new__" mg base
theorem rd_try {C : Addr} {tb : St → XK → TS} {th : TS} {D : Ends} {σ : St} {H : Hp} (q : tb σ (fun _ c H' => c = some C ∧ th D σ H') D σ H) : tTry C tb th D σ H := q
theorem rd_at {σ : St} {H : Hp} {t : TE} {Q : VK} (q : t σ H Q) : tAt σ t σ H Q := ⟨rfl, q⟩
theorem pe_calE {X : Cx} {E : XK} {k : Nat} {x : Str} {sp : Sp} {p pos : Pos} {e : Expr} {es : List Expr} {t : TA} (c : CalE X.prog X.w X.K X.mg X.base k x sp) (hr : Room k X.A) (hg : Gl X x) (hx : Passes (CXE X.prog X.w X.base) X E) (ha : PA X (e :: es) t) (hdb : (x == ("__debug__" : Str)) = false := by decide)
    (he : starEach (e :: es) X.env = (false, eval e X.env) :: starEach es X.env := by rfl) (hpl : (backTo pos (starEach es X.env)).any (·.1) = false := by rfl) :
    PE X (.Call (.Name x p) (e :: es) [] pos) (tCall sp [] E t) := by
  obtain ⟨f, m, fd, ps, F, kp, b⟩ := c
  exact pe_call F hr hg m kp b .nil hx ha hdb he hpl
end L2
namespace L2
open PySem PySem.Spec PySem.Calls PyProof.Rows
theorem own_ofN {K : PySem.W.Frag} {b : Heap} {mg : Str → Option Value} {x : Str} {C : Addr} {bt : List Value} {nw : String} (X : K.In b) (G : b.Ns mainGlobals mg) (e : PySem.W.nsIn K mainGlobals x = some (some (.ref C))) (q : PySem.W.excIn K C bt nw = true) : OwnCls x C bt nw mg b := by
  have bd := PySem.W.mg_of X G e
  unfold PySem.W.excIn at q
  split at q
  · rename_i dd cd sl look
    split at q
    · rename_i C2 tl s0 s1 s2 s3 nid s5 emro esl
      rw [Bool.and_eq_true, Bool.and_eq_true, Bool.and_eq_true, Bool.and_eq_true, Bool.and_eq_true] at q
      obtain ⟨⟨⟨⟨⟨q1, q2⟩, q3⟩, q4⟩, q5⟩, q6⟩ := q
      have r1 : C2 = C := beq_iff_eq.mp q1
      have r2 : nid = nw := beq_iff_eq.mp q2
      have r6 := beq_iff_eq.mp q6
      subst r1 r2
      cases cd with
      | mk f1 f2 f3 f4 f5 f6 f7 f8 f9 f10 f11 =>
        dsimp only at emro q3 q5 r6
        subst emro
        have r3 : f11 = false := by cases f11 with | false => rfl | true => cases q3
        subst r3
        have es : sl = #[s0, s1, s2, s3, some (.builtin nid), s5] := by
          cases sl with
          | mk lst =>
            dsimp only at esl
            rw [esl]
        subst es
        exact { bound := bd, obj := ⟨tl, f4, f1, f5, f2, f6, f7, f8, f9, f10, dd, s0, s1, s2, s3, s5, _, X _ _ look, .of_isNs (PySem.W.isNs_of_in X q5), PySem.W.nsMap_none_of_in X q5 r6, PySem.W.tail_of_in X q4⟩ }
    · exact Bool.noConfusion q
  · exact Bool.noConfusion q
end L2
namespace L2
open PySem PySem.Spec PySem.Calls PyProof.Rows
section
variable {X : Cx} {pins : List (Addr × Obj)} {σ : St} {H : Hp} {s : Shared}
theorem goes_ok {M : Model} {A : Around} {E : Value → Shared → Prop} {i : Nat} {x : Str} {pos : Pos} {Q : Unit → Shared → Prop} (I : Inv X pins σ H s) (hN : X.N.Nodup) (hi : X.N[i]? = some x) (hk : X.env.scope.names.lookup x = some .local)
    (h : ∀ s', Inv X pins (σ.set i none) H s' → Q () s') : wpAny M A (do bindName X.env x .none; unbindBehindTheSuite X.env x pos) Q E s := by
  obtain ⟨m, hn, hl⟩ := id I.loc
  have hcls : (X.env.scope.kind == .class || (X.env.scope.kind == .module && X.env.locals != X.env.globals)) = false := by rw [I.ok.kind]; rfl
  have hiσ : i < σ.length := by rw [I.len]; exact (List.getElem?_eq_some_iff.mp hi).1
  have cne := I.cne
  refine wpAny_nameGoes_keeps hk hn hcls fun h' v hn' hs => ?_
  obtain ⟨oL, _, _, hoL, _⟩ := id hn
  have lt : ∀ b o, X.s₀.heap.get? b = some o → b ≠ X.env.locals := fun b o e => Nat.ne_of_lt (Nat.lt_of_lt_of_le (Heap.lt_size e) I.ok.above)
  refine h _ ⟨I.ok, I.os, I.bare, ⟨fun b o e n hb hx => (hs.2 b (lt b o e)).trans (I.base.keep b o e n hb hx), fun b o e n hb hx => ?_, I.base.free, fun b o e hx => ?_, I.base.tups, I.base.frzs, I.base.tbls⟩, ⟨_, hn', fun j y v' e1 e2 e3 => ?_⟩, fun y c e => ?_, I.free, I.freeC, fun p hp => ?_, fun b ob e => ?_, by simpa using I.len⟩
  · obtain ⟨sl, e1⟩ := I.base.slot b o e n hb hx
    exact ⟨sl, (hs.2 b (lt b o e)).trans e1⟩
  · obtain ⟨o', e1⟩ := I.base.there b o e hx
    exact ⟨o', (hs.2 b (lt b o e)).trans e1⟩
  · by_cases hj : j = i
    · subst hj
      rw [List.getElem?_set_self hiσ] at e2
      cases e2
    · rw [List.getElem?_set_ne (Ne.symm hj)] at e2
      obtain ⟨u', r', q⟩ := hl j y v' e1 e2 e3
      refine ⟨u', r', ?_⟩
      rcases q with ⟨k, e⟩ | ⟨k, c, e, z⟩
      · have ny : y ≠ x := fun e => hj (nodup_ix hN e1 (e ▸ hi))
        exact .inl ⟨k, by simp [ny, e]⟩
      · exact .inr ⟨k, c, e, z.sameBut hs (cne y c e)⟩
  · obtain ⟨w', z⟩ := I.cell y c e
    exact ⟨w', z.sameBut hs (cne y c e)⟩
  · obtain ⟨e, n, ne, nf, d⟩ := I.pin p hp
    exact ⟨(hs.2 p.1 ne).trans e, n, ne, nf, d⟩
  · refine (I.hok b ob e).stay (fun c w' hc q => (hs.2 c ?_).trans q) (fun _ q => q) fun _ _ q => q
    rintro rfl
    rcases hc with rfl | hc
    · rw [I.free] at e; cases e
    · rw [I.free] at hc; cases hc
structure ExcIs (oe : Obj) (C : Addr) : Prop where
  cls : oe.cls = .ref C
  dict : oe.dict = none
  data : ∃ vs, oe.data = .fields vs
def cxAs (X : Cx) (a : Addr) (oe : Obj) : Cx := { X with A := X.A.mark (some (.ref a)), calm := false, xe := fun _ _ => False, pn := X.pn ++ [(a, oe)] }
theorem Inv.toAs {a : Addr} {oe : Obj} (I : Inv X pins σ H s) (ho : s.heap.get? a = some oe) (hH : H a = none) (hl : a ≠ X.env.locals) (hf : a ∉ X.fs) (hd : ∀ v, oe.data ≠ .cell v) : Inv (cxAs X a oe) pins σ H s :=
  ⟨⟨I.ok.mod, I.ok.kind, I.ok.glob, I.ok.blt, I.ok.above, I.ok.inj, I.ok.has, I.ok.cab, fun z => absurd z Bool.false_ne_true, I.ok.frames, I.ok.stk, I.ok.exf, I.ok.bs, I.ok.bsz, I.ok.noex, I.ok.exfs, I.ok.funs, I.ok.frf⟩, I.os, I.bare, I.base, I.loc, I.cell, I.free, I.freeC, fun p hp => by
    have hp : p ∈ (X.pn ++ [(a, oe)]) ++ pins := hp
    rw [List.append_assoc, List.mem_append, List.mem_append] at hp
    rcases hp with z | z | z
    · exact I.pin p (List.mem_append_left _ z)
    · rw [List.mem_singleton.mp z]; exact ⟨ho, hH, hl, hf, hd⟩
    · exact I.pin p (List.mem_append_right _ z), I.hok, I.len⟩
theorem Inv.ofAs {a : Addr} {oe : Obj} (ok : X.Ok) (I : Inv (cxAs X a oe) pins σ H s) : Inv X pins σ H s :=
  ⟨ok, I.os, I.bare, I.base, I.loc, I.cell, I.free, I.freeC, fun p hp => I.pin p (by
    show p ∈ (X.pn ++ [(a, oe)]) ++ pins
    rcases List.mem_append.mp hp with z | z
    · exact List.mem_append_left _ (List.mem_append_left _ z)
    · exact List.mem_append_right _ z), I.hok, I.len⟩
end
structure ExcK (K : PySem.W.Frag) (C : Addr) : Prop where
  ga : PySem.W.findIn K (.ref C) "__getattribute__" = some (some (.builtin "BaseException.__getattribute__"))
  gt : PySem.W.findIn K (.ref C) "__getattr__" = some none
  cl : PySem.W.findIn K (.ref C) "__class__" = some (some (.builtin "object.__class__"))
  sp : PySem.W.specialIn K (.builtin "object.__class__") "__get__" = some (some (.builtin "getset_descriptor.__get__"))
  tk : PySem.W.takesIn K (.builtin "object.__class__") = some true
  mo : PySem.W.mroIn K C (.type "object") = some true
  be : PySem.W.subIn K (.ref C) (.type "BaseException") = some true
  ci : PySem.W.isClsIn K C = true
theorem ExcK.isCls {K : PySem.W.Frag} {C : Addr} (Z : ExcK K C) : (PySem.W.clsIn K C).isSome = true := Z.ci
theorem ExcK.find {K : PySem.W.Frag} {C : Addr} (Z : ExcK K C) : PySem.W.findObj K C none "__class__" = some (.bind (.builtin "getset_descriptor.__get__") (.builtin "object.__class__")) := by
  obtain ⟨cd, hc⟩ := Option.isSome_iff_exists.mp Z.isCls
  unfold PySem.W.findObj
  rw [hc, Option.bind_some, Z.cl, Option.bind_some]
  simp [Z.sp, Z.tk]
section
variable {prog : Program} {w : World} {A : Around} {E : Value → Shared → Prop} {K : PySem.W.Frag} {h : Heap} {g : Array GenState} {d : Drawn} {t : Nat} {os : OsState} {x C : Addr} {ox : Obj}
open PySem.W in
theorem exc_entry {tk : Tok} {Q : Fin → Shared → Prop} (X : K.In h) (Z : ExcK K C) (I : InstAt h x ox C none) (hq : Q (.done (.ret (.ref C))) ⟨h, g, d, t, os⟩) :
    wpAny (model prog w) A (Builtin.«object.__getattribute__» ⟨[.ref x, .str "__class__" tk], []⟩) Q E ⟨h, g, d, t, os⟩ := by
  have L0 := I.type (M := model prog w)
  have L1 := looks_find (M := model prog w) X I Z.find
  unfold Builtin.«object.__getattribute__»
  refine wpAny_bind (wpAny_pure (a := (Value.ref x, [Value.str "__class__" tk])) ?_)
  refine wpAny_bind (wpAny_pure (a := ("__class__" : Str)) ?_)
  refine wpAny_bind (L0.at (wpAny_bind (L1.at ?_)))
  show wpAny _ _ (holding [Value.builtin "object.__class__"] (call (.builtin "getset_descriptor.__get__") [.builtin "object.__class__", .ref x, .ref C]) >>= ret) _ _ _
  exact wpAny_bind (wpAny_holding (wpAny_call (class_get (s := ⟨h, g, d, t, os⟩) X I Z.mo (wpAny_pure hq))))
open PySem.W in
theorem exc_check {M : Model} {nameV : Value} {Q : Unit → Shared → Prop} (X : K.In h) (Z : ExcK K C) (I : InstAt h x ox C none) (hq : Q () ⟨h, g, d, t, os⟩) : wpAny M A (checkBuiltinCall "BaseException.__getattribute__" ⟨[.ref x, nameV], []⟩) Q E ⟨h, g, d, t, os⟩ := by
  have L0 := I.type (M := M)
  have L3 : Looks M h (isSubtype (.ref C) (.type "BaseException")) true := looks_subIn X Z.be
  have L4 : Looks M h (isInstance (.ref x) (.type "BaseException")) true := L0.andThen L3
  have kd : builtinKind "BaseException.__getattribute__" = some .slot := by decide +kernel
  have sp : splitId "BaseException.__getattribute__" = some ("BaseException", "__getattribute__") := by decide +kernel
  have ao := F.args_bexc_ga (.ref x) nameV
  simp only [checkBuiltinCall, kd, sp]
  refine wpAny_bind (L4.at ?_)
  repeat (first | assumption | wp_step)
open PySem.W in
theorem exc_class {Q : Option Value → Shared → Prop} (X : K.In h) (Z : ExcK K C) (I : InstAt h x ox C none) (hq : Q (some (.ref C)) ⟨h, g, d, t + 1, os⟩) :
    wpAny (model prog w) A (getAttr? (.ref x) "__class__") Q E ⟨h, g, d, t, os⟩ := by
  have L0 := I.type (M := model prog w)
  have L1 := looks_findIn (M := model prog w) X Z.ga
  have L2 := looks_findIn (M := model prog w) X Z.gt
  have nb : (Value.builtin "BaseException.__getattribute__" == Value.builtin "object.__getattribute__") = false := by decide +kernel
  unfold getAttr? getAttrBy? getAttrBy
  refine wpAny_bind (wpAny_mkText (wpAny_bind (wpAny_attempt (wpAny_holding (wpAny_bind (L0.at (wpAny_bind (L1.at ?_))))))))
  dsimp only
  rw [if_neg (by rw [nb, Bool.and_false]; exact Bool.false_ne_true)]
  unfold getAttrByItsOwn hookBefore callGetattribute
  rw [if_pos (show onTheHeap (Value.ref C) = true from rfl), if_neg (show ¬ (false && onTheHeap (Value.builtin "BaseException.__getattribute__")) = true from Bool.false_ne_true)]
  have f3 := F.excAttr_ValueError.ga.bind (.ref x)
  refine wpAny_bind (L2.at (wpAny_bind (wpAny_attempt (wpAny_holding ?_))))
  unfold boundAndCalled
  rw [f3]
  refine wpAny_bind (wpAny_pure (wpAny_call (codeAny_call_builtin F.excAttr_ValueError.ga.plain F.entry_bexc_ga (exc_check X Z I (exc_entry X Z I ?_)))))
  exact wpAny_pure (wpAny_pure hq)
end
theorem boot_VE : bootBuiltins "ValueError" = some (.type "ValueError") := by decide +kernel
section
variable {K : PySem.W.Frag} {x C : Addr}
open PySem.W in
theorem kitx_exc (Z : ExcK K C) : KitX K (.ref x) (.ref C) (fun h => ∃ ox, InstAt h x ox C none) where
  ty := fun _ _ _ p => p.elim fun _ I => I.type
  it := fun _ h X _ => by
    have c := Z.isCls
    unfold clsIn at c
    split at c
    · rename_i look
      intro A Q E s kp q
      unfold isType loadHead
      exact wpAny_bind (wpAny_loadPart (kp _ _ (X _ _ look)) (wpAny_pure q))
    · cases c
  ne := fun h tp dd its n sl X htp => by
    have c := Z.isCls
    refine Bool.eq_false_iff.mpr fun q => ?_
    have e := beq_iff_eq.mp q
    cases e
    unfold clsIn at c
    split at c
    · rename_i look
      have z := htp.symm.trans (X _ _ look)
      cases z
    · cases c
  ca := fun {_ _ _ _ _ s} X p k => by
    obtain ⟨ox, I⟩ := p
    obtain ⟨h, g, d, t, os⟩ := s
    exact exc_class X Z I k
end
def clsV : V → Value
  | .ref D => .ref D
  | .ty n => .type n
  | _ => .none
theorem clsV_of {v : V} {u : Value} (r : RelV v u) (h : clsV v ≠ .none) : u = clsV v := by
  cases v with
  | ref a => exact r
  | ty n => exact r
  | _ => exact absurd rfl h
def rIsE (K : PySem.W.Frag) (a C : Addr) : RC := fun xs H Q => ∃ v b, xs = [.ref a, v] ∧ clsV v ≠ .none ∧ PySem.W.kitOne K (.ref C) (clsV v) = some b ∧ Q (.bl b) H
theorem rd_isE {K : PySem.W.Frag} {a C : Addr} {v : V} {b : Bool} {H : Hp} {Q : VK} (e : PySem.W.kitOne K (.ref C) (clsV v) = some b) (h : clsV v ≠ .none) (q : Q (.bl b) H) : rIsE K a C [.ref a, v] H Q := ⟨v, b, rfl, h, e, q⟩
theorem cn_isE {X : Cx} {a C : Addr} {oe : Obj} (hE : ExcIs oe C) (Z : ExcK X.K C) : CallR (cxAs X a oe) (.builtin "isinstance") (rIsE X.K a C) := by
  intro pins s σ H xs us Q I r h
  obtain ⟨v, b, rfl, hv, e, q⟩ := h
  obtain ⟨u, u', rfl, r1, r2⟩ := vals2 r
  cases r1
  have e2 := clsV_of r2 hv
  subst e2
  have pn := I.pin (a, oe) (List.mem_append_left _ (List.mem_append_right _ (List.mem_singleton.mpr rfl)))
  obtain ⟨vs, hd⟩ := hE.data
  have IA : PySem.W.InstAt s.heap a oe C none := ⟨pn.1, hE.cls, by unfold PySem.W.notCls; rw [hd], by rw [hE.dict]; trivial⟩
  refine PySem.W.kia_one (kitx_exc (x := a) Z) I.kIn ⟨oe, IA⟩ e (by intro z; cases z) fun tk => ?_
  exact ⟨.bl b, H, I.kept (t' := tk) (h' := s.heap) fun _ _ z => z, rfl, q⟩
structure AsOk (K : PySem.W.Frag) (mg : Str → Option Value) (C : Addr) (x : Str) (C2 : Addr) : Prop where
  bd : mg x = some (.ref C2)
  be : PySem.W.subIn K (.ref C2) (.type "BaseException") = some true
  ki : PySem.W.kitOne K (.ref C) (.ref C2) = some true
  ne : (Value.ref C == Value.ref C2) = false
theorem AsOk.exm {K : PySem.W.Frag} {mg : Str → Option Value} {C C2 : Addr} {x : Str} (o : AsOk K mg C x C2) : PySem.W.exmOne K (.ref C) (.ref C2) = some true := by
  have k := o.ki
  unfold PySem.W.kitOne at k
  rw [if_neg (by rw [o.ne]; exact Bool.false_ne_true)] at k
  unfold PySem.W.exmOne
  rw [if_pos (by rw [o.be]; rfl)]
  exact k
def endsAs (D : Ends) (i : Nat) : Ends := { D with nx := fun σ H => D.nx (σ.set i none) H, bk := fun σ H => D.bk (σ.set i none) H, ct := fun σ H => D.ct (σ.set i none) H }
def tTryAs (C : Addr) (i : Nat) (tb : St → XK → TS) (th : Addr → TS) : TS := fun D σ H => tb σ (fun e c H' => c = some C ∧ ∀ a, e = .ref a → th a (endsAs D i) (σ.set i (some (.ref a))) H') D σ H
theorem rd_tryAs {C : Addr} {i : Nat} {tb : St → XK → TS} {th : Addr → TS} {D : Ends} {σ : St} {H : Hp} (q : tb σ (fun e c H' => c = some C ∧ ∀ a, e = .ref a → th a (endsAs D i) (σ.set i (some (.ref a))) H') D σ H) : tTryAs C i tb th D σ H := q
theorem ps_tryAs {X : Cx} {x n : Str} {C C2 : Addr} {i : Nat} {np hp pos : Pos} {body suite : List Stmt} {b₀ : Stmt} {tb : St → XK → TS} {th : Addr → TS} (O : AsOk X.K X.mg C x C2) (hg : Gl X x) (hN : X.N.Nodup) (hi : X.N[i]? = some n) (hn : X.env.scope.names.lookup n = some .local)
    (hb : ∀ pins σ E, PSs (cxTry X pins σ E) body (tb σ E)) (hs : ∀ a oe, ExcIs oe C → PSs (cxAs X a oe) (b₀ :: suite) (th a)) (hd : (x == ("__debug__" : Str)) = false := by decide) :
    PS X (.Try body [.ExceptHandler (some (.Name x np)) (some n) (b₀ :: suite) hp] [] [] pos) (tTryAs C i tb th) := by
  intro pins s σ H D I h
  refine wpAny_Try_except (wpAny_mono (hb pins σ _ [] s σ H D I.toTry h) (fun f s1 q => ?_) fun e s1 q => ?_)
  · have q := q.ofTry
    cases f with
    | next => exact wpAny_execs_nil q
    | brk => exact q
    | cont => exact q
    | ret u => exact q
  · refine wpAny_mono q (fun _ s2 q2 => wpAny_mono q2 (fun _ s3 q3 => ?_) fun _ _ z => z.elim) fun _ _ z => z.elim
    obtain ⟨a, T, C', H', rfl, J, fly, ⟨eC, q4⟩, hHa⟩ := q3
    obtain rfl : C' = C := Option.some.inj eC
    have q4 := q4 a rfl
    refine wpAny_handleBy_cons (codeAny_handlers_test (ld_glob (X := cxHand X (.ref a)) J.toHand hg O.bd ?_ hd)) (by intro q; cases q)
    have dn := fly.dn
    obtain ⟨oe, vs, oT, ts, ae, ce, da, v1, aT, dT, t3⟩ := fly.x
    have hne : a ≠ T := Ne.symm fly.ne
    obtain ⟨hh, g, d, tk, os⟩ := s3
    have kin : X.K.In hh := J.kIn
    have LT : PySem.W.Looks (model X.prog X.w) hh (typeOf (.ref a)) (.ref C') := ce ▸ (PySem.W.Looks.ld ae).andThen .now
    refine (PySem.W.exm_one kin LT O.exm).at ?_
    refine codeAny_handlers_suite_as (wpAny_setFlight_none ae da v1 aT dT (Array.getElem?_eq_some_iff.mp t3).1 ?_)
    have J2 := J.kept (t' := tk) (h' := hh.update T (Obj.mapFields (·.setIfInBounds 3 .none))) fun b u hb => by
      by_cases z : b = T
      · subst z
        have ez : oT = u := Option.some.inj (aT.symm.trans hb)
        subst ez
        have e1 := Heap.get?_update_self (Obj.mapFields (·.setIfInBounds 3 Value.none)) aT (Obj.isFreed_of_fields (Obj.data_mapFields dT _))
        rw [e1, same_fields dT t3]
      · rw [Heap.get?_update_other _ _ (Ne.symm z)]
        exact hb
    have ae2 : (hh.update T (Obj.mapFields (·.setIfInBounds 3 .none))).get? a = some oe := by rw [Heap.get?_update_other _ _ (Ne.symm hne)]; exact ae
    have nl : a ≠ X.env.locals := fun z => by
      obtain ⟨m, ⟨o', es, ep, ho', hd', _⟩, _⟩ := J.loc
      rw [← z] at ho'
      have := Option.some.inj (ho'.symm.trans ae)
      subst this
      rw [hd'] at da
      cases da
    have nf : a ∉ X.fs := fun z => by
      obtain ⟨_, o, ho, hnf⟩ := J.funs.mem z
      have := Option.some.inj (ho.symm.trans ae)
      subst this
      exact hnf vs da
    refine store_ok (X := cxAs X a oe) (J2.toAs ae2 hHa nl nf (fun v z => by rw [da] at z; cases z)) hN hi (.inl hn) (v := .ref a) rfl (fun s4 I4 => ?_) (.inr hn)
    refine wpAny_mono (hs a oe ⟨ce, dn _ ae, vs, da⟩ pins _ _ H' (endsAs D i) I4 q4) (fun f s5 q5 => ?_) fun _ _ z => z.elim
    cases f with
    | next => obtain ⟨σ', H2, I5, q6⟩ := q5; exact goes_ok (I5.ofAs J.ok) hN hi hn fun s6 I6 => ⟨_, H2, I6, q6⟩
    | brk => obtain ⟨σ', H2, I5, q6⟩ := q5; exact goes_ok (I5.ofAs J.ok) hN hi hn fun s6 I6 => ⟨_, H2, I6, q6⟩
    | cont => obtain ⟨σ', H2, I5, q6⟩ := q5; exact goes_ok (I5.ofAs J.ok) hN hi hn fun s6 I6 => ⟨_, H2, I6, q6⟩
    | ret u => obtain ⟨v, σ', H2, I5, r, q6⟩ := q5; exact goes_ok (I5.ofAs J.ok) hN hi hn fun s6 I6 => ⟨v, _, H2, I6, r, q6⟩
end L2
namespace L2
open PySem PySem.Spec PyProof.Rows PySem.Calls
structure FlyV (base h : Heap) (e T : Addr) (cls v : Value) : Prop where
  x : ∃ oe vs oT ts, h.get? e = some oe ∧ oe.cls = cls ∧ oe.data = .fields vs ∧ vs[1]? = some (.ref T) ∧ h.get? T = some oT ∧ oT.data = .fields ts ∧ ts[3]? = some v
  nT : base.get? T = none
  ne : T ≠ e
  dn : ∀ o, h.get? e = some o → o.dict = none
theorem Fly.v {base h : Heap} {e T : Addr} {cls : Value} (f : Fly base h e T cls) : FlyV base h e T cls .none := ⟨f.x, f.nT, f.ne, f.dn⟩
theorem FlyV.f {base h : Heap} {e T : Addr} {cls : Value} (f : FlyV base h e T cls .none) : Fly base h e T cls := ⟨f.x, f.nT, f.ne, f.dn⟩
section
variable {M : Model} {A : Around} {E : Value → Shared → Prop} {s : Shared} {base : Heap} {env : Env} {outer : List Env} {L e T : Addr} {cls v : Value} {Q : Unit → Shared → Prop}
theorem flight_V {x : Option Addr} (f : FlyV base s.heap e T cls v) (go : ∀ h', FlyV base h' e T cls (x.elim Value.none fun f => rawInt f) → (∀ b, b ≠ T → h'.get? b = s.heap.get? b) → Q () { s with heap := h' }) : wpAny M A (setFlight (.ref e) x) Q E s := by
  obtain ⟨oe, vs, oT, ts, ae, ce, da, v1, aT, dT, t3⟩ := f.x
  unfold setFlight
  refine wpAny_bind (wpAny_field ae da v1 ?_)
  rw [if_pos (by simp)]
  have sz := (Array.getElem?_eq_some_iff.mp t3).1
  have oth : ∀ b, b ≠ T → (s.heap.update T (Obj.mapFields (·.setIfInBounds 3 (x.elim Value.none fun f => rawInt f)))).get? b = s.heap.get? b := fun b hb => Heap.get?_update_other _ _ (Ne.symm hb)
  have dT4 := Obj.data_mapFields dT (·.setIfInBounds 3 (x.elim Value.none fun f => rawInt f))
  have aT4 := Heap.get?_update_self (Obj.mapFields (·.setIfInBounds 3 (x.elim Value.none fun f => rawInt f))) aT (Obj.isFreed_of_fields dT4)
  refine wpAny_setField aT dT sz (go _ ⟨⟨oe, vs, _, _, (oth e (Ne.symm f.ne)).trans ae, ce, da, v1, aT4, dT4, by simp [sz]⟩, f.nT, f.ne, fun o ho => f.dn o ((oth e (Ne.symm f.ne)).symm.trans ho)⟩ oth)
theorem entry_V {oe : Obj} {vs : Array Value} {head : Value} {hadNext : Bool} (fr : A.frames = some (env :: outer)) (fl : s.heap.FunFrames base (env :: outer)) (lf : env.frame = some L)
    (ae : s.heap.get? e = some oe) (sb : base.StaysIn s.heap) (ne : base.get? e = none) (da : oe.data = .fields vs) (dn : oe.dict = none) (sz : 1 < vs.size)
    (go : ∀ h' T', base.StaysIn h' → h'.FunFrames base (env :: outer) → FlyV base h' e T' oe.cls (rawInt L) → s.heap.objs.size ≤ T' → (∀ b o, b ∉ (env :: outer).filterMap (·.frame) → b ≠ e → s.heap.get? b = some o → h'.get? b = some o) → (∀ b o, b ∈ (env :: outer).filterMap (·.frame) → s.heap.get? b = some o → ∃ sl, h'.get? b = some { o with slots := sl }) → Q () { s with heap := h' }) :
    wpAny M A (do
      let a ← frameOf env
      let pl ← entryPlaceOf L hadNext
      let b ← EntryCells.newEntry head a .none (rawInt L) .none pl
      setField (.ref e) 1 b) Q E s := by
  have nef : e ∉ (env :: outer).filterMap (·.frame) := by
    intro hm
    obtain ⟨_, o, ho, hnf⟩ := fl.mem hm
    rw [ae] at ho
    cases ho
    exact hnf vs da
  refine wpAny_bind (wpAny_frameOf_fun fr fl lf fun h1 so => ?_)
  refine wpAny_bind (wpAny_entryPlaceOf fun pl hpl => ?_)
  unfold EntryCells.newEntry newFields
  refine wpAny_bind (wpAny_newObj_type ?_ (hpl.sizeOk5 _ _ _ _ _))
  have ae1 : h1.get? e = some oe := by rw [so.2.1 e nef]; exact ae
  have sb1 : base.StaysIn h1 := fun b o hb => by
    rw [so.2.1 b fun hm => by rw [(fl.mem hm).1] at hb; cases hb]
    exact sb b o hb
  generalize hTo : ({ cls := .type "traceback", dict := none, data := .fields ([head, .ref L, .none, rawInt L, .none] ++ (if pl.isEmpty then List.replicate 6 Value.none else pl)).toArray } : Obj) = To
  have dTo : To.data = .fields ([head, .ref L, .none, rawInt L, .none] ++ (if pl.isEmpty then List.replicate 6 Value.none else pl)).toArray := by rw [← hTo]
  have ae2 : (h1.push To).get? e = some oe := Heap.get?_push_of_some _ ae1
  have aT2 : (h1.push To).get? h1.objs.size = some To := Heap.get?_push_size _ (by rw [← hTo]; rfl)
  have nTe : h1.objs.size ≠ e := Nat.ne_of_gt (Heap.lt_size ae1)
  have da3 := Obj.data_mapFields da (·.setIfInBounds 1 (Value.ref h1.objs.size))
  have ae3 := Heap.get?_update_self (Obj.mapFields (·.setIfInBounds 1 (Value.ref h1.objs.size))) ae2 (Obj.isFreed_of_fields da3)
  have oth3 : ∀ b, b ≠ e → ((h1.push To).update e (Obj.mapFields (·.setIfInBounds 1 (Value.ref h1.objs.size)))).get? b = (h1.push To).get? b := fun b hb => Heap.get?_update_other _ _ (Ne.symm hb)
  have aT3 := (oth3 _ nTe).trans aT2
  have kp : ∀ b o, b ≠ e → h1.get? b = some o → ((h1.push To).update e (Obj.mapFields (·.setIfInBounds 1 (Value.ref h1.objs.size)))).get? b = some o := fun b o hb ho => (oth3 b hb).trans (Heap.get?_push_of_some _ ho)
  have nf : ∀ b o, s.heap.get? b = some o → (∀ vs, o.data ≠ .fields vs) → b ≠ e := fun b o hb hnf z => by
    rw [z, ae] at hb
    cases hb
    exact hnf vs da
  refine wpAny_setField ae2 da sz (go _ h1.objs.size (fun b o hb => kp b o (fun z => by rw [z, ne] at hb; cases hb) (sb1 b o hb)) (fl.of_keeps fun b o hb hnf => ?_) ⟨⟨_, _, _, _, ae3, Obj.cls_mapFields _ _, da3, by simp [sz], aT3, dTo, by simp⟩, sb1.fresh, nTe, fun o ho => by rw [ae3] at ho; cases ho; exact (dict_mapF da).trans dn⟩ (Nat.le_of_eq so.1.symm) (fun b o h1' h2' ho => kp b o h2' (by rw [so.2.1 b h1']; exact ho)) fun b o hm ho => ?_)
  · obtain ⟨sl, q⟩ := so.2.2 b o hb
    exact ⟨_, kp b _ (nf b o hb hnf) q, rfl⟩
  · obtain ⟨sl, q⟩ := so.2.2 b o ho
    exact ⟨sl, kp b _ (fun z => nef (by rw [← z]; exact hm)) q⟩
theorem note_V (fr : A.frames = some (env :: outer)) (fl : s.heap.FunFrames base (env :: outer)) (lf : env.frame = some L) (f : FlyV base s.heap e T cls v) (sb : base.StaysIn s.heap) (ne : base.get? e = none)
    (go : ∀ h' T' v', base.StaysIn h' → h'.FunFrames base (env :: outer) → FlyV base h' e T' cls v' → ((T' = T ∧ v = rawInt L) ∨ s.heap.objs.size ≤ T') → (∀ b o, b ∉ (env :: outer).filterMap (·.frame) → b ≠ e → b ≠ T → s.heap.get? b = some o → h'.get? b = some o) → (∀ b o, b ∈ (env :: outer).filterMap (·.frame) → s.heap.get? b = some o → ∃ sl, h'.get? b = some { o with slots := sl }) → Q () { s with heap := h' }) : wpAny M A (noteFrame (.ref e) env) Q E s := by
  obtain ⟨oe, vs, oT, ts, ae, ce, da, v1, aT, dT, t3⟩ := id f.x
  unfold noteFrame
  simp only [lf]
  refine wpAny_bind (wpAny_field ae da v1 ?_)
  rw [if_pos (by simp)]
  refine wpAny_bind (wpAny_field aT dT t3 ?_)
  by_cases hv : (v == rawInt L) = true
  · rw [if_pos hv]
    exact wpAny_pure (go s.heap T v sb fl f (.inl ⟨rfl, beq_iff_eq.mp hv⟩) (fun b o _ _ _ ho => ho) fun b o _ ho => ⟨o.slots, ho⟩)
  · rw [if_neg hv]
    subst ce
    refine wpAny_bind (wpAny_setField aT dT (Array.getElem?_eq_some_iff.mp t3).1 ?_)
    have oth : ∀ b, b ≠ T → (s.heap.update T (Obj.mapFields (·.setIfInBounds 3 Value.none))).get? b = s.heap.get? b := fun b hb => Heap.get?_update_other _ _ (Ne.symm hb)
    have nT : ∀ b o, s.heap.get? b = some o → (∀ vs, o.data ≠ .fields vs) → b ≠ T := fun b o hb hnf z => by
      rw [z, aT] at hb
      cases hb
      exact hnf ts dT
    have szu : (s.heap.update T (Obj.mapFields (·.setIfInBounds 3 Value.none))).objs.size = s.heap.objs.size := Heap.size_update _ _ _
    have nTf : T ∉ (env :: outer).filterMap (·.frame) := fun hm => by
      obtain ⟨_, o, ho, hnf⟩ := fl.mem hm
      rw [aT] at ho
      cases ho
      exact hnf ts dT
    exact entry_V (s := { s with heap := s.heap.update T (Obj.mapFields (·.setIfInBounds 3 Value.none)) }) fr (fl.of_keeps fun b o hb hnf => ⟨o, (oth b (nT b o hb hnf)).trans hb, rfl⟩) lf ((oth e (Ne.symm f.ne)).trans ae) (fun b o hb => (oth b fun z => by rw [z, f.nT] at hb; cases hb).trans (sb b o hb)) ne da (f.dn _ ae) (Array.getElem?_eq_some_iff.mp v1).1 fun h' T' st fr' fv l kp sl => go h' T' (rawInt L) st fr' fv (.inr (by rw [← szu]; exact l)) (fun b o h1 h2 h3 ho => kp b o h1 h2 ((oth b h3).trans ho)) fun b o hm ho => sl b o hm ((oth b (fun z => nTf (by rw [← z]; exact hm))).trans ho)
theorem leave_V (fr : A.frames = some (env :: outer)) (fl : s.heap.FunFrames base (env :: outer)) (lf : env.frame = some L) (f : FlyV base s.heap e T cls v) (sb : base.StaysIn s.heap) (ne : base.get? e = none)
    (go : ∀ h', Gone base (env :: outer) e cls [T] s.heap h' → Q () { s with heap := h' }) : wpAny M A (leaving env (.ref e)) Q E s := by
  unfold leaving
  refine wpAny_bind (note_V fr fl lf f sb ne fun h1 T1 v1 st fr1 f1 l1 kp sl => flight_V (s := { s with heap := h1 }) f1 fun h2 f2 oth => go h2 ?_)
  have oth : ∀ b, b ≠ T1 → h2.get? b = h1.get? b := oth
  obtain ⟨oe, vs, oT, ts, ae, ce, da, w1, aT, dT, t3⟩ := f1.x
  have nT : ∀ b o, h1.get? b = some o → (∀ vs, o.data ≠ .fields vs) → b ≠ T1 := fun b o hb hnf z => by
    rw [z, aT] at hb
    cases hb
    exact hnf ts dT
  refine ⟨fun b o hb => (oth b fun z => by rw [z, f1.nT] at hb; cases hb).trans (st b o hb), fr1.of_keeps fun b o hb hnf => ⟨o, (oth b (nT b o hb hnf)).trans hb, rfl⟩, ⟨T1, f2.f, ?_⟩, fun b o h1' h2' h3' ho => ?_, fun b o hm ho => ?_⟩
  · rcases l1 with z | z
    · exact .inl (by rw [z.1]; simp)
    · exact .inr z
  · refine (oth b fun z => ?_).trans (kp b o h1' h2' (by simpa using h3') ho)
    rcases l1 with q | q
    · exact h3' (by rw [z, q.1]; simp)
    · have := Heap.lt_size ho
      rw [z] at this
      exact absurd (Nat.lt_of_lt_of_le this q) (Nat.lt_irrefl _)
  · obtain ⟨sl', q⟩ := sl b o hm ho
    obtain ⟨_, o2, ho2, hnf⟩ := fr1.mem hm
    exact ⟨sl', (oth b (nT b o2 ho2 hnf)).trans q⟩
end
def FliesOut (X : Cx) (E : XK) : Prop := ∀ (pins : List (Addr × Obj)) (σ : St) (H : Hp) (s : Shared) (a T C : Addr) (v : Value), Inv X pins σ H s → FlyV X.base s.heap a T (.ref C) v → X.base.get? a = none → H a = none → H T = none → X.s₀.heap.get? a = none → X.s₀.heap.get? T = none → E (.ref a) (some C) H → X.xe (.ref a) s
theorem flies_def {P : Program} {w : World} {K : PySem.W.Frag} {mg : Str → Option Value} {base : Heap} {N : List Str} {qual : Str} {scope : Scope} {f : Addr} {cd : Value} {A : Around} {outer : List Env} {s₀ : Shared} {H₀ : Hp} {E : XK} :
    FliesOut (cxOf (CXE P w base) P w K mg base N qual scope f cd A outer s₀ H₀ E) E := by
  intro pins σ H s a T C v J fly nb ha hT la lT q
  refine leave_V (base := base) (L := (envOfC qual scope s₀.heap.objs.size f cd).locals) J.ok.frames J.stack rfl fly J.bk nb fun h' gn => ?_
  obtain ⟨⟨T2, f2, hT2, l2⟩, U, O⟩ := gone_out J gn rfl rfl rfl ha la (fun b hb => by rw [List.mem_singleton.mp hb]; exact ⟨hT, lT⟩)
  exact ⟨a, T2, C, H, rfl, f2, nb, ha, hT2, la, l2, J.os, J.bare, U, O, q⟩
end L2
namespace L2
open PySem PySem.Spec PyProof.Rows PySem.Calls
def cxCompX (X : Cx) (own : List Str) (scope : Scope) (cl : List (Str × Addr)) (C : Addr) (s : Shared) (H : Hp) (ex : List Addr) (xe' : Value → Shared → Prop) : Cx := { cxComp X own scope cl C s H ex with xe := xe' }
section
variable {X : Cx} {own : List Str} {scope : Scope} {cl : List (Str × Addr)} {C : Addr} {s₀ : Shared} {H₀ : Hp} {ex : List Addr} {xe' : Value → Shared → Prop} {pins : List (Addr × Obj)} {σ : St} {H : Hp} {s : Shared}
theorem Inv.toX (I : Inv (cxComp X own scope cl C s₀ H₀ ex) pins σ H s) : Inv (cxCompX X own scope cl C s₀ H₀ ex xe') pins σ H s :=
  ⟨⟨I.ok.mod, I.ok.kind, I.ok.glob, I.ok.blt, I.ok.above, I.ok.inj, I.ok.has, I.ok.cab, I.ok.hd, I.ok.frames, I.ok.stk, I.ok.exf, I.ok.bs, I.ok.bsz, I.ok.noex, I.ok.exfs, I.ok.funs, I.ok.frf⟩, I.os, I.bare, I.base, I.loc, I.cell, I.free, I.freeC, I.pin, I.hok, I.len⟩
theorem Inv.ofX (I : Inv (cxCompX X own scope cl C s₀ H₀ ex xe') pins σ H s) : Inv (cxComp X own scope cl C s₀ H₀ ex) pins σ H s :=
  ⟨⟨I.ok.mod, I.ok.kind, I.ok.glob, I.ok.blt, I.ok.above, I.ok.inj, I.ok.has, I.ok.cab, I.ok.hd, I.ok.frames, I.ok.stk, I.ok.exf, I.ok.bs, I.ok.bsz, I.ok.noex, I.ok.exfs, I.ok.funs, I.ok.frf⟩, I.os, I.bare, I.base, I.loc, I.cell, I.free, I.freeC, I.pin, I.hok, I.len⟩
end
theorem gone_un2 {P : Program} {w : World} {l : List Env} {H H' : Hp} {h hh h' : Heap} {a T : Addr} (un : Un (frs l) [] H H' h hh) (hok : HOk P w H' hh) (fr : ∀ b ∈ frs l, H' b = none)
    (keep : ∀ b o, b ∉ l.filterMap (·.frame) → b ≠ a → b ≠ T → hh.get? b = some o → h'.get? b = some o) (slot : ∀ b o, b ∈ l.filterMap (·.frame) → hh.get? b = some o → ∃ sl, h'.get? b = some { o with slots := sl })
    (ha : H' a = none) (hsa : h.get? a = none) (hT : H' T = none) (hsT : h.get? T = none) : Un (frs l) [] H H' h h' ∧ HOk P w H' h' := by
  have old : ∀ b o, h.get? b = some o → b ≠ a ∧ b ≠ T := fun b o e => by
    refine ⟨fun z => ?_, fun z => ?_⟩
    · rw [z, hsa] at e; cases e
    · rw [z, hsT] at e; cases e
  refine ⟨⟨fun b o e n hb _ => ?_, fun b o e n hb _ => ?_, fun b o e n hx => un.free b o e n hx, fun b o e _ => ?_, un.tups, un.frzs, un.tbls⟩, fun b u e => ?_⟩
  · obtain ⟨n2, n3⟩ := old b o e
    exact keep b o hb n2 n3 (un.keep b o e n hb (by simp))
  · obtain ⟨sl, q⟩ := un.slot b o e n hb (by simp)
    obtain ⟨sl2, q2⟩ := slot b _ hb q
    exact ⟨sl2, q2⟩
  · obtain ⟨n2, n3⟩ := old b o e
    obtain ⟨o1, q1⟩ := un.there b o e (by simp)
    by_cases z : b ∈ frs l
    · obtain ⟨sl, q⟩ := slot b o1 z q1
      exact ⟨_, q⟩
    · exact ⟨o1, keep b o1 z n2 n3 q1⟩
  · have nn : ∀ c v, H' c = some v → ∀ q, hh.get? c = some q → h'.get? c = some q := fun c v hc q hq => keep c q (fun z => by rw [fr c z] at hc; cases hc) (fun z => by rw [z, ha] at hc; cases hc) (fun z => by rw [z, hT] at hc; cases hc) hq
    refine (hok b u e).stay (fun c v hc q => ?_) (fun _ q => q) fun _ _ q => q
    rcases hc with z | z
    · rw [z] at q ⊢; exact nn b u e v q
    · exact nn c _ z v q
theorem comp_coreE {X : Cx} {tg elt iter : Expr} {ifs : List Expr} {scope : Scope} {pos : Pos} {own : List Str} {wi : TI} {g : TG} {tc : TT} {te : TE} {pins : List (Addr × Obj)} {σ : St} {H : Hp} {s : Shared} {use : Option (Value → Sem Unit)} {Q : Value → Shared → Prop} {R : Addr → Hp → Prop} {E : XK}
    (hc : X.calm = true) (S : CompScope X.env.scope X.N own scope) (hi : PI X tg iter wi)
    (hg : ∀ cl C s₀ H₀ ex, PG (cxComp X own scope cl C s₀ H₀ ex) tg g) (ht : ∀ cl C s₀ H₀ ex, PIf (cxComp X own scope cl C s₀ H₀ ex) ifs tc) (he : ∀ cl C s₀ H₀ ex xe', Passes (CXE X.prog X.w X.base) (cxCompX X own scope cl C s₀ H₀ ex xe') E → PE (cxCompX X own scope cl C s₀ H₀ ex xe') elt te)
    (hst : X.stack = X.env :: X.outer) (hlf : X.env.frame = some X.env.locals) (hex : X.ex = []) (flies : FliesOut X E)
    (hs : ∀ x, foldedSetIterable iter X.env x = pure x)
    (I : Inv X pins σ H s) (h : wi σ H fun J H1 => ∀ p, H1 p = none → tLoopC own.length g tc te J p (R p) σ H1)
    (fin : ∀ (p : Addr) (H' : Hp) (s' : Shared) (C : Addr) (m : Str → Option Value), Inv X pins σ H' s' → FpOk X pins H' C → s'.heap.Ns C m → R p H' → compPost (model X.prog X.w) X.A X.xe use Q (.ref p) C (.ok .next) s') :
    wpAny (model X.prog X.w) X.A (comprehension (.ListComp elt [⟨tg, iter, ifs, 0⟩] scope pos) scope X.env (firstIterPos [⟨tg, iter, ifs, 0⟩] pos) (newList []) false (eval iter X.env) use) Q X.xe s := by
  obtain ⟨cl, hcl, c1, c2⟩ := closure_of (scope := scope) (env := X.env) fun y hy hf => I.ok.has y.1 (S.free y hy hf)
  refine wpAny_comprehension_free (use := use) rfl hs hcl S.kind S.names (thn (hi pins s σ H _ I h) fun xv s1 h1 => thn h1 fun itv s2 h2 => ?_)
  obtain ⟨it, fp, tn, J, H2, e, I2, T, st2, f2, q2⟩ := h2
  subst e
  -- the list that is made
  refine wpAny_newObj_type ?_
  have hp : H2 s2.heap.objs.size = none := I2.hok.fresh (Nat.le_refl _)
  obtain ⟨W, ⟨m0, w0⟩, turn⟩ := q2 _ hp
  generalize hP : s2.heap.objs.size = P at hp W w0 turn ⊢
  have kP : ∀ b u, s2.heap.get? b = some u → (s2.heap.push { cls := .type "list", dict := none, data := .seq ([] : List Value).toArray }).get? b = some u := fun b u e => Heap.get?_push_of_some _ e
  have I3 : Inv X pins σ (upd H2 P (.lst [])) { s2 with heap := s2.heap.push { cls := .type "list", dict := none, data := .seq ([] : List Value).toArray }, toks := s2.toks } :=
    I2.laid (a := P) (o := .lst []) (t' := s2.toks) kP (by rw [hP]; exact Nat.le_refl _) ⟨Nat.zero_le _, [], 0, .nil, by rw [← hP]; exact Heap.get?_push_size _ rfl⟩
  have fP : ∀ b ∈ fp, b ≠ P := fun b hb z => by
    obtain ⟨o, ho, _⟩ := T.obj _ _ st2 b hb
    have q := Heap.lt_size ho
    rw [hP, z] at q
    exact Nat.lt_irrefl _ q
  have f3 : ∀ b ∈ fp, FpOk X pins (upd H2 P (.lst [])) b := fun b hb => ⟨by rw [upd_ne (fP b hb)]; exact (f2 b hb).1, (f2 b hb).2⟩
  have st3 : tn 0 (s2.heap.push { cls := .type "list", dict := none, data := .seq ([] : List Value).toArray }) := T.keep _ _ _ st2 fun b _ o e => kP b o e
  generalize hS3 : ({ s2 with heap := s2.heap.push { cls := .type "list", dict := none, data := .seq ([] : List Value).toArray }, toks := s2.toks } : Shared) = s3 at I3
  have st3' : tn 0 s3.heap := by rw [← hS3]; exact st3
  have fo : ∀ b ∈ fp, b < s3.heap.objs.size := fun b hb => by
    obtain ⟨o, ho, _⟩ := T.obj _ _ st3' b hb
    exact Heap.lt_size ho
  refine wpAny_newFunctionEnv S.nocell (by intro y hy; simp at hy) (fun h4 hns hsb => ?_) S.kind
  try dsimp only at hns hsb ⊢
  have k4 : ∀ b o, s3.heap.get? b = some o → h4.get? b = some o := fun b o e => hsb.extBut b o (Nat.ne_of_lt (Heap.lt_size e)) (Heap.get?_push_of_some _ e)
  have I4 := Inv.block (own := own) (h' := h4) (t' := s3.toks + ([] : List (Str × Value)).length) I3 S c1 c2 f3 fo (by simpa using hns) k4
  -- what is true of the iterator within the block
  have fpY : ∀ {H' : Hp}, (∀ b ∈ fp, H' b = none) → ∀ b ∈ fp, FpOk (cxComp X own scope cl s3.heap.objs.size s3 (upd H2 P (.lst [])) fp) [] H' b := fun hn b hb => by
    refine ⟨hn b hb, Nat.ne_of_lt (fo b hb), ?_, .inl hb, fun x c hx => (f3 b hb).2.2.2.2.1 x c (c1 x c hx), fun p hp => by simp [cxComp] at hp⟩
    intro hfs
    rcases List.mem_cons.mp (I3.stkSub b hfs) with z | z
    · exact (f3 b hb).2.1 z
    · exact (f3 b hb).2.2.1 z
  have back : ∀ {pins' : List (Addr × Obj)} {σ6 : St} {H5 : Hp} {s6 : Shared}, Inv (cxComp X own scope cl s3.heap.objs.size s3 (upd H2 P (.lst [])) fp) pins' σ6 H5 s6 → ∀ h', Heap.SameBut s3.heap.objs.size s6.heap h' → Inv X pins σ H5 { s6 with heap := h' } := fun {pins' σ6 H5 s6} I6 h' sb => by
    have nC : ∀ b o, s3.heap.get? b = some o → b ≠ s3.heap.objs.size := fun b o e => Nat.ne_of_lt (Heap.lt_size e)
    have nH : ∀ b u, H5 b = some u → b ≠ s3.heap.objs.size := fun b u e z => by
      have : H5 s3.heap.objs.size = none := I6.free
      rw [z, this] at e; cases e
    refine I3.call' (s' := { s6 with heap := h' }) (ch := fp) I6.os ⟨fun b o e n hb hx => ?_, fun b o e n hb hx => ?_, I6.base.free, fun b o e hx => ?_, I6.base.tups, I6.base.frzs, I6.base.tbls⟩ ?_ I6.bare fun b hb => ?_
    · exact (sb.2 b (nC b o e)).trans (I6.base.keep b o e n hb hx)
    · obtain ⟨sl, z⟩ := I6.base.slot b o e n hb hx
      exact ⟨sl, (sb.2 b (nC b o e)).trans z⟩
    · obtain ⟨o', z⟩ := I6.base.there b o e hx
      exact ⟨o', (sb.2 b (nC b o e)).trans z⟩
    · intro b u e
      refine (I6.hok b u e).stay (fun c v hc q => (sb.2 c ?_).trans q) (fun _ q => q) fun _ _ q => q
      rcases hc with z | z
      · rw [z]; exact nH b u e
      · exact nH c _ z
    · obtain ⟨_, g1, g2, g3, g4, g5⟩ := f3 b hb
      exact ⟨g3, g1, g4, g5⟩
  have pass : Passes (CXE X.prog X.w X.base) (cxCompX X own scope cl s3.heap.objs.size s3 (upd H2 P (.lst [])) fp (fun x s' => notedBy (model X.prog X.w) X.A (compEnvC scope cl s3.heap.objs.size X.env) (fun x s' => compPost (model X.prog X.w) X.A X.xe use Q (.ref P) s3.heap.objs.size (.error x) s') x s')) E := by
    intro pins' σ9 H9 s9 e s' I9 h
    obtain ⟨a, T', C', H', rfl, fly, nb, ha, hT, la, lT, os, bare, un, hok, q⟩ := h
    obtain ⟨hh, g', d', t', os'⟩ := s'
    obtain rfl : os' = s9.os := os
    have J := I9.call (h' := hh) (g' := g') (d' := d') (t' := t') (ch := []) un hok bare (fun b z => absurd z (by simp))
    have fr : X.A.frames = some X.stack := J.ok.frames
    have stk : hh.FunFrames X.base X.stack := J.stack
    have sfr : ∀ b ∈ frs X.stack, H' b = none := fun b hb => J.stkFree b hb
    show wpAny _ X.A (noteFrame (.ref a) X.env) (fun _ s'' => compPost (model X.prog X.w) X.A X.xe use Q (.ref P) s3.heap.objs.size (.error (.ref a)) s'') _ _
    rw [hst] at fr stk
    refine note_V (base := X.base) (L := X.env.locals) fr stk hlf fly.v J.bk nb fun h1 T1 v1 st1 fr1 f1 l1 kp sl => ?_
    rw [← hst] at kp sl
    have new : hh.objs.size ≤ T1 := by
      rcases l1 with z | z
      · exact absurd z.2 (by simp [rawInt])
      · exact z
    obtain ⟨U, O⟩ := gone_un2 un hok sfr kp sl ha la hT lT
    have J1 := Inv.call (s := s9) (h' := h1) (g' := g') (d' := d') (t' := t') (ch := []) I9 U O bare (fun b z => absurd z (by simp))
    obtain ⟨m, hn, _⟩ := J1.loc
    have H1n : H' T1 = none := J.hok.fresh new
    have sz3 : s3.heap.objs.size ≤ T1 := Nat.le_trans J.sz new
    have fo1 : FpOk X pins H' T1 := ⟨H1n, (I3.fpOk sz3 (I3.hok.fresh sz3)).2⟩
    have la0 : X.s₀.heap.get? a = none := by
      cases e : X.s₀.heap.get? a with
      | none => rfl
      | some o =>
        obtain ⟨o', e'⟩ := I3.base.there a o e (by rw [hex]; simp)
        by_cases hf : a ∈ fp
        · rcases (f3 a hf).2.2.2.1 with z | z
          · rw [hex] at z; simp at z
          · exact absurd (Nat.lt_of_lt_of_le (Heap.lt_size e) z) (Nat.lt_irrefl _)
        · obtain ⟨o2, e2⟩ := I9.base.there a o' e' hf
          rw [la] at e2
          cases e2
    refine ⟨m, hn, fun h' sb cenv _ => ?_⟩
    obtain ⟨oe, vs, oT, ts, ae, ce, da, v1', aT, dT, t3⟩ := id f1.x
    obtain ⟨oL, es, ep, hoL, hdL, _⟩ := hn
    have hoL : h1.get? s3.heap.objs.size = some oL := hoL
    have nCa : a ≠ s3.heap.objs.size := fun z => by
      rw [← z, ae] at hoL
      cases hoL
      rw [hdL] at da
      cases da
    have nCT : T1 ≠ s3.heap.objs.size := fun z => by
      rw [← z, aT] at hoL
      cases hoL
      rw [hdL] at dT
      cases dT
    have f2 : FlyV X.base h' a T1 (.ref C') v1 := ⟨⟨oe, vs, oT, ts, (sb.2 a nCa).trans ae, ce, da, v1', (sb.2 T1 nCT).trans aT, dT, t3⟩, f1.nT, f1.ne, fun o ho => f1.dn o ((sb.2 a nCa).symm.trans ho)⟩
    have JX := back J1.ofX h' sb
    unfold PySem.passOn
    refine wpAny_bind (wpAny_field (s := { s9 with heap := h', gens := g', drawn := d', toks := t' }) ((sb.2 a nCa).trans ae) da v1' ?_)
    rw [if_neg (by simp)]
    refine wpAny_bind (flight_V (s := { s9 with heap := h', gens := g', drawn := d', toks := t' }) f2 fun h4 f4 oth => wpAny_throw ?_)
    obtain ⟨g0, g1, g2, g3, g4, g5⟩ := fo1
    exact flies pins σ H' _ a T1 C' _ (JX.turned (t' := t') (fun b o hb e => (oth b hb).trans e) g0 g1 g3 g4 g5) f4 nb ha H1n la0 (none_ge (Nat.le_trans I3.sz sz3)) q
  have loop : codeAny (model X.prog X.w) X.A (.compLoop (.ListComp elt [⟨tg, iter, ifs, 0⟩] scope pos) 0 (.ref it) (.ref P) (compEnvC scope cl s3.heap.objs.size X.env)) (compPost (model X.prog X.w) X.A X.xe use Q (.ref P) s3.heap.objs.size) { s3 with heap := h4, toks := s3.toks + ([] : List (Str × Value)).length } := by
    refine codeAny_loop rfl (fun n s' => ∃ i σ' H', Inv (cxComp X own scope cl s3.heap.objs.size s3 (upd H2 P (.lst [])) fp) [] σ' H' s' ∧ tn i s'.heap ∧ (∀ b ∈ fp, H' b = none) ∧ W i n σ' H') ?_ m0 ⟨0, _, _, I4, T.keep _ _ _ st3' fun b _ o e => k4 b o e, fun b hb => (f3 b hb).1, w0⟩
    rintro n s5 ⟨i, σ5, H5, I5, st5, fr5, w5⟩
    show wpAny _ _ ((compTurn (.ListComp elt [⟨tg, iter, ifs, 0⟩] scope pos) 0 (.ref it) (.ref P) (compEnvC scope cl s3.heap.objs.size X.env)).onRaise (fun x => do noteFrame x (compEnvC scope cl s3.heap.objs.size X.env); theTreesLotGoes x)) _ _ s5
    refine wpAny_noted ?_
    rw [compTurn_list]
    have nE : ∀ {α : Type} {t : Sem α} {QQ : α → Shared → Prop} {E' : Value → Shared → Prop} {ss : Shared}, wpAny (model X.prog X.w) X.A t QQ (fun _ _ => False) ss → wpAny (model X.prog X.w) X.A t QQ E' ss := fun h => wpAny_mono h (fun _ _ q => q) fun _ _ z => z.elim
    refine wpAny_bind (wpAny_standAt (wpAny_bind ?_))
    rcases turn i n σ5 H5 w5 with ⟨stop, qn⟩ | ⟨go, N, hN, step⟩
    · refine thn (T.done (cxComp X own scope cl s3.heap.objs.size s3 (upd H2 P (.lst [])) fp) rfl rfl rfl hc i [] s5 σ5 H5 _ I5 (fpY fr5) st5 stop) fun r s6 ⟨hr, I6⟩ => ?_
      subst hr
      refine wpAny_pure ?_
      obtain ⟨m, hn, _⟩ := I6.loc
      exact fin P H5 s6 s3.heap.objs.size m (back I6 s6.heap (.refl ..)) (I3.fpOk (Nat.le_refl _) I6.free) hn qn
    · refine thn (T.item (cxComp X own scope cl s3.heap.objs.size s3 (upd H2 P (.lst [])) fp) rfl rfl rfl hc i [] s5 σ5 H5 _ I5 (fpY fr5) st5 go) fun r s6 ⟨u, hr, h6⟩ => ?_
      subst hr
      refine wpAny_bind (thn h6 fun _ s7 ⟨x, H7, I7, r7, y7, st7, fr7⟩ => ?_)
      have I7' := I7.pinned (fpY fr7) (T.obj _ _ st7)
      refine wpAny_bind (nE (thn (hg cl s3.heap.objs.size s3 (upd H2 P (.lst [])) fp _ s7 σ5 H7 x u _ I7' r7 (step x H7 y7)) fun _ s8 ⟨σ8, H8, I8, q8⟩ => ?_))
      have again : ∀ {s9 : Shared} {H9 : Hp}, Inv (cxComp X own scope cl s3.heap.objs.size s3 (upd H2 P (.lst [])) fp) ([] ++ pinsAt fp s7.heap) σ8 H9 s9 → N σ8 H9 → ∃ m, m < n ∧ ∃ i σ' H', Inv (cxComp X own scope cl s3.heap.objs.size s3 (upd H2 P (.lst [])) fp) [] σ' H' s9 ∧ tn i s9.heap ∧ (∀ b ∈ fp, H' b = none) ∧ W i m σ' H' := fun {s9 H9} I9 n9 => by
        obtain ⟨m', hm, w9⟩ := hN σ8 H9 n9
        refine ⟨m', hm, i + 1, σ8, H9, I9.unpinned, T.keep _ _ _ st7 fun b hb o e => (I9.pin (b, o) (List.mem_append_right _ (List.mem_append_right _ (mem_pinsAt hb e)))).1, fun b hb => ?_, w9⟩
        obtain ⟨o, e, d⟩ := T.obj _ _ st7 b hb
        exact (I9.pin (b, o) (List.mem_append_right _ (List.mem_append_right _ (mem_pinsAt hb e)))).2.1
      refine wpAny_bind (nE (thn (ht cl s3.heap.objs.size s3 (upd H2 P (.lst [])) fp _ s8 σ8 H8 _ I8 q8) fun ok s9 ⟨H9, I9, q9⟩ => ?_))
      cases ok with
      | false =>
        rw [if_neg (by decide)] at q9
        exact wpAny_pure ⟨rfl, again I9 q9⟩
      | true =>
        rw [if_pos rfl] at q9
        refine wpAny_bind (wpAny_bind (thn (he cl s3.heap.objs.size s3 (upd H2 P (.lst [])) fp _ pass _ s9 σ8 H9 _ I9.toX q9) fun y s10 ⟨v, H10, I10x, r10, ys, e10, l10, q10⟩ => ?_))
        have I10 := I10x.ofX
        refine wpAny_bind (nE (thn (mt_append (X := cxComp X own scope cl s3.heap.objs.size s3 (upd H2 P (.lst [])) fp) _ s10 σ8 H10 (.ref P) [v] (.ref P) [y] (fun _ H' => N σ8 H') I10 rfl (.cons r10 .nil) ⟨P, ys, v, rfl, rfl, e10, l10, q10⟩) fun _ s11 ⟨_, H11, I11, _, q11⟩ => ?_))
        exact wpAny_pure (wpAny_pure ⟨rfl, again I11 q11⟩)
  have lself := T.self X.A 0 ({ s3 with heap := h4, toks := s3.toks + ([] : List (Str × Value)).length } : Shared) (fun it' s' => codeAny (model X.prog X.w) X.A (.compLoop (.ListComp elt [⟨tg, iter, ifs, 0⟩] scope pos) 0 it' (.ref P) (compEnvC scope cl s3.heap.objs.size X.env)) (compPost (model X.prog X.w) X.A X.xe use Q (.ref P) s3.heap.objs.size) s')
    (notedBy (model X.prog X.w) X.A (compEnvC scope cl s3.heap.objs.size X.env) fun x s' => compPost (model X.prog X.w) X.A X.xe use Q (.ref P) s3.heap.objs.size (.error x) s') (T.keep _ _ _ st3' fun b _ o e => k4 b o e) loop
  exact codeAny_compStart_list loop lself


theorem pe_compE {X : Cx} {tg elt iter : Expr} {ifs : List Expr} {scope : Scope} {pos : Pos} {E : XK} (own : List Str) {wi : TI} {g : TG} {tc : TT} {te : TE}
    (hst : X.stack = X.env :: X.outer) (hlf : X.env.frame = some X.env.locals) (hex : X.ex = []) (flies : FliesOut X E) (hc : X.calm = true) (S : CompScope X.env.scope X.N own scope) (hi : PI X tg iter wi)
    (hg : ∀ cl C s₀ H₀ ex, PG (cxComp X own scope cl C s₀ H₀ ex) tg g) (ht : ∀ cl C s₀ H₀ ex, PIf (cxComp X own scope cl C s₀ H₀ ex) ifs tc) (he : ∀ cl C s₀ H₀ ex xe', Passes (CXE X.prog X.w X.base) (cxCompX X own scope cl C s₀ H₀ ex xe') E → PE (cxCompX X own scope cl C s₀ H₀ ex xe') elt te)
    (hs : ∀ x, foldedSetIterable iter X.env x = pure x := by intro _; rfl) :
    PE X (.ListComp elt [⟨tg, iter, ifs, 0⟩] scope pos) (tComp own.length wi g tc te) := by
  intro pins s σ H Q I h
  rw [eval_ListComp]
  refine comp_coreE (use := none) (R := fun p H' => Q (.ref p) H') hc S hi hg ht he hst hlf hex flies hs I h fun p H' s' C m I' f hn q => ?_
  obtain ⟨f0, f1, f2, f3, f4, f5⟩ := f
  exact ⟨m, hn, fun h' sb => ⟨.ref p, H', I'.turned (t' := s'.toks) (fun b o hb e => (sb.2 b hb).trans e) f0 f1 f3 f4 f5, rfl, q⟩⟩
end L2
namespace L2
open PySem PySem.Spec PyProof.Rows PySem.Calls
section
variable {prog : Program} {w : World} {A : Around} {R : Result → Shared → Prop} {it : Addr} {fp wr : List Addr} {n : Nat} {Pv : Nat → Value → Prop} {St : Nat → Heap → Prop} {val : Nat → Int} {dv : Value}
abbrev LeastAt (Pv : Nat → Value → Prop) (val : Nat → Int) (m : Nat) (u : Value) : Prop := ∃ i, i < m ∧ Pv i u ∧ ∀ i', i' < m → val i ≤ val i'
theorem minD_loop (wk : Walks prog w A.in1 it fp wr n Pv St) (hval : ∀ i v, Pv i v → ∃ t, v = .int (val i) t) (B : Addr) (nB : B ∉ fp) :
    ∀ (left j : Nat) (s : Shared) (u : Value) (cap : Nat), n - j = left → 0 < j → j ≤ n → St j s.heap → LeastAt Pv val j u →
    s.heap.get? B = some { cls := .type "list", dict := none, data := .seq #[u, u] cap, slots := #[] } →
    (∀ v hp tk, LeastAt Pv val n v → (∀ b o, b ∉ wr → b ≠ B → s.heap.get? b = some o → hp.get? b = some o) → R (.ok (.ret v)) { s with heap := hp, toks := tk }) →
    codeAny (model prog w) A (.builtin "min.loop" ⟨[.ref it, .none, .ref B], [("default", dv)]⟩) R s := by
  have nBw : B ∉ wr := fun z => nB (wk.sub _ z)
  have nm : (toString "min" ++ toString ".loop" : String) = "min.loop" := by decide
  have cm := CmpOf.ints_lt (prog := prog) (w := w) (A := A.in1) val hval
  intro left
  induction left with
  | zero =>
    intro j s u cap hl j0 jn hst lu hB fin
    obtain rfl : j = n := by omega
    refine codeAny_builtin F.entry_min_loop ?_
    rw [Around.under_plainId F.plain_min_loop _]
    show wpAny _ A.in1 (seqItems? (.ref B) >>= _) _ _ s
    refine wpAny_bind (wpAny_seqItems hB rfl ?_)
    show wpAny _ A.in1 (tryCatch (pyNext (.ref it)) _ >>= _) _ _ s
    refine wpAny_bind (wpAny_tryCatch (wk.done s _ _ hst fun hp tk kp => ?_))
    have hB1 := kp B _ nBw hB
    show wpAny _ A.in1 (updateSeq B (fun _ => #[]) >>= _) _ _ _
    refine wpAny_bind ?_
    refine wpAny_updateSeq hB1 rfl (wpAny_bind (wpAny_letGo (wpAny_pure ?_)))
    exact fin u _ tk lu fun b o nb1 nb2 e => (Heap.get?_update_other _ _ (Ne.symm nb2)).trans (kp b o nb1 e)
  | succ left ih =>
    intro j s u cap hl j0 jn hst lu hB fin
    have lt : j < n := by omega
    refine codeAny_builtin F.entry_min_loop ?_
    rw [Around.under_plainId F.plain_min_loop _]
    show wpAny _ A.in1 (seqItems? (.ref B) >>= _) _ _ s
    refine wpAny_bind (wpAny_seqItems hB rfl ?_)
    show wpAny _ A.in1 (tryCatch (pyNext (.ref it)) _ >>= _) _ _ s
    refine wpAny_bind (wpAny_tryCatch (wk.item j s _ _ lt hst fun v hp tk pv st1 kp => ?_))
    have hB1 := kp B _ nBw hB
    obtain ⟨i, hi, pi, le⟩ := lu
    show wpAny _ A.in1 (tryCatch (holding [v, v] (richCompare .Lt v u >>= _)) _ >>= _) _ _ _
    refine wpAny_bind (wpAny_tryCatch (wpAny_holding (wpAny_bind (cm j i v u _ _ _ pv pi ?_))))
    refine wpAny_bind (wpAny_holding (wpAny_truthy_bool ?_))
    refine wpAny_bind (wpAny_letGo (wpAny_pure ?_))
    by_cases hb : val j < val i
    · rw [if_pos (show (fun i j => decide (val i < val j)) j i = true from decide_eq_true hb)]
      refine wpAny_bind ?_
      refine wpAny_updateSeq hB1 rfl (wpAny_bind (wpAny_letGo ?_))
      rw [nm]
      refine wpAny_pure ⟨plainId_quiet F.plain_min_loop _, ih (j + 1) _ v _ (by omega) (by omega) lt (wk.frame _ _ _ st1 fun b hbf o e => ?_) ⟨j, by omega, pv, fun i' h' => ?_⟩ (Heap.get?_update_self _ hB1 rfl) fun v2 hp2 tk2 l2 kp2 => ?_⟩
      · exact (Heap.get?_update_other _ _ (fun z : B = b => nB (z ▸ hbf))).trans e
      · by_cases z : i' = j
        · rw [z]; exact Int.le_refl _
        · exact Int.le_trans (Int.le_of_lt hb) (le i' (by omega))
      · exact fin v2 hp2 tk2 l2 fun b o nb1 nb2 e => kp2 b o nb1 nb2 ((Heap.get?_update_other _ _ (Ne.symm nb2)).trans (kp b o nb1 e))
    · rw [if_neg (show ¬ (fun i j => decide (val i < val j)) j i = true from by simp [hb])]
      refine wpAny_bind (wpAny_letGo ?_)
      rw [nm]
      refine wpAny_pure ⟨plainId_quiet F.plain_min_loop _, ih (j + 1) _ u cap (by omega) (by omega) lt st1 ⟨i, by omega, pi, fun i' h' => ?_⟩ hB1 fun v2 hp2 tk2 l2 kp2 => fin v2 hp2 tk2 l2 fun b o nb1 nb2 e => kp2 b o nb1 nb2 (kp b o nb1 e)⟩
      by_cases z : i' = j
      · rw [z]; exact Int.not_lt.mp hb
      · exact le i' (by omega)
theorem minD_first (wk : Walks prog w A.in1 it fp wr n Pv St) (hval : ∀ i v, Pv i v → ∃ t, v = .int (val i) t) (B : Addr) (nB : B ∉ fp) {s : Shared} {cap : Nat} (hst : St 0 s.heap)
    (hB : s.heap.get? B = some { cls := .type "list", dict := none, data := .seq #[] cap, slots := #[] })
    (fin : ∀ v hp tk, (n = 0 ∧ v = dv ∨ LeastAt Pv val n v) → (∀ b o, b ∉ wr → b ≠ B → s.heap.get? b = some o → hp.get? b = some o) → R (.ok (.ret v)) { s with heap := hp, toks := tk }) :
    codeAny (model prog w) A (.builtin "min.loop" ⟨[.ref it, .none, .ref B], [("default", dv)]⟩) R s := by
  have nBw : B ∉ wr := fun z => nB (wk.sub _ z)
  have nm : (toString "min" ++ toString ".loop" : String) = "min.loop" := by decide
  refine codeAny_builtin F.entry_min_loop ?_
  rw [Around.under_plainId F.plain_min_loop _]
  show wpAny _ A.in1 (seqItems? (.ref B) >>= _) _ _ s
  refine wpAny_bind (wpAny_seqItems hB rfl ?_)
  show wpAny _ A.in1 (tryCatch (pyNext (.ref it)) _ >>= _) _ _ s
  by_cases h0 : n = 0
  · subst h0
    refine wpAny_bind (wpAny_tryCatch (wk.done s _ _ hst fun hp tk kp => ?_))
    refine wpAny_bind (wpAny_rule (wpAny_pure ?_))
    exact fin dv hp tk (.inl ⟨rfl, rfl⟩) fun b o nb1 _ e => kp b o nb1 e
  · refine wpAny_bind (wpAny_tryCatch (wk.item 0 s _ _ (by omega) hst fun v hp tk pv st1 kp => ?_))
    have hB1 := kp B _ nBw hB
    show wpAny _ A.in1 (updateSeq B (fun _ => #[v, v]) >>= _) _ _ _
    refine wpAny_bind ?_
    refine wpAny_updateSeq hB1 rfl ?_
    rw [nm]
    refine wpAny_pure ⟨plainId_quiet F.plain_min_loop _, minD_loop wk hval B nB _ 1 _ v _ rfl (by decide) (by omega) (wk.frame _ _ _ st1 fun b hbf o e => ?_) ⟨0, by decide, pv, fun i' h' => by rw [show i' = 0 by omega]; exact Int.le_refl _⟩ (Heap.get?_update_self _ hB1 rfl) fun v2 hp2 tk2 l2 kp2 => ?_⟩
    · exact (Heap.get?_update_other _ _ (fun z : B = b => nB (z ▸ hbf))).trans e
    · exact fin v2 hp2 tk2 (.inr l2) fun b o nb1 nb2 e => kp2 b o nb1 nb2 ((Heap.get?_update_other _ _ (Ne.symm nb2)).trans (kp b o nb1 e))
end
section
variable {prog : Program} {w : World} {A : Around} {E : Value → Shared → Prop} {s : Shared}
theorem args_minD (a d : Value) : argsOk "min" ⟨[a], [("default", d)]⟩ := by unfold argsOk; kernel_rfl
theorem call_minD {l : Addr} {its : Array Value} {val : Nat → Int} {dv : Value} {Q : Value → Shared → Prop} (hh : A.handled = none) (hl : s.heap.IsList l its) (hval : ∀ (i : Nat) v, its[i]? = some v → ∃ t, v = .int (val i) t)
    (fin : ∀ v hp tk, (its.size = 0 ∧ v = dv ∨ LeastAt (fun i v => its[i]? = some v) val its.size v) → (∀ b o, s.heap.get? b = some o → hp.get? b = some o) → Q v { s with heap := hp, toks := tk }) :
    wpAny (model prog w) A (call (.builtin "min") [.ref l] [("default", dv)]) Q E s := by
  have nm : (toString "min" ++ toString ".loop" : String) = "min.loop" := by decide
  refine wpAny_call (codeAny_call_builtin F.plain_min F.entry_min ?_)
  have bp : Builtin.Builtins.bindParams "min" ["key", "default"] 0 ⟨[], [("default", dv)]⟩ = pure [none, some dv] := rfl
  have ao := args_minD (.ref l) dv
  unfold argsOk at ao
  simp only [checkBuiltinCall, F.kind_min]
  have body : wpAny (model prog w) A.in1 (Builtin.«min» ⟨[.ref l], [("default", dv)]⟩) (fun f s' => match f with
      | .done f => (match (Except.ok f : Result) with | .ok (.ret v) => Q v s' | .ok _ => False | .error e => E e s')
      | .again c' => c'.quiet = true ∧ codeAny (model prog w) A c' (fun r s' => match r with | .ok (.ret v) => Q v s' | .ok _ => False | .error e => E e s') s') E s := by
    show wpAny _ A.in1 (Builtin.Builtins.bindParams "min" ["key", "default"] 0 ⟨[], [("default", dv)]⟩ >>= _) _ _ s
    rw [bp]
    refine wpAny_bind (wpAny_pure (wpAny_bind (wpAny_pure (wpAny_bind ?_))))
    refine wpAny_pyIter_list hl ?_
    refine wpAny_bind (wpAny_newObj_type ?_)
    rw [nm]
    have llt : l < s.heap.objs.size := by obtain ⟨_, e, _⟩ := hl; exact Heap.lt_size e
    generalize hh1 : s.heap.push { cls := .type "list_iterator", data := .fields #[.ref l, .int 0 0] } = h1
    have i1 : h1.IsListIter s.heap.objs.size l 0 := by rw [← hh1]; exact ⟨_, Heap.get?_push_size _ rfl, rfl, rfl⟩
    have l1 : h1.IsList l its := by rw [← hh1]; exact hl.push _
    have k1 : ∀ b o, s.heap.get? b = some o → h1.get? b = some o := fun b o e => by rw [← hh1]; exact Heap.get?_push_of_some _ e
    have z1 : h1.objs.size = s.heap.objs.size + 1 := by rw [← hh1]; exact Heap.size_push ..
    have wk := Walks.list (prog := prog) (w := w) (A := A.in1) hh s.heap.objs.size l (Nat.ne_of_lt llt) its
    refine wpAny_pure ⟨plainId_quiet F.plain_min_loop _, minD_first wk hval h1.objs.size ?_ ?_ (Heap.get?_push_size _ rfl) fun v hp tk lv kp => ?_⟩
    · intro z
      have z2 : h1.objs.size = s.heap.objs.size ∨ h1.objs.size = l := by simpa using z
      have z3 : l < s.heap.objs.size := llt
      rw [z1] at z2
      rcases z2 with q | q
      · exact absurd q (Nat.succ_ne_self _)
      · rw [← q] at z3
        exact absurd (Nat.lt_of_succ_lt z3) (Nat.lt_irrefl _)
    · exact wk.frame _ _ _ ⟨i1, l1⟩ fun b _ o e => Heap.get?_push_of_some _ e
    · refine fin v hp tk lv fun b o e => kp b o ?_ (Nat.ne_of_lt ?_) (Heap.get?_push_of_some _ (k1 b o e))
      · intro z
        have z2 : b = s.heap.objs.size := by simpa using z
        exact absurd (Heap.lt_size e) (by rw [z2]; exact Nat.lt_irrefl _)
      · rw [z1]
        exact Nat.lt_succ_of_lt (Heap.lt_size e)
  cases sg : Manifest.signature? "min" with
  | none => exact wpAny_pure body
  | some sig =>
    rw [sg] at ao
    simp only [ao]
    exact wpAny_pure body
end
def tMinD (K : PySem.W.Frag) (ta tk : TA) : TE := fun σ H Q => ta σ H fun vs H1 => tk σ H1 fun zs H2 => ∃ (p : Addr) (ns : List Int) (d : Int), vs = [.ref p] ∧ zs = [.int d] ∧ SqL K H2 p (ns.map V.int) ∧ ∀ m, ((ns = [] ∧ m = d) ∨ (m ∈ ns ∧ ∀ x ∈ ns, m ≤ x)) → Q (.int m) H2
theorem rd_minD {K : PySem.W.Frag} {ta tk : TA} {σ : St} {H : Hp} {Q : VK} (q : ta σ H fun vs H1 => tk σ H1 fun zs H2 => ∃ (p : Addr) (ns : List Int) (d : Int), vs = [.ref p] ∧ zs = [.int d] ∧ SqL K H2 p (ns.map V.int) ∧ ∀ m, ((ns = [] ∧ m = d) ∨ (m ∈ ns ∧ ∀ x ∈ ns, m ≤ x)) → Q (.int m) H2) : tMinD K ta tk σ H Q := q
theorem pe_minD {X : Cx} {a e : Expr} {ta tk : TA} {p pos kp : Pos} (hc : X.calm = true) (hg : Gl X "min") (hm : X.mg "min" = none) (ha : PA X [a] ta) (hk : PK X [⟨some "default", e, kp⟩] tk)
    (he : backTo pos (starEach [a] X.env) = (false, eval a X.env) :: backTo pos (starEach [] X.env) := by rfl) (hpl : (backTo pos (starEach [a] X.env)).any (·.1) = false := by rfl) : PE X (.Call (.Name "min" p) [a] [⟨some "default", e, kp⟩] pos) (tMinD X.K ta tk) := by
  intro pins s σ H Q I h
  refine wpAny_Call_Name_kw (ld_blt I hg hm boot_min ?_)
  refine callWith_kw (thn (ha pos pins s σ H _ I h) fun us s1 ⟨vs, H1, I1, r1, q1⟩ => thn (hk pos pins s1 σ H1 _ I1 q1) fun ws s2 ⟨zs, H2, I2, rz, q2⟩ => ?_) he hpl
  obtain ⟨l, ns, d, rfl, rfl, hq, q⟩ := q2
  obtain ⟨u, rfl, rx⟩ := vals1 r1
  cases rx
  obtain ⟨y, rfl, ⟨t, rfl⟩⟩ := vals1 rz
  obtain ⟨its, rv, pl, hz⟩ := I2.list hq
  have hlen : its.length = ns.length := by rw [← rv.length, List.length_map]
  show wpAny _ _ (call (.builtin "min") [.ref l] [("default", .int d t)]) _ _ _
  have at' : ∀ (i : Nat) v, its.toArray[i]? = some v → ∃ c t, ns[i]? = some c ∧ v = .int c t := fun i v e => by
    have e : its[i]? = some v := by simpa using e
    have hi : i < ns.length := by rw [← hlen]; exact (List.getElem?_eq_some_iff.mp e).1
    obtain ⟨u, e2, r⟩ := rv.get (i := i) (x := .int ns[i]) (by rw [List.getElem?_map, List.getElem?_eq_getElem hi]; rfl)
    rw [e] at e2
    cases e2
    obtain ⟨t, rfl⟩ := r
    exact ⟨_, t, List.getElem?_eq_getElem hi, rfl⟩
  refine call_minD (I2.ok.hd hc) pl.isList (val := fun i => ns.getD i 0) (fun i v e => ?_) fun v hp tk lv kp => ?_
  · obtain ⟨c, t, e1, rfl⟩ := at' i v e
    exact ⟨t, by simp [List.getD, e1]⟩
  · have sz : its.toArray.size = ns.length := by simpa using hlen
    rcases lv with ⟨h0, rfl⟩ | ⟨i, hi, ev, le⟩
    · exact ⟨.int d, H2, I2.kept (t' := tk) kp, ⟨t, rfl⟩, q d (.inl ⟨List.eq_nil_of_length_eq_zero (by omega), rfl⟩)⟩
    · obtain ⟨c, t2, e1, rfl⟩ := at' i v ev
      refine ⟨.int c, H2, I2.kept (t' := tk) kp, ⟨t2, rfl⟩, q c (.inr ⟨List.mem_of_getElem? e1, fun x hx => ?_⟩)⟩
      obtain ⟨j, hj⟩ := List.getElem?_of_mem hx
      have := le j (by rw [sz]; exact (List.getElem?_eq_some_iff.mp hj).1)
      simpa [List.getD, e1, hj] using this
theorem strSub_len (x : Str) (i j : Nat) : (Builtin.Str.strSub x i j).length ≤ x.length := by
  have e : (Builtin.Str.strSub x i j).length = (Builtin.Str.strSub x i j).cps.toList.length := by simp [Str.length]
  have e2 : x.length = x.cps.toList.length := by simp [Str.length]
  rw [e, StrLaws.strSub_toList, e2, List.length_take, List.length_drop]
  omega
theorem split_len (x y : Str) : (Txt.split x y).length ≤ x.length + 2 := by
  unfold Txt.split
  split
  · exact Nat.le_add_left 1 _
  · split
    · exact Nat.le_add_left 1 _
    · unfold Builtin.Str.partsBetween
      have := StrLaws.occ_length_le x y 0 x.length (x.length + 1)
      simp only [List.length_map, List.length_zip, List.length_cons, List.length_append, List.length_nil]
      omega
theorem split_part {x y z : Str} (h : z ∈ Txt.split x y) : z.length ≤ x.length := by
  unfold Txt.split at h
  split at h
  · rw [List.mem_singleton.mp h]; exact Nat.le_refl _
  · split at h
    · rw [List.mem_singleton.mp h]; exact Nat.le_refl _
    · unfold Builtin.Str.partsBetween at h
      obtain ⟨⟨i, j⟩, _, rfl⟩ := List.mem_map.mp h
      exact strSub_len x i j
end L2
local macro_rules | `(tactic| walk_at "settle") => `(tactic| first
  | (simp only [L2.start, List.map_cons, List.map_nil, List.length_cons, List.length_nil, List.replicate, List.cons_append, List.nil_append, List.append_nil, List.set_cons_zero, List.set_cons_succ, Nat.reduceAdd, Nat.reduceSub]; done)
  | (simp only [L2.start, List.map_cons, List.map_nil, List.length_cons, List.length_nil, List.replicate, List.cons_append, List.nil_append, List.append_nil, List.set_cons_zero, List.set_cons_succ, Nat.reduceAdd, Nat.reduceSub]; rfl)
  | rfl
  | fail)
local macro_rules | `(tactic| walk_at "side") => `(tactic| first
  | exact ⟨by decide, by decide⟩
  | exact ⟨by decide, by decide, by decide⟩
  | (show (0:Int) < _; first | decide | omega)
  | (show (0:Int) ≤ _; first | decide | omega)
  | (show (0:Int) < _ ∧ _ < _; refine ⟨by omega, by omega⟩)
  | (show (_ ∧ _) ∨ _; refine .inl ⟨by omega, by omega⟩)
  | (show _ ∨ (_ ∧ _); refine .inr ⟨by omega, by omega⟩)
  | fail)
local macro_rules | `(tactic| walk_at "rd") => `(tactic| first
  | with_reducible refine L2.rd_seq ?_
  | with_reducible refine L2.rd_asg ?_
  | ((with_reducible refine' L2.rd_nameN ?e ?_); (case e => walk_at "settle"))
  | with_reducible refine L2.rd_C ?_
  | ((with_reducible refine' L2.rd_V ?e ?_); (case e => rfl))
  | with_reducible refine L2.rd_op ?_
  | with_reducible refine L2.rd_I0 ?_
  | ((with_reducible refine' L2.rd_I ?c ?_); (case c => walk_at "side"))
  | with_reducible refine L2.rd_eqI ?_
  | with_reducible refine L2.rd_eqS ?_
  | with_reducible refine L2.rd_neI ?_
  | with_reducible refine L2.rd_neS ?_
  | with_reducible refine L2.rd_eqB ?_
  | with_reducible refine L2.rd_neB ?_
  | with_reducible refine L2.rd_test ?_
  | with_reducible refine L2.rd_B ?_
  | with_reducible refine L2.rd_bl ?_
  | with_reducible refine L2.rd_ifS ?_
  | with_reducible refine L2.rd_if ?_
  | with_reducible refine L2.rd_iteD (fun _ => ?_) (fun _ => ?_)
  | with_reducible refine L2.rd_iteND (fun _ => ?_) (fun _ => ?_)
  | with_reducible refine L2.rd_iteNND (fun _ => ?_) (fun _ => ?_)
  | with_reducible refine L2.iteT ?_
  | with_reducible refine L2.iteF ?_
  | with_reducible refine L2.iteNT ?_
  | with_reducible refine L2.iteNF ?_
  | with_reducible refine L2.rd_ret ?_
  | with_reducible refine L2.rd_next ?_
  | with_reducible refine L2.rd_drop ?_
  | with_reducible refine L2.rd_and ?_
  | with_reducible refine L2.rd_or ?_
  | with_reducible refine L2.rd_not ?_
  | with_reducible refine L2.rd_andV ?_
  | with_reducible refine L2.rd_orV ?_
  | with_reducible refine L2.rd_notV ?_
  | with_reducible refine L2.rd_cons ?_
  | with_reducible refine L2.rd_nil ?_
  | with_reducible refine L2.rd_vals ?_
  | with_reducible refine L2.rd_call ?_
  | with_reducible refine L2.rd_CB ?_
  | with_reducible refine L2.rd_chain ?_
  | with_reducible refine L2.rd_un ?_
  | with_reducible refine L2.rd_U ?_
  | with_reducible refine L2.rd_tup ?_
  | with_reducible refine L2.rd_lst ?_
  | fail)
local macro_rules | `(tactic| walk_at "sql") => `(tactic| first
  | assumption
  | exact L2.sql_new
  | exact L2.sqt_new
  | exact L2.sql_of (by assumption)
  | exact L2.sqt_of (by assumption)
  | exact L2.TupK.sqt (by assumption) _
  | (refine L2.SqL.updN ?_ (by assumption); walk_at "sql")
  | (refine L2.SqT.updN ?_ (by assumption); walk_at "sql")
  | fail)
local macro_rules | `(tactic| walk_at "hp") => `(tactic| first
  | assumption
  | exact L2.upd_same
  | exact Eq.trans (L2.upd_ne (L2.ne_of_none L2.upd_same (by assumption))) L2.upd_same
  | fail)
local macro_rules | `(tactic| walk_at "rdl") => `(tactic| first
  | walk_at "rd"
  | ((with_reducible refine' L2.rd_ixL ?h ?e ?_); (case h => walk_at "sql"); (case e => rfl))
  | ((with_reducible refine' L2.rd_ixT ?h ?e ?_); (case h => walk_at "sql"); (case e => rfl))
  | with_reducible refine L2.rd_sl ?_
  | with_reducible refine L2.rd_noPart ?_
  | with_reducible refine L2.rd_part ?_
  | with_reducible refine L2.rd_ei ?_
  | ((with_reducible refine' L2.rd_slL ?h ?_); (case h => walk_at "sql"))
  | fail)
local macro_rules | `(tactic| walk_at "rda") => `(tactic| first
  | walk_at "rdl"
  | ((with_reducible refine' L2.rd_aug ?e ?_); (case e => rfl))
  | with_reducible refine L2.rd_ipI ?_
  | with_reducible refine L2.rd_max2 ?_
  | with_reducible refine L2.rd_min2 ?_
  | with_reducible refine L2.rd_abs ?_
  | ((with_reducible refine' L2.rd_isi ?e ?_); (case e => rfl))
  | ((with_reducible refine' L2.rd_isiS ?e ?_); (case e => rfl))
  | ((with_reducible refine' L2.rd_isiT ?h ?e ?_); (case h => walk_at "sql"); (case e => rfl))
  | ((with_reducible refine' L2.rd_isiL ?h ?e ?_); (case h => walk_at "sql"); (case e => rfl))
  | ((with_reducible refine' L2.rd_lenL ?h ?_); (case h => walk_at "sql"))
  | ((with_reducible refine' L2.rd_lenT ?h ?_); (case h => walk_at "sql"))
  | fail)
local macro_rules | `(tactic| walk_at "sz") => `(tactic| first
  | assumption
  | exact Nat.le_trans (by assumption) (by decide)
  | decide
  | fail)
local macro_rules | `(tactic| walk_at "rdt") => `(tactic| first
  | walk_at "rda"
  | with_reducible refine L2.rd_bm ?_
  | with_reducible refine L2.rd_bm0 ?_
  | with_reducible refine L2.rd_tyS ?_
  | with_reducible refine L2.rd_find ?_
  | with_reducible refine L2.rd_inS ?_
  | with_reducible refine L2.rd_notInS ?_
  | with_reducible refine L2.rd_sb ?_
  | with_reducible refine L2.rd_ord ?_
  | with_reducible refine L2.rd_isN0 ?_
  | with_reducible refine L2.rd_isNi ?_
  | with_reducible refine L2.rd_isNr ?_
  | with_reducible refine L2.rd_notN0 ?_
  | with_reducible refine L2.rd_notNi ?_
  | with_reducible refine L2.rd_notNr ?_
  | ((with_reducible refine' L2.rd_lenZ ?h ?_); (case h => walk_at "sz"))
  | ((with_reducible refine' L2.rd_slS ?h ?_); (case h => walk_at "sz"))
  | fail)
local macro_rules | `(tactic| walk_at "rdq") => `(tactic| first
  | ((with_reducible refine L2.rd_iteD (fun _ => ?_) (fun _ => ?_)) <;> (try (exfalso; omega)))
  | ((with_reducible refine L2.rd_iteND (fun _ => ?_) (fun _ => ?_)) <;> (try (exfalso; omega)))
  | ((with_reducible refine L2.rd_iteNND (fun _ => ?_) (fun _ => ?_)) <;> (try (exfalso; omega)))
  | walk_at "rdt"
  | fail)
local macro_rules | `(tactic| walk_at "rdj") => `(tactic| first
  | ((with_reducible refine' L2.rd_addJ ?h (fun _ _ => ?_)); (case h => omega))
  | ((with_reducible refine' L2.rd_slJ ?h (fun _ _ => ?_)); (case h => omega))
  | walk_at "rdq"
  | fail)
local macro_rules | `(tactic| walk_at "rdm") => `(tactic| first
  | walk_at "rdt"
  | ((with_reducible refine' L2.rd_listL ?h (fun _ _ => ?_)); (case h => walk_at "sql"))
  | ((with_reducible refine' L2.rd_listT ?h (fun _ _ => ?_)); (case h => walk_at "sql"))
  | with_reducible refine L2.rd_gsub ?_
  | fail)
local macro_rules | `(tactic| walk_at "rdk") => `(tactic| first
  | walk_at "rdm"
  | with_reducible refine L2.rd_fld ?_
  | with_reducible refine L2.rd_sfld ?_
  | with_reducible refine L2.rd_fldaug ?_
  | with_reducible refine L2.rd_rAdd ?_
  | with_reducible refine L2.rd_rSub ?_
  | with_reducible refine L2.rd_meth ?_
  | with_reducible refine L2.rd_make ?_
  | ((with_reducible refine' L2.rd_sum ?h ?_); (case h => walk_at "sql"))
  | with_reducible refine L2.rd_dget2 ?_
  | with_reducible refine L2.rd_dnewK (fun _ _ => ?_)
  | with_reducible refine L2.rd_din ?_
  | with_reducible refine L2.rd_dnotin ?_
  | with_reducible refine L2.rd_dget ?_
  | with_reducible refine L2.rd_dput ?_
  | with_reducible refine L2.rd_dpop1 ?_
  | with_reducible refine L2.rd_dpop2 ?_
  | with_reducible refine L2.rd_gcons ?_
  | with_reducible refine L2.rd_gnil ?_
  | ((with_reducible refine' L2.rd_gtup ?h ?e ?_); (case h => walk_at "sql"); (case e => rfl))
  | fail)
local macro_rules | `(tactic| walk_at "rdz") => `(tactic| first
  | ((with_reducible refine L2.rd_iteD (fun _ => ?_) (fun _ => ?_)) <;> (try (exfalso; omega)))
  | ((with_reducible refine L2.rd_iteND (fun _ => ?_) (fun _ => ?_)) <;> (try (exfalso; omega)))
  | ((with_reducible refine L2.rd_iteNND (fun _ => ?_) (fun _ => ?_)) <;> (try (exfalso; omega)))
  | walk_at "rdk"
  | fail)
local macro_rules | `(tactic| walk_at "rdx") => `(tactic| first
  | with_reducible refine L2.rd_iteD (fun h => absurd h (by decide)) (fun _ => ?_)
  | with_reducible refine L2.rd_iteD (fun _ => ?_) (fun h => absurd (by decide) h)
  | with_reducible refine L2.rd_iteND (fun h => absurd (by decide) h) (fun _ => ?_)
  | with_reducible refine L2.rd_iteND (fun _ => ?_) (fun h => absurd h (by decide))
  | walk_at "rdk"
  | fail)
namespace My
open PySem L2
def top (i : Nat) : Stmt := PySem.Challenge.pw_meterhouse_k51_papers_texts.main.body.getD i (.Pass ⟨0, 0, 0, 0⟩)
abbrev s_is_number : Stmt := top 18
abbrev s_well_written : Stmt := top 19
abbrev s_number_of : Stmt := top 20
abbrev s_shown_numbers : Stmt := top 24
abbrev s_show_paper : Stmt := top 25
abbrev s_read_number : Stmt := top 26
abbrev s_read_numbers : Stmt := top 27
abbrev s_read_paper : Stmt := top 28
abbrev s_Lcell_at : Stmt := top 30
abbrev s_Lwhole : Stmt := top 31
abbrev s_Lnumber_of : Stmt := top 32
abbrev s_Ltext : Stmt := top 33
abbrev s_Lnumbers_of : Stmt := top 34
abbrev s_Lpaper_of : Stmt := top 35
abbrev s_Lis : Stmt := top 36
abbrev s_Lrefused_by_any : Stmt := top 37
abbrev s_Lread : Stmt := top 38
abbrev s_Lspoilt : Stmt := top 39
abbrev s_Lnumber : Stmt := top 40
abbrev s_law : Stmt := top 41
def readN (ds : List Nat) : Option Nat :=
  if ds.length = 0 ∨ 20 < ds.length then none else if ds.all isDig = true then (if 18446744073709551616 ≤ dval ds ∨ (ds[0]? = some 48 ∧ 1 < ds.length) then none else some (dval ds)) else none
def wellN (ds : List Nat) : Bool := decide (1 ≤ ds.length) && decide (ds.length ≤ 20) && !(decide (ds[0]? = some 48) && decide (1 < ds.length)) && ds.all isDig
theorem readN_well {ds : List Nat} (h : wellN ds = true) : readN ds = if 18446744073709551616 ≤ dval ds then none else some (dval ds) := by
  unfold wellN at h
  simp only [Bool.and_eq_true, Bool.not_eq_true', decide_eq_true_eq, Bool.and_eq_false_iff, decide_eq_false_iff_not] at h
  obtain ⟨⟨⟨h1, h2⟩, h3⟩, h4⟩ := h
  unfold readN
  rw [if_neg (by omega), if_pos h4]
  by_cases hw : 18446744073709551616 ≤ dval ds
  · rw [if_pos (.inl hw), if_pos hw]
  · rw [if_neg hw, if_neg]
    rintro (z | z)
    · exact hw z
    · exact h3.elim (fun q => q z.1) (fun q => q z.2)
theorem readN_ill {ds : List Nat} (h : wellN ds = false) : readN ds = none := by
  unfold readN
  split
  · rfl
  rename_i h1
  split
  · rename_i h2
    split
    · rfl
    · rename_i h3
      exfalso
      unfold wellN at h
      rw [h2, decide_eq_true (by omega), decide_eq_true (by omega)] at h
      simp only [Bool.and_true, Bool.true_and, Bool.not_eq_false', Bool.and_eq_true, decide_eq_true_eq] at h
      exact h3 (.inr h)
  · rfl
theorem well_no {ds : List Nat} (h : ds.length = 0 ∨ 20 < ds.length) : wellN ds = false := by
  unfold wellN
  rcases h with h | h
  · rw [decide_eq_false (by omega)]; rfl
  · rw [decide_eq_false (p := ds.length ≤ 20) (by omega), Bool.and_false]; rfl
theorem well_nought {ds : List Nat} (h : ds[0]? = some 48) (h1 : 1 < ds.length) : wellN ds = false := by
  unfold wellN
  rw [decide_eq_true h, decide_eq_true h1]
  simp
theorem well_yes {ds : List Nat} (h1 : 1 ≤ ds.length) (h2 : ds.length ≤ 20) (h3 : ds[0]? ≠ some 48 ∨ ds.length ≤ 1) : wellN ds = ds.all isDig := by
  unfold wellN
  rw [decide_eq_true h1, decide_eq_true h2]
  have : (decide (ds[0]? = some 48) && decide (1 < ds.length)) = false := by
    rcases h3 with h | h
    · rw [decide_eq_false h]; rfl
    · rw [decide_eq_false (p := 1 < ds.length) (by omega), Bool.and_false]
  rw [this]
  simp
def spIsNum : Sp := fun vs H Q _ => ∃ i, vs = [.int i] ∧ Q (.bl (decide (0 ≤ i) && decide (i < 18446744073709551616))) H
def spWell : Sp := fun vs H Q _ => ∃ z, vs = [.str z] ∧ z.length ≤ sizeLine ∧ ∀ H', Same H H' → Q (.bl (wellN z.cps.toList)) H'
def spNumOf : Sp := fun vs H Q _ => ∃ z, vs = [.str z] ∧ z.length ≤ sizeLine ∧ ∀ H', Same H H' → Q (optV (readN z.cps.toList)) H'
theorem str_head {z : Str} {c : Nat} (e : z.cps.toList[0]? = some c) : (⟨#[c]⟩ : Str) = Str.ofString "0" ↔ z.cps.toList[0]? = some 48 := by
  rw [e]
  constructor
  · intro h
    have : #[c] = #[48] := congrArg Str.cps h
    simp at this
    rw [this]
  · intro h
    cases h
    rfl
theorem str_zero {z : Str} (h : z.cps.toList[0]? = some 48) : z = Str.ofString "0" ↔ z.length = 1 := by
  constructor
  · rintro rfl; rfl
  · intro hl
    have hl2 : z.cps.toList.length = 1 := by rw [len_cps]; exact hl
    cases e : z.cps.toList with
    | nil => rw [e] at hl2; cases hl2
    | cons a r =>
      rw [e] at h hl2
      cases h
      cases r with
      | nil =>
        obtain ⟨cps⟩ := z
        have : cps = #[48] := by
          apply Array.ext'
          exact e
        rw [this]
        rfl
      | cons b r => simp at hl2
theorem all_signs (z : Str) : ((z.cps.toList.map isDig).all id) = z.cps.toList.all isDig := by
  rw [List.all_map]
  rfl

section
variable {P : Program} {w : World} {K : PySem.W.Frag} {mg : Str → Option Value} {base : Heap}
theorem sc_is_number : FnScope ["whole"] ["whole"] (defScope s_is_number) := ⟨rfl, rfl, rfl, by decide +kernel, rfl, by decide +kernel, by decide +kernel⟩
theorem ok_is_number    (D : DefAt K mg "is_number" s_is_number) (g_WIDE : GlobAt mg "WIDE" (.int 18446744073709551616)) : Cal P w K mg base 1 "is_number" spIsNum := by
  refine cal_of (N := ["whole"]) (ps := ["whole"]) D sc_is_number (fun vs H Q E h => ?_) (fun _ _ _ _ _ _ us hl => match us, hl with | [_], _ => rfl) (fun f cdv A outer s H vs Q E hr h => ?_)
  · obtain ⟨i, rfl, _⟩ := h; rfl
  · obtain ⟨i, rfl, k⟩ := h
    refine ⟨_, (pss_one (ps_ret (pe_chain op_le op_lt pe_int (pv 0) (pe_glA rfl g_WIDE)))), ?_⟩
    try simp only [nox_K, nox_P, nox_w, nox_mg, nox_base, cxOf_K, cxOf_P, cxOf_w, cxOf_mg, cxOf_base]
    repeat' walk_at "rdt"
    · rename_i h0
      exact rd_fin (by rw [decide_eq_true h0, Bool.true_and]) k
    · rename_i h0
      exact rd_fin (by rw [decide_eq_false h0, Bool.false_and]) k
theorem sc_well_written : FnScope ["text"] ["text"] (defScope s_well_written) := ⟨rfl, rfl, rfl, by decide +kernel, rfl, by decide +kernel, by decide +kernel⟩
theorem ok_well_written    (D : DefAt K mg "well_written" s_well_written) (n_all : mg "all" = none) (n_len : mg "len" = none) (g_MOST_FIGURES : GlobAt mg "MOST_FIGURES" (.int 20)) (g_FIGURES : GlobAt mg "FIGURES" (.str "0123456789")) : Cal P w K mg base 1 "well_written" spWell := by
  refine cal_of (N := ["text"]) (ps := ["text"]) D sc_well_written (fun vs H Q E h => ?_) (fun _ _ _ _ _ _ us hl => match us, hl with | [_], _ => rfl) (fun f cdv A outer s H vs Q E hr h => ?_)
  · obtain ⟨z, rfl, _⟩ := h; rfl
  · obtain ⟨z, rfl, hz, k⟩ := h
    refine ⟨_, (pss_cons (ps_if (pt_not (pt_chain op_le op_le pe_int (pe_callB cn_lenZ rfl n_len PySem.boot_len (pa_cons (pv 0) pa_nil)) (pe_glA rfl g_MOST_FIGURES))) (pss_one (ps_ret pe_bl)) pss_nil)
      (pss_cons (ps_if (PW.pt (pw_and (pt_cmpR op_eq (pe_ix ix_str (pv 0) pe_int (fun _ _ => rfl)) pe_str (nomark _)) (pw_and1 (pt_cmpR op_ne (pv 0) pe_str (nomark _))))) (pss_one (ps_ret pe_bl)) pss_nil)
      (pss_one (ps_ret (pe_callB (cn_all rfl) rfl n_all PyProof.Rows.boot_all (pa_cons (pe_comp ["sign"] rfl (show CompScope (defScope s_well_written) ["text"] ["sign"] _ from ⟨rfl, by decide +kernel, by decide +kernel, by decide +kernel, by decide +kernel, by decide +kernel⟩) (pi_str (pv 0)) (fun _ _ _ _ _ => (pg_name (i := 0) (show (["sign", "text"] : List Str).Nodup by decide +kernel) rfl (Or.inl rfl) (.inr rfl))) (fun _ _ _ _ _ => pif_nil) (fun _ _ _ _ _ => (pe_cmpR op_inS (pv 0) (pe_glA rfl g_FIGURES) rfl))) pa_nil)))))), ?_⟩
    try simp only [nox_K, nox_P, nox_w, nox_mg, nox_base, cxOf_K, cxOf_P, cxOf_w, cxOf_mg, cxOf_base]
    have hl := len_cps z
    repeat' walk_at "rdt"
    · exact rd_fin (by rw [well_no (.inr (by omega))]) (k H (Same.refl _))
    · have e0 : ∃ c, z.cps.toList[0]? = some c := ⟨z.cps.toList[0]'(by omega), List.getElem?_eq_getElem _⟩
      obtain ⟨c0, e0⟩ := e0
      have sh := str_head e0
      refine rd_ixS hz (atI_nat' (i := 0) e0 rfl) ?_
      repeat' walk_at "rdt"
      · rename_i ha hb
        exact rd_fin (by rw [well_nought (sh.mp ha) (by have := mt (str_zero (sh.mp ha)).mpr hb; omega)]) (k H (Same.refl _))
      all_goals
        refine rd_comp (rd_iStr ?_)
        repeat walk_at "rdt"
        refine ⟨z, rfl, fun q hq => ?_⟩
        refine comp_str (ys := (z.cps.toList.map isDig).map V.bl) hq (by rw [List.length_map, List.length_map, hl]) hz ?_ ?_
        · intro i c y H' Q' hc hy sm q'
          rw [List.getElem?_map, List.getElem?_map, show z.cps.toList[i]? = some c by simpa using hc] at hy
          cases hy
          repeat walk_at "rdt"
          exact rd_fin (congrArg V.bl (in_fig c)) q'
        · repeat walk_at "rdt"
          refine rd_all sql_new ?_
          refine rd_fin ?_ (k _ (Same.new hq))
          rw [all_signs]
          first
            | (rename_i ha hb; exact congrArg V.bl (well_yes (by omega) (by omega) (.inr (by have := (str_zero (sh.mp ha)).mp hb; omega))).symm)
            | (rename_i ha; exact congrArg V.bl (well_yes (by omega) (by omega) (.inl fun q => ha (sh.mpr q))).symm)
    · exact rd_fin (by rw [well_no (.inl (by omega))]) (k H (Same.refl _))
theorem sc_number_of : FnScope ["text", "whole"] ["text"] (defScope s_number_of) := ⟨rfl, rfl, rfl, by decide +kernel, rfl, by decide +kernel, by decide +kernel⟩
theorem ok_number_of    (D : DefAt K mg "number_of" s_number_of) (c_well_written : Cal P w K mg base 1 "well_written" spWell) (c_is_number : Cal P w K mg base 1 "is_number" spIsNum) (n_int : mg "int" = none) : Cal P w K mg base 2 "number_of" spNumOf := by
  refine cal_of (N := ["text", "whole"]) (ps := ["text"]) D sc_number_of (fun vs H Q E h => ?_) (fun _ _ _ _ _ _ us hl => match us, hl with | [_], _ => rfl) (fun f cdv A outer s H vs Q E hr h => ?_)
  · obtain ⟨z, rfl, _⟩ := h; rfl
  · obtain ⟨z, rfl, hz, k⟩ := h
    refine ⟨_, (pss_cons (ps_if (pt_not (pt_val (pe_cal c_well_written (hr.mono (by decide)) rfl (pa_cons (pv 0) pa_nil)))) (pss_one (ps_ret pe_non)) pss_nil)
      (pss_cons (ps_set (i := 1) sc_number_of.nd rfl (by first | exact Or.inl rfl | exact Or.inr rfl) (pe_callTy ct_intS rfl n_int PyProof.Rows.boot_int (pa_cons (pv 0) pa_nil)))
      (pss_cons (ps_if (pt_not (pt_val (pe_cal c_is_number (hr.mono (by decide)) rfl (pa_cons (pv 1) pa_nil)))) (pss_one (ps_ret pe_non)) pss_nil)
      (pss_one (ps_ret (pv 1)))))), ?_⟩
    try simp only [nox_K, nox_P, nox_w, nox_mg, nox_base, cxOf_K, cxOf_P, cxOf_w, cxOf_mg, cxOf_base]
    repeat walk_at "rdt"
    refine ⟨z, rfl, hz, fun H' sm => ?_⟩
    cases hw : wellN z.cps.toList with
    | false =>
      repeat walk_at "rdt"
      exact rd_fin (by rw [readN_ill hw]; rfl) (k H' sm)
    | true =>
      have hq := hw
      unfold wellN at hq
      simp only [Bool.and_eq_true, Bool.not_eq_true', decide_eq_true_eq] at hq
      obtain ⟨⟨⟨h1, h2⟩, _⟩, h4⟩ := hq
      have hl := len_cps z
      have hd : PySem.NumText.AllDigits z.cps.toList := fun c hc => by
        have := List.all_eq_true.mp h4 c hc
        simp only [isDig, Bool.and_eq_true, decide_eq_true_eq] at this
        exact this
      have ht := PySem.intText_digits (x := z) hd (by intro e; rw [e] at h1; simp at h1) (by omega)
      have hv : PySem.NumText.digitsVal z.cps.toList = dval z.cps.toList := rfl
      rw [hv] at ht
      repeat walk_at "rdt"
      refine rd_intS (by omega) ht ?_
      repeat walk_at "rdt"
      refine ⟨_, rfl, ?_⟩
      generalize hb : (decide (0 ≤ ((dval z.cps.toList : Nat) : Int)) && decide (((dval z.cps.toList : Nat) : Int) < 18446744073709551616)) = b
      have hr2 := readN_well hw
      cases b with
      | true =>
        repeat walk_at "rdt"
        simp only [Bool.and_eq_true, decide_eq_true_eq] at hb
        rw [if_neg (by omega)] at hr2
        exact rd_fin (by rw [hr2]; rfl) (k H' sm)
      | false =>
        repeat walk_at "rdt"
        simp only [Bool.and_eq_false_iff, decide_eq_false_iff_not] at hb
        rw [if_pos (by omega)] at hr2
        exact rd_fin (by rw [hr2]; rfl) (k H' sm)

end
end My

namespace My
open PySem L2

theorem rd_callE {sp : Sp} {E : XK} {t : TA} {σ : St} {H : Hp} {Q : VK} (q : t σ H fun vs H1 => sp vs H1 Q E) : tCall sp [] E t σ H Q := by
  unfold tCall
  have e : (fun (vs : List V) H1 => sp (vs ++ []) H1 Q E) = fun vs H1 => sp vs H1 Q E := by
    funext vs H1
    rw [List.append_nil]
  rw [e]
  exact q

def spCell (K : PySem.W.Frag) : Sp := fun vs H Q _ => ∃ (p : Addr) (ns : List Int) (k : Int), vs = [.ref p, .int k] ∧ 0 ≤ k ∧ SqL K H p (ns.map V.int) ∧ ∀ i, Q (.int i) H
def spWhole : Sp := fun vs H Q _ => ∃ i : Int, vs = [.int i] ∧ Q (.bl true) H
def PaperAt (K : PySem.W.Frag) (H : Hp) (t : Addr) (p : Int) (ns ws : List Int) : Prop := ∃ na wa : Addr, SqT K H t [.int p, .ref na, .ref wa] ∧ SqL K H na (ns.map V.int) ∧ SqL K H wa (ws.map V.int)
def PapH (H : Hp) (t : Addr) (p : Int) (ns ws : List Int) : Prop := ∃ na wa : Addr, H t = some (.tup [.int p, .ref na, .ref wa]) ∧ H na = some (.lst (ns.map V.int)) ∧ H wa = some (.lst (ws.map V.int))
theorem PapH.at {K : PySem.W.Frag} {H : Hp} {t : Addr} {p : Int} {ns ws : List Int} (h : PapH H t p ns ws) : PaperAt K H t p ns ws :=
  let ⟨na, wa, h1, h2, h3⟩ := h
  ⟨na, wa, sqt_of h1, sql_of h2, sql_of h3⟩
theorem PapH.keep {H H' : Hp} {t : Addr} {p : Int} {ns ws : List Int} (h : PapH H t p ns ws) (s : Same H H') : PapH H' t p ns ws :=
  let ⟨na, wa, h1, h2, h3⟩ := h
  ⟨na, wa, s _ _ h1, s _ _ h2, s _ _ h3⟩
abbrev dtPap (p : Int) (ns ws : List Int) : Dt := .tup [.int p, .lst (Dt.ints ns), .lst (Dt.ints ws)]
theorem PapH.dv {K : PySem.W.Frag} {H : Hp} {t : Addr} {p : Int} {ns ws : List Int} (h : PapH H t p ns ws) : DV K H (dtPap p ns ws) (.ref t) :=
  let ⟨_, _, h1, h2, h3⟩ := h
  dv_tup (sqt_of h1) (dvs_cons dv_int (dvs_cons (dv_lints (sql_of h2)) (dvs_cons (dv_lints (sql_of h3)) dvs_nil)))
theorem dtPap_dep (p : Int) (ns ws : List Int) : (dtPap p ns ws).dep ≤ 64 := by simp [Dt.dep, Dt.deps, deps_ints]
def strI (i : Int) : Str := Str.ofString (toString i)
def okN (ns : List Int) : Prop := ∀ n ∈ ns, 0 ≤ n ∧ n < 18446744073709551616
def shownS (ns : List Int) : Str := Txt.join (Str.ofString " ") (ns.map strI)
def textP (p : Int) (ns ws : List Int) : Str := Txt.join (Str.ofString " / ") [strI p, shownS ns, shownS ws]
theorem strI_len {i : Int} (h0 : 0 ≤ i) (h1 : i < 18446744073709551616) : (strI i).length ≤ 20 := by
  unfold strI
  rw [str_numI h0]
  show (sNum i.toNat).toArray.size ≤ 20
  rw [List.size_toArray]
  exact sNum_le (by decide) (Nat.lt_of_lt_of_le (show i.toNat < 18446744073709551616 by omega) (by decide))
theorem sum_le {B : Nat} : ∀ (ts : List Str), (∀ t ∈ ts, t.length ≤ B) → (ts.map (·.length)).sum ≤ ts.length * B
  | [], _ => by simp
  | t :: ts, h => by
    have h1 := h t (by simp)
    have h2 := sum_le ts fun u hu => h u (by simp [hu])
    rw [List.map_cons, List.sum_cons, List.length_cons, Nat.succ_mul]
    omega
theorem join_len (sep : Str) (ts : List Str) : (Txt.join sep ts).length ≤ (ts.map (·.length)).sum + ts.length * sep.length := by
  show (Builtin.Str.glued sep ts).length ≤ _
  rw [StrLaws.glued_eq_join]
  exact StrLaws.join_length_le sep ts
theorem joinOk_of {sep : Str} {ts : List Str} (h : (ts.map (·.length)).sum + ts.length * sep.length ≤ 1000000) : JoinOk sep ts = true := by
  unfold JoinOk Builtin.Str.tooLong
  rw [StrLaws.joinTotal]
  simp
  exact Nat.le_trans h (by decide)
theorem shown_ok {ns : List Int} (h : okN ns) (hl : ns.length ≤ 1000) : ((ns.map strI).map (·.length)).sum + (ns.map strI).length * (Str.ofString " ").length ≤ 21000 := by
  have h1 := sum_le (B := 20) (ns.map strI) fun t ht => by
    obtain ⟨n, hn, rfl⟩ := List.mem_map.mp ht
    exact strI_len (h n hn).1 (h n hn).2
  rw [List.length_map] at h1 ⊢
  have : (Str.ofString " ").length = 1 := by decide
  rw [this]
  omega
theorem shown_len {ns : List Int} (h : okN ns) (hl : ns.length ≤ 1000) : (shownS ns).length ≤ 21000 := Nat.le_trans (join_len _ _) (shown_ok h hl)
theorem text_ok {p : Int} {ns ws : List Int} (h0 : 0 ≤ p) (h1 : p < 18446744073709551616) (hn : okN ns) (hw : okN ws) (ln : ns.length ≤ 1000) (lw : ws.length ≤ 1000) : ([strI p, shownS ns, shownS ws].map (·.length)).sum + [strI p, shownS ns, shownS ws].length * (Str.ofString " / ").length ≤ 50000 := by
  have a := strI_len h0 h1
  have b := shown_len hn ln
  have c := shown_len hw lw
  have d : (Str.ofString " / ").length = 3 := by decide
  rw [d]
  simp only [List.map_cons, List.map_nil, List.sum_cons, List.sum_nil, List.length_cons, List.length_nil]
  omega
theorem text_len {p : Int} {ns ws : List Int} (h0 : 0 ≤ p) (h1 : p < 18446744073709551616) (hn : okN ns) (hw : okN ws) (ln : ns.length ≤ 1000) (lw : ws.length ≤ 1000) : (textP p ns ws).length ≤ 50000 := Nat.le_trans (join_len _ _) (text_ok h0 h1 hn hw ln lw)
def spShown (K : PySem.W.Frag) : Sp := fun vs H Q _ => ∃ (l : Addr) (ns : List Int), vs = [.ref l] ∧ SqL K H l (ns.map V.int) ∧ okN ns ∧ ns.length ≤ 1000 ∧ ∀ H', Same H H' → Q (.str (shownS ns)) H'
def spText (K : PySem.W.Frag) : Sp := fun vs H Q _ => ∃ (t : Addr) (p : Int) (ns ws : List Int), vs = [.ref t] ∧ PaperAt K H t p ns ws ∧ 0 ≤ p ∧ p < 18446744073709551616 ∧ okN ns ∧ okN ws ∧ ns.length ≤ 1000 ∧ ws.length ≤ 1000 ∧ ∀ H', Same H H' → Q (.str (textP p ns ws)) H'
def numI (z : Str) : Int := match readN z.cps.toList with
  | some n => n
  | none => -1
def okI (z : Str) : Bool := (readN z.cps.toList).isSome
theorem ok_num (z : Str) : okI z = decide (0 ≤ numI z) := by
  unfold okI numI
  cases readN z.cps.toList with
  | none => rfl
  | some n => simp
def partsS (z : Str) : List Str := if z = Str.ofString "" then [] else Txt.split z (Str.ofString " ")
def numsL (z : Str) : List Int := (partsS z).map numI
def okL (z : Str) : Bool := (partsS z).all okI
def thirds (z : Str) : List Str := Txt.split z (Str.ofString " / ")
def p0 (z : Str) : Str := (thirds z).getD 0 (Str.ofString "")
def p1 (z : Str) : Str := (thirds z).getD 1 (Str.ofString "")
def p2 (z : Str) : Str := (thirds z).getD 2 (Str.ofString "")
def paperOk (z : Str) : Bool := decide ((thirds z).length = 3) && okI (p0 z) && okL (p1 z) && okL (p2 z) && decide ((numsL (p2 z)).length ≤ 60)
def spReadNum (C : Addr) : Sp := fun vs H Q E => ∃ z, vs = [.str z] ∧ z.length ≤ sizeLine ∧ (if okI z = true then ∀ H', Same H H' → Q (.int (numI z)) H' else ∀ a H', Same H H' → E (.ref a) (some C) H')
def spReadNums (C : Addr) : Sp := fun vs H Q E => ∃ z, vs = [.str z] ∧ z.length ≤ 1000000 ∧ (if okL z = true then ∀ l H', Same H H' → H' l = some (.lst ((numsL z).map V.int)) → Q (.ref l) H' else ∀ a H', Same H H' → E (.ref a) (some C) H')
def spReadPaper (C : Addr) : Sp := fun vs H Q E => ∃ z, vs = [.str z] ∧ z.length ≤ 1000000 ∧ (if paperOk z = true then ∀ t H', Same H H' → PapH H' t (numI (p0 z)) (numsL (p1 z)) (numsL (p2 z)) → Q (.ref t) H' else ∀ a H', Same H H' → E (.ref a) (some C) H')
def spLNum : Sp := fun vs H Q _ => ∃ z, vs = [.str z] ∧ z.length ≤ sizeLine ∧ ∀ H', Same H H' → Q (.int (numI z)) H'
def spLNums : Sp := fun vs H Q _ => ∃ z, vs = [.str z] ∧ z.length ≤ 1000000 ∧ ∀ l H', Same H H' → H' l = some (.lst ((numsL z).map V.int)) → Q (.ref l) H'
def spLPaper : Sp := fun vs H Q _ => ∃ z, vs = [.str z] ∧ z.length ≤ 1000000 ∧ (if paperOk z = true then ∀ t H', Same H H' → PapH H' t (numI (p0 z)) (numsL (p1 z)) (numsL (p2 z)) → Q (.ref t) H' else ∀ H', Same H H' → Q .non H')
def spIs : Sp := fun vs H Q _ => ∃ (t t2 : Addr) (p : Int) (ns ws : List Int), vs = [.ref t, .ref t2] ∧ PapH H t p ns ws ∧ PapH H t2 p ns ws ∧ ∀ H', Same H H' → Q (.bl true) H'
def spAny : Sp := fun vs H Q _ => ∃ z, vs = [.str z] ∧ z.length ≤ 1000000 ∧ paperOk z = false ∧ ∀ H', Same H H' → Q (.bl true) H'
def spRead : Sp := fun vs H Q _ => ∃ z, vs = [.str z] ∧ z.length ≤ 1000000 ∧ ∀ H', Same H H' → Q (.bl true) H'
def spNumber : Sp := fun vs H Q _ => ∃ c : Int, vs = [.int c] ∧ ∀ i : Int, 0 ≤ i → i < 18446744073709551616 → Q (.int i) H
theorem p64 : (2 : Int) ^ Int.toNat 64 = 18446744073709551616 := by decide
theorem third_len (z : Str) : (thirds z).length ≤ z.length + 2 := split_len _ _
theorem third_part {z u : Str} (h : u ∈ thirds z) : u.length ≤ z.length := split_part h
theorem big {n : Nat} (h : n ≤ 1000002) : n ≤ sizeLine := Nat.le_trans h (by decide)

section
variable {P : Program} {w : World} {K : PySem.W.Frag} {mg : Str → Option Value} {base : Heap}
theorem sc_shown_numbers : FnScope ["numbers"] ["numbers"] (defScope s_shown_numbers) := ⟨rfl, rfl, rfl, by decide +kernel, rfl, by decide +kernel, by decide +kernel⟩
theorem ok_shown_numbers    (D : DefAt K mg "shown_numbers" s_shown_numbers) (n_str : mg "str" = none) : Cal P w K mg base 1 "shown_numbers" (spShown K) := by
  refine cal_of (N := ["numbers"]) (ps := ["numbers"]) D sc_shown_numbers (fun vs H Q E h => ?_) (fun _ _ _ _ _ _ us hl => match us, hl with | [_], _ => rfl) (fun f cdv A outer s H vs Q E hr h => ?_)
  · obtain ⟨l, ns, rfl, _⟩ := h; rfl
  · obtain ⟨l, ns, rfl, hl, ok, ln, k⟩ := h
    refine ⟨_, (pss_one (ps_ret (pe_bm PySem.F.plainAttrs_str PySem.F.slot_str_join PySem.F.type_str_join mt_join pe_str (pa_cons (pe_comp ["number"] rfl (show CompScope (defScope s_shown_numbers) ["numbers"] ["number"] _ from ⟨rfl, by decide +kernel, by decide +kernel, by decide +kernel, by decide +kernel, by decide +kernel⟩) (pi_list (pv 0)) (fun _ _ _ _ _ => (pg_name (i := 0) (show (["number", "numbers"] : List Str).Nodup by decide +kernel) rfl (Or.inl rfl) (.inr rfl))) (fun _ _ _ _ _ => pif_nil) (fun _ _ _ _ _ => (pe_callTy ct_str rfl n_str PyProof.Rows.boot_str (pa_cons (pv 0) pa_nil)))) pa_nil)))), ?_⟩
    try simp only [nox_K, nox_P, nox_w, nox_mg, nox_base, cxOf_K, cxOf_P, cxOf_w, cxOf_mg, cxOf_base]
    repeat walk_at "rdt"
    refine rd_comp (rd_iList ?_)
    repeat walk_at "rdt"
    refine ⟨l, rfl, ⟨_, hl⟩, fun p hp => ?_⟩
    refine comp_map (ys := (ns.map strI).map V.str) hl hp (by rw [List.length_map, List.length_map, List.length_map]) (by rw [List.length_map]; exact big (by omega)) ?_ ?_
    · intro i x y H' Q' hx hy sm q
      rw [List.getElem?_map] at hx
      obtain ⟨b, hb, rfl⟩ := Option.map_eq_some_iff.mp hx
      rw [List.getElem?_map, List.getElem?_map, hb] at hy
      cases hy
      have hm := ok b (List.mem_of_getElem? hb)
      repeat walk_at "rdt"
      exact rd_strI (log_1920 hm.1 (Int.lt_trans hm.2 (by decide))) q
    · repeat walk_at "rdt"
      refine rd_join (sql_of upd_same) (joinOk_of (Nat.le_trans (shown_ok ok ln) (by decide))) ?_
      exact k _ (Same.new hp)
theorem sc_show_paper : FnScope ["paper"] ["paper"] (defScope s_show_paper) := ⟨rfl, rfl, rfl, by decide +kernel, rfl, by decide +kernel, by decide +kernel⟩
theorem ok_show_paper    (D : DefAt K mg "show_paper" s_show_paper) (c_shown_numbers : Cal P w K mg base 1 "shown_numbers" (spShown K)) (n_str : mg "str" = none) (g_PARTING : GlobAt mg "PARTING" (.str " / ")) : Cal P w K mg base 2 "show_paper" (spText K) := by
  refine cal_of (N := ["paper"]) (ps := ["paper"]) D sc_show_paper (fun vs H Q E h => ?_) (fun _ _ _ _ _ _ us hl => match us, hl with | [_], _ => rfl) (fun f cdv A outer s H vs Q E hr h => ?_)
  · obtain ⟨t, p, ns, ws, rfl, _⟩ := h; rfl
  · obtain ⟨t, p, ns, ws, rfl, ⟨na, wa, h1, h2, h3⟩, p0, p1, on, ow, ln, lw, k⟩ := h
    refine ⟨_, (pss_one (ps_ret (pe_bm PySem.F.plainAttrs_str PySem.F.slot_str_join PySem.F.type_str_join mt_join (pe_glA rfl g_PARTING) (pa_cons (pe_lst (pa_cons (pe_callTy ct_str rfl n_str PyProof.Rows.boot_str (pa_cons (pe_ix ix_tup (pv 0) pe_int (fun _ _ => rfl)) pa_nil)) (pa_cons (pe_cal c_shown_numbers (hr.mono (by decide)) rfl (pa_cons (pe_ix ix_tup (pv 0) pe_int (fun _ _ => rfl)) pa_nil)) (pa_cons (pe_cal c_shown_numbers (hr.mono (by decide)) rfl (pa_cons (pe_ix ix_tup (pv 0) pe_int (fun _ _ => rfl)) pa_nil)) pa_nil)))) pa_nil)))), ?_⟩
    try simp only [nox_K, nox_P, nox_w, nox_mg, nox_base, cxOf_K, cxOf_P, cxOf_w, cxOf_mg, cxOf_base]
    repeat walk_at "rdt"
    refine rd_strI (log_1920 p0 (Int.lt_trans p1 (by decide))) ?_
    repeat walk_at "rdt"
    refine ⟨na, ns, rfl, h2, on, ln, fun H1 s1 => ?_⟩
    have h11 := s1.tup h1
    repeat walk_at "rdt"
    refine ⟨wa, ws, rfl, s1.seq h3, ow, lw, fun H2 s2 => ?_⟩
    repeat walk_at "rdt"
    refine ⟨show 3 ≤ sizeLine by decide, fun q hq => ?_⟩
    repeat walk_at "rdt"
    refine rd_join (ts := [strI p, shownS ns, shownS ws]) (sql_of upd_same) (joinOk_of (Nat.le_trans (text_ok p0 p1 on ow ln lw) (by decide))) ?_
    exact k _ ((s1.trans s2).newT hq)
theorem sc_read_number : FnScope ["text", "number"] ["text"] (defScope s_read_number) := ⟨rfl, rfl, rfl, by decide +kernel, rfl, by decide +kernel, by decide +kernel⟩
theorem ok_read_number {cNoPaper : Addr}   (D : DefAt K mg "read_number" s_read_number) (o_NoPaper : Exc "NoPaper" cNoPaper mg base) (c_number_of : Cal P w K mg base 2 "number_of" spNumOf) : CalE P w K mg base 3 "read_number" (spReadNum cNoPaper) := by
  refine cal_ofE (N := ["text", "number"]) (ps := ["text"]) D sc_read_number (fun vs H Q E h => ?_) (fun _ _ _ _ _ _ us hl => match us, hl with | [_], _ => rfl) (fun f cdv A outer s H vs Q E hr h => ?_)
  · obtain ⟨z, rfl, _⟩ := h; rfl
  · obtain ⟨z, rfl, hz, k⟩ := h
    refine ⟨_, (pss_cons (ps_set (i := 1) sc_read_number.nd rfl (by first | exact Or.inl rfl | exact Or.inr rfl) (pe_cal c_number_of (hr.mono (by decide)) rfl (pa_cons (pv 0) pa_nil)))
      (pss_cons (ps_if (pt_cmpR op_isNn (pv 1) pe_non (nomark _)) (pss_one (ps_raise o_NoPaper PySem.F.excBase_ValueError rfl rfl raise_ok (pa_cons pe_str pa_nil))) pss_nil)
      (pss_one (ps_ret (pv 1))))), ?_⟩
    try simp only [nox_K, nox_P, nox_w, nox_mg, nox_base, cxOf_K, cxOf_P, cxOf_w, cxOf_mg, cxOf_base]
    repeat walk_at "rdt"
    refine ⟨z, rfl, hz, fun H1 s1 => ?_⟩
    unfold okI numI at k
    cases hn : readN z.cps.toList with
    | none =>
      rw [hn] at k
      rw [if_neg (by decide)] at k
      simp only [optV]
      repeat walk_at "rdt"
      exact ⟨show 1 ≤ sizeLine by decide, fun a => k a H1 s1⟩
    | some n =>
      rw [hn] at k
      rw [if_pos (by rfl)] at k
      simp only [optV]
      repeat walk_at "rdt"
      exact k H1 s1

end
end My

namespace My
open PySem L2

section
variable {P : Program} {w : World} {K : PySem.W.Frag} {mg : Str → Option Value} {base : Heap}
theorem sc_read_numbers : FnScope ["text"] ["text"] (defScope s_read_numbers) := ⟨rfl, rfl, rfl, by decide +kernel, rfl, by decide +kernel, by decide +kernel⟩
theorem ok_read_numbers {cNoPaper : Addr}   (D : DefAt K mg "read_numbers" s_read_numbers) (o_NoPaper : Exc "NoPaper" cNoPaper mg base) (c_read_number : CalE P w K mg base 3 "read_number" (spReadNum cNoPaper)) : CalE P w K mg base 4 "read_numbers" (spReadNums cNoPaper) := by
  refine cal_ofE (N := ["text"]) (ps := ["text"]) D sc_read_numbers (fun vs H Q E h => ?_) (fun _ _ _ _ _ _ us hl => match us, hl with | [_], _ => rfl) (fun f cdv A outer s H vs Q E hr h => ?_)
  · obtain ⟨z, rfl, _⟩ := h; rfl
  · obtain ⟨z, rfl, hz, k⟩ := h
    refine ⟨_, (pss_cons (ps_if (pt_cmpR op_eq (pv 0) pe_str (nomark _)) (pss_one (ps_ret (pe_lst pa_nil))) pss_nil)
      (pss_one (ps_ret (pe_compE ["part"] rfl rfl rfl flies_def rfl (show CompScope (defScope s_read_numbers) ["text"] ["part"] _ from ⟨rfl, by decide +kernel, by decide +kernel, by decide +kernel, by decide +kernel, by decide +kernel⟩) (pi_list (pe_bm PySem.F.plainAttrs_str PySem.F.slot_str_split PySem.F.type_str_split mt_split (pv 0) (pa_cons pe_str pa_nil))) (fun _ _ _ _ _ => (pg_name (i := 0) (show (["part", "text"] : List Str).Nodup by decide +kernel) rfl (Or.inl rfl) (.inr rfl))) (fun _ _ _ _ _ => pif_nil) (fun _ _ _ _ _ _ hx => (pe_calE c_read_number (hr.mono (by decide)) rfl hx (pa_cons (pv 0) pa_nil))))))), ?_⟩
    try simp only [nox_K, nox_P, nox_w, nox_mg, nox_base, cxOf_K, cxOf_P, cxOf_w, cxOf_mg, cxOf_base]
    repeat' walk_at "rdt"
    · rename_i he
      have he : z = Str.ofString "" := he
      rw [if_pos (by unfold okL partsS; rw [if_pos he]; rfl)] at k
      refine ⟨by decide, fun l hl => ?_⟩
      refine k l _ (Same.new hl) ?_
      rw [upd_same]
      unfold numsL partsS
      rw [if_pos he]
      rfl
    · rename_i he
      have he : ¬ z = Str.ofString "" := he
      have ep : partsS z = Txt.split z (Str.ofString " ") := if_neg he
      refine rd_comp (rd_iList ?_)
      repeat walk_at "rdt"
      have sl := split_len z (Str.ofString " ")
      refine rd_split (by decide) (big (by omega)) (big (by omega)) fun q hq => ?_
      refine ⟨q, rfl, ⟨_, sql_new⟩, fun p hp => ?_⟩
      rw [← ep] at sl hp ⊢
      have hlen : ((partsS z).map V.str).length = (partsS z).length := List.length_map ..
      have hqs : (upd H q (.lst ((partsS z).map V.str))) q = some (.lst ((partsS z).map V.str)) := upd_same
      have s0 : Same H (upd H q (.lst ((partsS z).map V.str))) := Same.new hq
      generalize upd H q (.lst ((partsS z).map V.str)) = H0 at hp hqs s0 ⊢
      refine comp_invL (fun i H' => Same H0 H' ∧ H' p = some (.lst (((partsS z).take i).map fun u => V.int (numI u))) ∧ ((partsS z).take i).all okI = true) ⟨Same.new hp, upd_same, rfl⟩ (fun i H' z' => sql_of (z'.1 _ _ hqs)) ?_ ?_
      · rintro i x H' hx ⟨sm, hpl, hok⟩
        rw [List.getElem?_map] at hx
        obtain ⟨u, hu, rfl⟩ := Option.map_eq_some_iff.mp hx
        have hi := (List.getElem?_eq_some_iff.mp hu).1
        have hum : u ∈ partsS z := List.mem_of_getElem? hu
        have hul : u.length ≤ sizeLine := big (by
          rw [ep] at hum
          have := split_part hum
          omega)
        have et := List.take_succ_eq_append_getElem hi
        rw [(List.getElem?_eq_some_iff.mp hu).2] at et
        simp only [tNoIf, if_true]
        refine rd_callE ?_
        repeat walk_at "rdt"
        refine ⟨u, rfl, hul, ?_⟩
        cases ho : okI u with
        | true =>
          rw [if_pos rfl]
          intro H2 s2
          refine ⟨_, s2 _ _ hpl, ?_, ⟨?_, upd_same.trans ?_, ?_⟩, _, rfl⟩
          · rw [List.length_map, List.length_take]
            exact Nat.lt_of_le_of_lt (show min i (partsS z).length ≤ 1000002 by omega) (by decide)
          · exact (sm.trans s2).wr hp
          · rw [et, List.map_append]
            rfl
          · rw [et, List.all_append, hok]
            simp [ho]
        | false =>
          rw [if_neg (by decide)]
          intro a H2 s2
          rw [if_neg (by
            unfold okL
            intro q
            have := List.all_eq_true.mp q u hum
            rw [ho] at this
            cases this)] at k
          exact k a H2 ((s0.trans sm).trans s2)
      · rintro H' ⟨sm, hpl, hok⟩
        rw [hlen, List.take_length] at hpl hok
        rw [if_pos (by unfold okL; exact hok)] at k
        refine k p H' (s0.trans sm) ?_
        rw [hpl]
        unfold numsL
        rw [List.map_map]
        rfl

end
end My

namespace My
open PySem L2

section
variable {P : Program} {w : World} {K : PySem.W.Frag} {mg : Str → Option Value} {base : Heap}
theorem sc_read_paper : FnScope ["text", "parts", "place", "numbers", "way"] ["text"] (defScope s_read_paper) := ⟨rfl, rfl, rfl, by decide +kernel, rfl, by decide +kernel, by decide +kernel⟩
theorem ok_read_paper {cNoPaper : Addr}   (D : DefAt K mg "read_paper" s_read_paper) (o_NoPaper : Exc "NoPaper" cNoPaper mg base) (c_read_number : CalE P w K mg base 3 "read_number" (spReadNum cNoPaper)) (c_read_numbers : CalE P w K mg base 4 "read_numbers" (spReadNums cNoPaper)) (n_len : mg "len" = none) (g_PARTING : GlobAt mg "PARTING" (.str " / ")) (g_MOST_STAMPS : GlobAt mg "MOST_STAMPS" (.int 60)) : CalE P w K mg base 5 "read_paper" (spReadPaper cNoPaper) := by
  refine cal_ofE (N := ["text", "parts", "place", "numbers", "way"]) (ps := ["text"]) D sc_read_paper (fun vs H Q E h => ?_) (fun _ _ _ _ _ _ us hl => match us, hl with | [_], _ => rfl) (fun f cdv A outer s H vs Q E hr h => ?_)
  · obtain ⟨z, rfl, _⟩ := h; rfl
  · obtain ⟨z, rfl, hz, k⟩ := h
    refine ⟨_, (pss_cons (ps_set (i := 1) sc_read_paper.nd rfl (by first | exact Or.inl rfl | exact Or.inr rfl) (pe_bm PySem.F.plainAttrs_str PySem.F.slot_str_split PySem.F.type_str_split mt_split (pv 0) (pa_cons (pe_glA rfl g_PARTING) pa_nil)))
      (pss_cons (ps_if (pt_cmpR op_ne (pe_callB cn_len rfl n_len PySem.boot_len (pa_cons (pv 1) pa_nil)) pe_int (nomark _)) (pss_one (ps_raise o_NoPaper PySem.F.excBase_ValueError rfl rfl raise_ok (pa_cons pe_str pa_nil))) pss_nil)
      (pss_cons (ps_set (i := 2) sc_read_paper.nd rfl (by first | exact Or.inl rfl | exact Or.inr rfl) (pe_calE c_read_number (hr.mono (by decide)) rfl passE (pa_cons (pe_ix ix_list (pv 1) pe_int (fun _ _ => rfl)) pa_nil)))
      (pss_cons (ps_set (i := 3) sc_read_paper.nd rfl (by first | exact Or.inl rfl | exact Or.inr rfl) (pe_calE c_read_numbers (hr.mono (by decide)) rfl passE (pa_cons (pe_ix ix_list (pv 1) pe_int (fun _ _ => rfl)) pa_nil)))
      (pss_cons (ps_set (i := 4) sc_read_paper.nd rfl (by first | exact Or.inl rfl | exact Or.inr rfl) (pe_calE c_read_numbers (hr.mono (by decide)) rfl passE (pa_cons (pe_ix ix_list (pv 1) pe_int (fun _ _ => rfl)) pa_nil)))
      (pss_cons (ps_if (pt_cmpR op_gt (pe_callB cn_len rfl n_len PySem.boot_len (pa_cons (pv 4) pa_nil)) (pe_glA rfl g_MOST_STAMPS) (nomark _)) (pss_one (ps_raise o_NoPaper PySem.F.excBase_ValueError rfl rfl raise_ok (pa_cons pe_str pa_nil))) pss_nil)
      (pss_one (ps_ret (pe_tup (pa_cons (pv 2) (pa_cons (pv 3) (pa_cons (pv 4) pa_nil)))))))))))), ?_⟩
    try simp only [nox_K, nox_P, nox_w, nox_mg, nox_base, cxOf_K, cxOf_P, cxOf_w, cxOf_mg, cxOf_base]
    have tl := third_len z
    repeat walk_at "rdt"
    refine rd_split (by decide) (big (by omega)) (big (by unfold thirds at tl; omega)) fun q hq => ?_
    have hlen : ((thirds z).map V.str).length = (thirds z).length := List.length_map ..
    have hqs : SqL K (upd H q (.lst ((thirds z).map V.str))) q ((thirds z).map V.str) := sql_new
    have s0 : Same H (upd H q (.lst ((thirds z).map V.str))) := Same.new hq
    show _
    change _ at hqs
    unfold thirds at hlen hqs s0
    generalize upd H q (.lst ((Txt.split z (Str.ofString " / ")).map V.str)) = H0 at hqs s0 ⊢
    change ((thirds z).map V.str).length = (thirds z).length at hlen
    change SqL K H0 q ((thirds z).map V.str) at hqs
    repeat' walk_at "rdt"
    · rename_i h3
      have h3 : (thirds z).length ≠ 3 := by
        intro e
        refine h3 ?_
        show (((thirds z).map V.str).length : Int) = 3
        rw [hlen, e]
        rfl
      rw [if_neg (by unfold paperOk; rw [decide_eq_false h3]; simp)] at k
      exact ⟨show 1 ≤ sizeLine by decide, fun a => k a H0 s0⟩
    · rename_i h3
      have h3 : (thirds z).length = 3 := by
        have h3 : (((thirds z).map V.str).length : Int) = 3 := h3
        rw [hlen] at h3
        omega
      have e0 : (thirds z)[0]? = some (p0 z) := by unfold p0; rw [List.getD, List.getElem?_eq_getElem (show 0 < (thirds z).length by omega)]; rfl
      have e1 : (thirds z)[1]? = some (p1 z) := by unfold p1; rw [List.getD, List.getElem?_eq_getElem (show 1 < (thirds z).length by omega)]; rfl
      have e2 : (thirds z)[2]? = some (p2 z) := by unfold p2; rw [List.getD, List.getElem?_eq_getElem (show 2 < (thirds z).length by omega)]; rfl
      have l0 := third_part (List.mem_of_getElem? e0)
      have l1 := third_part (List.mem_of_getElem? e1)
      have l2 := third_part (List.mem_of_getElem? e2)
      have i0 : ((thirds z).map V.str)[0]? = some (.str (p0 z)) := by rw [List.getElem?_map, e0]; rfl
      have i1 : ((thirds z).map V.str)[1]? = some (.str (p1 z)) := by rw [List.getElem?_map, e1]; rfl
      have i2 : ((thirds z).map V.str)[2]? = some (.str (p2 z)) := by rw [List.getElem?_map, e2]; rfl
      refine rd_callE ?_
      repeat walk_at "rdt"
      refine rd_ixL hqs (atI_nat' (i := 0) i0 rfl) ?_
      repeat walk_at "rdt"
      refine ⟨p0 z, rfl, big (by omega), ?_⟩
      cases ho : okI (p0 z) with
      | false =>
        rw [if_neg (by decide)]
        intro a H1 s1
        rw [if_neg (by unfold paperOk; rw [ho]; simp)] at k
        exact k a H1 (s0.trans s1)
      | true =>
        rw [if_pos rfl]
        intro H1 s1
        have hqs1 := s1.seq hqs
        repeat walk_at "rdt"
        refine rd_callE ?_
        repeat walk_at "rdt"
        refine rd_ixL hqs1 (atI_nat' (i := 1) i1 rfl) ?_
        repeat walk_at "rdt"
        refine ⟨p1 z, rfl, by omega, ?_⟩
        cases ho1 : okL (p1 z) with
        | false =>
          rw [if_neg (by decide)]
          intro a H2 s2
          rw [if_neg (by unfold paperOk; rw [ho1]; simp)] at k
          exact k a H2 ((s0.trans s1).trans s2)
        | true =>
          rw [if_pos rfl]
          intro na H2 s2 hna
          have hqs2 := s2.seq hqs1
          repeat walk_at "rdt"
          refine rd_callE ?_
          repeat walk_at "rdt"
          refine rd_ixL hqs2 (atI_nat' (i := 2) i2 rfl) ?_
          repeat walk_at "rdt"
          refine ⟨p2 z, rfl, by omega, ?_⟩
          cases ho2 : okL (p2 z) with
          | false =>
            rw [if_neg (by decide)]
            intro a H3 s3
            rw [if_neg (by unfold paperOk; rw [ho2]; simp)] at k
            exact k a H3 (((s0.trans s1).trans s2).trans s3)
          | true =>
            rw [if_pos rfl]
            intro wa H3 s3 hwa
            have hna3 := s3 _ _ hna
            have hwl : SqL K H3 wa ((numsL (p2 z)).map V.int) := sql_of hwa
            have hwm : ((numsL (p2 z)).map V.int).length = (numsL (p2 z)).length := List.length_map ..
            have sm := ((s0.trans s1).trans s2).trans s3
            repeat' walk_at "rdt"
            · rename_i hgt
              rw [if_neg (by unfold paperOk; rw [decide_eq_false (p := (numsL (p2 z)).length ≤ 60) (by omega)]; simp)] at k
              exact ⟨show 1 ≤ sizeLine by decide, fun a => k a H3 sm⟩
            · rename_i hgt
              rw [if_pos (by unfold paperOk; rw [ho, ho1, ho2, decide_eq_true h3, decide_eq_true (p := (numsL (p2 z)).length ≤ 60) (by omega)]; rfl)] at k
              refine ⟨show 3 ≤ sizeLine by decide, fun t ht => ?_⟩
              exact k t _ (sm.newT ht) ⟨na, wa, upd_same, (Same.new ht) _ _ hna3, (Same.new ht) _ _ hwa⟩
theorem sc_Lcell_at : FnScope ["_law_script", "_law_k"] ["_law_script", "_law_k"] (defScope s_Lcell_at) := ⟨rfl, rfl, rfl, by decide +kernel, rfl, by decide +kernel, by decide +kernel⟩
theorem ok_Lcell_at    (D : DefAt K mg "_law_cell_at" s_Lcell_at) (n_len : mg "len" = none) : Cal P w K mg base 1 "_law_cell_at" (spCell K) := by
  refine cal_of (N := ["_law_script", "_law_k"]) (ps := ["_law_script", "_law_k"]) D sc_Lcell_at (fun vs H Q E h => ?_) (fun _ _ _ _ _ _ us hl => match us, hl with | [_, _], _ => rfl) (fun f cdv A outer s H vs Q E hr h => ?_)
  · obtain ⟨p, ns, j, rfl, _⟩ := h; rfl
  · obtain ⟨p, ns, j, rfl, hj, hl, k⟩ := h
    refine ⟨_, (pss_cons (ps_if (pt_cmpR op_lt (pv 1) (pe_callB cn_len rfl n_len PySem.boot_len (pa_cons (pv 0) pa_nil)) (nomark _)) (pss_one (ps_ret (pe_ix ix_list (pv 0) (pv 1) (fun _ _ => rfl)))) pss_nil)
      (pss_one (ps_ret pe_int))), ?_⟩
    try simp only [nox_K, nox_P, nox_w, nox_mg, nox_base, cxOf_K, cxOf_P, cxOf_w, cxOf_mg, cxOf_base]
    repeat' walk_at "rdt"
    · rename_i hlt
      rw [List.length_map] at hlt
      obtain ⟨c, e1, e2⟩ := atI_some (xs := ns) hj hlt
      have e3 : (ns.map V.int)[j.toNat]? = some (.int c) := by rw [List.getElem?_map, e2]; rfl
      exact rd_ixL hl (atI_nat' e3 (by omega)) (k c)
    · exact k _
theorem sc_Lwhole : FnScope ["_law_found"] ["_law_found"] (defScope s_Lwhole) := ⟨rfl, rfl, rfl, by decide +kernel, rfl, by decide +kernel, by decide +kernel⟩
theorem ok_Lwhole    (D : DefAt K mg "_law_whole" s_Lwhole) (n_isinstance : mg "isinstance" = none) (n_int : mg "int" = none) (n_bool : mg "bool" = none) : Cal P w K mg base 1 "_law_whole" spWhole := by
  refine cal_of (N := ["_law_found"]) (ps := ["_law_found"]) D sc_Lwhole (fun vs H Q E h => ?_) (fun _ _ _ _ _ _ us hl => match us, hl with | [_], _ => rfl) (fun f cdv A outer s H vs Q E hr h => ?_)
  · obtain ⟨i, rfl, _⟩ := h; rfl
  · obtain ⟨i, rfl, k⟩ := h
    refine ⟨_, (pss_one (ps_ret (pe_and (pe_callB cn_isiA rfl n_isinstance PyProof.Rows.boot_isinstance (pa_cons (pv 0) (pa_cons (pe_blA rfl n_int PyProof.Rows.boot_int) pa_nil))) (pe_one (pe_not (pe_callB cn_isiA rfl n_isinstance PyProof.Rows.boot_isinstance (pa_cons (pv 0) (pa_cons (pe_blA rfl n_bool PyProof.Rows.boot_bool) pa_nil)))))))), ?_⟩
    try simp only [nox_K, nox_P, nox_w, nox_mg, nox_base, cxOf_K, cxOf_P, cxOf_w, cxOf_mg, cxOf_base]
    repeat' walk_at "rdm"
    all_goals exact k

end
end My

namespace My
open PySem L2

section
variable {P : Program} {w : World} {K : PySem.W.Frag} {mg : Str → Option Value} {base : Heap}
theorem sc_Lnumber_of : FnScope ["_law_word", "_law_sign", "_law_number_here"] ["_law_word"] (defScope s_Lnumber_of) := ⟨rfl, rfl, rfl, by decide +kernel, rfl, by decide +kernel, by decide +kernel⟩
theorem ok_Lnumber_of    (D : DefAt K mg "_law_number_of" s_Lnumber_of) (n_int : mg "int" = none) (n_len : mg "len" = none) : Cal P w K mg base 1 "_law_number_of" spLNum := by
  refine cal_of (N := ["_law_word", "_law_sign", "_law_number_here"]) (ps := ["_law_word"]) D sc_Lnumber_of (fun vs H Q E h => ?_) (fun _ _ _ _ _ _ us hl => match us, hl with | [_], _ => rfl) (fun f cdv A outer s H vs Q E hr h => ?_)
  · obtain ⟨z, rfl, _⟩ := h; rfl
  · obtain ⟨z, rfl, hz, k⟩ := h
    refine ⟨_, (pss_cons (ps_if (PW.pt (pw_or (pt_cmpR op_eq (pv 0) pe_str (nomark _)) (pw_or (pt_cmpR op_gt (pe_callB cn_lenZ rfl n_len PySem.boot_len (pa_cons (pv 0) pa_nil)) pe_int (nomark _)) (pw_or1 (PW.pt (pw_and (pt_cmpR op_gt (pe_callB cn_lenZ rfl n_len PySem.boot_len (pa_cons (pv 0) pa_nil)) pe_int (nomark _)) (pw_and1 (pt_cmpR op_eq (pe_ix ix_str (pv 0) pe_int (fun _ _ => rfl)) pe_str (nomark _))))))))) (pss_one (ps_ret (pe_un un_neg pe_int))) pss_nil)
      (pss_cons (ps_for PassesOwn.never rfl (pi_str (pv 0)) (pg_name (i := 1) sc_Lnumber_of.nd rfl (by first | exact Or.inl rfl | exact Or.inr rfl))
      (pss_one (ps_if (pt_cmpR op_notInS (pv 1) pe_str rfl) (pss_one (ps_ret (pe_un un_neg pe_int))) pss_nil)))
      (pss_cons (ps_set (i := 2) sc_Lnumber_of.nd rfl (by first | exact Or.inl rfl | exact Or.inr rfl) (pe_callTy ct_intS rfl n_int PyProof.Rows.boot_int (pa_cons (pv 0) pa_nil)))
      (pss_cons (ps_if (pt_cmpR op_lt (pv 2) (pe_op op_pow pe_int pe_int) (nomark _)) (pss_one (ps_ret (pv 2))) pss_nil)
      (pss_one (ps_ret (pe_un un_neg pe_int))))))), ?_⟩
    try simp only [nox_K, nox_P, nox_w, nox_mg, nox_base, cxOf_K, cxOf_P, cxOf_w, cxOf_mg, cxOf_base]
    have hl := len_cps z
    have kn : readN z.cps.toList = none → ∀ H', Same H H' → Q (.int (-1)) H' := fun e H' sm => by
      have := k H' sm
      unfold numI at this
      rw [e] at this
      exact this
    have ez : z = Str.ofString "" ↔ z.length = 0 := by
      constructor
      · rintro rfl; rfl
      · intro h0
        obtain ⟨cps⟩ := z
        have : cps = #[] := Array.eq_empty_of_size_eq_zero h0
        rw [this]
        rfl
    repeat' walk_at "rdt"
    · rename_i h0
      have h0 : z = Str.ofString "" := h0
      exact kn (readN_ill (well_no (.inl (by rw [hl]; exact ez.mp h0)))) H (Same.refl _)
    · rename_i h0 h1
      exact kn (readN_ill (well_no (.inr (by omega)))) H (Same.refl _)
    · rename_i h0 h1 h2
      obtain ⟨c0, e0⟩ : ∃ c, z.cps.toList[0]? = some c := ⟨z.cps.toList[0]'(by omega), List.getElem?_eq_getElem _⟩
      have sh := str_head e0
      refine rd_ixS hz (atI_nat' (i := 0) e0 rfl) ?_
      repeat' walk_at "rdt"
      · rename_i ha
        exact kn (readN_ill (well_nought (sh.mp ha) (by omega))) H (Same.refl _)
      · rename_i ha
        have hwell := well_yes (ds := z.cps.toList) (by omega) (by omega) (.inl fun q => ha (sh.mpr q))
        have hlb : 1 ≤ z.length ∧ z.length ≤ 20 := by omega
        refine rd_for (rd_iStr ?_)
        repeat walk_at "rdt"
        refine ⟨z, rfl, for_str (fun i σ' H' => H' = H ∧ (z.cps.toList.take i).all isDig = true ∧ ∃ v w, σ' = [some (.str z), v, w]) ⟨rfl, rfl, _, _, rfl⟩ ?_ ?_⟩
        · rintro i c σ' H' hi hc ⟨rfl, ha, v, w, rfl⟩
          have hc : z.cps.toList[i]? = some c := by simpa using hc
          have hil := (List.getElem?_eq_some_iff.mp hc).1
          have et := List.take_succ_eq_append_getElem hil
          rw [(List.getElem?_eq_some_iff.mp hc).2] at et
          repeat walk_at "rdt"
          rw [in_fig c]
          cases hd : isDig c with
          | true =>
            repeat walk_at "rdt"
            exact ⟨rfl, by rw [et, List.all_append, ha]; simp [hd], _, _, rfl⟩
          | false =>
            repeat walk_at "rdt"
            refine kn (readN_ill ?_) _ (Same.refl _)
            rw [hwell]
            refine Bool.eq_false_iff.mpr fun q => ?_
            have := List.all_eq_true.mp q c (List.mem_of_getElem? hc)
            rw [hd] at this
            cases this
        · rintro σ' H' ⟨rfl, ha, v, w, rfl⟩
          rw [← hl, List.take_length] at ha
          have hww : wellN z.cps.toList = true := hwell.trans ha
          have hd : PySem.NumText.AllDigits z.cps.toList := fun c hc => by
            have := List.all_eq_true.mp ha c hc
            simp only [isDig, Bool.and_eq_true, decide_eq_true_eq] at this
            exact this
          have ht := PySem.intText_digits (x := z) hd (by intro e; rw [e] at hl; simp at hl; omega) (by omega)
          have hv : PySem.NumText.digitsVal z.cps.toList = dval z.cps.toList := rfl
          rw [hv] at ht
          have hr2 := readN_well hww
          repeat walk_at "rdt"
          refine rd_intS (by omega) ht ?_
          repeat' walk_at "rdt"
          · rename_i hlt
            rw [p64] at hlt
            rw [if_neg (by omega)] at hr2
            refine rd_fin ?_ (k _ (Same.refl _))
            unfold numI
            rw [hr2]
          · rename_i hlt
            rw [p64] at hlt
            rw [if_pos (by omega)] at hr2
            exact kn hr2 _ (Same.refl _)
    · rename_i h0 h1 h2
      have hne : z.length ≠ 0 := fun q => h0 (ez.mpr q)
      have hwell := well_yes (ds := z.cps.toList) (by omega) (by omega) (.inr (by omega))
      have hlb : 1 ≤ z.length ∧ z.length ≤ 20 := by omega
      refine rd_for (rd_iStr ?_)
      repeat walk_at "rdt"
      refine ⟨z, rfl, for_str (fun i σ' H' => H' = H ∧ (z.cps.toList.take i).all isDig = true ∧ ∃ v w, σ' = [some (.str z), v, w]) ⟨rfl, rfl, _, _, rfl⟩ ?_ ?_⟩
      · rintro i c σ' H' hi hc ⟨rfl, ha, v, w, rfl⟩
        have hc : z.cps.toList[i]? = some c := by simpa using hc
        have hil := (List.getElem?_eq_some_iff.mp hc).1
        have et := List.take_succ_eq_append_getElem hil
        rw [(List.getElem?_eq_some_iff.mp hc).2] at et
        repeat walk_at "rdt"
        rw [in_fig c]
        cases hd : isDig c with
        | true =>
          repeat walk_at "rdt"
          exact ⟨rfl, by rw [et, List.all_append, ha]; simp [hd], _, _, rfl⟩
        | false =>
          repeat walk_at "rdt"
          refine kn (readN_ill ?_) _ (Same.refl _)
          rw [hwell]
          refine Bool.eq_false_iff.mpr fun q => ?_
          have := List.all_eq_true.mp q c (List.mem_of_getElem? hc)
          rw [hd] at this
          cases this
      · rintro σ' H' ⟨rfl, ha, v, w, rfl⟩
        rw [← hl, List.take_length] at ha
        have hww : wellN z.cps.toList = true := hwell.trans ha
        have hd : PySem.NumText.AllDigits z.cps.toList := fun c hc => by
          have := List.all_eq_true.mp ha c hc
          simp only [isDig, Bool.and_eq_true, decide_eq_true_eq] at this
          exact this
        have ht := PySem.intText_digits (x := z) hd (by intro e; rw [e] at hl; simp at hl; omega) (by omega)
        have hv : PySem.NumText.digitsVal z.cps.toList = dval z.cps.toList := rfl
        rw [hv] at ht
        have hr2 := readN_well hww
        repeat walk_at "rdt"
        refine rd_intS (by omega) ht ?_
        repeat' walk_at "rdt"
        · rename_i hlt
          rw [p64] at hlt
          rw [if_neg (by omega)] at hr2
          refine rd_fin ?_ (k _ (Same.refl _))
          unfold numI
          rw [hr2]
        · rename_i hlt
          rw [p64] at hlt
          rw [if_pos (by omega)] at hr2
          exact kn hr2 _ (Same.refl _)

end
end My

namespace My
open PySem L2

theorem least_neg {z : Str} {m : Int} (h : (numsL z = [] ∧ m = 0) ∨ (m ∈ numsL z ∧ ∀ x ∈ numsL z, m ≤ x)) (h0 : m < 0) : okL z = false := by
  rcases h with ⟨_, e⟩ | ⟨hm, _⟩
  · omega
  · unfold numsL at hm
    obtain ⟨u, hu, rfl⟩ := List.mem_map.mp hm
    unfold okL
    refine Bool.eq_false_iff.mpr fun q => ?_
    have := List.all_eq_true.mp q u hu
    rw [ok_num, decide_eq_true_eq] at this
    omega
theorem least_ok {z : Str} {m : Int} (h : (numsL z = [] ∧ m = 0) ∨ (m ∈ numsL z ∧ ∀ x ∈ numsL z, m ≤ x)) (h0 : ¬ m < 0) : okL z = true := by
  unfold okL
  refine List.all_eq_true.mpr fun u hu => ?_
  have hx : numI u ∈ numsL z := List.mem_map.mpr ⟨u, hu, rfl⟩
  rw [ok_num, decide_eq_true_eq]
  rcases h with ⟨e, _⟩ | ⟨_, le⟩
  · rw [e] at hx
    simp at hx
  · have := le _ hx
    omega

section
variable {P : Program} {w : World} {K : PySem.W.Frag} {mg : Str → Option Value} {base : Heap}
theorem sc_Lnumbers_of : FnScope ["_law_part", "_law_found", "_law_word"] ["_law_part"] (defScope s_Lnumbers_of) := ⟨rfl, rfl, rfl, by decide +kernel, rfl, by decide +kernel, by decide +kernel⟩
theorem ok_Lnumbers_of    (D : DefAt K mg "_law_numbers_of" s_Lnumbers_of) (c_Lnumber_of : Cal P w K mg base 1 "_law_number_of" spLNum) : Cal P w K mg base 2 "_law_numbers_of" spLNums := by
  refine cal_of (N := ["_law_part", "_law_found", "_law_word"]) (ps := ["_law_part"]) D sc_Lnumbers_of (fun vs H Q E h => ?_) (fun _ _ _ _ _ _ us hl => match us, hl with | [_], _ => rfl) (fun f cdv A outer s H vs Q E hr h => ?_)
  · obtain ⟨z, rfl, _⟩ := h; rfl
  · obtain ⟨z, rfl, hz, k⟩ := h
    refine ⟨_, (pss_cons (ps_set (i := 1) sc_Lnumbers_of.nd rfl (by first | exact Or.inl rfl | exact Or.inr rfl) (pe_lst pa_nil))
      (pss_cons (ps_if (pt_cmpR op_eq (pv 0) pe_str (nomark _)) (pss_one (ps_ret (pv 1))) pss_nil)
      (pss_cons (ps_for PassesOwn.never rfl (pi_list (pe_bm PySem.F.plainAttrs_str PySem.F.slot_str_split PySem.F.type_str_split mt_split (pv 0) (pa_cons pe_str pa_nil))) (pg_name (i := 2) sc_Lnumbers_of.nd rfl (by first | exact Or.inl rfl | exact Or.inr rfl))
      (pss_one (ps_expr (pe_bm PySem.F.plainAttrs_list PySem.F.slot_list_append PySem.F.type_list_append mt_append (pv 1) (pa_cons (pe_cal c_Lnumber_of (hr.mono (by decide)) rfl (pa_cons (pv 2) pa_nil)) pa_nil)))))
      (pss_one (ps_ret (pv 1)))))), ?_⟩
    try simp only [nox_K, nox_P, nox_w, nox_mg, nox_base, cxOf_K, cxOf_P, cxOf_w, cxOf_mg, cxOf_base]
    repeat walk_at "rdt"
    refine ⟨by decide, fun l hl => ?_⟩
    repeat' walk_at "rdt"
    · rename_i he
      have he : z = Str.ofString "" := he
      refine k l _ (Same.new hl) ?_
      rw [upd_same]
      unfold numsL partsS
      rw [if_pos he]
      rfl
    · rename_i he
      have he : ¬ z = Str.ofString "" := he
      have ep : partsS z = Txt.split z (Str.ofString " ") := if_neg he
      have sl := split_len z (Str.ofString " ")
      refine rd_for (rd_iList ?_)
      repeat walk_at "rdt"
      refine rd_split (by decide) (big (by omega)) (big (by omega)) fun q hq => ?_
      rw [← ep] at sl ⊢
      have hqs : (upd (upd H l (.lst [])) q (.lst ((partsS z).map V.str))) q = some (.lst ((partsS z).map V.str)) := upd_same
      have hll : (upd (upd H l (.lst [])) q (.lst ((partsS z).map V.str))) l = some (.lst []) := (Same.new hq) _ _ upd_same
      have s0 : Same H (upd (upd H l (.lst [])) q (.lst ((partsS z).map V.str))) := (Same.new hl).newT hq
      have nql : q ≠ l := Ne.symm (ne_of_none upd_same hq)
      generalize upd (upd H l (.lst [])) q (.lst ((partsS z).map V.str)) = H0 at hqs hll s0 ⊢
      refine ⟨q, rfl, ⟨_, sql_of hqs⟩, for_list (xs := (partsS z).map V.str) (fun i σ' H' => Same H H' ∧ H' q = some (.lst ((partsS z).map V.str)) ∧ H' l = some (.lst ((((partsS z).take i).map numI).map V.int)) ∧ ∃ v, σ' = [some (.str z), some (.ref l), v]) ⟨s0, hqs, hll, _, rfl⟩ (fun i σ' H' _ z' => sql_of z'.2.1) ?_ ?_⟩
      · rintro i x σ' H' hx ⟨sm, hq', hl', v, rfl⟩
        rw [List.getElem?_map] at hx
        obtain ⟨u, hu, rfl⟩ := Option.map_eq_some_iff.mp hx
        have hi := (List.getElem?_eq_some_iff.mp hu).1
        have hum : u ∈ partsS z := List.mem_of_getElem? hu
        have hul : u.length ≤ sizeLine := big (by
          rw [ep] at hum
          have := split_part hum
          omega)
        have et := List.take_succ_eq_append_getElem hi
        rw [(List.getElem?_eq_some_iff.mp hu).2] at et
        repeat walk_at "rdt"
        refine ⟨ty_list (sql_of hl'), ?_⟩
        repeat walk_at "rdt"
        refine ⟨u, rfl, hul, fun H2 s2 => ?_⟩
        repeat walk_at "rdt"
        refine rd_append (xs := (((partsS z).take i).map numI).map V.int) (s2 _ _ hl') (by
          rw [List.length_map, List.length_map, List.length_take]
          exact Nat.lt_of_le_of_lt (show min i (partsS z).length ≤ 1000002 by omega) (by decide)) ?_
        refine ⟨(sm.trans s2).wr hl, by rw [upd_ne nql]; exact s2 _ _ hq', upd_same.trans ?_, _, rfl⟩
        rw [et, List.map_append, List.map_append]
        rfl
      · rintro σ' H' ⟨sm, hq', hl', v, rfl⟩
        rw [List.length_map, List.take_length] at hl'
        repeat walk_at "rdt"
        exact k l H' sm hl'
theorem sc_Lpaper_of : FnScope ["_law_text_here", "_law_parts", "_law_place", "_law_numbers", "_law_way"] ["_law_text_here"] (defScope s_Lpaper_of) := ⟨rfl, rfl, rfl, by decide +kernel, rfl, by decide +kernel, by decide +kernel⟩
theorem ok_Lpaper_of    (D : DefAt K mg "_law_paper_of" s_Lpaper_of) (c_Lnumber_of : Cal P w K mg base 1 "_law_number_of" spLNum) (c_Lnumbers_of : Cal P w K mg base 2 "_law_numbers_of" spLNums) (n_len : mg "len" = none) (n_min : mg "min" = none) : Cal P w K mg base 3 "_law_paper_of" spLPaper := by
  refine cal_of (N := ["_law_text_here", "_law_parts", "_law_place", "_law_numbers", "_law_way"]) (ps := ["_law_text_here"]) D sc_Lpaper_of (fun vs H Q E h => ?_) (fun _ _ _ _ _ _ us hl => match us, hl with | [_], _ => rfl) (fun f cdv A outer s H vs Q E hr h => ?_)
  · obtain ⟨z, rfl, _⟩ := h; rfl
  · obtain ⟨z, rfl, hz, k⟩ := h
    refine ⟨_, (pss_cons (ps_set (i := 1) sc_Lpaper_of.nd rfl (by first | exact Or.inl rfl | exact Or.inr rfl) (pe_bm PySem.F.plainAttrs_str PySem.F.slot_str_split PySem.F.type_str_split mt_split (pv 0) (pa_cons pe_str pa_nil)))
      (pss_cons (ps_if (pt_cmpR op_ne (pe_callB cn_len rfl n_len PySem.boot_len (pa_cons (pv 1) pa_nil)) pe_int (nomark _)) (pss_one (ps_ret pe_non)) pss_nil)
      (pss_cons (ps_set (i := 2) sc_Lpaper_of.nd rfl (by first | exact Or.inl rfl | exact Or.inr rfl) (pe_cal c_Lnumber_of (hr.mono (by decide)) rfl (pa_cons (pe_ix ix_list (pv 1) pe_int (fun _ _ => rfl)) pa_nil)))
      (pss_cons (ps_set (i := 3) sc_Lpaper_of.nd rfl (by first | exact Or.inl rfl | exact Or.inr rfl) (pe_cal c_Lnumbers_of (hr.mono (by decide)) rfl (pa_cons (pe_ix ix_list (pv 1) pe_int (fun _ _ => rfl)) pa_nil)))
      (pss_cons (ps_set (i := 4) sc_Lpaper_of.nd rfl (by first | exact Or.inl rfl | exact Or.inr rfl) (pe_cal c_Lnumbers_of (hr.mono (by decide)) rfl (pa_cons (pe_ix ix_list (pv 1) pe_int (fun _ _ => rfl)) pa_nil)))
      (pss_cons (ps_if (PW.pt (pw_or (pt_cmpR op_lt (pv 2) pe_int (nomark _)) (pw_or (pt_cmpR op_lt (pe_minD rfl rfl n_min (pa_cons (pv 3) pa_nil) (pk_cons pe_int pk_nil)) pe_int (nomark _)) (pw_or (pt_cmpR op_lt (pe_minD rfl rfl n_min (pa_cons (pv 4) pa_nil) (pk_cons pe_int pk_nil)) pe_int (nomark _)) (pw_or1 (pt_cmpR op_gt (pe_callB cn_len rfl n_len PySem.boot_len (pa_cons (pv 4) pa_nil)) pe_int (nomark _))))))) (pss_one (ps_ret pe_non)) pss_nil)
      (pss_one (ps_ret (pe_tup (pa_cons (pv 2) (pa_cons (pv 3) (pa_cons (pv 4) pa_nil)))))))))))), ?_⟩
    try simp only [nox_K, nox_P, nox_w, nox_mg, nox_base, cxOf_K, cxOf_P, cxOf_w, cxOf_mg, cxOf_base]
    have tl := third_len z
    repeat walk_at "rdt"
    refine rd_split (by decide) (big (by omega)) (big (by unfold thirds at tl; omega)) fun q hq => ?_
    have hlen : ((thirds z).map V.str).length = (thirds z).length := List.length_map ..
    have hqs : SqL K (upd H q (.lst ((thirds z).map V.str))) q ((thirds z).map V.str) := sql_new
    have s0 : Same H (upd H q (.lst ((thirds z).map V.str))) := Same.new hq
    unfold thirds at hlen hqs s0
    generalize upd H q (.lst ((Txt.split z (Str.ofString " / ")).map V.str)) = H0 at hqs s0 ⊢
    change ((thirds z).map V.str).length = (thirds z).length at hlen
    change SqL K H0 q ((thirds z).map V.str) at hqs
    repeat' walk_at "rdt"
    · rename_i h3
      have h3 : (thirds z).length ≠ 3 := by
        intro e
        refine h3 ?_
        show (((thirds z).map V.str).length : Int) = 3
        rw [hlen, e]
        rfl
      rw [if_neg (by unfold paperOk; rw [decide_eq_false h3]; simp)] at k
      exact k H0 s0
    · rename_i h3
      have h3 : (thirds z).length = 3 := by
        have h3 : (((thirds z).map V.str).length : Int) = 3 := h3
        rw [hlen] at h3
        omega
      have e0 : (thirds z)[0]? = some (p0 z) := by unfold p0; rw [List.getD, List.getElem?_eq_getElem (show 0 < (thirds z).length by omega)]; rfl
      have e1 : (thirds z)[1]? = some (p1 z) := by unfold p1; rw [List.getD, List.getElem?_eq_getElem (show 1 < (thirds z).length by omega)]; rfl
      have e2 : (thirds z)[2]? = some (p2 z) := by unfold p2; rw [List.getD, List.getElem?_eq_getElem (show 2 < (thirds z).length by omega)]; rfl
      have l0 := third_part (List.mem_of_getElem? e0)
      have l1 := third_part (List.mem_of_getElem? e1)
      have l2 := third_part (List.mem_of_getElem? e2)
      have i0 : ((thirds z).map V.str)[0]? = some (.str (p0 z)) := by rw [List.getElem?_map, e0]; rfl
      have i1 : ((thirds z).map V.str)[1]? = some (.str (p1 z)) := by rw [List.getElem?_map, e1]; rfl
      have i2 : ((thirds z).map V.str)[2]? = some (.str (p2 z)) := by rw [List.getElem?_map, e2]; rfl
      refine rd_ixL hqs (atI_nat' (i := 0) i0 rfl) ?_
      repeat walk_at "rdt"
      refine ⟨p0 z, rfl, big (by omega), fun H1 s1 => ?_⟩
      have hqs1 := s1.seq hqs
      repeat walk_at "rdt"
      refine rd_ixL hqs1 (atI_nat' (i := 1) i1 rfl) ?_
      repeat walk_at "rdt"
      refine ⟨p1 z, rfl, by omega, fun na H2 s2 hna => ?_⟩
      have hqs2 := s2.seq hqs1
      repeat walk_at "rdt"
      refine rd_ixL hqs2 (atI_nat' (i := 2) i2 rfl) ?_
      repeat walk_at "rdt"
      refine ⟨p2 z, rfl, by omega, fun wa H3 s3 hwa => ?_⟩
      have hna3 := s3 _ _ hna
      have hnl : SqL K H3 na ((numsL (p1 z)).map V.int) := sql_of hna3
      have hwl : SqL K H3 wa ((numsL (p2 z)).map V.int) := sql_of hwa
      have hwm : ((numsL (p2 z)).map V.int).length = (numsL (p2 z)).length := List.length_map ..
      have sm := ((s0.trans s1).trans s2).trans s3
      have kf : paperOk z = false → Q .non H3 := fun e => by
        rw [if_neg (by rw [e]; decide)] at k
        exact k H3 sm
      repeat' walk_at "rdt"
      · rename_i hlt
        exact kf (by unfold paperOk; rw [ok_num, decide_eq_false (p := 0 ≤ numI (p0 z)) (by omega)]; simp)
      · rename_i hlt
        refine rd_minD ?_
        repeat walk_at "rdt"
        refine ⟨na, _, 0, rfl, rfl, hnl, fun m hm => ?_⟩
        repeat' walk_at "rdt"
        · rename_i hm0
          exact kf (by unfold paperOk; rw [least_neg hm hm0]; simp)
        · rename_i hm0
          have o1 := least_ok hm hm0
          refine rd_minD ?_
          repeat walk_at "rdt"
          refine ⟨wa, _, 0, rfl, rfl, hwl, fun m2 hm2 => ?_⟩
          repeat' walk_at "rdt"
          · rename_i hm1
            exact kf (by unfold paperOk; rw [least_neg hm2 hm1]; simp)
          · rename_i hm1 hgt
            exact kf (by unfold paperOk; rw [decide_eq_false (p := (numsL (p2 z)).length ≤ 60) (by omega)]; simp)
          · rename_i hm1 hgt
            have o2 := least_ok hm2 hm1
            rw [if_pos (by unfold paperOk; rw [o1, o2, ok_num, decide_eq_true (p := 0 ≤ numI (p0 z)) (by omega), decide_eq_true h3, decide_eq_true (p := (numsL (p2 z)).length ≤ 60) (by omega)]; rfl)] at k
            refine ⟨show 3 ≤ sizeLine by decide, fun t ht => ?_⟩
            exact k t _ (sm.newT ht) ⟨na, wa, upd_same, (Same.new ht) _ _ hna3, (Same.new ht) _ _ hwa⟩

end
end My

namespace My
open PySem L2

theorem rd_strP {i : Int} {H : Hp} {Q : VK} (h : i.natAbs.log2 < 1920) (q : Q (.str (strI i)) H) : rStrI [.int i] H Q := rd_strI h q

section
variable {P : Program} {w : World} {K : PySem.W.Frag} {mg : Str → Option Value} {base : Heap}
theorem sc_Ltext : FnScope ["_law_paper", "_law_parts", "_law_numbers"] ["_law_paper"] (defScope s_Ltext) := ⟨rfl, rfl, rfl, by decide +kernel, rfl, by decide +kernel, by decide +kernel⟩
theorem ok_Ltext    (D : DefAt K mg "_law_text" s_Ltext) (n_str : mg "str" = none) : Cal P w K mg base 1 "_law_text" (spText K) := by
  refine cal_of (N := ["_law_paper", "_law_parts", "_law_numbers"]) (ps := ["_law_paper"]) D sc_Ltext (fun vs H Q E h => ?_) (fun _ _ _ _ _ _ us hl => match us, hl with | [_], _ => rfl) (fun f cdv A outer s H vs Q E hr h => ?_)
  · obtain ⟨t, p, ns, ws, rfl, _⟩ := h; rfl
  · obtain ⟨t, p, ns, ws, rfl, ⟨na, wa, h1, h2, h3⟩, p0, p1, on, ow, ln, lw, k⟩ := h
    refine ⟨_, (pss_cons (ps_set (i := 1) sc_Ltext.nd rfl (by first | exact Or.inl rfl | exact Or.inr rfl) (pe_lst (pa_cons (pe_callTy ct_str rfl n_str PyProof.Rows.boot_str (pa_cons (pe_ix ix_tup (pv 0) pe_int (fun _ _ => rfl)) pa_nil)) pa_nil)))
      (pss_cons (ps_for PassesOwn.never rfl (pi_tup (pe_slice sl_tup (pv 0) (po_some pe_int) po_none)) (pg_name (i := 2) sc_Ltext.nd rfl (by first | exact Or.inl rfl | exact Or.inr rfl))
      (pss_one (ps_expr (pe_bm PySem.F.plainAttrs_list PySem.F.slot_list_append PySem.F.type_list_append mt_append (pv 1) (pa_cons (pe_bm PySem.F.plainAttrs_str PySem.F.slot_str_join PySem.F.type_str_join mt_join pe_str (pa_cons (pe_comp ["_law_number_here"] rfl (show CompScope (defScope s_Ltext) ["_law_paper", "_law_parts", "_law_numbers"] ["_law_number_here"] _ from ⟨rfl, by decide +kernel, by decide +kernel, by decide +kernel, by decide +kernel, by decide +kernel⟩) (pi_list (pv 2)) (fun _ _ _ _ _ => (pg_name (i := 0) (show (["_law_number_here", "_law_paper", "_law_parts", "_law_numbers"] : List Str).Nodup by decide +kernel) rfl (Or.inl rfl) (.inr rfl))) (fun _ _ _ _ _ => pif_nil) (fun _ _ _ _ _ => (pe_callTy ct_str rfl n_str PyProof.Rows.boot_str (pa_cons (pv 0) pa_nil)))) pa_nil)) pa_nil)))))
      (pss_one (ps_ret (pe_bm PySem.F.plainAttrs_str PySem.F.slot_str_join PySem.F.type_str_join mt_join pe_str (pa_cons (pv 1) pa_nil)))))), ?_⟩
    try simp only [nox_K, nox_P, nox_w, nox_mg, nox_base, cxOf_K, cxOf_P, cxOf_w, cxOf_mg, cxOf_base]
    repeat walk_at "rdt"
    refine rd_strP (log_1920 p0 (Int.lt_trans p1 (by decide))) ?_
    repeat walk_at "rdt"
    refine ⟨show 1 ≤ sizeLine by decide, fun l hl => ?_⟩
    have h1' : SqT K (upd H l (.lst [.str (strI p)])) t [.int p, .ref na, .ref wa] := h1.updN hl
    repeat walk_at "rdt"
    refine rd_for (rd_iTup ?_)
    repeat walk_at "rdt"
    refine ⟨t, _, rfl, h1', fun z => absurd (show HT.sIx 3 0 (some 1) = 0 from z.1) (by decide), fun q hq => ?_⟩
    have ec : cutV [V.int p, .ref na, .ref wa] (some 1) none = [.ref na, .ref wa] := cutV_drop (n := 1)
    rw [ec]
    have hqt : (upd (upd H l (.lst [.str (strI p)])) q (.tup [.ref na, .ref wa])) q = some (.tup [.ref na, .ref wa]) := upd_same
    have hll : (upd (upd H l (.lst [.str (strI p)])) q (.tup [.ref na, .ref wa])) l = some (.lst [.str (strI p)]) := (Same.new hq) _ _ upd_same
    have s0 : Same H (upd (upd H l (.lst [.str (strI p)])) q (.tup [.ref na, .ref wa])) := (Same.new hl).newT hq
    have nql : q ≠ l := Ne.symm (ne_of_none upd_same hq)
    generalize upd (upd H l (.lst [.str (strI p)])) q (.tup [.ref na, .ref wa]) = H0 at hqt hll s0 ⊢
    refine ⟨q, rfl, ⟨_, sqt_of hqt⟩, for_tup (xs := [.ref na, .ref wa]) (fun i σ' H' => Same H H' ∧ H' q = some (.tup [.ref na, .ref wa]) ∧ H' l = some (.lst (([strI p, shownS ns, shownS ws].take (i + 1)).map V.str)) ∧ ∃ v, σ' = [some (.ref t), some (.ref l), v]) ⟨s0, hqt, hll, _, rfl⟩ (fun i σ' H' _ z' => sqt_of z'.2.1) ?_ ?_⟩
    · rintro i x σ' H' hx ⟨sm, hq', hl', v, rfl⟩
      obtain ⟨b, ms, rfl, hb, ob, lb, et, hi2⟩ : ∃ (b : Addr) (ms : List Int), x = .ref b ∧ SqL K H b (ms.map V.int) ∧ okN ms ∧ ms.length ≤ 1000 ∧ [strI p, shownS ns, shownS ws].take (i + 2) = [strI p, shownS ns, shownS ws].take (i + 1) ++ [shownS ms] ∧ i < 2 := by
        match i, hx with
        | 0, hx => cases hx; exact ⟨na, ns, rfl, h2, on, ln, rfl, by decide⟩
        | 1, hx => cases hx; exact ⟨wa, ws, rfl, h3, ow, lw, rfl, by decide⟩
        | i + 2, hx => simp at hx
      repeat walk_at "rdt"
      refine ⟨ty_list (sql_of hl'), ?_⟩
      repeat walk_at "rdt"
      refine rd_comp (rd_iList ?_)
      repeat walk_at "rdt"
      refine ⟨b, rfl, ⟨_, sm.seq hb⟩, fun r hr => ?_⟩
      refine comp_map (ys := (ms.map strI).map V.str) (sm.seq hb) hr (by rw [List.length_map, List.length_map, List.length_map]) (by rw [List.length_map]; exact big (by omega)) ?_ ?_
      · intro i x y H2 Q' hx hy sm2 q'
        rw [List.getElem?_map] at hx
        obtain ⟨c, hc, rfl⟩ := Option.map_eq_some_iff.mp hx
        rw [List.getElem?_map, List.getElem?_map, hc] at hy
        cases hy
        have hm := ob c (List.mem_of_getElem? hc)
        repeat walk_at "rdt"
        exact rd_strI (log_1920 hm.1 (Int.lt_trans hm.2 (by decide))) q'
      · repeat walk_at "rdt"
        refine rd_join (sql_of upd_same) (joinOk_of (Nat.le_trans (shown_ok ob lb) (by decide))) ?_
        have hl2 := (Same.new hr (o := .lst ((ms.map strI).map V.str))) _ _ hl'
        have hq2 := (Same.new hr (o := .lst ((ms.map strI).map V.str))) _ _ hq'
        have sm2 := sm.newT hr (o := .lst ((ms.map strI).map V.str))
        generalize upd H' r (.lst ((ms.map strI).map V.str)) = H2 at hl2 hq2 sm2 ⊢
        repeat walk_at "rdt"
        refine rd_append hl2 (by rw [List.length_map, List.length_take]; exact Nat.lt_of_le_of_lt (Nat.min_le_right _ _) (show 3 < sizeLine by decide)) ?_
        refine ⟨sm2.wr hl, by rw [upd_ne nql]; exact hq2, upd_same.trans ?_, _, rfl⟩
        rw [et, List.map_append]
        rfl
    · rintro σ' H' ⟨sm, hq', hl', v, rfl⟩
      repeat walk_at "rdt"
      refine rd_join (ts := [strI p, shownS ns, shownS ws]) (sql_of hl') (joinOk_of (Nat.le_trans (text_ok p0 p1 on ow ln lw) (by decide))) ?_
      exact k _ sm
theorem sc_Lis : FnScope ["_law_found", "_law_due", "_law_part", "_law_number_here"] ["_law_found", "_law_due"] (defScope s_Lis) := ⟨rfl, rfl, rfl, by decide +kernel, rfl, by decide +kernel, by decide +kernel⟩
theorem ok_Lis    (D : DefAt K mg "_law_is" s_Lis) (c_Lwhole : Cal P w K mg base 1 "_law_whole" spWhole) (n_isinstance : mg "isinstance" = none) (n_tuple : mg "tuple" = none) (n_len : mg "len" = none) (n_list : mg "list" = none) : Cal P w K mg base 2 "_law_is" spIs := by
  refine cal_of (N := ["_law_found", "_law_due", "_law_part", "_law_number_here"]) (ps := ["_law_found", "_law_due"]) D sc_Lis (fun vs H Q E h => ?_) (fun _ _ _ _ _ _ us hl => match us, hl with | [_, _], _ => rfl) (fun f cdv A outer s H vs Q E hr h => ?_)
  · obtain ⟨t, t2, p, ns, ws, rfl, _⟩ := h; rfl
  · obtain ⟨t, t2, p, ns, ws, rfl, hu, hv, k⟩ := h
    obtain ⟨na, wa, h1, h2, h3⟩ := id hu
    refine ⟨_, (pss_cons (ps_if (PW.pt (pw_or (pt_not (pt_val (pe_callB cn_isiA rfl n_isinstance PyProof.Rows.boot_isinstance (pa_cons (pv 0) (pa_cons (pe_blA rfl n_tuple PyProof.Rows.boot_tuple) pa_nil))))) (pw_or (pt_cmpR op_ne (pe_callB cn_len rfl n_len PySem.boot_len (pa_cons (pv 0) pa_nil)) pe_int (nomark _)) (pw_or1 (pt_not (pt_val (pe_cal c_Lwhole (hr.mono (by decide)) rfl (pa_cons (pe_ix ix_tup (pv 0) pe_int (fun _ _ => rfl)) pa_nil)))))))) (pss_one (ps_ret pe_bl)) pss_nil)
      (pss_cons (ps_for PassesOwn.never rfl (pi_tup (pe_slice sl_tup (pv 0) (po_some pe_int) po_none)) (pg_name (i := 2) sc_Lis.nd rfl (by first | exact Or.inl rfl | exact Or.inr rfl))
      (pss_cons (ps_if (pt_not (pt_val (pe_callB cn_isiA rfl n_isinstance PyProof.Rows.boot_isinstance (pa_cons (pv 2) (pa_cons (pe_blA rfl n_list PyProof.Rows.boot_list) pa_nil))))) (pss_one (ps_ret pe_bl)) pss_nil)
      (pss_one (ps_for PassesOwn.never rfl (pi_list (pv 2)) (pg_name (i := 3) sc_Lis.nd rfl (by first | exact Or.inl rfl | exact Or.inr rfl))
      (pss_one (ps_if (pt_not (pt_val (pe_cal c_Lwhole (hr.mono (by decide)) rfl (pa_cons (pv 3) pa_nil)))) (pss_one (ps_ret pe_bl)) pss_nil))))))
      (pss_one (ps_ret (pe_cmpR (op_eqD hr.units) (pv 0) (pv 1) (nomark _)))))), ?_⟩
    try simp only [nox_K, nox_P, nox_w, nox_mg, nox_base, cxOf_K, cxOf_P, cxOf_w, cxOf_mg, cxOf_base]
    have h1T : SqT K H t [.int p, .ref na, .ref wa] := sqt_of h1
    repeat' walk_at "rdt"
    · rename_i hz
      exact absurd rfl hz
    refine ⟨p, rfl, ?_⟩
    repeat walk_at "rdt"
    refine rd_for (rd_iTup ?_)
    repeat walk_at "rdt"
    refine ⟨t, _, rfl, h1T, fun z => absurd (show HT.sIx 3 0 (some 1) = 0 from z.1) (by decide), fun q hq => ?_⟩
    have ec : cutV [V.int p, .ref na, .ref wa] (some 1) none = [.ref na, .ref wa] := cutV_drop (n := 1)
    rw [ec]
    have hqt : (upd H q (.tup [.ref na, .ref wa])) q = some (.tup [.ref na, .ref wa]) := upd_same
    have s0 : Same H (upd H q (.tup [.ref na, .ref wa])) := Same.new hq
    generalize upd H q (.tup [.ref na, .ref wa]) = H0 at hqt s0 ⊢
    refine ⟨q, rfl, ⟨_, sqt_of hqt⟩, for_tup (xs := [.ref na, .ref wa]) (fun i σ' H' => H' = H0 ∧ ∃ v w, σ' = [some (.ref t), some (.ref t2), v, w]) ⟨rfl, _, _, rfl⟩ (fun i σ' H' _ z' => by rw [z'.1]; exact sqt_of hqt) ?_ ?_⟩
    · rintro i x σ' H' hx ⟨rfl, v, w, rfl⟩
      obtain ⟨b, ms, rfl, hb⟩ : ∃ (b : Addr) (ms : List Int), x = .ref b ∧ H b = some (.lst (ms.map V.int)) := by
        match i, hx with
        | 0, hx => cases hx; exact ⟨na, ns, rfl, h2⟩
        | 1, hx => cases hx; exact ⟨wa, ws, rfl, h3⟩
        | i + 2, hx => simp at hx
      have hbL : SqL K H' b (ms.map V.int) := sql_of (s0 _ _ hb)
      repeat walk_at "rdt"
      dsimp only
      refine rd_for (rd_iList ?_)
      repeat walk_at "rdt"
      refine ⟨b, rfl, ⟨_, hbL⟩, for_list (xs := ms.map V.int) (fun j σ2 H2 => H2 = H' ∧ ∃ w, σ2 = [some (.ref t), some (.ref t2), some (.ref b), w]) ⟨rfl, _, rfl⟩ (fun j σ2 H2 _ z' => by rw [z'.1]; exact hbL) ?_ ?_⟩
      · rintro j y σ2 H2 hy ⟨rfl, w2, rfl⟩
        rw [List.getElem?_map] at hy
        obtain ⟨c, hc, rfl⟩ := Option.map_eq_some_iff.mp hy
        repeat walk_at "rdt"
        refine ⟨c, rfl, ?_⟩
        repeat walk_at "rdt"
        exact ⟨rfl, _, rfl⟩
      · rintro σ2 H2 ⟨rfl, w2, rfl⟩
        exact ⟨rfl, _, _, rfl⟩
    · rintro σ' H' ⟨rfl, v, w, rfl⟩
      repeat walk_at "rdt"
      refine rd_eqD1 (hu.keep s0).dv (hv.keep s0).dv (dtPap_dep _ _ _) ?_
      exact k _ s0

end
end My

namespace My
open PySem L2

theorem dvs_bls {K : PySem.W.Frag} {H : Hp} : ∀ bs : List Bool, DVs K H (bs.map Dt.bl) (bs.map V.bl)
  | [] => dvs_nil
  | b :: bs => dvs_cons (by unfold DV; rfl) (dvs_bls bs)

section
variable {P : Program} {w : World} {K : PySem.W.Frag} {mg : Str → Option Value} {base : Heap}
theorem sc_Lrefused_by_any : FnScope ["_law_text_here", "_law_kinds", "e"] ["_law_text_here"] (defScope s_Lrefused_by_any) := ⟨rfl, rfl, rfl, by decide +kernel, rfl, by decide +kernel, by decide +kernel⟩
theorem ok_Lrefused_by_any {cNoPaper : Addr} {cHouseError : Addr} {cNoClash : Addr} {cNoRow : Addr} {cNoCode : Addr} {cNoSlot : Addr} {cTaken : Addr} {cTooMuch : Addr} {cNoNumber : Addr} {cNoAccount : Addr} {cNoLimit : Addr} {cPoorPurse : Addr} {cPoorCoin : Addr} (hAs : AsOk K mg cNoPaper "HouseError" cHouseError) (zK : ExcK K cNoPaper) (g_NoPaper : GlobAt mg "NoPaper" (.ref cNoPaper)) (n_ValueError : mg "ValueError" = none) (k_ValueError : PySem.W.kitOne K (.ref cNoPaper) (.type "ValueError") = some true) (k_NoPaper : PySem.W.kitOne K (.ref cNoPaper) (.ref cNoPaper) = some true) (g_NoClash : GlobAt mg "NoClash" (.ref cNoClash)) (k_NoClash : PySem.W.kitOne K (.ref cNoPaper) (.ref cNoClash) = some false) (g_NoRow : GlobAt mg "NoRow" (.ref cNoRow)) (k_NoRow : PySem.W.kitOne K (.ref cNoPaper) (.ref cNoRow) = some false) (g_NoCode : GlobAt mg "NoCode" (.ref cNoCode)) (k_NoCode : PySem.W.kitOne K (.ref cNoPaper) (.ref cNoCode) = some false) (g_NoSlot : GlobAt mg "NoSlot" (.ref cNoSlot)) (k_NoSlot : PySem.W.kitOne K (.ref cNoPaper) (.ref cNoSlot) = some false) (g_Taken : GlobAt mg "Taken" (.ref cTaken)) (k_Taken : PySem.W.kitOne K (.ref cNoPaper) (.ref cTaken) = some false) (g_TooMuch : GlobAt mg "TooMuch" (.ref cTooMuch)) (k_TooMuch : PySem.W.kitOne K (.ref cNoPaper) (.ref cTooMuch) = some false) (g_NoNumber : GlobAt mg "NoNumber" (.ref cNoNumber)) (k_NoNumber : PySem.W.kitOne K (.ref cNoPaper) (.ref cNoNumber) = some false) (g_NoAccount : GlobAt mg "NoAccount" (.ref cNoAccount)) (k_NoAccount : PySem.W.kitOne K (.ref cNoPaper) (.ref cNoAccount) = some false) (g_NoLimit : GlobAt mg "NoLimit" (.ref cNoLimit)) (k_NoLimit : PySem.W.kitOne K (.ref cNoPaper) (.ref cNoLimit) = some false) (g_PoorPurse : GlobAt mg "PoorPurse" (.ref cPoorPurse)) (k_PoorPurse : PySem.W.kitOne K (.ref cNoPaper) (.ref cPoorPurse) = some false) (g_PoorCoin : GlobAt mg "PoorCoin" (.ref cPoorCoin)) (k_PoorCoin : PySem.W.kitOne K (.ref cNoPaper) (.ref cPoorCoin) = some false)  (D : DefAt K mg "_law_refused_by_any" s_Lrefused_by_any) (o_NoPaper : Exc "NoPaper" cNoPaper mg base) (c_read_paper : CalE P w K mg base 5 "read_paper" (spReadPaper cNoPaper)) (n_isinstance : mg "isinstance" = none) : Cal P w K mg base 6 "_law_refused_by_any" spAny := by
  refine cal_of (N := ["_law_text_here", "_law_kinds", "e"]) (ps := ["_law_text_here"]) D sc_Lrefused_by_any (fun vs H Q E h => ?_) (fun _ _ _ _ _ _ us hl => match us, hl with | [_], _ => rfl) (fun f cdv A outer s H vs Q E hr h => ?_)
  · obtain ⟨z, rfl, _⟩ := h; rfl
  · obtain ⟨z, rfl, hz, hno, k⟩ := h
    refine ⟨_, (pss_cons (ps_set (i := 1) sc_Lrefused_by_any.nd rfl (by first | exact Or.inl rfl | exact Or.inr rfl) (pe_lst pa_nil))
      (pss_cons (ps_tryAs (i := 2) hAs rfl sc_Lrefused_by_any.nd rfl rfl (fun _ _ _ => (pss_one (ps_expr (pe_calT rfl rfl c_read_paper (hr.mono (by decide)) rfl (pa_cons (pv 0) pa_nil))))) (fun _ _ hE => (pss_cons (ps_set (i := 1) sc_Lrefused_by_any.nd rfl (by first | exact Or.inl rfl | exact Or.inr rfl) (pe_lst (pa_cons (pe_callB (cn_isE hE zK) rfl n_isinstance PyProof.Rows.boot_isinstance (pa_cons (pv 2) (pa_cons (pe_blA rfl n_ValueError boot_VE) pa_nil))) (pa_cons (pe_callB (cn_isE hE zK) rfl n_isinstance PyProof.Rows.boot_isinstance (pa_cons (pv 2) (pa_cons (pe_glA rfl g_NoPaper) pa_nil))) (pa_cons (pe_callB (cn_isE hE zK) rfl n_isinstance PyProof.Rows.boot_isinstance (pa_cons (pv 2) (pa_cons (pe_glA rfl g_NoClash) pa_nil))) (pa_cons (pe_callB (cn_isE hE zK) rfl n_isinstance PyProof.Rows.boot_isinstance (pa_cons (pv 2) (pa_cons (pe_glA rfl g_NoRow) pa_nil))) pa_nil))))))
      (pss_cons (ps_set (i := 1) sc_Lrefused_by_any.nd rfl (by first | exact Or.inl rfl | exact Or.inr rfl) (pe_op op_cat (pv 1) (pe_lst (pa_cons (pe_callB (cn_isE hE zK) rfl n_isinstance PyProof.Rows.boot_isinstance (pa_cons (pv 2) (pa_cons (pe_glA rfl g_NoCode) pa_nil))) (pa_cons (pe_callB (cn_isE hE zK) rfl n_isinstance PyProof.Rows.boot_isinstance (pa_cons (pv 2) (pa_cons (pe_glA rfl g_NoSlot) pa_nil))) (pa_cons (pe_callB (cn_isE hE zK) rfl n_isinstance PyProof.Rows.boot_isinstance (pa_cons (pv 2) (pa_cons (pe_glA rfl g_Taken) pa_nil))) (pa_cons (pe_callB (cn_isE hE zK) rfl n_isinstance PyProof.Rows.boot_isinstance (pa_cons (pv 2) (pa_cons (pe_glA rfl g_TooMuch) pa_nil))) pa_nil)))))))
      (pss_cons (ps_set (i := 1) sc_Lrefused_by_any.nd rfl (by first | exact Or.inl rfl | exact Or.inr rfl) (pe_op op_cat (pv 1) (pe_lst (pa_cons (pe_callB (cn_isE hE zK) rfl n_isinstance PyProof.Rows.boot_isinstance (pa_cons (pv 2) (pa_cons (pe_glA rfl g_NoNumber) pa_nil))) (pa_cons (pe_callB (cn_isE hE zK) rfl n_isinstance PyProof.Rows.boot_isinstance (pa_cons (pv 2) (pa_cons (pe_glA rfl g_NoAccount) pa_nil))) (pa_cons (pe_callB (cn_isE hE zK) rfl n_isinstance PyProof.Rows.boot_isinstance (pa_cons (pv 2) (pa_cons (pe_glA rfl g_NoLimit) pa_nil))) pa_nil))))))
      (pss_one (ps_set (i := 1) sc_Lrefused_by_any.nd rfl (by first | exact Or.inl rfl | exact Or.inr rfl) (pe_op op_cat (pv 1) (pe_lst (pa_cons (pe_callB (cn_isE hE zK) rfl n_isinstance PyProof.Rows.boot_isinstance (pa_cons (pv 2) (pa_cons (pe_glA rfl g_PoorPurse) pa_nil))) (pa_cons (pe_callB (cn_isE hE zK) rfl n_isinstance PyProof.Rows.boot_isinstance (pa_cons (pv 2) (pa_cons (pe_glA rfl g_PoorCoin) pa_nil))) pa_nil)))))))))))
      (pss_one (ps_ret (pe_cmpR (op_eqD hr.units) (pv 1) (pe_op op_cat (pe_lst (pa_cons pe_bl (pa_cons pe_bl pa_nil))) (pe_op op_rep (pe_lst (pa_cons pe_bl pa_nil)) pe_int)) (nomark _)))))), ?_⟩
    try simp only [nox_K, nox_P, nox_w, nox_mg, nox_base, cxOf_K, cxOf_P, cxOf_w, cxOf_mg, cxOf_base]
    repeat walk_at "rdt"
    refine ⟨by decide, fun l0 hl0 => ?_⟩
    repeat walk_at "rdt"
    refine rd_tryAs ?_
    repeat walk_at "rdt"
    refine rd_at (rd_callE ?_)
    repeat walk_at "rdt"
    have s0 := Same.new hl0 (o := .lst [])
    refine ⟨z, rfl, hz, ?_⟩
    rw [if_neg (by rw [hno]; decide)]
    intro ex H1 s1
    have sm := s0.trans s1
    clear s0 s1
    refine ⟨rfl, fun a ea => ?_⟩
    cases ea
    simp only [List.set_cons_zero, List.set_cons_succ]
    repeat walk_at "rdt"

    refine rd_isE k_ValueError (by intro z; cases z) ?_
    repeat walk_at "rdt"

    refine rd_isE k_NoPaper (by intro z; cases z) ?_
    repeat walk_at "rdt"

    refine rd_isE k_NoClash (by intro z; cases z) ?_
    repeat walk_at "rdt"

    refine rd_isE k_NoRow (by intro z; cases z) ?_
    repeat walk_at "rdt"
    refine ⟨show 4 ≤ sizeLine by decide, fun a1 ha1 => ?_⟩
    repeat walk_at "rdt"

    refine rd_isE k_NoCode (by intro z; cases z) ?_
    repeat walk_at "rdt"

    refine rd_isE k_NoSlot (by intro z; cases z) ?_
    repeat walk_at "rdt"

    refine rd_isE k_Taken (by intro z; cases z) ?_
    repeat walk_at "rdt"

    refine rd_isE k_TooMuch (by intro z; cases z) ?_
    repeat walk_at "rdt"
    refine ⟨show 4 ≤ sizeLine by decide, fun a2 ha2 => ?_⟩
    repeat walk_at "rdt"
    refine rd_cat (xs := [.bl true,.bl true,.bl false,.bl false]) (ys := [.bl false,.bl false,.bl false,.bl false]) (by rw [upd_ne (ne_of_none upd_same ha2)]; exact upd_same) upd_same (by decide) fun a3 ha3 => ?_
    repeat walk_at "rdt"

    refine rd_isE k_NoNumber (by intro z; cases z) ?_
    repeat walk_at "rdt"

    refine rd_isE k_NoAccount (by intro z; cases z) ?_
    repeat walk_at "rdt"

    refine rd_isE k_NoLimit (by intro z; cases z) ?_
    repeat walk_at "rdt"
    refine ⟨show 3 ≤ sizeLine by decide, fun a4 ha4 => ?_⟩
    repeat walk_at "rdt"
    refine rd_cat (xs := [.bl true,.bl true,.bl false,.bl false,.bl false,.bl false,.bl false,.bl false]) (ys := [.bl false,.bl false,.bl false]) (by rw [upd_ne (ne_of_none upd_same ha4)]; exact upd_same) upd_same (by decide) fun a5 ha5 => ?_
    repeat walk_at "rdt"

    refine rd_isE k_PoorPurse (by intro z; cases z) ?_
    repeat walk_at "rdt"

    refine rd_isE k_PoorCoin (by intro z; cases z) ?_
    repeat walk_at "rdt"
    refine ⟨show 2 ≤ sizeLine by decide, fun a6 ha6 => ?_⟩
    repeat walk_at "rdt"
    refine rd_cat (xs := [.bl true,.bl true,.bl false,.bl false,.bl false,.bl false,.bl false,.bl false,.bl false,.bl false,.bl false]) (ys := [.bl false,.bl false]) (by rw [upd_ne (ne_of_none upd_same ha6)]; exact upd_same) upd_same (by decide) fun a7 ha7 => ?_
    repeat walk_at "rdt"
    dsimp only [endsAs]
    simp only [List.set_cons_zero, List.set_cons_succ]
    repeat walk_at "rdt"
    refine ⟨show 2 ≤ sizeLine by decide, fun b1 hb1 => ?_⟩
    repeat walk_at "rdt"
    refine ⟨show 1 ≤ sizeLine by decide, fun b2 hb2 => ?_⟩
    repeat walk_at "rdt"
    refine ⟨b2, 11, [.bl false], rfl, rfl, upd_same, by decide, by decide, by decide, fun b3 hb3 => ?_⟩
    repeat walk_at "rdt"
    refine rd_cat (xs := [.bl true, .bl true]) (ys := List.replicate 11 (.bl false)) (((Same.new hb2).newT hb3) _ _ upd_same) upd_same (by decide) fun b4 hb4 => ?_
    repeat walk_at "rdt"
    have s4 := (((Same.new hb1).newT hb2).newT hb3).newT hb4 (o := .lst ([.bl true, .bl true] ++ List.replicate 11 (.bl false)))
    refine rd_eqD1 (d := .lst (([true, true] ++ List.replicate 11 false).map Dt.bl)) (dv_lst (sql_of (s4 _ _ upd_same)) (dvs_bls ([true, true] ++ List.replicate 11 false))) (dv_lst sql_new (dvs_bls ([true, true] ++ List.replicate 11 false))) (by decide) ?_
    exact k _ ((((((((sm.newT ha1).newT ha2).newT ha3).newT ha4).newT ha5).newT ha6).newT ha7).trans s4)
theorem sc_Lread : FnScope ["_law_text_here", "_law_found", "_law_refused", "_law_due"] ["_law_text_here"] (defScope s_Lread) := ⟨rfl, rfl, rfl, by decide +kernel, rfl, by decide +kernel, by decide +kernel⟩
theorem ok_Lread {cNoPaper : Addr}   (D : DefAt K mg "_law_read" s_Lread) (o_NoPaper : Exc "NoPaper" cNoPaper mg base) (c_Lpaper_of : Cal P w K mg base 3 "_law_paper_of" spLPaper) (c_read_paper : CalE P w K mg base 5 "read_paper" (spReadPaper cNoPaper)) (c_Lis : Cal P w K mg base 2 "_law_is" spIs) (c_Lrefused_by_any : Cal P w K mg base 6 "_law_refused_by_any" spAny) : Cal P w K mg base 7 "_law_read" spRead := by
  refine cal_of (N := ["_law_text_here", "_law_found", "_law_refused", "_law_due"]) (ps := ["_law_text_here"]) D sc_Lread (fun vs H Q E h => ?_) (fun _ _ _ _ _ _ us hl => match us, hl with | [_], _ => rfl) (fun f cdv A outer s H vs Q E hr h => ?_)
  · obtain ⟨z, rfl, _⟩ := h; rfl
  · obtain ⟨z, rfl, hz, k⟩ := h
    refine ⟨_, (pss_cons (ps_set (i := 1) sc_Lread.nd rfl (by first | exact Or.inl rfl | exact Or.inr rfl) pe_non)
      (pss_cons (ps_set (i := 2) sc_Lread.nd rfl (by first | exact Or.inl rfl | exact Or.inr rfl) pe_bl)
      (pss_cons (ps_try o_NoPaper rfl (by decide) (fun _ _ _ => (pss_one (ps_set (i := 1) sc_Lread.nd rfl (by first | exact Or.inl rfl | exact Or.inr rfl) (pe_calT rfl rfl c_read_paper (hr.mono (by decide)) rfl (pa_cons (pv 0) pa_nil))))) (fun _ => (pss_one (ps_set (i := 2) sc_Lread.nd rfl (by first | exact Or.inl rfl | exact Or.inr rfl) pe_bl))))
      (pss_cons (ps_set (i := 3) sc_Lread.nd rfl (by first | exact Or.inl rfl | exact Or.inr rfl) (pe_cal c_Lpaper_of (hr.mono (by decide)) rfl (pa_cons (pv 0) pa_nil)))
      (pss_cons (ps_if (pt_cmpR op_isNn (pv 3) pe_non (nomark _)) (pss_one (ps_ret (pe_and (pv 2) (pe_one (pe_cal c_Lrefused_by_any (hr.mono (by decide)) rfl (pa_cons (pv 0) pa_nil)))))) pss_nil)
      (pss_one (ps_ret (pe_and (pe_not (pv 2)) (pe_one (pe_cal c_Lis (hr.mono (by decide)) rfl (pa_cons (pv 1) (pa_cons (pv 3) pa_nil)))))))))))), ?_⟩
    try simp only [nox_K, nox_P, nox_w, nox_mg, nox_base, cxOf_K, cxOf_P, cxOf_w, cxOf_mg, cxOf_base]
    repeat walk_at "rdt"
    refine rd_try ?_
    repeat walk_at "rdt"
    refine rd_at (rd_callE ?_)
    repeat walk_at "rdt"
    refine ⟨z, rfl, hz, ?_⟩
    cases ho : paperOk z with
    | true =>
      rw [if_pos rfl]
      intro t H1 s1 hp1
      repeat walk_at "rdt"
      refine ⟨z, rfl, hz, ?_⟩
      rw [if_pos ho]
      intro t2 H2 s2 hp2
      repeat walk_at "rdt"
      refine ⟨t, t2, _, _, _, rfl, hp1.keep s2, hp2, fun H3 s3 => ?_⟩
      repeat walk_at "rdt"
      exact k H3 ((s1.trans s2).trans s3)
    | false =>
      rw [if_neg (by decide)]
      intro ex H1 s1
      refine ⟨rfl, ?_⟩
      repeat walk_at "rdt"
      refine ⟨z, rfl, hz, ?_⟩
      rw [if_neg (by rw [ho]; decide)]
      intro H2 s2
      repeat walk_at "rdt"
      refine ⟨z, rfl, hz, ho, fun H3 s3 => ?_⟩
      repeat walk_at "rdt"
      exact k H3 ((s1.trans s2).trans s3)
theorem sc_Lnumber : FnScope ["_law_cell"] ["_law_cell"] (defScope s_Lnumber) := ⟨rfl, rfl, rfl, by decide +kernel, rfl, by decide +kernel, by decide +kernel⟩
theorem ok_Lnumber    (D : DefAt K mg "_law_number" s_Lnumber) : Cal P w K mg base 1 "_law_number" spNumber := by
  refine cal_of (N := ["_law_cell"]) (ps := ["_law_cell"]) D sc_Lnumber (fun vs H Q E h => ?_) (fun _ _ _ _ _ _ us hl => match us, hl with | [_], _ => rfl) (fun f cdv A outer s H vs Q E hr h => ?_)
  · obtain ⟨c, rfl, _⟩ := h; rfl
  · obtain ⟨c, rfl, k⟩ := h
    refine ⟨_, (pss_cons (ps_if (pt_cmpR op_eq (pe_op op_mod (pv 0) pe_int) pe_int (nomark _)) (pss_one (ps_ret (pe_op op_mod (pe_op op_fdivW (pv 0) pe_int) pe_int))) pss_nil)
      (pss_one (ps_ret (pe_op op_mod (pe_op op_fdivW (pv 0) pe_int) (pe_op op_pow pe_int pe_int))))), ?_⟩
    try simp only [nox_K, nox_P, nox_w, nox_mg, nox_base, cxOf_K, cxOf_P, cxOf_w, cxOf_mg, cxOf_base]
    repeat' walk_at "rdt"
    · exact k _ (by omega) (by omega)
    · rw [p64]
      exact k _ (by omega) (by omega)

end
end My

namespace My
open PySem L2

def spSpoilt2 : Sp := fun vs H Q _ => ∃ (z : Str) (kd at' cell : Int), vs = [.str z, .int kd, .int at', .int cell] ∧ z.length ≤ 400000 ∧ ∀ z2 : Str, z2.length ≤ 1000000 → Q (.str z2) H

def spLaw (K : PySem.W.Frag) : Sp := fun vs H Q _ => ∃ (a : Addr) (ns : List Int), vs = [.ref a] ∧ SqL K H a (ns.map V.int) ∧ ns.length ≤ 63 ∧ ∀ H', Q (.bl true) H'
theorem ints_ok : ∀ (ys : List V), (∀ y ∈ ys, ∃ i : Int, y = V.int i ∧ 0 ≤ i ∧ i < 18446744073709551616) → ∃ ms : List Int, ys = ms.map V.int ∧ okN ms
  | [], _ => ⟨[], rfl, fun n hn => by simp at hn⟩
  | y :: ys, h => by
    obtain ⟨i, rfl, h0, h1⟩ := h y (by simp)
    obtain ⟨ms, rfl, ok⟩ := ints_ok ys fun y hy => h y (by simp [hy])
    refine ⟨i :: ms, rfl, fun n hn => ?_⟩
    rcases List.mem_cons.mp hn with e | e
    · rw [e]; exact ⟨h0, h1⟩
    · exact ok n e
theorem okN.drop {ns : List Int} (h : okN ns) (j : Nat) : okN (ns.drop j) := fun n hn => h n (List.mem_of_mem_drop hn)
theorem okN.take {ns : List Int} (h : okN ns) (j : Nat) : okN (ns.take j) := fun n hn => h n (List.mem_of_mem_take hn)
theorem cut_drop (ns : List Int) (j : Nat) : cutV (ns.map V.int) (some (j : Int)) none = (ns.drop j).map V.int := by rw [cutV_drop, List.map_drop]
theorem cut_take (ns : List Int) (j : Nat) : cutV (ns.map V.int) none (some (j : Int)) = (ns.take j).map V.int := by rw [cutV_take, List.map_take]
theorem p9 : (10 : Int) ^ Int.toNat 9 = 1000000000 := by decide
theorem div_ok {sp : Int} (h0 : 0 ≤ sp) (h1 : sp < 1000000000) (n : Nat) : okN ((List.range n).map fun k : Nat => sp / ((k : Int) + 1)) := fun m hm => by
  obtain ⟨k, _, rfl⟩ := List.mem_map.mp hm
  have a := Int.ediv_nonneg h0 (show (0 : Int) ≤ (k : Int) + 1 by omega)
  have b := Int.ediv_le_self ((k : Int) + 1) h0
  omega

section
variable {P : Program} {w : World} {K : PySem.W.Frag} {mg : Str → Option Value} {base : Heap}
theorem sc_Lspoilt : FnScope ["_law_text_here", "_law_kind", "_law_at", "_law_cell", "_law_signs", "_law_sign"] ["_law_text_here", "_law_kind", "_law_at", "_law_cell"] (defScope s_Lspoilt) := ⟨rfl, rfl, rfl, by decide +kernel, rfl, by decide +kernel, by decide +kernel⟩
theorem ok_Lspoilt    (D : DefAt K mg "_law_spoilt" s_Lspoilt) (n_len : mg "len" = none) : Cal P w K mg base 1 "_law_spoilt" spSpoilt2 := by
  refine cal_of (N := ["_law_text_here", "_law_kind", "_law_at", "_law_cell", "_law_signs", "_law_sign"]) (ps := ["_law_text_here", "_law_kind", "_law_at", "_law_cell"]) D sc_Lspoilt (fun vs H Q E h => ?_) (fun _ _ _ _ _ _ us hl => match us, hl with | [_, _, _, _], _ => rfl) (fun f cdv A outer s H vs Q E hr h => ?_)
  · obtain ⟨z, kd, at', cell, rfl, _⟩ := h; rfl
  · obtain ⟨z, kd, at', cell, rfl, hz, k⟩ := h
    refine ⟨_, (pss_cons (ps_set (i := 4) sc_Lspoilt.nd rfl (by first | exact Or.inl rfl | exact Or.inr rfl) pe_str)
      (pss_cons (ps_set (i := 5) sc_Lspoilt.nd rfl (by first | exact Or.inl rfl | exact Or.inr rfl) (pe_ix ix_str (pv 4) (pe_op op_mod (pv 3) (pe_callB cn_lenZ rfl n_len PySem.boot_len (pa_cons (pv 4) pa_nil))) (fun _ _ => rfl)))
      (pss_cons (ps_set (i := 2) sc_Lspoilt.nd rfl (by first | exact Or.inl rfl | exact Or.inr rfl) (pe_op op_mod (pv 2) (pe_op op_add (pe_callB cn_lenZ rfl n_len PySem.boot_len (pa_cons (pv 0) pa_nil)) pe_int)))
      (pss_cons (ps_if (pt_cmpR op_eq (pv 1) pe_int (nomark _)) (pss_one (ps_ret (pe_op op_addS (pe_op op_addS (pe_slice sl_str (pv 0) po_none (po_some (pv 2))) (pv 5)) (pe_slice sl_str (pv 0) (po_some (pv 2)) po_none)))) pss_nil)
      (pss_cons (ps_if (pt_cmpR op_eq (pv 1) pe_int (nomark _)) (pss_one (ps_ret (pe_op op_addS (pe_slice sl_str (pv 0) po_none (po_some (pv 2))) (pe_slice sl_str (pv 0) (po_some (pe_op op_add (pv 2) pe_int)) po_none)))) pss_nil)
      (pss_cons (ps_if (pt_cmpR op_eq (pv 1) pe_int (nomark _)) (pss_one (ps_ret (pe_op op_addS (pe_op op_addS (pe_slice sl_str (pv 0) po_none (po_some (pv 2))) (pv 5)) (pe_slice sl_str (pv 0) (po_some (pe_op op_add (pv 2) pe_int)) po_none)))) pss_nil)
      (pss_one (ps_ret (pe_op op_addS (pe_op op_addS (pe_slice sl_str (pv 0) po_none (po_some (pv 2))) pe_str) (pe_slice sl_str (pv 0) (po_some (pv 2)) po_none)))))))))), ?_⟩
    try simp only [nox_K, nox_P, nox_w, nox_mg, nox_base, cxOf_K, cxOf_P, cxOf_w, cxOf_mg, cxOf_base]
    have zs : z.length ≤ sizeLine := Nat.le_trans hz (by decide)
    have sl : sizeLine = 16777216 := PySem.sizeLine_eq
    have l3 : (Str.ofString " / ").length = 3 := by decide
    repeat walk_at "rdt"
    refine rd_ixK1 (by decide) (Int.emod_nonneg _ (by decide)) (Int.emod_lt_of_pos _ (by decide)) fun y hy => ?_
    repeat' walk_at "rdj"
    all_goals exact k _ (by omega)
theorem sc_law : FnScope ["_law_script", "_law_cells", "_law_cut", "_law_paper", "_law_handed", "_law_text_here", "_law_spot", "_law_kind", "_law_many"] ["_law_script"] (defScope s_law) := ⟨rfl, rfl, rfl, by decide +kernel, rfl, by decide +kernel, by decide +kernel⟩
theorem ok_law    {f : Addr} {fd : FuncData} (F : Fun K "law" "law" s_law f fd) (c_show_paper : Cal P w K mg base 2 "show_paper" (spText K)) (c_Lread : Cal P w K mg base 7 "_law_read" spRead) (c_Lnumber : Cal P w K mg base 1 "_law_number" spNumber) (c_Lcell_at : Cal P w K mg base 1 "_law_cell_at" (spCell K)) (c_Ltext : Cal P w K mg base 1 "_law_text" (spText K)) (c_Lspoilt : Cal P w K mg base 1 "_law_spoilt" spSpoilt2) (n_min : mg "min" = none) (n_range : mg "range" = none) (n_list : mg "list" = none) (n_isinstance : mg "isinstance" = none) (n_str : mg "str" = none) (n_len : mg "len" = none) : FnOk P w K mg base CX0 8 f fd ["_law_script"] (spLaw K) := by
  refine F.ok (N := ["_law_script", "_law_cells", "_law_cut", "_law_paper", "_law_handed", "_law_text_here", "_law_spot", "_law_kind", "_law_many"]) sc_law (fun vs H Q E h => ?_) (fun cdv A outer s H vs Q E hr h => ?_)
  · obtain ⟨a, ns, rfl, _⟩ := h; rfl
  · obtain ⟨a, ns, rfl, hS, hlen, k⟩ := h
    refine ⟨_, (pss_cons (ps_setC (i := 1) ["_law_cell"] sc_law.nd rfl rfl rfl (show CompScope (defScope s_law) ["_law_script", "_law_cells", "_law_cut", "_law_paper", "_law_handed", "_law_text_here", "_law_spot", "_law_kind", "_law_many"] ["_law_cell"] _ from ⟨rfl, by decide +kernel, by decide +kernel, by decide +kernel, by decide +kernel, by decide +kernel⟩) (pi_list (pe_slice sl_list (pv 0) (po_some pe_int) (po_some pe_int))) (fun _ _ _ _ _ => (pg_name (i := 0) (show (["_law_cell", "_law_script", "_law_cells", "_law_cut", "_law_paper", "_law_handed", "_law_text_here", "_law_spot", "_law_kind", "_law_many"] : List Str).Nodup by decide +kernel) rfl (Or.inl rfl) (.inr rfl))) (fun _ _ _ _ _ => pif_nil) (fun _ _ _ _ _ => (pe_cal c_Lnumber (hr.mono (by decide)) rfl (pa_cons (pv 0) pa_nil))))
      (pss_cons (ps_set (i := 2) sc_law.nd rfl (by first | exact Or.inl rfl | exact Or.inr rfl) (pe_callB (cn_min rfl) rfl n_min PyProof.Rows.boot_min (pa_cons (pe_op op_mod (pe_cal c_Lcell_at (hr.mono (by decide)) rfl (pa_cons (pv 0) (pa_cons pe_int pa_nil))) (pe_op op_add (pe_callB cn_len rfl n_len PySem.boot_len (pa_cons (pv 1) pa_nil)) pe_int)) (pa_cons pe_int pa_nil))))
      (pss_cons (ps_set (i := 3) sc_law.nd rfl (by first | exact Or.inl rfl | exact Or.inr rfl) (pe_tup (pa_cons (pe_cal c_Lnumber (hr.mono (by decide)) rfl (pa_cons (pe_cal c_Lcell_at (hr.mono (by decide)) rfl (pa_cons (pv 0) (pa_cons pe_int pa_nil))) pa_nil)) (pa_cons (pe_slice sl_list (pv 1) (po_some (pv 2)) po_none) (pa_cons (pe_slice sl_list (pv 1) po_none (po_some (pv 2))) pa_nil)))))
      (pss_cons (ps_set (i := 4) sc_law.nd rfl (by first | exact Or.inl rfl | exact Or.inr rfl) (pe_tup (pa_cons (pe_ix ix_tup (pv 3) pe_int (fun _ _ => rfl)) (pa_cons (pe_callTy ct_list rfl n_list PyProof.Rows.boot_list (pa_cons (pe_ix ix_tup (pv 3) pe_int (fun _ _ => rfl)) pa_nil)) (pa_cons (pe_callTy ct_list rfl n_list PyProof.Rows.boot_list (pa_cons (pe_ix ix_tup (pv 3) pe_int (fun _ _ => rfl)) pa_nil)) pa_nil)))))
      (pss_cons (ps_set (i := 5) sc_law.nd rfl (by first | exact Or.inl rfl | exact Or.inr rfl) (pe_cal c_show_paper (hr.mono (by decide)) rfl (pa_cons (pv 4) pa_nil)))
      (pss_cons (ps_if (PW.pt (pw_or (pt_cmpR (op_neD hr.units) (pv 4) (pv 3) (nomark _)) (pw_or (pt_not (pt_val (pe_callB cn_isiA rfl n_isinstance PyProof.Rows.boot_isinstance (pa_cons (pv 5) (pa_cons (pe_blA rfl n_str PyProof.Rows.boot_str) pa_nil))))) (pw_or (pt_cmpR op_ne (pv 5) (pe_cal c_Ltext (hr.mono (by decide)) rfl (pa_cons (pv 3) pa_nil)) (nomark _)) (pw_or1 (pt_not (pt_val (pe_cal c_Lread (hr.mono (by decide)) rfl (pa_cons (pv 5) pa_nil))))))))) (pss_one (ps_ret pe_bl)) pss_nil)
      (pss_cons (ps_set (i := 6) sc_law.nd rfl (by first | exact Or.inl rfl | exact Or.inr rfl) (pe_op op_mod (pe_cal c_Lcell_at (hr.mono (by decide)) rfl (pa_cons (pv 0) (pa_cons pe_int pa_nil))) (pe_op op_pow pe_int pe_int)))
      (pss_cons (ps_for PassesOwn.never rfl (pi_range1 rfl n_range (pa_cons pe_int pa_nil)) (pg_name (i := 7) sc_law.nd rfl (by first | exact Or.inl rfl | exact Or.inr rfl))
      (pss_one (ps_if (pt_not (pt_val (pe_cal c_Lread (hr.mono (by decide)) rfl (pa_cons (pe_cal c_Lspoilt (hr.mono (by decide)) rfl (pa_cons (pv 5) (pa_cons (pv 7) (pa_cons (pe_op op_fdivW (pv 6) (pe_op op_add (pv 7) pe_int)) (pa_cons (pe_op op_add (pe_op op_fdivW (pv 6) pe_int) (pv 7)) pa_nil))))) pa_nil)))) (pss_one (ps_ret pe_bl)) pss_nil)))
      (pss_cons (ps_set (i := 8) sc_law.nd rfl (by first | exact Or.inl rfl | exact Or.inr rfl) (pe_ix ix_list (pe_lst (pa_cons pe_int (pa_cons pe_int pa_nil))) (pe_op op_mod (pv 6) pe_int) (fun _ _ => rfl)))
      (pss_one (ps_ret (pe_cal c_Lread (hr.mono (by decide)) rfl (pa_cons (pe_cal c_Ltext (hr.mono (by decide)) rfl (pa_cons (pe_tup (pa_cons (pe_ix ix_tup (pv 3) pe_int (fun _ _ => rfl)) (pa_cons (pe_ix ix_tup (pv 3) pe_int (fun _ _ => rfl)) (pa_cons (pe_comp ["_law_k"] rfl (show CompScope (defScope s_law) ["_law_script", "_law_cells", "_law_cut", "_law_paper", "_law_handed", "_law_text_here", "_law_spot", "_law_kind", "_law_many"] ["_law_k"] _ from ⟨rfl, by decide +kernel, by decide +kernel, by decide +kernel, by decide +kernel, by decide +kernel⟩) (pi_range1 rfl n_range (pa_cons (pv 8) pa_nil)) (fun _ _ _ _ _ => (pg_name (i := 0) (show (["_law_k", "_law_script", "_law_cells", "_law_cut", "_law_paper", "_law_handed", "_law_text_here", "_law_spot", "_law_kind", "_law_many"] : List Str).Nodup by decide +kernel) rfl (Or.inl rfl) (.inr rfl))) (fun _ _ _ _ _ => pif_nil) (fun _ _ _ _ _ => (pe_op op_fdivW (pv 7) (pe_op op_add (pv 0) pe_int)))) pa_nil)))) pa_nil)) pa_nil))))))))))))), ?_⟩
    try simp only [nox_K, nox_P, nox_w, nox_mg, nox_base, cxOf_K, cxOf_P, cxOf_w, cxOf_mg, cxOf_base]
    refine rd_seq ?_
    refine rd_comp (rd_iList ?_)
    repeat walk_at "rdm"
    intro p1 hp1
    have ec : cutV (ns.map V.int) (some 3) (some 93) = ((ns.drop 3).take 90).map V.int := by
      rw [show (3 : Int) = ((3 : Nat) : Int) from rfl, show (93 : Int) = ((93 : Nat) : Int) from rfl, cutV_range, List.map_take, List.map_drop]
    rw [ec]
    generalize hms : (ns.drop 3).take 90 = ms
    have ml : ms.length ≤ 63 := by rw [← hms, List.length_take, List.length_drop]; omega
    refine ⟨p1, rfl, ⟨_, sql_new⟩, fun p2 hp2 => ?_⟩
    refine comp_rel (fun _ y => ∃ i : Int, y = .int i ∧ 0 ≤ i ∧ i < 18446744073709551616) sql_new hp2 (by rw [List.length_map]; exact Nat.le_trans ml (by decide)) ?_ ?_
    · intro i x H' Q' hx _ q
      rw [List.getElem?_map] at hx
      obtain ⟨c, hc, rfl⟩ := Option.map_eq_some_iff.mp hx
      repeat walk_at "rdm"
      exact ⟨c, rfl, fun i h0 h1 => q _ ⟨i, rfl, h0, h1⟩⟩
    intro ys hys hre
    obtain ⟨xs, rfl, okx⟩ := ints_ok ys fun y hy => by
      obtain ⟨j, hj⟩ := List.getElem?_of_mem hy
      have hjl := (List.getElem?_eq_some_iff.mp hj).1
      exact hre j _ y (List.getElem?_eq_getElem (by omega)) hj
    have hxl : xs.length ≤ 63 := by rw [List.length_map, List.length_map] at hys; omega
    have hX : SqL K (upd (upd H p1 (.lst (ms.map V.int))) p2 (.lst (xs.map V.int))) p2 (xs.map V.int) := sql_new
    have hA : SqL K (upd (upd H p1 (.lst (ms.map V.int))) p2 (.lst (xs.map V.int))) a (ns.map V.int) := (hS.updN hp1).updN hp2
    generalize upd (upd H p1 _) p2 _ = H2 at hX hA
    clear hre hys
    repeat walk_at "rdm"
    refine ⟨a, ns, 0, rfl, by decide, hA, fun c0 => ?_⟩
    have hlx : (xs.map V.int).length = xs.length := List.length_map ..
    repeat walk_at "rdm"
    refine ⟨a, ns, 1, rfl, by decide, hA, fun c1 => ?_⟩
    rw [hlx]
    obtain ⟨cn, hcn, hcl⟩ : ∃ cn : Nat, (if (59 : Int) < c0 % ((xs.length : Int) + 1) then 59 else c0 % ((xs.length : Int) + 1)) = (cn : Int) ∧ cn ≤ xs.length := by
      have h1 := Int.emod_nonneg c0 (b := (xs.length : Int) + 1) (by omega)
      have h2 := Int.emod_lt_of_pos c0 (b := (xs.length : Int) + 1) (by omega)
      split
      · exact ⟨59, rfl, by omega⟩
      · exact ⟨(c0 % ((xs.length : Int) + 1)).toNat, by omega, by omega⟩
    simp only [hcn]
    repeat walk_at "rdm"
    refine ⟨c1, rfl, fun pl pl0 pl1 => ?_⟩
    repeat walk_at "rdm"
    intro p3 hp3
    rw [cut_drop]
    repeat walk_at "rdm"
    refine rd_slL (hX.updN hp3) fun p4 hp4 => ?_
    rw [cut_take]
    have okn := okx.drop cn
    have okw := okx.take cn
    have lN : (xs.drop cn).length ≤ 1000 := by rw [List.length_drop]; omega
    have lW : (xs.take cn).length ≤ 1000 := by rw [List.length_take]; omega
    generalize xs.drop cn = N at okn lN hp4 ⊢
    generalize xs.take cn = W at okw lW ⊢
    repeat walk_at "rdm"
    refine ⟨show 3 ≤ sizeLine by decide, fun t1 ht1 => ?_⟩
    generalize hG0 : upd (upd (upd H2 p3 _) p4 _) t1 _ = H5
    have s5 : Same H2 H5 := by rw [← hG0]; exact ((Same.new hp3).newT hp4).newT ht1
    have g3 : H5 p3 = some (.lst (N.map V.int)) := by rw [← hG0]; exact ((Same.new hp4).newT ht1) _ _ upd_same
    have g4 : H5 p4 = some (.lst (W.map V.int)) := by rw [← hG0]; exact (Same.new ht1) _ _ upd_same
    have g1 : H5 t1 = some (.tup [.int pl, .ref p3, .ref p4]) := by rw [← hG0]; exact upd_same
    have hA5 := s5.seq hA
    clear hG0 hX hA hS s5
    have t1T : SqT K H5 t1 [.int pl, .ref p3, .ref p4] := sqt_of g1
    repeat walk_at "rdt"
    refine rd_listL (sql_of g3) fun l5 hl5 => ?_
    have t1X : SqT K (upd H5 l5 (.lst (N.map V.int))) t1 [.int pl, .ref p3, .ref p4] := t1T.updN hl5
    repeat walk_at "rdt"
    refine rd_listL (sql_of ((Same.new hl5) _ _ g4)) fun l6 hl6 => ?_
    repeat walk_at "rdt"
    refine ⟨show 3 ≤ sizeLine by decide, fun t2 ht2 => ?_⟩
    generalize hG0 : upd (upd (upd H5 l5 _) l6 _) t2 _ = H6
    have s6 : Same H5 H6 := by rw [← hG0]; exact ((Same.new hl5).newT hl6).newT ht2
    have hP2 : PapH H6 t2 pl N W := by rw [← hG0]; exact ⟨l5, l6, upd_same, ((Same.new hl6).newT ht2) _ _ upd_same, (Same.new ht2) _ _ upd_same⟩
    have hP1 : PapH H6 t1 pl N W := PapH.keep ⟨p3, p4, g1, g3, g4⟩ s6
    have hA6 := s6.seq hA5
    have g16 := s6 _ _ g1
    have g36 := s6 _ _ g3
    clear hG0
    repeat walk_at "rdt"
    refine ⟨t2, pl, N, W, rfl, hP2.at, pl0, pl1, okn, okw, lN, lW, fun H7 s7 => ?_⟩
    have tl := text_len pl0 pl1 okn okw lN lW
    repeat walk_at "rdt"
    refine rd_neD1 (hP2.keep s7).dv (hP1.keep s7).dv (dtPap_dep _ _ _) ?_
    repeat walk_at "rdt"
    refine ⟨t1, pl, N, W, rfl, (hP1.keep s7).at, pl0, pl1, okn, okw, lN, lW, fun H8 s8 => ?_⟩
    generalize textP pl N W = tx at tl ⊢
    repeat' walk_at "rdt"
    · rename_i hz
      exact absurd rfl hz
    refine ⟨tx, rfl, by omega, fun H9 s9 => ?_⟩
    have sm9 := (s7.trans s8).trans s9
    have hA9 := sm9.seq hA6
    repeat walk_at "rdt"
    refine ⟨a, ns, 2, rfl, by decide, hA9, fun c2 => ?_⟩
    repeat walk_at "rdt"
    have sp0 : 0 ≤ c2 % 10 ^ Int.toNat 9 := by rw [p9]; omega
    have sp1 : c2 % 10 ^ Int.toNat 9 < 1000000000 := by rw [p9]; omega
    generalize c2 % 10 ^ Int.toNat 9 = sp at sp0 sp1 ⊢
    refine rd_for (rd_iRng1 ?_)
    repeat walk_at "rdt"
    refine ⟨_, rfl, by decide, by decide, for_range (fun i σ' H' => Same H9 H' ∧ ∃ v1 v2, σ' = [some (.ref a), some (.ref p2), some (.int cn), some (.ref t1), some (.ref t2), some (.str tx), some (.int sp), v1, v2]) ⟨Same.refl _, _, _, rfl⟩ ?_ ?_⟩
    · rintro i σ' H' hi ⟨sm, v1, v2, rfl⟩
      have hi : i < 4 := hi
      repeat walk_at "rdt"
      refine ⟨tx, _, _, _, rfl, by omega, fun z2 hz2 => ?_⟩
      repeat walk_at "rdt"
      refine ⟨z2, rfl, hz2, fun H10 s10 => ?_⟩
      repeat walk_at "rdt"
      exact ⟨sm.trans s10, _, _, rfl⟩
    · rintro σ' H' ⟨sm, v1, v2, rfl⟩
      have sm' := sm9.trans sm
      have g17 := sm' _ _ g16
      have g37 := sm' _ _ g36
      clear hA9 hA6 hA5 hP1 hP2 t1T t1X sm' sm sm9
      repeat walk_at "rdt"
      refine ⟨show 2 ≤ sizeLine by decide, fun l7 hl7 => ?_⟩
      repeat walk_at "rdt"
      obtain ⟨mn, hmn, hml⟩ : ∃ mn : Nat, atI [V.int 60, .int 61] (sp % 2) = some (.int mn) ∧ mn ≤ 61 := by
        rcases (show sp % 2 = 0 ∨ sp % 2 = 1 by omega) with z | z
        · exact ⟨60, by rw [z]; rfl, by decide⟩
        · exact ⟨61, by rw [z]; rfl, by decide⟩
      refine rd_ixL sql_new hmn ?_
      have g18 := (Same.new hl7 (o := .lst [.int 60, .int 61])) _ _ g17
      have g38 := (Same.new hl7 (o := .lst [.int 60, .int 61])) _ _ g37
      generalize upd H' l7 (.lst [.int 60, .int 61]) = Ha at g18 g38 ⊢
      have t1Z : SqT K Ha t1 [.int pl, .ref p3, .ref p4] := sqt_of g18
      repeat walk_at "rdt"
      refine rd_comp (rd_iRng1 ?_)
      repeat walk_at "rdt"
      refine ⟨_, rfl, by omega, by omega, fun q hq => ?_⟩
      refine comp_range (ys := ((List.range mn).map fun k : Nat => sp / ((k : Int) + 1)).map V.int) hq (by simp) (by rw [Int.toNat_natCast]; exact big (by omega)) ?_ ?_
      · intro i y H2 Q' hi hy sm2 q'
        have hi : i < mn := by simpa using hi
        rw [List.getElem?_map, List.getElem?_map, List.getElem?_range hi] at hy
        cases hy
        rw [Int.zero_add]
        repeat walk_at "rdt"
        exact q'
      · repeat walk_at "rdt"
        refine ⟨show 3 ≤ sizeLine by decide, fun t3 ht3 => ?_⟩
        repeat walk_at "rdt"
        have okd := div_ok sp0 sp1 mn
        have lD : ((List.range mn).map fun k : Nat => sp / ((k : Int) + 1)).length ≤ 1000 := by rw [List.length_map, List.length_range]; omega
        refine ⟨t3, pl, N, _, rfl, ⟨p3, q, sqt_new, ((sql_of g38).updN hq).updN ht3, sql_new.updN ht3⟩, pl0, pl1, okn, okd, lN, lD, fun H11 s11 => ?_⟩
        have tl2 := text_len pl0 pl1 okn okd lN lD
        repeat walk_at "rdt"
        refine ⟨_, rfl, by omega, fun H12 s12 => ?_⟩
        exact k _

end
end My

open PySem PySem.W PyProof.Rows
theorem My.mkall {K : PySem.W.Frag} {C cH d0 d1 d2 d3 d4 d5 d6 d7 d8 d9 d10 : Addr} (uxa_NoPaper : PySem.W.nsIn K mainGlobals "NoPaper" = some (some (.ref C))) (uxq_NoPaper : PySem.W.excIn K C [.type "ValueError", .type "Exception", .type "BaseException", .type "object"] "ValueError.__new__" = true) (ue1 : PySem.W.findIn K (.ref C) "__getattribute__" = some (some (.builtin "BaseException.__getattribute__"))) (ue2 : PySem.W.findIn K (.ref C) "__getattr__" = some none) (ue3 : PySem.W.findIn K (.ref C) "__class__" = some (some (.builtin "object.__class__"))) (ue4 : PySem.W.specialIn K (.builtin "object.__class__") "__get__" = some (some (.builtin "getset_descriptor.__get__"))) (ue5 : PySem.W.takesIn K (.builtin "object.__class__") = some true) (ue6 : PySem.W.mroIn K C (.type "object") = some true) (ue7 : PySem.W.subIn K (.ref C) (.type "BaseException") = some true) (ue8 : PySem.W.isClsIn K C = true) (uxaH : PySem.W.nsIn K mainGlobals "HouseError" = some (some (.ref cH))) (uh1 : PySem.W.subIn K (.ref cH) (.type "BaseException") = some true) (uh2 : PySem.W.kitOne K (.ref C) (.ref cH) = some true) (uh3 : (Value.ref C == Value.ref cH) = false) (uk_ValueError : PySem.W.kitOne K (.ref C) (.type "ValueError") = some true) (uk_NoPaper : PySem.W.kitOne K (.ref C) (.ref C) = some true) (uxa_NoClash : PySem.W.nsIn K mainGlobals "NoClash" = some (some (.ref d0))) (uk_NoClash : PySem.W.kitOne K (.ref C) (.ref d0) = some false) (uxa_NoRow : PySem.W.nsIn K mainGlobals "NoRow" = some (some (.ref d1))) (uk_NoRow : PySem.W.kitOne K (.ref C) (.ref d1) = some false) (uxa_NoCode : PySem.W.nsIn K mainGlobals "NoCode" = some (some (.ref d2))) (uk_NoCode : PySem.W.kitOne K (.ref C) (.ref d2) = some false) (uxa_NoSlot : PySem.W.nsIn K mainGlobals "NoSlot" = some (some (.ref d3))) (uk_NoSlot : PySem.W.kitOne K (.ref C) (.ref d3) = some false) (uxa_Taken : PySem.W.nsIn K mainGlobals "Taken" = some (some (.ref d4))) (uk_Taken : PySem.W.kitOne K (.ref C) (.ref d4) = some false) (uxa_TooMuch : PySem.W.nsIn K mainGlobals "TooMuch" = some (some (.ref d5))) (uk_TooMuch : PySem.W.kitOne K (.ref C) (.ref d5) = some false) (uxa_NoNumber : PySem.W.nsIn K mainGlobals "NoNumber" = some (some (.ref d6))) (uk_NoNumber : PySem.W.kitOne K (.ref C) (.ref d6) = some false) (uxa_NoAccount : PySem.W.nsIn K mainGlobals "NoAccount" = some (some (.ref d7))) (uk_NoAccount : PySem.W.kitOne K (.ref C) (.ref d7) = some false) (uxa_NoLimit : PySem.W.nsIn K mainGlobals "NoLimit" = some (some (.ref d8))) (uk_NoLimit : PySem.W.kitOne K (.ref C) (.ref d8) = some false) (uxa_PoorPurse : PySem.W.nsIn K mainGlobals "PoorPurse" = some (some (.ref d9))) (uk_PoorPurse : PySem.W.kitOne K (.ref C) (.ref d9) = some false) (uxa_PoorCoin : PySem.W.nsIn K mainGlobals "PoorCoin" = some (some (.ref d10))) (uk_PoorCoin : PySem.W.kitOne K (.ref C) (.ref d10) = some false) : ∃ C cH d0 d1 d2 d3 d4 d5 d6 d7 d8 d9 d10 : Addr, PySem.W.nsIn K mainGlobals "NoPaper" = some (some (.ref C)) ∧ PySem.W.excIn K C [.type "ValueError", .type "Exception", .type "BaseException", .type "object"] "ValueError.__new__" = true ∧ PySem.W.findIn K (.ref C) "__getattribute__" = some (some (.builtin "BaseException.__getattribute__")) ∧ PySem.W.findIn K (.ref C) "__getattr__" = some none ∧ PySem.W.findIn K (.ref C) "__class__" = some (some (.builtin "object.__class__")) ∧ PySem.W.specialIn K (.builtin "object.__class__") "__get__" = some (some (.builtin "getset_descriptor.__get__")) ∧ PySem.W.takesIn K (.builtin "object.__class__") = some true ∧ PySem.W.mroIn K C (.type "object") = some true ∧ PySem.W.subIn K (.ref C) (.type "BaseException") = some true ∧ PySem.W.isClsIn K C = true ∧ PySem.W.nsIn K mainGlobals "HouseError" = some (some (.ref cH)) ∧ PySem.W.subIn K (.ref cH) (.type "BaseException") = some true ∧ PySem.W.kitOne K (.ref C) (.ref cH) = some true ∧ (Value.ref C == Value.ref cH) = false ∧ PySem.W.kitOne K (.ref C) (.type "ValueError") = some true ∧ PySem.W.kitOne K (.ref C) (.ref C) = some true ∧ PySem.W.nsIn K mainGlobals "NoClash" = some (some (.ref d0)) ∧ PySem.W.kitOne K (.ref C) (.ref d0) = some false ∧ PySem.W.nsIn K mainGlobals "NoRow" = some (some (.ref d1)) ∧ PySem.W.kitOne K (.ref C) (.ref d1) = some false ∧ PySem.W.nsIn K mainGlobals "NoCode" = some (some (.ref d2)) ∧ PySem.W.kitOne K (.ref C) (.ref d2) = some false ∧ PySem.W.nsIn K mainGlobals "NoSlot" = some (some (.ref d3)) ∧ PySem.W.kitOne K (.ref C) (.ref d3) = some false ∧ PySem.W.nsIn K mainGlobals "Taken" = some (some (.ref d4)) ∧ PySem.W.kitOne K (.ref C) (.ref d4) = some false ∧ PySem.W.nsIn K mainGlobals "TooMuch" = some (some (.ref d5)) ∧ PySem.W.kitOne K (.ref C) (.ref d5) = some false ∧ PySem.W.nsIn K mainGlobals "NoNumber" = some (some (.ref d6)) ∧ PySem.W.kitOne K (.ref C) (.ref d6) = some false ∧ PySem.W.nsIn K mainGlobals "NoAccount" = some (some (.ref d7)) ∧ PySem.W.kitOne K (.ref C) (.ref d7) = some false ∧ PySem.W.nsIn K mainGlobals "NoLimit" = some (some (.ref d8)) ∧ PySem.W.kitOne K (.ref C) (.ref d8) = some false ∧ PySem.W.nsIn K mainGlobals "PoorPurse" = some (some (.ref d9)) ∧ PySem.W.kitOne K (.ref C) (.ref d9) = some false ∧ PySem.W.nsIn K mainGlobals "PoorCoin" = some (some (.ref d10)) ∧ PySem.W.kitOne K (.ref C) (.ref d10) = some false := ⟨C, cH, d0, d1, d2, d3, d4, d5, d6, d7, d8, d9, d10, uxa_NoPaper, uxq_NoPaper, ue1, ue2, ue3, ue4, ue5, ue6, ue7, ue8, uxaH, uh1, uh2, uh3, uk_ValueError, uk_NoPaper, uxa_NoClash, uk_NoClash, uxa_NoRow, uk_NoRow, uxa_NoCode, uk_NoCode, uxa_NoSlot, uk_NoSlot, uxa_Taken, uk_Taken, uxa_TooMuch, uk_TooMuch, uxa_NoNumber, uk_NoNumber, uxa_NoAccount, uk_NoAccount, uxa_NoLimit, uk_NoLimit, uxa_PoorPurse, uk_PoorPurse, uxa_PoorCoin, uk_PoorCoin⟩
set_option maxRecDepth 100000 in
set_option maxHeartbeats 0 in
theorem PySem.Challenge.cw_meterhouse_k51_papers_texts_holds : PySem.Challenge.rw_meterhouse_k51_papers_texts.Holds := by
  w_on; o_law; k_head; (case hw => w_witness2)
  k_fill
  refine L2.walk_ofK (l := PySem.Challenge.rw_meterhouse_k51_papers_texts) (n := 63) (k := 8) (x := "_law_script") (CX := L2.CX0) (sp := My.spLaw) rfl (by decide) rfl ⟨rfl, by decide, by decide⟩ (fun w h Y => PySem.W.kIn_of Y) ?F ?S ?C
  case F =>
    intro w mg fa h KX G hmg
    have D_is_number : L2.DefAt (L2.KOf KX) mg "is_number" My.s_is_number := by
      dsimp only [L2.KOf]
      refine' L2.defAt_mk KX G ?a ?l ?c ?k
      (case a => k_is); (case l => k_is); (case c => k_is); (case k => k_is)
    have D_well_written : L2.DefAt (L2.KOf KX) mg "well_written" My.s_well_written := by
      dsimp only [L2.KOf]
      refine' L2.defAt_mk KX G ?a ?l ?c ?k
      (case a => k_is); (case l => k_is); (case c => k_is); (case k => k_is)
    have D_number_of : L2.DefAt (L2.KOf KX) mg "number_of" My.s_number_of := by
      dsimp only [L2.KOf]
      refine' L2.defAt_mk KX G ?a ?l ?c ?k
      (case a => k_is); (case l => k_is); (case c => k_is); (case k => k_is)
    have D_shown_numbers : L2.DefAt (L2.KOf KX) mg "shown_numbers" My.s_shown_numbers := by
      dsimp only [L2.KOf]
      refine' L2.defAt_mk KX G ?a ?l ?c ?k
      (case a => k_is); (case l => k_is); (case c => k_is); (case k => k_is)
    have D_show_paper : L2.DefAt (L2.KOf KX) mg "show_paper" My.s_show_paper := by
      dsimp only [L2.KOf]
      refine' L2.defAt_mk KX G ?a ?l ?c ?k
      (case a => k_is); (case l => k_is); (case c => k_is); (case k => k_is)
    have D_read_number : L2.DefAt (L2.KOf KX) mg "read_number" My.s_read_number := by
      dsimp only [L2.KOf]
      refine' L2.defAt_mk KX G ?a ?l ?c ?k
      (case a => k_is); (case l => k_is); (case c => k_is); (case k => k_is)
    have D_read_numbers : L2.DefAt (L2.KOf KX) mg "read_numbers" My.s_read_numbers := by
      dsimp only [L2.KOf]
      refine' L2.defAt_mk KX G ?a ?l ?c ?k
      (case a => k_is); (case l => k_is); (case c => k_is); (case k => k_is)
    have D_read_paper : L2.DefAt (L2.KOf KX) mg "read_paper" My.s_read_paper := by
      dsimp only [L2.KOf]
      refine' L2.defAt_mk KX G ?a ?l ?c ?k
      (case a => k_is); (case l => k_is); (case c => k_is); (case k => k_is)
    have D_Lcell_at : L2.DefAt (L2.KOf KX) mg "_law_cell_at" My.s_Lcell_at := by
      dsimp only [L2.KOf]
      refine' L2.defAt_mk KX G ?a ?l ?c ?k
      (case a => k_is); (case l => k_is); (case c => k_is); (case k => k_is)
    have D_Lwhole : L2.DefAt (L2.KOf KX) mg "_law_whole" My.s_Lwhole := by
      dsimp only [L2.KOf]
      refine' L2.defAt_mk KX G ?a ?l ?c ?k
      (case a => k_is); (case l => k_is); (case c => k_is); (case k => k_is)
    have D_Lnumber_of : L2.DefAt (L2.KOf KX) mg "_law_number_of" My.s_Lnumber_of := by
      dsimp only [L2.KOf]
      refine' L2.defAt_mk KX G ?a ?l ?c ?k
      (case a => k_is); (case l => k_is); (case c => k_is); (case k => k_is)
    have D_Lnumbers_of : L2.DefAt (L2.KOf KX) mg "_law_numbers_of" My.s_Lnumbers_of := by
      dsimp only [L2.KOf]
      refine' L2.defAt_mk KX G ?a ?l ?c ?k
      (case a => k_is); (case l => k_is); (case c => k_is); (case k => k_is)
    have D_Lpaper_of : L2.DefAt (L2.KOf KX) mg "_law_paper_of" My.s_Lpaper_of := by
      dsimp only [L2.KOf]
      refine' L2.defAt_mk KX G ?a ?l ?c ?k
      (case a => k_is); (case l => k_is); (case c => k_is); (case k => k_is)
    have D_Ltext : L2.DefAt (L2.KOf KX) mg "_law_text" My.s_Ltext := by
      dsimp only [L2.KOf]
      refine' L2.defAt_mk KX G ?a ?l ?c ?k
      (case a => k_is); (case l => k_is); (case c => k_is); (case k => k_is)
    have D_Lis : L2.DefAt (L2.KOf KX) mg "_law_is" My.s_Lis := by
      dsimp only [L2.KOf]
      refine' L2.defAt_mk KX G ?a ?l ?c ?k
      (case a => k_is); (case l => k_is); (case c => k_is); (case k => k_is)
    have D_Lrefused_by_any : L2.DefAt (L2.KOf KX) mg "_law_refused_by_any" My.s_Lrefused_by_any := by
      dsimp only [L2.KOf]
      refine' L2.defAt_mk KX G ?a ?l ?c ?k
      (case a => k_is); (case l => k_is); (case c => k_is); (case k => k_is)
    have D_Lread : L2.DefAt (L2.KOf KX) mg "_law_read" My.s_Lread := by
      dsimp only [L2.KOf]
      refine' L2.defAt_mk KX G ?a ?l ?c ?k
      (case a => k_is); (case l => k_is); (case c => k_is); (case k => k_is)
    have D_Lnumber : L2.DefAt (L2.KOf KX) mg "_law_number" My.s_Lnumber := by
      dsimp only [L2.KOf]
      refine' L2.defAt_mk KX G ?a ?l ?c ?k
      (case a => k_is); (case l => k_is); (case c => k_is); (case k => k_is)
    have D_Lspoilt : L2.DefAt (L2.KOf KX) mg "_law_spoilt" My.s_Lspoilt := by
      dsimp only [L2.KOf]
      refine' L2.defAt_mk KX G ?a ?l ?c ?k
      (case a => k_is); (case l => k_is); (case c => k_is); (case k => k_is)
    have D_law : L2.DefAt (L2.KOf KX) mg "law" My.s_law := by
      dsimp only [L2.KOf]
      refine' L2.defAt_mk KX G ?a ?l ?c ?k
      (case a => k_is); (case l => k_is); (case c => k_is); (case k => k_is)
    have n_all : mg "all" = none := by
      refine' PySem.W.mg_none_of KX G ?a
      (case a => k_is)
    have n_len : mg "len" = none := by
      refine' PySem.W.mg_none_of KX G ?a
      (case a => k_is)
    have n_int : mg "int" = none := by
      refine' PySem.W.mg_none_of KX G ?a
      (case a => k_is)
    have n_str : mg "str" = none := by
      refine' PySem.W.mg_none_of KX G ?a
      (case a => k_is)
    have n_isinstance : mg "isinstance" = none := by
      refine' PySem.W.mg_none_of KX G ?a
      (case a => k_is)
    have n_bool : mg "bool" = none := by
      refine' PySem.W.mg_none_of KX G ?a
      (case a => k_is)
    have n_min : mg "min" = none := by
      refine' PySem.W.mg_none_of KX G ?a
      (case a => k_is)
    have n_tuple : mg "tuple" = none := by
      refine' PySem.W.mg_none_of KX G ?a
      (case a => k_is)
    have n_list : mg "list" = none := by
      refine' PySem.W.mg_none_of KX G ?a
      (case a => k_is)
    have n_range : mg "range" = none := by
      refine' PySem.W.mg_none_of KX G ?a
      (case a => k_is)
    have g_WIDE : L2.GlobAt mg "WIDE" (.int 18446744073709551616) := by
      refine' L2.globAt_int KX G ?a
      (case a => k_is)
    have g_MOST_FIGURES : L2.GlobAt mg "MOST_FIGURES" (.int 20) := by
      refine' L2.globAt_int KX G ?a
      (case a => k_is)
    have g_FIGURES : L2.GlobAt mg "FIGURES" (.str "0123456789") := by
      refine' L2.globAt_str KX G ?a
      (case a => k_is)
    have g_PARTING : L2.GlobAt mg "PARTING" (.str " / ") := by
      refine' L2.globAt_str KX G ?a
      (case a => k_is)
    have g_MOST_STAMPS : L2.GlobAt mg "MOST_STAMPS" (.int 60) := by
      refine' L2.globAt_int KX G ?a
      (case a => k_is)
    have xall : ∃ C cH d0 d1 d2 d3 d4 d5 d6 d7 d8 d9 d10 : Addr, PySem.W.nsIn (L2.KOf KX) mainGlobals "NoPaper" = some (some (.ref C)) ∧ PySem.W.excIn (L2.KOf KX) C [.type "ValueError", .type "Exception", .type "BaseException", .type "object"] "ValueError.__new__" = true ∧ PySem.W.findIn (L2.KOf KX) (.ref C) "__getattribute__" = some (some (.builtin "BaseException.__getattribute__")) ∧ PySem.W.findIn (L2.KOf KX) (.ref C) "__getattr__" = some none ∧ PySem.W.findIn (L2.KOf KX) (.ref C) "__class__" = some (some (.builtin "object.__class__")) ∧ PySem.W.specialIn (L2.KOf KX) (.builtin "object.__class__") "__get__" = some (some (.builtin "getset_descriptor.__get__")) ∧ PySem.W.takesIn (L2.KOf KX) (.builtin "object.__class__") = some true ∧ PySem.W.mroIn (L2.KOf KX) C (.type "object") = some true ∧ PySem.W.subIn (L2.KOf KX) (.ref C) (.type "BaseException") = some true ∧ PySem.W.isClsIn (L2.KOf KX) C = true ∧ PySem.W.nsIn (L2.KOf KX) mainGlobals "HouseError" = some (some (.ref cH)) ∧ PySem.W.subIn (L2.KOf KX) (.ref cH) (.type "BaseException") = some true ∧ PySem.W.kitOne (L2.KOf KX) (.ref C) (.ref cH) = some true ∧ (Value.ref C == Value.ref cH) = false ∧ PySem.W.kitOne (L2.KOf KX) (.ref C) (.type "ValueError") = some true ∧ PySem.W.kitOne (L2.KOf KX) (.ref C) (.ref C) = some true ∧ PySem.W.nsIn (L2.KOf KX) mainGlobals "NoClash" = some (some (.ref d0)) ∧ PySem.W.kitOne (L2.KOf KX) (.ref C) (.ref d0) = some false ∧ PySem.W.nsIn (L2.KOf KX) mainGlobals "NoRow" = some (some (.ref d1)) ∧ PySem.W.kitOne (L2.KOf KX) (.ref C) (.ref d1) = some false ∧ PySem.W.nsIn (L2.KOf KX) mainGlobals "NoCode" = some (some (.ref d2)) ∧ PySem.W.kitOne (L2.KOf KX) (.ref C) (.ref d2) = some false ∧ PySem.W.nsIn (L2.KOf KX) mainGlobals "NoSlot" = some (some (.ref d3)) ∧ PySem.W.kitOne (L2.KOf KX) (.ref C) (.ref d3) = some false ∧ PySem.W.nsIn (L2.KOf KX) mainGlobals "Taken" = some (some (.ref d4)) ∧ PySem.W.kitOne (L2.KOf KX) (.ref C) (.ref d4) = some false ∧ PySem.W.nsIn (L2.KOf KX) mainGlobals "TooMuch" = some (some (.ref d5)) ∧ PySem.W.kitOne (L2.KOf KX) (.ref C) (.ref d5) = some false ∧ PySem.W.nsIn (L2.KOf KX) mainGlobals "NoNumber" = some (some (.ref d6)) ∧ PySem.W.kitOne (L2.KOf KX) (.ref C) (.ref d6) = some false ∧ PySem.W.nsIn (L2.KOf KX) mainGlobals "NoAccount" = some (some (.ref d7)) ∧ PySem.W.kitOne (L2.KOf KX) (.ref C) (.ref d7) = some false ∧ PySem.W.nsIn (L2.KOf KX) mainGlobals "NoLimit" = some (some (.ref d8)) ∧ PySem.W.kitOne (L2.KOf KX) (.ref C) (.ref d8) = some false ∧ PySem.W.nsIn (L2.KOf KX) mainGlobals "PoorPurse" = some (some (.ref d9)) ∧ PySem.W.kitOne (L2.KOf KX) (.ref C) (.ref d9) = some false ∧ PySem.W.nsIn (L2.KOf KX) mainGlobals "PoorCoin" = some (some (.ref d10)) ∧ PySem.W.kitOne (L2.KOf KX) (.ref C) (.ref d10) = some false := by
      dsimp only [L2.KOf]
      refine' My.mkall ?uxa_NoPaper ?uxq_NoPaper ?ue1 ?ue2 ?ue3 ?ue4 ?ue5 ?ue6 ?ue7 ?ue8 ?uxaH ?uh1 ?uh2 ?uh3 ?uk_ValueError ?uk_NoPaper ?uxa_NoClash ?uk_NoClash ?uxa_NoRow ?uk_NoRow ?uxa_NoCode ?uk_NoCode ?uxa_NoSlot ?uk_NoSlot ?uxa_Taken ?uk_Taken ?uxa_TooMuch ?uk_TooMuch ?uxa_NoNumber ?uk_NoNumber ?uxa_NoAccount ?uk_NoAccount ?uxa_NoLimit ?uk_NoLimit ?uxa_PoorPurse ?uk_PoorPurse ?uxa_PoorCoin ?uk_PoorCoin
      (case uxa_NoPaper => k_is)
      (case uxq_NoPaper => k_exc)
      (case ue1 => k_is)
      (case ue2 => k_is)
      (case ue3 => k_is)
      (case ue4 => k_is)
      (case ue5 => k_is)
      (case ue6 => k_is)
      (case ue7 => k_is)
      (case ue8 => k_is)
      (case uxaH => k_is)
      (case uh1 => k_is)
      (case uh2 => kit_is)
      (case uh3 => first | rfl | decide)
      (case uk_ValueError => kit_is)
      (case uk_NoPaper => kit_is)
      (case uxa_NoClash => k_is)
      (case uk_NoClash => kit_is)
      (case uxa_NoRow => k_is)
      (case uk_NoRow => kit_is)
      (case uxa_NoCode => k_is)
      (case uk_NoCode => kit_is)
      (case uxa_NoSlot => k_is)
      (case uk_NoSlot => kit_is)
      (case uxa_Taken => k_is)
      (case uk_Taken => kit_is)
      (case uxa_TooMuch => k_is)
      (case uk_TooMuch => kit_is)
      (case uxa_NoNumber => k_is)
      (case uk_NoNumber => kit_is)
      (case uxa_NoAccount => k_is)
      (case uk_NoAccount => kit_is)
      (case uxa_NoLimit => k_is)
      (case uk_NoLimit => kit_is)
      (case uxa_PoorPurse => k_is)
      (case uk_PoorPurse => kit_is)
      (case uxa_PoorCoin => k_is)
      (case uk_PoorCoin => kit_is)
    obtain ⟨cNoPaper, cHouseError, cNoClash, cNoRow, cNoCode, cNoSlot, cTaken, cTooMuch, cNoNumber, cNoAccount, cNoLimit, cPoorPurse, cPoorCoin, xa_NoPaper, xq_NoPaper, e1, e2, e3, e4, e5, e6, e7, e8, xaH, h1, h2, h3, k_ValueError, k_NoPaper, xa_NoClash, k_NoClash, xa_NoRow, k_NoRow, xa_NoCode, k_NoCode, xa_NoSlot, k_NoSlot, xa_Taken, k_Taken, xa_TooMuch, k_TooMuch, xa_NoNumber, k_NoNumber, xa_NoAccount, k_NoAccount, xa_NoLimit, k_NoLimit, xa_PoorPurse, k_PoorPurse, xa_PoorCoin, k_PoorCoin⟩ := xall
    have zK : L2.ExcK (L2.KOf KX) cNoPaper := ⟨e1, e2, e3, e4, e5, e6, e7, e8⟩
    have hAs : L2.AsOk (L2.KOf KX) mg cNoPaper "HouseError" cHouseError := ⟨PySem.W.mg_of KX G xaH, h1, h2, h3⟩
    have g_NoPaper : L2.GlobAt mg "NoPaper" (.ref cNoPaper) := ⟨_, PySem.W.mg_of KX G xa_NoPaper, rfl⟩
    have g_NoClash : L2.GlobAt mg "NoClash" (.ref cNoClash) := ⟨_, PySem.W.mg_of KX G xa_NoClash, rfl⟩
    have g_NoRow : L2.GlobAt mg "NoRow" (.ref cNoRow) := ⟨_, PySem.W.mg_of KX G xa_NoRow, rfl⟩
    have g_NoCode : L2.GlobAt mg "NoCode" (.ref cNoCode) := ⟨_, PySem.W.mg_of KX G xa_NoCode, rfl⟩
    have g_NoSlot : L2.GlobAt mg "NoSlot" (.ref cNoSlot) := ⟨_, PySem.W.mg_of KX G xa_NoSlot, rfl⟩
    have g_Taken : L2.GlobAt mg "Taken" (.ref cTaken) := ⟨_, PySem.W.mg_of KX G xa_Taken, rfl⟩
    have g_TooMuch : L2.GlobAt mg "TooMuch" (.ref cTooMuch) := ⟨_, PySem.W.mg_of KX G xa_TooMuch, rfl⟩
    have g_NoNumber : L2.GlobAt mg "NoNumber" (.ref cNoNumber) := ⟨_, PySem.W.mg_of KX G xa_NoNumber, rfl⟩
    have g_NoAccount : L2.GlobAt mg "NoAccount" (.ref cNoAccount) := ⟨_, PySem.W.mg_of KX G xa_NoAccount, rfl⟩
    have g_NoLimit : L2.GlobAt mg "NoLimit" (.ref cNoLimit) := ⟨_, PySem.W.mg_of KX G xa_NoLimit, rfl⟩
    have g_PoorPurse : L2.GlobAt mg "PoorPurse" (.ref cPoorPurse) := ⟨_, PySem.W.mg_of KX G xa_PoorPurse, rfl⟩
    have g_PoorCoin : L2.GlobAt mg "PoorCoin" (.ref cPoorCoin) := ⟨_, PySem.W.mg_of KX G xa_PoorCoin, rfl⟩
    have n_ValueError : mg "ValueError" = none := by
      refine' PySem.W.mg_none_of KX G ?a
      (case a => k_is)

    obtain ⟨fl, fd, FL, ml⟩ := D_law
    have e0 := hmg.symm.trans ml
    cases e0
    refine ⟨fd, L2.fun_binds1 FL, fun base KB GB => ?_⟩
    have o_NoPaper : L2.Exc "NoPaper" cNoPaper mg base := L2.own_ofN KB GB xa_NoPaper xq_NoPaper
    have c_is_number := My.ok_is_number (P := PySem.Challenge.rw_meterhouse_k51_papers_texts.prog) (w := w) (base := base)  D_is_number    g_WIDE
    have c_well_written := My.ok_well_written (P := PySem.Challenge.rw_meterhouse_k51_papers_texts.prog) (w := w) (base := base)  D_well_written    n_all n_len g_MOST_FIGURES g_FIGURES
    have c_number_of := My.ok_number_of (P := PySem.Challenge.rw_meterhouse_k51_papers_texts.prog) (w := w) (base := base)  D_number_of    c_well_written c_is_number n_int
    have c_shown_numbers := My.ok_shown_numbers (P := PySem.Challenge.rw_meterhouse_k51_papers_texts.prog) (w := w) (base := base)  D_shown_numbers    n_str
    have c_show_paper := My.ok_show_paper (P := PySem.Challenge.rw_meterhouse_k51_papers_texts.prog) (w := w) (base := base)  D_show_paper    c_shown_numbers n_str g_PARTING
    have c_read_number := My.ok_read_number (P := PySem.Challenge.rw_meterhouse_k51_papers_texts.prog) (w := w) (base := base)  D_read_number   o_NoPaper c_number_of
    have c_read_numbers := My.ok_read_numbers (P := PySem.Challenge.rw_meterhouse_k51_papers_texts.prog) (w := w) (base := base)  D_read_numbers   o_NoPaper c_read_number
    have c_read_paper := My.ok_read_paper (P := PySem.Challenge.rw_meterhouse_k51_papers_texts.prog) (w := w) (base := base)  D_read_paper   o_NoPaper c_read_number c_read_numbers n_len g_PARTING g_MOST_STAMPS
    have c_Lcell_at := My.ok_Lcell_at (P := PySem.Challenge.rw_meterhouse_k51_papers_texts.prog) (w := w) (base := base)  D_Lcell_at    n_len
    have c_Lwhole := My.ok_Lwhole (P := PySem.Challenge.rw_meterhouse_k51_papers_texts.prog) (w := w) (base := base)  D_Lwhole    n_isinstance n_int n_bool
    have c_Lnumber_of := My.ok_Lnumber_of (P := PySem.Challenge.rw_meterhouse_k51_papers_texts.prog) (w := w) (base := base)  D_Lnumber_of    n_int n_len
    have c_Lnumbers_of := My.ok_Lnumbers_of (P := PySem.Challenge.rw_meterhouse_k51_papers_texts.prog) (w := w) (base := base)  D_Lnumbers_of    c_Lnumber_of
    have c_Lpaper_of := My.ok_Lpaper_of (P := PySem.Challenge.rw_meterhouse_k51_papers_texts.prog) (w := w) (base := base)  D_Lpaper_of    c_Lnumber_of c_Lnumbers_of n_len n_min
    have c_Ltext := My.ok_Ltext (P := PySem.Challenge.rw_meterhouse_k51_papers_texts.prog) (w := w) (base := base)  D_Ltext    n_str
    have c_Lis := My.ok_Lis (P := PySem.Challenge.rw_meterhouse_k51_papers_texts.prog) (w := w) (base := base)  D_Lis    c_Lwhole n_isinstance n_tuple n_len n_list
    have c_Lrefused_by_any := My.ok_Lrefused_by_any (P := PySem.Challenge.rw_meterhouse_k51_papers_texts.prog) (w := w) (base := base) hAs zK g_NoPaper n_ValueError k_ValueError k_NoPaper g_NoClash k_NoClash g_NoRow k_NoRow g_NoCode k_NoCode g_NoSlot k_NoSlot g_Taken k_Taken g_TooMuch k_TooMuch g_NoNumber k_NoNumber g_NoAccount k_NoAccount g_NoLimit k_NoLimit g_PoorPurse k_PoorPurse g_PoorCoin k_PoorCoin D_Lrefused_by_any   o_NoPaper c_read_paper n_isinstance
    have c_Lread := My.ok_Lread (P := PySem.Challenge.rw_meterhouse_k51_papers_texts.prog) (w := w) (base := base)  D_Lread   o_NoPaper c_Lpaper_of c_read_paper c_Lis c_Lrefused_by_any
    have c_Lnumber := My.ok_Lnumber (P := PySem.Challenge.rw_meterhouse_k51_papers_texts.prog) (w := w) (base := base)  D_Lnumber    
    have c_Lspoilt := My.ok_Lspoilt (P := PySem.Challenge.rw_meterhouse_k51_papers_texts.prog) (w := w) (base := base)  D_Lspoilt    n_len
    exact My.ok_law  FL    c_show_paper c_Lread c_Lnumber c_Lcell_at c_Ltext c_Lspoilt n_min n_range n_list n_isinstance n_str n_len
  case S => exact fun K H a ns hl hO hS => ⟨a, ns, rfl, hS, hl, fun _ => rfl⟩
  case C => exact fun _ _ _ _ z => z

