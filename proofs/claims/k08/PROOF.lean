import PyProof.Rows.All
import Wide.All
import OpenK.AllK
import Wide.FinOn
import Lean
import PyProof.EqAt
import PyProof.EqKinds
import PyProof.TupleCall
import PySem.Challenge.RW_crossline_k08_whole_kept_behind_every_ch
set_option Elab.async false
set_option linter.all false
set_option maxRecDepth 100000
/-! THE HAND LAYER, for ints, bools, texts, own classes, LISTS and tuples (index, slices, in, append, pop ..), calls, loops. Paste it whole ahead of your own text; what your proof does not reach may be deleted. -/
namespace L2
open PySem PySem.Spec PyProof.Rows

/-- a key: an int or a str -/
abbrev Key := Sum Int Str
def keyIs : Key → Value → Bool
  | .inl k, v => Value.isInt k v
  | .inr x, v => Value.isStrOf x v
def keyH (w : World) : Key → Int
  | .inl k => hashInt k
  | .inr x => hashStr w x
theorem keyIs_shape : ∀ {k : Key} {v : Value}, keyIs k v = true → (∃ i t, k = Sum.inl i ∧ v = Value.int i t) ∨ (∃ x t, k = Sum.inr x ∧ v = Value.str x t)
  | .inl i, v, h => by
    obtain ⟨t, e⟩ := Value.isInt_shape (k := i) (v := v) h
    exact .inl ⟨i, t, rfl, e⟩
  | .inr x, v, h => by
    obtain ⟨t, e⟩ := Value.isStrOf_shape (x := x) (v := v) h
    exact .inr ⟨x, t, rfl, e⟩
theorem keyIs_int (i : Int) (t : Tok) : keyIs (.inl i) (.int i t) = true := by simp [keyIs, Value.isInt]
theorem keyIs_str (x : Str) (t : Tok) : keyIs (.inr x) (.str x t) = true := by simp [keyIs, Value.isStrOf]
theorem key_ll (a b : Int) : decide ((Sum.inl a : Key) = Sum.inl b) = (a == b) := by
  by_cases e : a = b
  · subst e; simp
  · have h : ¬ (Sum.inl a : Key) = Sum.inl b := fun q => e (Sum.inl.inj q)
    rw [decide_eq_false h]
    exact (beq_eq_false_iff_ne.mpr e).symm
theorem key_rr (a b : Str) : decide ((Sum.inr a : Key) = Sum.inr b) = decide (a = b) := by
  by_cases e : a = b
  · subst e; simp
  · have h : ¬ (Sum.inr a : Key) = Sum.inr b := fun q => e (Sum.inr.inj q)
    rw [decide_eq_false h, decide_eq_false e]
theorem key_lr (a : Int) (b : Str) : decide ((Sum.inl a : Key) = Sum.inr b) = false := decide_eq_false (fun q => nomatch q)
theorem key_rl (a : Str) (b : Int) : decide ((Sum.inr a : Key) = Sum.inl b) = false := decide_eq_false (fun q => nomatch q)

def mixKind (prog : Program) (w : World) : PySem.KeyKind prog w Key where
  is := keyIs
  hash := keyH w
  inj := fun v a b ha hb => by
    rcases keyIs_shape ha with ⟨i, t, rfl, rfl⟩ | ⟨x, t, rfl, rfl⟩
    · rcases keyIs_shape hb with ⟨j, u, rfl, e⟩ | ⟨y, u, rfl, e⟩
      · injection e with e1 _; rw [e1]
      · exact nomatch e
    · rcases keyIs_shape hb with ⟨j, u, rfl, e⟩ | ⟨y, u, rfl, e⟩
      · exact nomatch e
      · injection e with e1 _; rw [e1]
  byValue := fun k v h => by
    rcases keyIs_shape h with ⟨i, t, rfl, rfl⟩ | ⟨x, t, rfl, rfl⟩ <;> rfl
  pyHash := fun hv h => by
    rcases keyIs_shape hv with ⟨i, t, rfl, rfl⟩ | ⟨x, t, rfl, rfl⟩
    · exact wpAny_pyHash_int h
    · exact wpAny_pyHash_str h
  eqBool := fun hu hv h => by
    rcases keyIs_shape hu with ⟨i, t, rfl, rfl⟩ | ⟨x, t, rfl, rfl⟩
    · rcases keyIs_shape hv with ⟨j, u, rfl, rfl⟩ | ⟨y, u, rfl, rfl⟩
      · rw [key_ll] at h; exact wpAny_eqBool_int h
      · rw [key_lr] at h; exact SeqAt.EqAt.int_str i t y u _ _ _ _ h
    · rcases keyIs_shape hv with ⟨j, u, rfl, rfl⟩ | ⟨y, u, rfl, rfl⟩
      · rw [key_rl] at h; exact SeqAt.EqAt.str_int x t j u _ _ _ _ h
      · rw [key_rr] at h; exact wpAny_eqBool_str h
  «strs» := fun k x t v h => by
    rcases keyIs_shape h with ⟨i, u, rfl, e⟩ | ⟨y, u, rfl, e⟩
    · exact nomatch e
    · injection e with e1 _
      subst e1
      cases v <;> rfl

theorem mixKind_is (prog : Program) (w : World) (k : Key) (v : Value) : (mixKind prog w).is k v = keyIs k v := rfl
theorem mixKind_int (prog : Program) (w : World) (i : Int) (t : Tok) : (mixKind prog w).is (.inl i) (.int i t) = true := keyIs_int i t
theorem mixKind_str (prog : Program) (w : World) (x : Str) (t : Tok) : (mixKind prog w).is (.inr x) (.str x t) = true := keyIs_str x t
end L2

namespace L2
open PySem PySem.Spec PyProof.Rows

/-- a value, without the heap -/
inductive V where
  | non | bl (b : Bool) | int (i : Int) | str (x : Str) | byt (b : Array UInt8) | flt (b : UInt64) | ref (a : Addr) | ty (n : String)
  deriving DecidableEq

def RelV : V → Value → Prop
  | .non, u => u = Value.none
  | .bl b, u => u = Value.bool b
  | .int i, u => ∃ t, u = Value.int i t
  | .str x, u => ∃ t, u = Value.str x t
  | .byt b, u => ∃ t, u = Value.bytes b t
  | .flt b, u => ∃ t, u = Value.float b t
  | .ref a, u => u = Value.ref a
  | .ty n, u => u = Value.type n

abbrev Vals : List V → List Value → Prop := Paired RelV
theorem Vals.length {xs : List V} {us : List Value} (r : Vals xs us) : xs.length = us.length := Paired.length r
theorem Vals.get : ∀ {xs : List V} {us : List Value} {i : Nat} {x : V}, Vals xs us → xs[i]? = some x → ∃ u, us[i]? = some u ∧ RelV x u
  | _, _, _, _, .nil, e => by simp at e
  | _, _, 0, _, .cons r _, e => by simp at e; subst e; exact ⟨_, rfl, r⟩
  | _, _, i + 1, x, .cons _ t, e => by
    obtain ⟨u, h1, h2⟩ := Vals.get (i := i) (x := x) t (by simpa using e)
    exact ⟨u, by simpa using h1, h2⟩
theorem Vals.set {x : V} {u : Value} (r : RelV x u) : ∀ {xs : List V} {us : List Value} (i : Nat), Vals xs us → Vals (xs.set i x) (us.set i u)
  | _, _, _, .nil => .nil
  | _, _, 0, .cons _ t => .cons r t
  | _, _, i + 1, .cons q t => .cons q (Vals.set r i t)
theorem Vals.append : ∀ {xs ys : List V} {us ws : List Value}, Vals xs us → Vals ys ws → Vals (xs ++ ys) (us ++ ws)
  | _, _, _, _, .nil, s => s
  | _, _, _, _, .cons r t, s => .cons r (Vals.append t s)
theorem Vals.take : ∀ {xs : List V} {us : List Value} (n : Nat), Vals xs us → Vals (xs.take n) (us.take n)
  | _, _, 0, _ => .nil
  | _, _, _ + 1, .nil => .nil
  | _, _, n + 1, .cons r t => .cons r (Vals.take n t)
theorem Vals.drop : ∀ {xs : List V} {us : List Value} (n : Nat), Vals xs us → Vals (xs.drop n) (us.drop n)
  | _, _, 0, r => r
  | _, _, _ + 1, .nil => .nil
  | _, _, n + 1, .cons _ t => Vals.drop n t
theorem Vals.none_of : ∀ {xs : List V} {us : List Value} {i : Nat}, Vals xs us → xs[i]? = none → us[i]? = none := fun {xs us i} r e => by
  have h1 := r.length
  have h2 : xs.length ≤ i := List.getElem?_eq_none_iff.mp e
  exact List.getElem?_eq_none_iff.mpr (by omega)

def RelO : Option V → Option Value → Prop
  | some v, some u => RelV v u
  | none, none => True
  | _, _ => False
def KV {κ : Type} : List (κ × V) → List (κ × Value) → Prop := Paired fun (p : κ × V) (q : κ × Value) => p.1 = q.1 ∧ RelV p.2 q.2

/-- a key of a dict (00_mix): an int or a text -/
def kV : Key → V
  | .inl i => .int i
  | .inr x => .str x

/-- what stands at a tracked address -/
inductive HO where
  /-- a list -/
  | lst (xs : List V)
  /-- a tuple (never changes) -/
  | tup (xs : List V)
  /-- a dict whose keys are ints and texts; one whose keys are tuples of ints and texts (the empty one is both) -/
  | dK (kvs : List (Key × V)) | dT (kvs : List (List Key × V))
  /-- a set of ints: its members, its size -/
  | set (S : Int → Bool) (n : Nat)
  /-- an instance of the class at C, its dict at dx, its attributes -/
  | ins (C dx : Addr) (fs : List (Str × V))
  /-- the dict of the instance at x -/
  | own (x : Addr)
  /-- the dict of an exception -/
  | xd (fs : List (Str × V))
  /-- a bound method, f of x -/
  | met (f x : Addr)
  /-- a range object lo, lo + 1, .. below hi -/
  | rng (lo hi : Int)
  /-- a thing that is known to the object (the script; a dict while a loop walks it): read, never written while it is so -/
  | frz (o : Obj) (u : HO)
  /-- a code object's table -/
  | tbl (ps : Array Value)
  /-- any other thing, by what is true of its one object (a def of one's own: SetO a S n := HO.ext fun h => ..) -/
  | ext (φ : Heap → Prop)

abbrev Hp := Addr → Option HO
def upd (H : Hp) (a : Addr) (o : HO) : Hp := fun b => if b = a then some o else H b
theorem upd_same {H : Hp} {a : Addr} {o : HO} : upd H a o a = some o := by unfold upd; rw [if_pos rfl]
theorem upd_ne {H : Hp} {a b : Addr} {o : HO} (h : b ≠ a) : upd H a o b = H b := by unfold upd; rw [if_neg h]
theorem upd_upd {H : Hp} {a : Addr} {o u : HO} : upd (upd H a o) a u = upd H a u := by
  funext b; unfold upd; split <;> rfl
/-- two objects of different content stand apart -/
theorem ne_of {H : Hp} {a b : Addr} {o u : HO} (h : H a = some o) (h' : H b = some u) (d : o ≠ u) : a ≠ b := by
  intro e; subst e; rw [h] at h'; exact d (Option.some.inj h')
theorem ne_of_none {H : Hp} {a b : Addr} {o : HO} (h : H a = some o) (h' : H b = none) : a ≠ b := by
  intro e; subst e; rw [h] at h'; cases h'

section
variable (P : Program) (w : World)
def ObjOk (H : Hp) (h : Heap) (a : Addr) : HO → Prop
  | .lst xs => xs.length ≤ sizeLine ∧ ∃ (its : List Value) (n : Nat), Vals xs its ∧ h.get? a = some { cls := .type "list", data := .seq its.toArray n }
  | .tup xs => xs.length ≤ sizeLine ∧ ∃ its : List Value, Vals xs its ∧ IsTup h a its.toArray
  | .dK kvs => kvs.length ≤ sizeLine ∧ (a == sysModules) = false ∧ ∃ vs, KV kvs vs ∧ h.DictOf (mixKind P w) a vs
  | .dT kvs => kvs.length ≤ sizeLine ∧ (a == sysModules) = false ∧ ∃ xs : List (List Key × Addr × Value),
      Paired (fun (p : List Key × V) (q : List Key × Addr × Value) => p.1 = q.1 ∧ H q.2.1 = some (.tup (p.1.map kV)) ∧ RelV p.2 q.2.2) kvs xs ∧
      ∃ o es ep, h.get? a = some o ∧ o.ExactDict ∧ o.data = .dict es ep ∧ es.toList = xs.map (entryOfKey (tupleKind (mixKind P w))) ∧ (xs.map (·.1)).Nodup
  | .set S n => h.SetOf (intKind P w) a S n
  | .ins C dx fs => H dx = some (.own a) ∧ fs.length ≤ 1000 ∧ dx ≠ a ∧ h.get? a = some (PySem.W.instObj C dx) ∧
      ∃ mA, h.Ns1 dx mA ∧ (∀ f, RelO (fs.lookup f) (mA f)) ∧ PySem.Within mA (fs.map (·.1))
  | .own _ => ∃ o, h.get? a = some o
  | .xd fs => ∃ mA, h.Ns1 a mA ∧ ∀ f, RelO (fs.lookup f) (mA f)
  | .rng lo hi => ∃ t u v, h.get? a = some { cls := .type "range", data := .fields #[.int lo t, .int hi u, .int 1 v] }
  | .frz o u => h.get? a = some o ∧ ObjOk H h a u
  | .tbl ps => h.get? a = some { cls := .none, data := .fields ps }
  | .met f x => h.get? a = some (PySem.W.methodObj (.ref f) (.ref x))
  | .ext φ => φ h ∧ (∃ o, h.get? a = some o) ∧ ∀ h1 h2 : Heap, φ h1 → (∀ o, h1.get? a = some o → h2.get? a = some o) → φ h2
/-- the abstract heap is held -/
def HOk (H : Hp) (h : Heap) : Prop := ∀ a o, H a = some o → ObjOk P w H h a o
end

section
variable {P : Program} {w : World} {H H' : Hp} {h h' : Heap} {a : Addr} {o : HO}
theorem ObjOk.lt (x : ObjOk P w H h a o) : a < h.objs.size := by
  cases o with
  | lst xs => obtain ⟨_, _, _, _, e⟩ := x; exact Heap.lt_size e
  | tup xs => obtain ⟨_, _, _, p⟩ := x; exact p.lt
  | dK kvs => obtain ⟨_, _, _, _, o, _, _, e, _⟩ := x; exact Heap.lt_size e
  | dT kvs => obtain ⟨_, _, _, _, o, _, _, e, _⟩ := x; exact Heap.lt_size e
  | set S n => obtain ⟨o, _, _, _, e, _⟩ := x; exact Heap.lt_size e
  | ins C dx fs => obtain ⟨_, _, _, e, _⟩ := x; exact Heap.lt_size e
  | own y => obtain ⟨_, e⟩ := x; exact Heap.lt_size e
  | xd fs => obtain ⟨_, ⟨_, _, _, e, _⟩, _⟩ := x; exact Heap.lt_size e
  | rng lo hi => obtain ⟨_, _, _, e⟩ := x; exact Heap.lt_size e
  | frz ob u => obtain ⟨e, _⟩ := x; exact Heap.lt_size e
  | tbl ps => exact Heap.lt_size (show h.get? a = some _ from x)
  | met f y => exact Heap.lt_size (show h.get? a = some _ from x)
  | ext φ => obtain ⟨_, ⟨_, e⟩, _⟩ := x; exact Heap.lt_size e
theorem Paired.mapP {α β : Type} {F G : α → β → Prop} : ∀ {l₁ : List α} {l₂ : List β}, Paired F l₁ l₂ → (∀ a b, F a b → G a b) → Paired G l₁ l₂
  | _, _, .nil, _ => .nil
  | _, _, .cons r t, f => .cons (f _ _ r) (Paired.mapP t f)
theorem Paired.imp' {α β : Type} {F G : α → β → Prop} (f : ∀ a b, F a b → G a b) {l₁ : List α} {l₂ : List β} (r : Paired F l₁ l₂) : Paired G l₁ l₂ := Paired.mapP r f
/-- what an object's description leans on: its own object, its own dict, the tuples -/
theorem ObjOk.stay (x : ObjOk P w H h a o) (k : ∀ b u, (b = a ∨ H b = some (.own a)) → h.get? b = some u → h'.get? b = some u)
    (ho : ∀ b, H b = some (.own a) → H' b = some (.own a)) (ht : ∀ b xs, H b = some (.tup xs) → H' b = some (.tup xs)) : ObjOk P w H' h' a o := by
  induction o with
  | lst xs => obtain ⟨z, its, n, r, e⟩ := x; exact ⟨z, its, n, r, k _ _ (.inl rfl) e⟩
  | tup xs => obtain ⟨z, its, r, ob, e, c⟩ := x; exact ⟨z, its, r, ob, k _ _ (.inl rfl) e, c⟩
  | dK kvs => obtain ⟨z, y, vs, r, ob, es, ep, e, c⟩ := x; exact ⟨z, y, vs, r, ob, es, ep, k _ _ (.inl rfl) e, c⟩
  | dT kvs =>
    obtain ⟨z, y, xs, r, ob, es, ep, e, c⟩ := x
    exact ⟨z, y, xs, Paired.mapP r fun p q z => ⟨z.1, ht _ _ z.2.1, z.2.2⟩, ob, es, ep, k _ _ (.inl rfl) e, c⟩
  | set S n => obtain ⟨ob, es, ep, t, e, c⟩ := x; exact ⟨ob, es, ep, t, k _ _ (.inl rfl) e, c⟩
  | ins C dx fs =>
    obtain ⟨d, z, ne, e, mA, ⟨od, es, ep, e2, c⟩, r⟩ := x
    exact ⟨ho _ d, z, ne, k _ _ (.inl rfl) e, mA, ⟨od, es, ep, k _ _ (.inr d) e2, c⟩, r⟩
  | own y => obtain ⟨ob, e⟩ := x; exact ⟨ob, k _ _ (.inl rfl) e⟩
  | xd fs => obtain ⟨mA, ⟨od, es, ep, e, c⟩, r⟩ := x; exact ⟨mA, ⟨od, es, ep, k _ _ (.inl rfl) e, c⟩, r⟩
  | rng lo hi => obtain ⟨t, u, v, e⟩ := x; exact ⟨t, u, v, k _ _ (.inl rfl) e⟩
  | frz ob u ih => obtain ⟨e, q⟩ := x; exact ⟨k _ _ (.inl rfl) e, ih q⟩
  | tbl ps =>
    have e : h.get? a = some { cls := .none, data := .fields ps } := x
    show h'.get? a = some { cls := .none, data := .fields ps }
    exact k a _ (.inl rfl) e
  | met f y =>
    have e : h.get? a = some (PySem.W.methodObj (.ref f) (.ref y)) := x
    show h'.get? a = some (PySem.W.methodObj (.ref f) (.ref y))
    exact k a _ (.inl rfl) e
  | ext φ => obtain ⟨p, ⟨o, e⟩, st⟩ := x; exact ⟨st _ _ p fun o q => k _ _ (.inl rfl) q, ⟨o, k _ _ (.inl rfl) e⟩, st⟩
theorem HOk.lt (x : HOk P w H h) (e : H a = some o) : a < h.objs.size := (x a o e).lt
theorem HOk.fresh (x : HOk P w H h) (e : h.objs.size ≤ a) : H a = none := by
  cases q : H a with
  | none => rfl
  | some u => exact absurd (Nat.lt_of_lt_of_le (x.lt q) e) (Nat.lt_irrefl _)
/-- every object of the heap is kept -/
theorem HOk.kept (x : HOk P w H h) (k : ∀ b u, h.get? b = some u → h'.get? b = some u) : HOk P w H h' := fun a o e =>
  (x a o e).stay (fun b u _ q => k b u q) (fun _ q => q) fun _ _ q => q
/-- a new object is laid and tracked -/
theorem HOk.laid (x : HOk P w H h) (k : ∀ b u, h.get? b = some u → h'.get? b = some u) (hp : h.objs.size ≤ a) (new : ObjOk P w (upd H a o) h' a o) : HOk P w (upd H a o) h' := fun b u e => by
  have hn := x.fresh hp
  by_cases hb : b = a
  · subst hb; rw [upd_same] at e; cases e; exact new
  · rw [upd_ne hb] at e
    exact (x b u e).stay (fun c v _ q => k c v q) (fun c q => by rw [upd_ne (ne_of_none q hn)]; exact q) fun c xs q => by rw [upd_ne (ne_of_none q hn)]; exact q
end

/-- what may be read as u: it is u, or a known u -/
def Rd (H : Hp) (a : Addr) (u : HO) : Prop := H a = some u ∨ ∃ o, H a = some (.frz o u)
theorem Rd.of {H : Hp} {a : Addr} {u : HO} (h : H a = some u) : Rd H a u := .inl h
theorem Rd.ok {P : Program} {w : World} {H : Hp} {h : Heap} {a : Addr} {u : HO} (r : Rd H a u) (x : HOk P w H h) : ObjOk P w H h a u := by
  rcases r with r | ⟨o, r⟩
  · exact x a u r
  · obtain ⟨_, q⟩ := x a _ r
    exact q
/-- what may be written -/
def Mut : Option HO → Prop
  | some (.lst _) => True
  | some (.dK _) => True
  | some (.dT _) => True
  | some (.set _ _) => True
  | some (.ins _ _ _) => True
  | some (.ext _) => True
  | _ => False
section
variable {P : Program} {w : World} {H : Hp} {h h' : Heap} {x e : Addr} {o' : HO}
/-- the object at e is changed: x itself, or the dict of the instance x -/
theorem HOk.write (ok : HOk P w H h) (mu : Mut (H x)) (he : e = x ∨ H e = some (.own x)) (k : ∀ b u, b ≠ e → h.get? b = some u → h'.get? b = some u) (heo : ∃ u, h'.get? e = some u)
    (new : ObjOk P w (upd H x o') h' x o') : HOk P w (upd H x o') h' := fun b u q => by
  have nown : ∀ c y, H c = some (.own y) → c ≠ x := fun c y r z => by subst z; rw [r] at mu; exact mu
  have ntup : ∀ c xs, H c = some (.tup xs) → c ≠ x := fun c xs r z => by subst z; rw [r] at mu; exact mu
  by_cases hb : b = x
  · subst hb; rw [upd_same] at q; cases q; exact new
  · rw [upd_ne hb] at q
    by_cases hbe : b = e
    · have q' : H b = some (.own x) := by
        rcases he with z | z
        · exact absurd (hbe.trans z) hb
        · rw [hbe]; exact z
      rw [q] at q'; cases q'
      obtain ⟨v, hv⟩ := heo
      exact ⟨v, by rw [hbe]; exact hv⟩
    · refine (ok b u q).stay (fun c v hc r => k c v ?_ r) (fun c r => by rw [upd_ne (nown c b r)]; exact r) fun c xs r => by rw [upd_ne (ntup c xs r)]; exact r
      rcases hc with rfl | hc
      · exact hbe
      · rintro rfl
        rcases he with z | z
        · exact nown c b hc z
        · rw [hc] at z; cases z; exact hb rfl
end

/-! ### kept unless tracked; of the frames at fs (the callers') the slots may change (an exception that passes writes there); of the records at ex (iterators) nothing is said -/
structure Un (fs ex : List Addr) (H H' : Hp) (h h' : Heap) : Prop where
  keep : ∀ b o, h.get? b = some o → H b = none → b ∉ fs → b ∉ ex → h'.get? b = some o
  slot : ∀ b o, h.get? b = some o → H b = none → b ∈ fs → b ∉ ex → ∃ sl, h'.get? b = some { o with slots := sl }
  free : ∀ b o, h.get? b = some o → H b = none → b ∉ ex → H' b = none
  there : ∀ b o, h.get? b = some o → b ∉ ex → ∃ o', h'.get? b = some o'
  tups : ∀ b xs, H b = some (.tup xs) → H' b = some (.tup xs)
  frzs : ∀ b o u, H b = some (.frz o u) → H' b = some (.frz o u)
  tbls : ∀ b ps, H b = some (.tbl ps) → ∃ more, H' b = some (.tbl (ps ++ more))
section
variable {fs fs' ex ex' : List Addr} {H H1 H2 : Hp} {h h1 h2 h' : Heap} {a x e : Addr} {o : HO}
theorem Un.any (u : Un fs ex H H1 h h1) {b : Addr} {ob : Obj} (q : h.get? b = some ob) (n : H b = none) (hx : b ∉ ex) : ∃ sl, h1.get? b = some { ob with slots := sl } := by
  by_cases hb : b ∈ fs
  · exact u.slot b ob q n hb hx
  · exact ⟨ob.slots, u.keep b ob q n hb hx⟩
theorem Un.trans (a : Un fs ex H H1 h h1) (b : Un fs ex H1 H2 h1 h2) : Un fs ex H H2 h h2 where
  keep := fun c ob q n hc hx => b.keep c ob (a.keep c ob q n hc hx) (a.free c ob q n hx) hc hx
  slot := fun c ob q n hc hx => by
    obtain ⟨sl, e1⟩ := a.slot c ob q n hc hx
    obtain ⟨sl', e2⟩ := b.slot c _ e1 (a.free c ob q n hx) hc hx
    exact ⟨sl', e2⟩
  free := fun c ob q n hx => by
    obtain ⟨o', e1⟩ := a.there c ob q hx
    exact b.free c o' e1 (a.free c ob q n hx) hx
  there := fun c ob q hx => by
    obtain ⟨o', e1⟩ := a.there c ob q hx
    exact b.there c o' e1 hx
  tups := fun c xs q => b.tups c xs (a.tups c xs q)
  frzs := fun c ob xs q => b.frzs c ob xs (a.frzs c ob xs q)
  tbls := fun c ps q => by
    obtain ⟨m1, e1⟩ := a.tbls c ps q
    obtain ⟨m2, e2⟩ := b.tbls c _ e1
    exact ⟨m1 ++ m2, by rw [e2, Array.append_assoc]⟩
theorem Un.kept (k : ∀ b u, h.get? b = some u → h'.get? b = some u) : Un fs ex H H h h' :=
  ⟨fun b ob q _ _ _ => k b ob q, fun b ob q _ _ _ => ⟨ob.slots, k b ob q⟩, fun _ _ _ n _ => n, fun b ob q _ => ⟨ob, k b ob q⟩, fun _ _ q => q, fun _ _ _ q => q, fun _ ps q => ⟨#[], by rw [q]; simp⟩⟩
theorem Un.refl : Un fs ex H H h h := Un.kept fun _ _ q => q
theorem Un.laid (k : ∀ b u, h.get? b = some u → h'.get? b = some u) (hp : h.objs.size ≤ a) (hn : H a = none) : Un fs ex H (upd H a o) h h' where
  keep := fun b u q _ _ _ => k b u q
  slot := fun b u q _ _ _ => ⟨u.slots, k b u q⟩
  free := fun b u q n _ => by rw [upd_ne (Nat.ne_of_lt (Nat.lt_of_lt_of_le (Heap.lt_size q) hp))]; exact n
  there := fun b u q _ => ⟨u, k b u q⟩
  tups := fun b xs q => by rw [upd_ne (ne_of_none q hn)]; exact q
  frzs := fun b u xs q => by rw [upd_ne (ne_of_none q hn)]; exact q
  tbls := fun b ps q => ⟨#[], by rw [upd_ne (ne_of_none q hn), q]; simp⟩
theorem Un.write (mu : Mut (H x)) (he : e = x ∨ H e = some (.own x)) (k : ∀ b u, b ≠ e → h.get? b = some u → h'.get? b = some u) (heo : ∃ u, h'.get? e = some u) : Un fs ex H (upd H x o) h h' := by
  have hx : ∀ b, H b = none → b ≠ x := fun b n z => by subst z; rw [n] at mu; exact mu
  have hb : ∀ b, H b = none → b ≠ e := fun b n z => by
    subst z
    rcases he with r | r
    · exact hx b n r
    · rw [n] at r; cases r
  have hm : ∀ b u, H b = some u → ¬ Mut (some u) → b ≠ x := fun b u q nm z => by subst z; rw [q] at mu; exact nm mu
  refine ⟨fun b u q n _ _ => k b u (hb b n) q, fun b u q n _ _ => ⟨u.slots, k b u (hb b n) q⟩, fun b u q n _ => by rw [upd_ne (hx b n)]; exact n, fun b u q _ => ?_,
    fun b xs q => by rw [upd_ne (hm b _ q fun z => z)]; exact q, fun b u xs q => by rw [upd_ne (hm b _ q fun z => z)]; exact q, fun b ps q => ⟨#[], by rw [upd_ne (hm b _ q fun z => z), q]; simp⟩⟩
  by_cases hbe : b = e
  · subst hbe; exact heo
  · exact ⟨u, k b u hbe q⟩
theorem Un.mono (u : Un fs ex H H1 h h1) (hs : ∀ b ∈ fs, b ∈ fs') (hx : ∀ b ∈ ex, b ∈ ex') : Un fs' ex' H H1 h h1 :=
  ⟨fun b ob q n hb he => u.keep b ob q n (fun z => hb (hs b z)) fun z => he (hx b z), fun _ _ q n _ he => u.any q n fun z => he (hx _ z), fun b ob q n he => u.free b ob q n fun z => he (hx b z), fun b ob q he => u.there b ob q fun z => he (hx b z), u.tups, u.frzs, u.tbls⟩
end

/-! ### the heap without what is tracked -/
def trk (h : Heap) (H : Hp) : List Addr := (List.range h.objs.size).filter fun a => (H a).isSome
def hidT (h : Heap) (H : Hp) : Heap := PySem.W.hideAll h (trk h H)
theorem hidT_size (h : Heap) (H : Hp) : (hidT h H).objs.size = h.objs.size := PySem.W.hideAll_size _ _
theorem hidT_get {h : Heap} {H : Hp} {b : Addr} {o : Obj} (e : h.get? b = some o) (n : H b = none) : (hidT h H).get? b = some o :=
  PySem.W.hideAll_get _ e fun hm => by
    have q : (H b).isSome = true := (List.mem_filter.mp hm).2
    rw [n] at q; simp at q
theorem of_hidT {h : Heap} {H : Hp} {b : Addr} {o : Obj} (e : (hidT h H).get? b = some o) : h.get? b = some o ∧ H b = none := by
  have e' : h.get? b = some o := PySem.W.of_hideAll (trk h H) e
  refine ⟨e', ?_⟩
  cases q : H b with
  | none => rfl
  | some x =>
    have hm : b ∈ trk h H := List.mem_filter.mpr ⟨List.mem_range.mpr (Heap.lt_size e'), by simp [q]⟩
    have z : (hidT h H).get? b = none := PySem.W.hideAll_none (trk h H) hm
    rw [z] at e; cases e

/-! ### OpenK's ledger, filled with every new object but one -/
def allNews (g h : Heap) (L : Addr) : List (Addr × Obj) := (List.range h.objs.size).filterMap fun a => if a = L ∨ (g.get? a).isSome = true then none else (h.get? a).map fun o => (a, o)
theorem mem_allNews {g h : Heap} {L a : Addr} {o : Obj} (h1 : a ≠ L) (h2 : g.get? a = none) (h3 : h.get? a = some o) : (a, o) ∈ allNews g h L :=
  List.mem_filterMap.mpr ⟨a, List.mem_range.mpr (Heap.lt_size h3), by simp [h1, h2, h3]⟩
theorem of_mem_allNews {g h : Heap} {L : Addr} {p : Addr × Obj} (hp : p ∈ allNews g h L) : p.1 ≠ L ∧ g.get? p.1 = none ∧ h.get? p.1 = some p.2 := by
  obtain ⟨b, _, e⟩ := List.mem_filterMap.mp hp
  split at e
  · cases e
  · rename_i hn
    cases q : h.get? b with
    | none => rw [q] at e; simp at e
    | some u =>
      rw [q] at e
      simp only [Option.map_some, Option.some.injEq] at e
      subst e
      refine ⟨fun z => hn (.inl z), ?_, q⟩
      show g.get? b = none
      cases r : g.get? b with
      | none => rfl
      | some v => exact (hn (.inr (by simp [r]))).elim
def rest (g h : Heap) (L d : Addr) : List (Addr × Obj) := (allNews g h L).filter fun p => decide (p.1 ≠ d)
theorem rest_ne {g h : Heap} {L d : Addr} : ∀ p ∈ rest g h L d, p.1 ≠ d := fun p hp => of_decide_eq_true (List.mem_filter.mp hp).2
theorem mem_rest {g h : Heap} {L d a : Addr} {o : Obj} (h1 : a ≠ L) (h2 : g.get? a = none) (h3 : h.get? a = some o) (h4 : a ≠ d) : (a, o) ∈ rest g h L d :=
  List.mem_filter.mpr ⟨mem_allNews h1 h2 h3, decide_eq_true h4⟩
theorem news_all {g h : Heap} {L : Addr} : News g L h (allNews g h L) := fun p hp => let ⟨a, b, c⟩ := of_mem_allNews hp; ⟨c, a, b⟩
theorem news_at {g h : Heap} {L d : Addr} {o : Obj} (h1 : d ≠ L) (h2 : g.get? d = none) (h3 : h.get? d = some o) : News g L h ((d, o) :: rest g h L d) := fun p hp => by
  rcases List.mem_cons.mp hp with rfl | hp
  · exact ⟨h3, h1, h2⟩
  · exact news_all p (List.mem_filter.mp hp).1
/-- behind a rule that changed d alone: all else but the frame is kept -/
theorem kept_of_news {g h h' : Heap} {L d : Addr} {m : Str → Option Value} (k : ∀ b o, g.get? b = some o → h.get? b = some o) (F : Fr g L h' m) (N : News g L h' (rest g h L d)) :
    ∀ b o, b ≠ L → b ≠ d → h.get? b = some o → h'.get? b = some o := fun b o h1 h2 e => by
  cases q : g.get? b with
  | some u =>
    have := k b u q
    rw [e] at this; cases this
    exact F.keep b _ q
  | none => exact (N (b, o) (mem_rest h1 q e h2)).1
end L2

namespace L2
open PySem PySem.Spec PyProof.Rows

/-- the module's facts, over the base: the heap at the law's entry without what is tracked there -/
structure Mod (K : PySem.W.Frag) (mg : Str → Option Value) (base : Heap) : Prop where
  kin : K.In base
  glob : base.Ns mainGlobals mg
  blt : ∃ mb, base.Ns builtinsNs mb ∧ ∀ x : Str, x ≠ "__name__" → mb x = bootBuiltins x
  nolimit : base.NoLimit

/-- the context: a def's body (or a comprehension's block) running. base: fixed through the whole law; s₀, H₀: the entry; outer: the frames whose slots others may change (a def's callers); stack: all frames that run;
   ex: iterators that were made ahead of the entry and are walked here (a comprehension's); fn: the names whose cells were made at the entry (a def: all; a comprehension's block: its own); calm: not within an except suite; pn: pins that every state bears; xe: what is wanted of an exception that leaves the code -/
structure Cx where
  prog : Program
  w : World
  K : PySem.W.Frag
  mg : Str → Option Value
  base : Heap
  A : Around
  N : List Str
  s₀ : Shared
  H₀ : Hp
  env : Env
  outer : List Env
  stack : List Env
  ex : List Addr
  fn : Str → Bool
  calm : Bool
  pn : List (Addr × Obj)
  xe : Value → Shared → Prop
/-- the callers' frames -/
def frs (l : List Env) : List Addr := l.filterMap (·.frame)
abbrev Cx.fs (X : Cx) : List Addr := frs X.outer

def Vis (sc : Scope) (x : Str) : Prop := sc.names.lookup x = some .local ∨ sc.names.lookup x = some .cell ∨ sc.names.lookup x = some .free
def Loc (sc : Scope) (x : Str) : Prop := sc.names.lookup x = some .local ∨ sc.names.lookup x = some .cell
def Look (env : Env) (h : Heap) (m : Str → Option Value) (x : Str) (u : Value) : Prop :=
  (env.kindOf x = some .local ∧ m x = some u) ∨ ((env.kindOf x = some .cell ∨ env.kindOf x = some .free) ∧ ∃ c, env.cells.lookup x = some c ∧ h.IsCell c (some u))

structure Cx.Ok (X : Cx) : Prop where
  mod : Mod X.K X.mg X.base
  kind : X.env.scope.kind = .function
  glob : X.env.globals = mainGlobals
  blt : X.env.builtins = builtinsNs
  above : X.s₀.heap.objs.size ≤ X.env.locals
  inj : ∀ x y c, X.env.cells.lookup x = some c → X.env.cells.lookup y = some c → x = y
  has : ∀ x, (X.env.kindOf x = some .cell ∨ X.env.kindOf x = some .free) → ∃ c, X.env.cells.lookup x = some c
  cab : ∀ x c, X.fn x = true → X.env.cells.lookup x = some c → X.s₀.heap.objs.size ≤ c
  hd : X.calm = true → X.A.handled = none
  frames : X.A.frames = some X.stack
  stk : X.stack = X.outer ∨ (X.stack = X.env :: X.outer ∧ X.env.frame = some X.env.locals)
  exf : ∀ b ∈ X.ex, b ≠ X.env.locals ∧ ∀ x c, X.env.cells.lookup x = some c → c ≠ b
  bs : ∀ b o, X.base.get? b = some o → X.s₀.heap.get? b = some o ∧ X.H₀ b = none
  bsz : X.base.objs.size ≤ X.s₀.heap.objs.size
  noex : ∀ b o, X.base.get? b = some o → b ∉ X.ex
  exfs : ∀ b ∈ X.ex, b ∉ X.fs
  funs : X.s₀.heap.FunFrames X.base X.outer
  frf : ∀ b ∈ X.fs, X.H₀ b = none

structure Inv (X : Cx) (pins : List (Addr × Obj)) (σ : List (Option V)) (H : Hp) (s : Shared) : Prop where
  ok : X.Ok
  os : s.os = X.s₀.os
  bare : AllBare s.gens
  base : Un X.fs X.ex X.H₀ H X.s₀.heap s.heap
  loc : ∃ m, s.heap.Ns X.env.locals m ∧ ∀ (i : Nat) (x : Str) (v : V), X.N[i]? = some x → σ[i]? = some (some v) → Vis X.env.scope x → ∃ u, RelV v u ∧ Look X.env s.heap m x u
  cell : ∀ x c, X.env.cells.lookup x = some c → ∃ v, s.heap.IsCell c v
  free : H X.env.locals = none
  freeC : ∀ x c, X.env.cells.lookup x = some c → H c = none
  pin : ∀ p ∈ X.pn ++ pins, s.heap.get? p.1 = some p.2 ∧ H p.1 = none ∧ p.1 ≠ X.env.locals ∧ p.1 ∉ X.fs ∧ ∀ v, p.2.data ≠ .cell v
  hok : HOk X.prog X.w H s.heap
  len : σ.length = X.N.length

section
variable {X : Cx} {pins : List (Addr × Obj)} {σ : List (Option V)} {H H' : Hp} {s : Shared} {h' : Heap}

theorem Cx.Ok.nofr (ok : X.Ok) {b : Addr} {o : Obj} (e : X.base.get? b = some o) : b ∉ X.fs := fun hb => by
  have := (ok.funs.mem hb).1
  rw [e] at this; cases this
theorem Inv.bs (I : Inv X pins σ H s) : ∀ b o, X.base.get? b = some o → s.heap.get? b = some o ∧ H b = none := fun b o e =>
  ⟨I.base.keep b o (I.ok.bs b o e).1 (I.ok.bs b o e).2 (I.ok.nofr e) (I.ok.noex b o e), I.base.free b o (I.ok.bs b o e).1 (I.ok.bs b o e).2 (I.ok.noex b o e)⟩
theorem Inv.bk (I : Inv X pins σ H s) : ∀ b o, X.base.get? b = some o → s.heap.get? b = some o := fun b o e => (I.bs b o e).1
theorem Inv.mod (I : Inv X pins σ H s) : Mod X.K X.mg X.base := I.ok.mod
theorem Inv.kIn (I : Inv X pins σ H s) : X.K.In s.heap := I.ok.mod.kin.keeps I.bk
theorem Inv.nolimit (I : Inv X pins σ H s) : s.heap.NoLimit := I.ok.mod.nolimit.keeps I.bk
/-- the frame over the base: for OpenK's rules (K.In X.base is I.mod.kin) -/
theorem Inv.fr (I : Inv X pins σ H s) : ∃ m, Fr X.base X.env.locals s.heap m :=
  let ⟨m, hn, _⟩ := I.loc
  ⟨m, hn, I.bk, Nat.le_trans I.ok.bsz I.ok.above⟩
theorem Inv.lt (I : Inv X pins σ H s) : X.env.locals < s.heap.objs.size := let ⟨_, hn, _⟩ := I.loc; hn.lt
theorem Inv.sz (I : Inv X pins σ H s) : X.s₀.heap.objs.size ≤ s.heap.objs.size := Nat.le_trans I.ok.above (Nat.le_of_lt I.lt)
theorem Inv.nofs (I : Inv X pins σ H s) {a : Addr} (h : s.heap.objs.size ≤ a) : a ∉ X.fs := fun hb => by
  obtain ⟨_, o, ho, _⟩ := I.ok.funs.mem hb
  exact absurd (Nat.lt_of_lt_of_le (Heap.lt_size ho) (Nat.le_trans I.sz h)) (Nat.lt_irrefl _)
theorem Inv.cne (I : Inv X pins σ H s) : ∀ x c, X.env.cells.lookup x = some c → c ≠ X.env.locals := fun x c e z => by
  obtain ⟨v, o, ho, hd⟩ := I.cell x c e
  obtain ⟨m, ⟨o', es, ep, ho', hd', _⟩, _⟩ := I.loc
  rw [z, ho'] at ho; cases ho; rw [hd'] at hd; cases hd
theorem Inv.funs (I : Inv X pins σ H s) : s.heap.FunFrames X.base X.outer := by
  have all : ∀ (l : List Env), (∀ b ∈ frs l, b ∈ X.fs) → X.s₀.heap.FunFrames X.base l → s.heap.FunFrames X.base l := by
    intro l
    induction l with
    | nil => intro _ _; trivial
    | cons env r ih =>
      intro hs hl
      obtain ⟨hk, ⟨L, o, hf, hn, ho, hd⟩, hr⟩ := hl
      have hL : L ∈ X.fs := hs L (by unfold frs; rw [List.filterMap_cons, hf]; exact List.mem_cons_self)
      obtain ⟨sl, e⟩ := I.base.slot L o ho (I.ok.frf L hL) hL fun z => I.ok.exfs L z hL
      exact ⟨hk, ⟨L, _, hf, hn, e, hd⟩, ih (fun b hb => hs b (by unfold frs; rw [List.filterMap_cons, hf]; exact List.mem_cons_of_mem _ hb)) hr⟩
  exact all X.outer (fun _ hb => hb) I.ok.funs

/-- the frames that run, for a call -/
theorem Inv.stack (I : Inv X pins σ H s) : s.heap.FunFrames X.base X.stack := by
  rcases I.ok.stk with e | ⟨e, hf⟩
  · rw [e]; exact I.funs
  · rw [e]
    obtain ⟨m, hn, _⟩ := I.loc
    refine .cons (by rw [I.ok.kind]; decide) hf hn ?_ I.funs
    exact Heap.get?_none_of_le (Nat.le_trans I.ok.bsz I.ok.above)
theorem Inv.stkSub (I : Inv X pins σ H s) : ∀ b ∈ frs X.stack, b ∈ X.env.locals :: X.fs := fun b hb => by
  rcases I.ok.stk with e | ⟨e, hf⟩
  · rw [e] at hb; exact List.mem_cons_of_mem _ hb
  · rw [e] at hb
    unfold frs at hb
    rw [List.filterMap_cons, hf] at hb
    exact hb
theorem Inv.stkFree (I : Inv X pins σ H s) : ∀ b ∈ frs X.stack, H b = none := fun b hb => by
  rcases List.mem_cons.mp (I.stkSub b hb) with e | hb
  · rw [e]; exact I.free
  · obtain ⟨_, o, ho, _⟩ := I.ok.funs.mem hb
    exact I.base.free b o ho (I.ok.frf b hb) fun z => I.ok.exfs b z hb

/-- THE STEP: the untracked objects but the frame and the records at ch are kept (the callers' frames up to slots), the frame's map is kept, the new abstract heap is held -/
theorem Inv.step {g' : Array GenState} {t' : Nat} {d' : Drawn} {ch : List Addr} (I : Inv X pins σ H s)
    (hch : ∀ b ∈ ch, (b ∈ X.ex ∨ X.s₀.heap.objs.size ≤ b) ∧ b ≠ X.env.locals ∧ (∀ x c, X.env.cells.lookup x = some c → c ≠ b) ∧ ∀ p ∈ X.pn ++ pins, p.1 ≠ b)
    (keep : ∀ b o, b ≠ X.env.locals → b ∉ X.fs → b ∉ ch → s.heap.get? b = some o → H b = none → h'.get? b = some o)
    (slot : ∀ b o, b ≠ X.env.locals → b ∈ X.fs → b ∉ ch → s.heap.get? b = some o → H b = none → ∃ sl, h'.get? b = some { o with slots := sl }) (free : ∀ b o, b ∉ ch → s.heap.get? b = some o → H b = none → H' b = none)
    (there : ∀ b o, b ∉ ch → s.heap.get? b = some o → ∃ o', h'.get? b = some o')
    (tups : ∀ b xs, H b = some (.tup xs) → H' b = some (.tup xs)) (frzs : ∀ b o u, H b = some (.frz o u) → H' b = some (.frz o u)) (tbls : ∀ b ps, H b = some (.tbl ps) → ∃ more, H' b = some (.tbl (ps ++ more)))
    (ns : ∀ m, s.heap.Ns X.env.locals m → h'.Ns X.env.locals m) (hok : HOk X.prog X.w H' h') (hg : AllBare g') :
    Inv X pins σ H' { s with heap := h', gens := g', drawn := d', toks := t' } := by
  have neL : ∀ b o, X.s₀.heap.get? b = some o → b ≠ X.env.locals := fun b o e => Nat.ne_of_lt (Nat.lt_of_lt_of_le (Heap.lt_size e) I.ok.above)
  have neC : ∀ b o, X.s₀.heap.get? b = some o → b ∉ X.ex → b ∉ ch := fun b o e hx hb => by
    rcases (hch b hb).1 with z | z
    · exact hx z
    · exact absurd (Nat.lt_of_lt_of_le (Heap.lt_size e) z) (Nat.lt_irrefl _)
  have cellK : ∀ x c, X.env.cells.lookup x = some c → ∀ v, s.heap.IsCell c v → h'.IsCell c v := fun x c e v ⟨o, ho, hd⟩ => by
    have nch : c ∉ ch := fun z => (hch c z).2.2.1 x c e rfl
    by_cases hc : c ∈ X.fs
    · obtain ⟨sl, q⟩ := slot c o (I.cne x c e) hc nch ho (I.freeC x c e)
      exact ⟨_, q, hd⟩
    · exact ⟨o, keep c o (I.cne x c e) hc nch ho (I.freeC x c e), hd⟩
  refine ⟨I.ok, I.os, hg, ⟨fun b o e n hb hx => ?_, fun b o e n hb hx => ?_, fun b o e n hx => ?_, fun b o e hx => ?_, fun b xs e => tups b xs (I.base.tups b xs e), fun b o xs e => frzs b o xs (I.base.frzs b o xs e), fun b ps e => ?_⟩, ?_, fun x c e => ?_, ?_, fun x c e => ?_, fun p hp => ?_, hok, I.len⟩
  · exact keep b o (neL b o e) hb (neC b o e hx) (I.base.keep b o e n hb hx) (I.base.free b o e n hx)
  · obtain ⟨sl, e1⟩ := I.base.slot b o e n hb hx
    obtain ⟨sl', e2⟩ := slot b _ (neL b o e) hb (neC b o e hx) e1 (I.base.free b o e n hx)
    exact ⟨sl', e2⟩
  · obtain ⟨o', e1⟩ := I.base.there b o e hx
    exact free b o' (neC b o e hx) e1 (I.base.free b o e n hx)
  · obtain ⟨o', e1⟩ := I.base.there b o e hx
    exact there b o' (neC b o e hx) e1
  · obtain ⟨m1, e1⟩ := I.base.tbls b ps e
    obtain ⟨m2, e2⟩ := tbls b _ e1
    exact ⟨m1 ++ m2, by rw [e2, Array.append_assoc]⟩
  · obtain ⟨m, hn, hl⟩ := I.loc
    refine ⟨m, ns m hn, fun i x v e1 e2 e3 => ?_⟩
    obtain ⟨u, r, l⟩ := hl i x v e1 e2 e3
    refine ⟨u, r, ?_⟩
    rcases l with l | ⟨k, c, e, z⟩
    · exact .inl l
    · exact .inr ⟨k, c, e, cellK x c e _ z⟩
  · obtain ⟨v, z⟩ := I.cell x c e
    exact ⟨v, cellK x c e v z⟩
  · obtain ⟨m, ⟨o, _, _, ho, _⟩, _⟩ := I.loc
    exact free _ o (fun z => (hch _ z).2.1 rfl) ho I.free
  · obtain ⟨v, o, ho, hd⟩ := I.cell x c e
    exact free c o (fun z => (hch c z).2.2.1 x c e rfl) ho (I.freeC x c e)
  · obtain ⟨e, n, ne, nf, d⟩ := I.pin p hp
    have nch : p.1 ∉ ch := fun z => (hch p.1 z).2.2.2 p hp rfl
    exact ⟨keep p.1 p.2 ne nf nch e n, free p.1 p.2 nch e n, ne, nf, d⟩
/-- .. where the frame's own object is kept too -/
theorem Inv.un {t' : Nat} (I : Inv X pins σ H s) (u : Un X.fs [] H H' s.heap h') (hok : HOk X.prog X.w H' h') : Inv X pins σ H' { s with heap := h', toks := t' } := by
  obtain ⟨m, ⟨o, es, ep, ho, r⟩, _⟩ := id I.loc
  obtain ⟨sl, hL⟩ := u.any ho I.free (by simp)
  exact I.step (g' := s.gens) (d' := s.drawn) (ch := []) (fun _ z => nomatch z) (fun b o _ hb _ e n => u.keep b o e n hb (by simp)) (fun b o _ hb _ e n => u.slot b o e n hb (by simp)) (fun b o _ e n => u.free b o e n (by simp)) (fun b o _ e => u.there b o e (by simp)) u.tups u.frzs u.tbls (fun m' hm => by
    obtain ⟨o', es', ep', ho', r'⟩ := hm
    rw [ho] at ho'; cases ho'
    exact ⟨_, es', ep', hL, r'⟩) hok I.bare
/-- behind a call (or a comprehension's block): the slots of this frame may have changed too, the records at ch may have turned -/
theorem Inv.call {g' : Array GenState} {t' : Nat} {d' : Drawn} {ch : List Addr} (I : Inv X pins σ H s) (u : Un (frs X.stack) ch H H' s.heap h') (hok : HOk X.prog X.w H' h') (hg : AllBare g')
    (hch : ∀ b ∈ ch, (b ∈ X.ex ∨ X.s₀.heap.objs.size ≤ b) ∧ b ≠ X.env.locals ∧ (∀ x c, X.env.cells.lookup x = some c → c ≠ b) ∧ ∀ p ∈ X.pn ++ pins, p.1 ≠ b) :
    Inv X pins σ H' { s with heap := h', gens := g', drawn := d', toks := t' } := by
  obtain ⟨m, ⟨o, es, ep, ho, r⟩, _⟩ := id I.loc
  obtain ⟨sl, hL⟩ := u.any ho I.free fun z => (hch _ z).2.1 rfl
  exact I.step (ch := ch) hch (fun b o hL hb hc e n => u.keep b o e n (fun z => (List.mem_cons.mp (I.stkSub b z)).elim hL hb) hc) (fun b o _ _ hc e n => u.any e n hc) (fun b o hc e n => u.free b o e n hc) (fun b o hc e => u.there b o e hc) u.tups u.frzs u.tbls (fun m' hm => by
    obtain ⟨o', es', ep', ho', r'⟩ := hm
    rw [ho] at ho'; cases ho'
    exact ⟨_, es', ep', hL, r'⟩) hok hg
/-- an untracked record of ours (an iterator) has turned -/
theorem Inv.turned {t' : Nat} {it : Addr} (I : Inv X pins σ H s) (k : ∀ b o, b ≠ it → s.heap.get? b = some o → h'.get? b = some o) (hn : H it = none) (hL : it ≠ X.env.locals)
    (h1 : it ∈ X.ex ∨ X.s₀.heap.objs.size ≤ it) (h2 : ∀ x c, X.env.cells.lookup x = some c → c ≠ it) (h3 : ∀ p ∈ X.pn ++ pins, p.1 ≠ it) : Inv X pins σ H { s with heap := h', toks := t' } := by
  have nit : ∀ b u, H b = some u → b ≠ it := fun b u e z => by rw [z, hn] at e; cases e
  refine I.step (g' := s.gens) (d' := s.drawn) (ch := [it]) (fun b hb => ?_) (fun b o _ _ hc e _ => k b o (fun z => hc (by simp [z])) e) (fun b o _ _ hc e _ => ⟨o.slots, k b o (fun z => hc (by simp [z])) e⟩) (fun _ _ _ _ n => n)
    (fun b o hc e => ⟨o, k b o (fun z => hc (by simp [z])) e⟩) (fun _ _ e => e) (fun _ _ _ e => e) (fun b ps e => ⟨#[], by rw [e]; simp⟩) (fun m hm => ?_) (fun b u e => ?_) I.bare
  · have e : b = it := by simpa using hb
    subst e
    exact ⟨h1, hL, h2, h3⟩
  · obtain ⟨o, es, ep, ho, r⟩ := hm
    exact ⟨o, es, ep, k _ o (Ne.symm hL) ho, r⟩
  · refine (I.hok b u e).stay (fun c v hc q => k c v ?_ q) (fun _ q => q) fun _ _ q => q
    rcases hc with z | z
    · rw [z]; exact nit b u e
    · exact nit c _ z
theorem Inv.tok (I : Inv X pins σ H s) (t : Nat) : Inv X pins σ H { s with toks := t } := I.un (h' := s.heap) (t' := t) Un.refl I.hok
/-- all objects kept -/
theorem Inv.kept {t' : Nat} (I : Inv X pins σ H s) (k : ∀ b u, s.heap.get? b = some u → h'.get? b = some u) : Inv X pins σ H { s with heap := h', toks := t' } := I.un (Un.kept k) (I.hok.kept k)
/-- a new object laid and tracked -/
theorem Inv.laid {a : Addr} {o : HO} {t' : Nat} (I : Inv X pins σ H s) (k : ∀ b u, s.heap.get? b = some u → h'.get? b = some u) (hp : s.heap.objs.size ≤ a) (new : ObjOk X.prog X.w (upd H a o) h' a o) :
    Inv X pins σ (upd H a o) { s with heap := h', toks := t' } := I.un (Un.laid k hp (I.hok.fresh hp)) (I.hok.laid k hp new)
/-- an object written -/
theorem Inv.write {x e : Addr} {o : HO} {t' : Nat} (I : Inv X pins σ H s) (mu : Mut (H x)) (he : e = x ∨ H e = some (.own x)) (k : ∀ b u, b ≠ e → s.heap.get? b = some u → h'.get? b = some u) (heo : ∃ u, h'.get? e = some u)
    (new : ObjOk X.prog X.w (upd H x o) h' x o) : Inv X pins σ (upd H x o) { s with heap := h', toks := t' } := I.un (Un.write mu he k heo) (I.hok.write mu he k heo new)
/-- forgetting slots, pins -/
theorem Inv.weak {σ' : List (Option V)} (I : Inv X pins σ H s) (hl : σ'.length = σ.length) (w : ∀ (i : Nat) v, σ'[i]? = some (some v) → σ[i]? = some (some v)) : Inv X pins σ' H s :=
  ⟨I.ok, I.os, I.bare, I.base, let ⟨m, hn, hl'⟩ := I.loc; ⟨m, hn, fun i x v e1 e2 e3 => hl' i x v e1 (w i v e2) e3⟩, I.cell, I.free, I.freeC, I.pin, I.hok, hl.trans I.len⟩
theorem Inv.pins_of {pins' : List (Addr × Obj)} (I : Inv X pins σ H s) (h : ∀ p ∈ pins', s.heap.get? p.1 = some p.2 ∧ H p.1 = none ∧ p.1 ≠ X.env.locals ∧ p.1 ∉ X.fs ∧ ∀ v, p.2.data ≠ .cell v) : Inv X pins' σ H s :=
  ⟨I.ok, I.os, I.bare, I.base, I.loc, I.cell, I.free, I.freeC, fun p hp => (List.mem_append.mp hp).elim (fun z => I.pin p (List.mem_append_left _ z)) (h p), I.hok, I.len⟩

theorem nodup_ix {N : List Str} (hN : N.Nodup) {i j : Nat} {x : Str} (a : N[i]? = some x) (b : N[j]? = some x) : i = j := by
  obtain ⟨h1, e1⟩ := List.getElem?_eq_some_iff.mp a
  obtain ⟨h2, e2⟩ := List.getElem?_eq_some_iff.mp b
  exact (List.getElem_inj hN).mp (e1.trans e2.symm)

/-- a name is stored; what changed -/
theorem store_ok2 {M : Model} {A : Around} {E : Value → Shared → Prop} {i : Nat} {x : Str} {v : V} {u : Value} {Q : Unit → Shared → Prop} (I : Inv X pins σ H s) (hN : X.N.Nodup) (hi : X.N[i]? = some x) (hx : Loc X.env.scope x) (r : RelV v u)
    (h : ∀ s', Inv X pins (σ.set i (some v)) H s' → (∃ a, Heap.SameBut a s.heap s'.heap ∧ (a = X.env.locals ∨ X.env.cells.lookup x = some a)) → Q () s') (hf : X.fn x = true ∨ X.env.scope.names.lookup x = some .local := by first | exact .inl rfl | exact .inr rfl | assumption) : wpAny M A (storeName X.env x u) Q E s := by
  obtain ⟨m, hn, hl⟩ := id I.loc
  have hcls : (X.env.scope.kind == .class || (X.env.scope.kind == .module && X.env.locals != X.env.globals)) = false := by rw [I.ok.kind]; rfl
  have hiσ : i < σ.length := by rw [I.len]; exact (List.getElem?_eq_some_iff.mp hi).1
  have cne := I.cne
  have tracked : ∀ {a : Addr} {h' : Heap}, (∃ o, s.heap.get? a = some o ∧ H a = none) → Heap.SameBut a s.heap h' → HOk X.prog X.w H h' := fun {a h'} ha hs b ob e => by
    obtain ⟨_, _, hfree⟩ := ha
    refine (I.hok b ob e).stay (fun c w' hc q => (hs.2 c ?_).trans q) (fun _ q => q) fun _ _ q => q
    rintro rfl
    rcases hc with rfl | hc
    · rw [hfree] at e; cases e
    · rw [hfree] at hc; cases hc
  rcases hx with hk | hk
  · refine wpAny_storeName_local hk hn (fun h' hn' hs => ?_) hcls
    obtain ⟨oL, _, _, hoL, _⟩ := id hn
    refine h _ ⟨I.ok, I.os, I.bare, ⟨fun b o e n hb hx => ?_, fun b o e n hb hx => ?_, I.base.free, fun b o e hx => ?_, I.base.tups, I.base.frzs, I.base.tbls⟩, ⟨_, hn', fun j y v' e1 e2 e3 => ?_⟩, fun y c e => ?_, I.free, I.freeC, fun p hp => ?_, tracked ⟨oL, hoL, I.free⟩ hs, by simpa using I.len⟩ ⟨_, hs, .inl rfl⟩
    · exact (hs.2 b (Nat.ne_of_lt (Nat.lt_of_lt_of_le (Heap.lt_size e) I.ok.above))).trans (I.base.keep b o e n hb hx)
    · obtain ⟨sl, e1⟩ := I.base.slot b o e n hb hx
      exact ⟨sl, (hs.2 b (Nat.ne_of_lt (Nat.lt_of_lt_of_le (Heap.lt_size e) I.ok.above))).trans e1⟩
    · obtain ⟨o', e1⟩ := I.base.there b o e hx
      exact ⟨o', (hs.2 b (Nat.ne_of_lt (Nat.lt_of_lt_of_le (Heap.lt_size e) I.ok.above))).trans e1⟩
    · by_cases hj : j = i
      · subst hj
        rw [hi] at e1; cases e1
        rw [List.getElem?_set_self hiσ] at e2
        cases e2
        exact ⟨u, r, .inl ⟨hk, by simp⟩⟩
      · rw [List.getElem?_set_ne (Ne.symm hj)] at e2
        obtain ⟨u', r', q⟩ := hl j y v' e1 e2 e3
        refine ⟨u', r', ?_⟩
        rcases q with ⟨k, e⟩ | ⟨k, c, e, z⟩
        · refine .inl ⟨k, ?_⟩
          have : y ≠ x := fun e => hj (nodup_ix hN e1 (e ▸ hi))
          simp [this, e]
        · exact .inr ⟨k, c, e, z.sameBut hs (cne y c e)⟩
    · obtain ⟨w', z⟩ := I.cell y c e
      exact ⟨w', z.sameBut hs (cne y c e)⟩
    · obtain ⟨e, n, ne, nf, d⟩ := I.pin p hp
      exact ⟨(hs.2 p.1 ne).trans e, n, ne, nf, d⟩
  · have hfn : X.fn x = true := by
      rcases hf with z | z
      · exact z
      · rw [z] at hk; cases hk
    obtain ⟨c, hc⟩ := I.ok.has x (.inl hk)
    obtain ⟨w', z⟩ := I.cell x c hc
    refine wpAny_storeName_cell I.ok.kind hk hc z (fun h' hc' hs => ?_)
    obtain ⟨oc, hoc, hocd⟩ := id z
    refine h { s with heap := h' } ⟨I.ok, I.os, I.bare, ⟨fun b o e n hb hx => ?_, fun b o e n hb hx => ?_, I.base.free, fun b o e hx => ?_, I.base.tups, I.base.frzs, I.base.tbls⟩, ⟨m, hn.sameBut hs (Ne.symm (cne x c hc)), fun j y v' e1 e2 e3 => ?_⟩, fun y c' e => ?_, I.free, I.freeC, fun p hp => ?_, tracked ⟨oc, hoc, I.freeC x c hc⟩ hs, by simpa using I.len⟩ ⟨c, hs, .inr hc⟩
    · exact (hs.2 b (Nat.ne_of_lt (Nat.lt_of_lt_of_le (Heap.lt_size e) (I.ok.cab x c hfn hc)))).trans (I.base.keep b o e n hb hx)
    · obtain ⟨sl, e1⟩ := I.base.slot b o e n hb hx
      exact ⟨sl, (hs.2 b (Nat.ne_of_lt (Nat.lt_of_lt_of_le (Heap.lt_size e) (I.ok.cab x c hfn hc)))).trans e1⟩
    · obtain ⟨o', e1⟩ := I.base.there b o e hx
      exact ⟨o', (hs.2 b (Nat.ne_of_lt (Nat.lt_of_lt_of_le (Heap.lt_size e) (I.ok.cab x c hfn hc)))).trans e1⟩
    · by_cases hj : j = i
      · subst hj
        rw [hi] at e1; cases e1
        rw [List.getElem?_set_self hiσ] at e2
        cases e2
        exact ⟨u, r, .inr ⟨.inl hk, c, hc, hc'⟩⟩
      · rw [List.getElem?_set_ne (Ne.symm hj)] at e2
        obtain ⟨u', r', q⟩ := hl j y v' e1 e2 e3
        refine ⟨u', r', ?_⟩
        rcases q with q | ⟨k, c', e, z'⟩
        · exact .inl q
        · refine .inr ⟨k, c', e, z'.sameBut hs ?_⟩
          rintro rfl
          exact hj (nodup_ix hN e1 (I.ok.inj _ _ _ e hc ▸ hi))
    · by_cases hcc : c' = c
      · subst hcc; exact ⟨_, hc'⟩
      · obtain ⟨w2, z2⟩ := I.cell y c' e
        exact ⟨w2, z2.sameBut hs hcc⟩
    · obtain ⟨e, n, ne, nf, d⟩ := I.pin p hp
      refine ⟨(hs.2 p.1 ?_).trans e, n, ne, nf, d⟩
      intro q
      rw [q, hoc] at e
      have q' : oc = p.2 := Option.some.inj e
      exact d w' (by rw [← q']; exact hocd)
theorem store_ok {M : Model} {A : Around} {E : Value → Shared → Prop} {i : Nat} {x : Str} {v : V} {u : Value} {Q : Unit → Shared → Prop} (I : Inv X pins σ H s) (hN : X.N.Nodup) (hi : X.N[i]? = some x) (hx : Loc X.env.scope x) (r : RelV v u)
    (h : ∀ s', Inv X pins (σ.set i (some v)) H s' → Q () s') (hf : X.fn x = true ∨ X.env.scope.names.lookup x = some .local := by first | exact .inl rfl | exact .inr rfl | assumption) : wpAny M A (storeName X.env x u) Q E s :=
  store_ok2 I hN hi hx r (fun s' I' _ => h s' I') hf
/-- behind a call or a block, the state as it is -/
theorem Inv.call' {s' : Shared} {ch : List Addr} (I : Inv X pins σ H s) (ho : s'.os = s.os) (u : Un (frs X.stack) ch H H' s.heap s'.heap) (hok : HOk X.prog X.w H' s'.heap) (hg : AllBare s'.gens)
    (hch : ∀ b ∈ ch, (b ∈ X.ex ∨ X.s₀.heap.objs.size ≤ b) ∧ b ≠ X.env.locals ∧ (∀ x c, X.env.cells.lookup x = some c → c ≠ b) ∧ ∀ p ∈ X.pn ++ pins, p.1 ≠ b) : Inv X pins σ H' s' := by
  obtain ⟨h', g', d', t', o'⟩ := s'
  have e : o' = s.os := ho
  subst e
  exact I.call (g' := g') (t' := t') (d' := d') u hok hg hch
end

/-! ### the judgements -/
/-- an exception: its class, its own dict's address (where it has one), the abstract heap behind it -/
abbrev XK := Value → Option Addr → Hp → Prop
abbrev St := List (Option V)
abbrev VK := V → Hp → Prop
/-- an expression's reading; a test's; an argument list's -/
abbrev TE := St → Hp → VK → Prop
abbrev TT := St → Hp → (Bool → Hp → Prop) → Prop
abbrev TA := St → Hp → (List V → Hp → Prop) → Prop
/-- what is wanted behind a statement -/
structure Ends where
  nx : St → Hp → Prop
  rt : VK
  bk : St → Hp → Prop := fun _ _ => False
  ct : St → Hp → Prop := fun _ _ => False
abbrev TS := Ends → St → Hp → Prop

def EP (X : Cx) (pins : List (Addr × Obj)) (σ : St) (Q : VK) (u : Value) (s' : Shared) : Prop := ∃ v H', Inv X pins σ H' s' ∧ RelV v u ∧ Q v H'
def TP (X : Cx) (pins : List (Addr × Obj)) (σ : St) (Q : Bool → Hp → Prop) (b : Bool) (s' : Shared) : Prop := ∃ H', Inv X pins σ H' s' ∧ Q b H'
def AP (X : Cx) (pins : List (Addr × Obj)) (σ : St) (Q : List V → Hp → Prop) (us : List Value) (s' : Shared) : Prop := ∃ vs H', Inv X pins σ H' s' ∧ Vals vs us ∧ Q vs H'
def SP (X : Cx) (pins : List (Addr × Obj)) (D : Ends) (f : Flow) (s' : Shared) : Prop :=
  match f with
  | .next => ∃ σ' H', Inv X pins σ' H' s' ∧ D.nx σ' H'
  | .brk => ∃ σ' H', Inv X pins σ' H' s' ∧ D.bk σ' H'
  | .cont => ∃ σ' H', Inv X pins σ' H' s' ∧ D.ct σ' H'
  | .ret u => ∃ v σ' H', Inv X pins σ' H' s' ∧ RelV v u ∧ D.rt v H'

def PE (X : Cx) (e : Expr) (t : TE) : Prop :=
  ∀ (pins : List (Addr × Obj)) (s : Shared) (σ : St) (H : Hp) (Q : VK), Inv X pins σ H s → t σ H Q → wpAny (model X.prog X.w) X.A (eval e X.env) (EP X pins σ Q) X.xe s
def PT (X : Cx) (e : Expr) (t : TT) : Prop :=
  ∀ (pins : List (Addr × Obj)) (s : Shared) (σ : St) (H : Hp) (Q : Bool → Hp → Prop), Inv X pins σ H s → t σ H Q → wpAny (model X.prog X.w) X.A (isTrue e X.env (eval e X.env)) (TP X pins σ Q) X.xe s
/-- a test whatever its 'whole' is (and, or) -/
def PW (X : Cx) (e : Expr) (t : TT) : Prop :=
  ∀ (whole : Sem Value) (pins : List (Addr × Obj)) (s : Shared) (σ : St) (H : Hp) (Q : Bool → Hp → Prop), Inv X pins σ H s → t σ H Q → wpAny (model X.prog X.w) X.A (isTrue e X.env whole) (TP X pins σ Q) X.xe s
theorem PW.pt {X : Cx} {e : Expr} {t : TT} (h : PW X e t) : PT X e t := h _
/-- an argument list (no star), from the left -/
def PA (X : Cx) (es : List Expr) (t : TA) : Prop :=
  ∀ (pos : Pos) (pins : List (Addr × Obj)) (s : Shared) (σ : St) (H : Hp) (Q : List V → Hp → Prop), Inv X pins σ H s → t σ H Q → wpAny (model X.prog X.w) X.A (spliced (backTo pos (starEach es X.env))) (AP X pins σ Q) X.xe s
def PS (X : Cx) (st : Stmt) (t : TS) : Prop :=
  ∀ (pins : List (Addr × Obj)) (s : Shared) (σ : St) (H : Hp) (D : Ends), Inv X pins σ H s → t D σ H → wpAny (model X.prog X.w) X.A (exec st X.env) (SP X pins D) X.xe s
def PSs (X : Cx) (st : List Stmt) (t : TS) : Prop :=
  ∀ (pins : List (Addr × Obj)) (s : Shared) (σ : St) (H : Hp) (D : Ends), Inv X pins σ H s → t D σ H → wpAny (model X.prog X.w) X.A (execs st X.env) (SP X pins D) X.xe s
/-- weaken the end -/
theorem thn {α : Type} {t : Sem α} {Q Q' : α → Shared → Prop} {M : Model} {A : Around} {E : Value → Shared → Prop} {s : Shared} (h : wpAny M A t Q E s) (hQ : ∀ a s, Q a s → Q' a s) : wpAny M A t Q' E s := wpAny_mono h hQ fun _ _ x => x
end L2

namespace L2
open PySem PySem.Spec PyProof.Rows
section
variable {X : Cx}

/-- two expressions in a row -/
theorem bin {a b : Expr} {ta tb : TE} (ha : PE X a ta) (hb : PE X b tb) {pins : List (Addr × Obj)} {s : Shared} {σ : St} {H : Hp} {R : V → V → Hp → Prop} (I : Inv X pins σ H s) (h : ta σ H fun x H1 => tb σ H1 fun y H2 => R x y H2)
    {α : Type} {Q : α → Shared → Prop} {f : Value → Value → Sem α}
    (hf : ∀ v u s2 x y H2, Inv X pins σ H2 s2 → RelV x v → RelV y u → R x y H2 → wpAny (model X.prog X.w) X.A (f v u) Q X.xe s2) :
    wpAny (model X.prog X.w) X.A (eval a X.env) (fun v s₁ => wpAny (model X.prog X.w) X.A (eval b X.env) (fun u s₂ => wpAny (model X.prog X.w) X.A (f v u) Q X.xe s₂) X.xe s₁) X.xe s := by
  refine thn (ha pins s σ H _ I h) fun v s1 ⟨x, H1, I1, r1, q1⟩ => ?_
  refine thn (hb pins s1 σ H1 _ I1 q1) fun u s2 ⟨y, H2, I2, r2, q2⟩ => ?_
  exact hf v u s2 x y H2 I2 r1 r2 q2

/-! ### names and constants -/
def tVar (i : Nat) : TE := fun σ H Q => ∃ v, σ[i]? = some (some v) ∧ Q v H
def tC (v : V) : TE := fun _ H Q => Q v H
theorem pe_var {i : Nat} {x : Str} {pos : Pos} (hN : X.N[i]? = some x) (hv : Vis X.env.scope x) (hd : (x == ("__debug__" : Str)) = false := by decide) (hcd : (x == ("__classdict__" : Str)) = false := by decide) : PE X (.Name x pos) (tVar i) := by
  intro pins s σ H Q I h
  obtain ⟨v, e, h⟩ := h
  obtain ⟨m, hn, hl⟩ := I.loc
  obtain ⟨u, r, l⟩ := hl i x v hN e hv
  have fin : EP X pins σ Q u s := ⟨v, H, I, r, h⟩
  rcases l with ⟨hk, hm⟩ | ⟨hk, c, hc, hcell⟩
  · exact wpAny_Name (wpAny_loadName_local I.ok.kind hk hn hm fin) hd
  · rcases hk with hk | hk
    · exact wpAny_Name (wpAny_loadName_cell I.ok.kind hk hc hcell fin) hd
    · exact wpAny_Name (wpAny_loadName_free I.ok.kind hk hc hcell fin hcd) hd
theorem pe_int {i j pos} : PE X (.Constant (.int i) j pos) (tC (.int i)) := fun _ _ _ H _ I h => wpAny_Constant_int ⟨.int i, H, I.tok _, ⟨_, rfl⟩, h⟩
theorem pe_bl {b j pos} : PE X (.Constant (.bool b) j pos) (tC (.bl b)) := fun _ _ _ H _ I h => Constant_bool ⟨.bl b, H, I, rfl, h⟩
theorem pe_non {j pos} : PE X (.Constant .none j pos) (tC .non) := fun _ _ _ H _ I h => Constant_none ⟨.non, H, I, rfl, h⟩
theorem pe_str {x j pos} : PE X (.Constant (.str x) j pos) (tC (.str x)) := fun _ _ _ H _ I h => Calls.Constant_str ⟨.str x, H, I.tok _, ⟨_, rfl⟩, h⟩

/-- a global name of the def -/
def Gl (X : Cx) (x : Str) : Prop := X.env.kindOf x = some .globalImplicit
theorem ld_glob {E : Value → Shared → Prop} {pins : List (Addr × Obj)} {s : Shared} {σ : St} {H : Hp} {x : Str} {u : Value} {pos : Pos} {Q : Value → Shared → Prop} (I : Inv X pins σ H s) (hg : Gl X x) (hm : X.mg x = some u) (h : Q u s)
    (hd : (x == ("__debug__" : Str)) = false := by decide) : wpAny (model X.prog X.w) X.A (eval (.Name x pos) X.env) Q E s :=
  Calls.Name_function_global I.ok.kind hg (Calls.loadGlobal_global (by rw [I.ok.glob]; exact I.mod.glob.keeps I.bk) hm h) hd
theorem ld_blt {E : Value → Shared → Prop} {pins : List (Addr × Obj)} {s : Shared} {σ : St} {H : Hp} {x : Str} {u : Value} {pos : Pos} {Q : Value → Shared → Prop} (I : Inv X pins σ H s) (hg : Gl X x) (hm : X.mg x = none) (hv : bootBuiltins x = some u) (h : Q u s)
    (hn : x ≠ "__name__" := by decide) (hd : (x == ("__debug__" : Str)) = false := by decide) : wpAny (model X.prog X.w) X.A (eval (.Name x pos) X.env) Q E s := by
  obtain ⟨mb, h1, h2⟩ := I.mod.blt
  exact Calls.Name_function_global I.ok.kind hg (Calls.loadGlobal_builtin (by rw [I.ok.glob]; exact I.mod.glob.keeps I.bk) hm (by rw [I.ok.blt]; exact h1.keeps I.bk) ((h2 x hn).trans hv) h) hd
/-- a module's constant, a class, a function, as a value -/
theorem pe_glob {x : Str} {v : V} {u : Value} {pos : Pos} (hg : Gl X x) (hm : X.mg x = some u) (r : RelV v u) (hd : (x == ("__debug__" : Str)) = false := by decide) : PE X (.Name x pos) (tC v) :=
  fun _ _ _ H _ I h => ld_glob I hg hm ⟨v, H, I, r, h⟩ hd
theorem pe_bltn {x : Str} {v : V} {u : Value} {pos : Pos} (hg : Gl X x) (hm : X.mg x = none) (hv : bootBuiltins x = some u) (r : RelV v u) (hn : x ≠ "__name__" := by decide) (hd : (x == ("__debug__" : Str)) = false := by decide) : PE X (.Name x pos) (tC v) :=
  fun _ _ _ H _ I h => ld_blt I hg hm hv ⟨v, H, I, r, h⟩ hn hd

/-! ### arithmetic -/
/-- two ints -/
def t2I (ta tb : TE) (k : Int → Int → Hp → Prop) : St → Hp → Prop := fun σ H => ta σ H fun x H1 => tb σ H1 fun y H2 => ∃ i j, x = .int i ∧ y = .int j ∧ k i j H2
def tAdd (ta tb : TE) : TE := fun σ H Q => t2I ta tb (fun i j H2 => Q (.int (i + j)) H2) σ H
def tSub (ta tb : TE) : TE := fun σ H Q => t2I ta tb (fun i j H2 => Q (.int (i - j)) H2) σ H
/-- the left factor below 2^64 -/
def tMul (ta tb : TE) : TE := fun σ H Q => t2I ta tb (fun i j H2 => (-(2 ^ 64) < i ∧ i < 2 ^ 64) ∧ Q (.int (i * j)) H2) σ H
variable {a b : Expr} {ta tb : TE} {pos : Pos}
theorem pe_add (ha : PE X a ta) (hb : PE X b tb) : PE X (.BinOp a .Add b pos) (tAdd ta tb) := by
  intro pins s σ H Q I h
  refine wpAny_BinOp (bin ha hb I h fun v u s2 x y H2 I2 rx ry q => ?_)
  obtain ⟨i, j, rfl, rfl, q⟩ := q
  obtain ⟨t, rfl⟩ := rx
  obtain ⟨t', rfl⟩ := ry
  exact add_int ⟨.int _, H2, I2.tok _, ⟨_, rfl⟩, q⟩
theorem pe_sub (ha : PE X a ta) (hb : PE X b tb) : PE X (.BinOp a .Sub b pos) (tSub ta tb) := by
  intro pins s σ H Q I h
  refine wpAny_BinOp (bin ha hb I h fun v u s2 x y H2 I2 rx ry q => ?_)
  obtain ⟨i, j, rfl, rfl, q⟩ := q
  obtain ⟨t, rfl⟩ := rx
  obtain ⟨t', rfl⟩ := ry
  exact sub_int ⟨.int _, H2, I2.tok _, ⟨_, rfl⟩, q⟩
theorem pe_mul (ha : PE X a ta) (hb : PE X b tb) : PE X (.BinOp a .Mult b pos) (tMul ta tb) := by
  intro pins s σ H Q I h
  refine wpAny_BinOp (bin ha hb I h fun v u s2 x y H2 I2 rx ry q => ?_)
  obtain ⟨i, j, rfl, rfl, ⟨q1, q2⟩, q⟩ := q
  obtain ⟨t, rfl⟩ := rx
  obtain ⟨t', rfl⟩ := ry
  exact mul_int ⟨.int _, H2, I2.tok _, ⟨_, rfl⟩, q⟩ (.of_left (intBits_le_64 q1 q2))

/-! ### comparisons -/
def PC (X : Cx) (op : CmpOp) (a b : Expr) (t : TE) : Prop :=
  ∀ (pins : List (Addr × Obj)) (s : Shared) (σ : St) (H : Hp) (Q : VK), Inv X pins σ H s → t σ H Q →
    wpAny (model X.prog X.w) X.A (eval a X.env) (fun v s₁ => wpAny (model X.prog X.w) X.A (eval b X.env) (fun u s₂ => wpAny (model X.prog X.w) X.A (compareOp op v u) (EP X pins σ Q) X.xe s₂) X.xe s₁) X.xe s
theorem nobehind (b : Expr) {op : CmpOp} (h : op ≠ .In) (h2 : op ≠ .NotIn) : behindInMarks op b = false := by
  have e1 : (op == CmpOp.In) = false := by cases op <;> first | rfl | exact absurd rfl h
  have e2 : (op == CmpOp.NotIn) = false := by cases op <;> first | rfl | exact absurd rfl h2
  cases b <;> simp [behindInMarks, e1, e2]
def tCmp (p : Int → Int → Bool) (ta tb : TE) : TE := fun σ H Q => t2I ta tb (fun i j H2 => Q (.bl (p i j)) H2) σ H
abbrev tLt : TE → TE → TE := tCmp fun i j => decide (i < j)
abbrev tLe : TE → TE → TE := tCmp fun i j => decide (i ≤ j)
abbrev tGt : TE → TE → TE := tCmp fun i j => decide (j < i)
abbrev tGe : TE → TE → TE := tCmp fun i j => decide (j ≤ i)
abbrev tEqI : TE → TE → TE := tCmp fun i j => decide (i = j)
abbrev tNeI : TE → TE → TE := tCmp fun i j => !decide (i = j)
/-- a comparison of two ints, by its rule -/
theorem pc_int {op : CmpOp} {p : Int → Int → Bool} (ha : PE X a ta) (hb : PE X b tb)
    (rule : ∀ (i j : Int) (t u : Tok) (Q : Value → Shared → Prop) (s : Shared), Q (.bool (p i j)) s → wpAny (model X.prog X.w) X.A (compareOp op (.int i t) (.int j u)) Q X.xe s) : PC X op a b (tCmp p ta tb) := by
  intro pins s σ H Q I h
  refine bin ha hb I h fun v u s2 x y H2 I2 rx ry q => ?_
  obtain ⟨i, j, rfl, rfl, q⟩ := q
  obtain ⟨t, rfl⟩ := rx
  obtain ⟨t', rfl⟩ := ry
  exact rule i j t t' _ s2 ⟨.bl _, H2, I2, rfl, q⟩
theorem pc_lt (ha : PE X a ta) (hb : PE X b tb) : PC X .Lt a b (tLt ta tb) := pc_int ha hb fun _ _ _ _ _ _ h => lt_int h
theorem pc_le (ha : PE X a ta) (hb : PE X b tb) : PC X .LtE a b (tLe ta tb) := pc_int ha hb fun _ _ _ _ _ _ h => le_int h
theorem pc_gt (ha : PE X a ta) (hb : PE X b tb) : PC X .Gt a b (tGt ta tb) := pc_int ha hb fun _ _ _ _ _ _ h => gt_int h
theorem pc_ge (ha : PE X a ta) (hb : PE X b tb) : PC X .GtE a b (tGe ta tb) := pc_int ha hb fun _ _ _ _ _ _ h => ge_int h
theorem pc_eqI (ha : PE X a ta) (hb : PE X b tb) : PC X .Eq a b (tEqI ta tb) := pc_int ha hb fun _ _ _ _ _ _ h => eq_int (by rw [Bool.beq_eq_decide_eq]; exact h)
theorem pc_neI (ha : PE X a ta) (hb : PE X b tb) : PC X .NotEq a b (tNeI ta tb) := pc_int ha hb fun _ _ _ _ _ _ h => ne_int (by rw [bne, Bool.beq_eq_decide_eq]; exact h)
/-- is None -/
def tIsN (ta : TE) : TE := fun σ H Q => ta σ H fun x H1 => Q (.bl (decide (x = .non))) H1
def tNotN (ta : TE) : TE := fun σ H Q => ta σ H fun x H1 => Q (.bl (!decide (x = .non))) H1
theorem RelV.none_iff {x : V} {v : Value} (r : RelV x v) : (v == Value.none) = decide (x = .non) := by
  cases x with
  | non => cases r; rfl
  | bl _ => cases r; rfl
  | int _ => obtain ⟨t, rfl⟩ := r; rfl
  | str _ => obtain ⟨t, rfl⟩ := r; rfl
  | byt _ => obtain ⟨t, rfl⟩ := r; rfl
  | flt _ => obtain ⟨t, rfl⟩ := r; rfl
  | ref _ => cases r; rfl
  | ty _ => cases r; rfl
theorem pc_isN {j pos'} (ha : PE X a ta) : PC X .Is a (.Constant .none j pos') (tIsN ta) := by
  intro pins s σ H Q I h
  refine thn (ha pins s σ H _ I h) fun v s1 ⟨x, H1, I1, r1, q1⟩ => ?_
  exact Constant_none (is_none_gen ⟨.bl _, H1, I1, by rw [r1.none_iff]; rfl, q1⟩)
theorem pc_notN {j pos'} (ha : PE X a ta) : PC X .IsNot a (.Constant .none j pos') (tNotN ta) := by
  intro pins s σ H Q I h
  refine thn (ha pins s σ H _ I h) fun v s1 ⟨x, H1, I1, r1, q1⟩ => ?_
  exact Constant_none (isnot_none_gen ⟨.bl _, H1, I1, by rw [r1.none_iff]; rfl, q1⟩)
/-- a comparison as a value, as a test -/
def tB (t : TE) : TT := fun σ H Q => t σ H fun x H1 => ∃ c, x = .bl c ∧ Q c H1
theorem pe_cmp {op : CmpOp} {t : TE} (h : PC X op a b t) (h1 : behindInMarks op b = false := by first | exact nobehind _ (by decide) (by decide) | rfl) : PE X (.Compare a [op] [b] pos) t := fun pins s σ H Q I hw => wpAny_Compare1 (h pins s σ H Q I hw) h1
theorem pt_cmp {op : CmpOp} {t : TE} (h : PC X op a b t) (h1 : behindInMarks op b = false := by first | exact nobehind _ (by decide) (by decide) | rfl) : PT X (.Compare a [op] [b] pos) (tB t) := by
  intro pins s σ H Q I hw
  refine wpAny_isTrue_Compare1 (thn (h pins s σ H _ I hw) fun v s1 h1 => thn h1 fun u s2 h2 => thn h2 fun c s3 ⟨x, H1, I1, r1, q1⟩ => ?_) h1
  obtain ⟨d, rfl, q⟩ := q1
  cases r1
  exact wpAny_truthy_bool ⟨H1, I1, q⟩
/-- an expression whose value is a bool, as a test -/
theorem pt_val {e : Expr} {t : TE} (h : PE X e t) (he : ∀ whole, isTrue e X.env whole = (do let v ← whole; standAt e.pos; holding [v] (truthy v)) := by intro _; rfl) : PT X e (tB t) := by
  intro pins s σ H Q I hw
  refine isTrue_plain (thn (h pins s σ H _ I hw) fun v s1 ⟨x, H1, I1, r1, q1⟩ => ?_) (he _)
  obtain ⟨d, rfl, q⟩ := q1
  cases r1
  exact wpAny_truthy_bool ⟨H1, I1, q⟩

/-! ### and, or, not -/
variable {tA tB' : TT} {rest : List Expr}
def tAnd (t u : TT) : TT := fun σ H Q => t σ H fun c H1 => if c = true then u σ H1 Q else Q false H1
def tOr (t u : TT) : TT := fun σ H Q => t σ H fun c H1 => if c = true then Q true H1 else u σ H1 Q
def tNot (t : TT) : TT := fun σ H Q => t σ H fun c H1 => Q (!c) H1
theorem pw_and1 (ha : PT X a tA) : PW X (.BoolOp .And [a] pos) tA := by
  intro wh pins s σ H Q I h
  refine isTrue_and (thn (ha pins s σ H Q I h) fun c s1 e => ?_)
  cases c with
  | true => exact isTrue_and_nil e
  | false => exact e
theorem pw_or1 (ha : PT X a tA) : PW X (.BoolOp .Or [a] pos) tA := by
  intro wh pins s σ H Q I h
  refine isTrue_or (thn (ha pins s σ H Q I h) fun c s1 e => ?_)
  cases c with
  | false => exact isTrue_or_nil e
  | true => exact e
theorem pw_and (ha : PT X a tA) (hb : PW X (.BoolOp .And (b :: rest) pos) tB') : PW X (.BoolOp .And (a :: b :: rest) pos) (tAnd tA tB') := by
  intro wh pins s σ H Q I h
  refine isTrue_and (thn (ha pins s σ H _ I h) fun c s1 ⟨H1, I1, q1⟩ => ?_)
  cases c with
  | true => exact hb wh pins s1 σ H1 Q I1 q1
  | false => exact ⟨H1, I1, q1⟩
theorem pw_or (ha : PT X a tA) (hb : PW X (.BoolOp .Or (b :: rest) pos) tB') : PW X (.BoolOp .Or (a :: b :: rest) pos) (tOr tA tB') := by
  intro wh pins s σ H Q I h
  refine isTrue_or (thn (ha pins s σ H _ I h) fun c s1 ⟨H1, I1, q1⟩ => ?_)
  cases c with
  | true => exact ⟨H1, I1, q1⟩
  | false => exact hb wh pins s1 σ H1 Q I1 q1
theorem pt_not (ha : PT X a tA) : PT X (.UnaryOp .Not a pos) (tNot tA) := by
  intro pins s σ H Q I h
  exact isTrue_not (ha pins s σ H (fun c H1 => Q (!c) H1) I h)
/-- .. as values (bools) -/
def tAndV (ta tb : TE) : TE := fun σ H Q => ta σ H fun x H1 => ∃ c, x = .bl c ∧ if c = true then tb σ H1 Q else Q (.bl false) H1
def tOrV (ta tb : TE) : TE := fun σ H Q => ta σ H fun x H1 => ∃ c, x = .bl c ∧ if c = true then Q (.bl true) H1 else tb σ H1 Q
def tNotV (ta : TE) : TE := fun σ H Q => ta σ H fun x H1 => ∃ c, x = .bl c ∧ Q (.bl (!c)) H1
theorem pe_one {op} {t : TE} (h : PE X a t) : PE X (.BoolOp op [a] pos) t := fun pins s σ H Q I hw => BoolOp_one (h pins s σ H Q I hw)
theorem pe_and (ha : PE X a ta) (hb : PE X (.BoolOp .And (b :: rest) pos) tb) : PE X (.BoolOp .And (a :: b :: rest) pos) (tAndV ta tb) := by
  intro pins s σ H Q I h
  refine BoolOp_and (thn (ha pins s σ H _ I h) fun v s1 ⟨x, H1, I1, r1, q1⟩ => ?_)
  obtain ⟨c, rfl, q1⟩ := q1
  cases r1
  refine wpAny_truthy_bool ?_
  cases c with
  | true => exact hb pins s1 σ H1 Q I1 q1
  | false => exact ⟨.bl false, H1, I1, rfl, q1⟩
theorem pe_or (ha : PE X a ta) (hb : PE X (.BoolOp .Or (b :: rest) pos) tb) : PE X (.BoolOp .Or (a :: b :: rest) pos) (tOrV ta tb) := by
  intro pins s σ H Q I h
  refine BoolOp_or (thn (ha pins s σ H _ I h) fun v s1 ⟨x, H1, I1, r1, q1⟩ => ?_)
  obtain ⟨c, rfl, q1⟩ := q1
  cases r1
  refine wpAny_truthy_bool ?_
  cases c with
  | false => exact hb pins s1 σ H1 Q I1 q1
  | true => exact ⟨.bl true, H1, I1, rfl, q1⟩
theorem pe_not (ha : PE X a ta) : PE X (.UnaryOp .Not a pos) (tNotV ta) := by
  intro pins s σ H Q I h
  refine UnaryOp_ (thn (ha pins s σ H _ I h) fun v s1 ⟨x, H1, I1, r1, q1⟩ => ?_)
  obtain ⟨c, rfl, q1⟩ := q1
  cases r1
  exact not_of (wpAny_truthy_bool ⟨.bl (!c), H1, I1, rfl, q1⟩)
/-- a if t else b -/
def tIf (t : TT) (ta tb : TE) : TE := fun σ H Q => t σ H fun c H1 => if c = true then ta σ H1 Q else tb σ H1 Q
theorem pe_ifExp {c : Expr} (hc : PT X c tA) (ha : PE X a ta) (hb : PE X b tb) : PE X (.IfExp c a b pos) (tIf tA ta tb) := by
  intro pins s σ H Q I h
  refine wpAny_IfExp (thn (hc pins s σ H _ I h) fun d s1 ⟨H1, I1, q1⟩ => ?_)
  cases d with
  | true => exact ha pins s1 σ H1 Q I1 q1
  | false => exact hb pins s1 σ H1 Q I1 q1
end
end L2

namespace L2
open PySem PySem.Spec PyProof.Rows

/-! ### a list, a tuple that is read: tracked, frozen, or an object of the module -/
def SqL (K : PySem.W.Frag) (H : Hp) (a : Addr) (xs : List V) : Prop :=
  Rd H a (.lst xs) ∨
    ∃ (o : Obj) (its : Array Value) (n : Nat), K.lookup a = some o ∧ o.cls = .type "list" ∧ o.dict = none ∧ o.data = .seq its n ∧ its.size ≤ sizeLine ∧ Vals xs its.toList
def SqT (K : PySem.W.Frag) (H : Hp) (a : Addr) (xs : List V) : Prop :=
  Rd H a (.tup xs) ∨
    ∃ (o : Obj) (its : Array Value) (n : Nat), K.lookup a = some o ∧ o.cls = .type "tuple" ∧ o.data = .seq its n ∧ its.size ≤ sizeLine ∧ Vals xs its.toList
def absV : Value → Option V
  | .none => some .non
  | .bool b => some (.bl b)
  | .int i _ => some (.int i)
  | .str x _ => some (.str x)
  | .bytes b _ => some (.byt b)
  | .float b _ => some (.flt b)
  | .ref a => some (.ref a)
  | .type n => some (.ty n)
  | _ => none
theorem RelV.abs {x : V} {u : Value} (r : RelV x u) : absV u = some x := by
  cases x with
  | non => cases r; rfl
  | bl _ => cases r; rfl
  | int _ => obtain ⟨t, rfl⟩ := r; rfl
  | str _ => obtain ⟨t, rfl⟩ := r; rfl
  | byt _ => obtain ⟨t, rfl⟩ := r; rfl
  | flt _ => obtain ⟨t, rfl⟩ := r; rfl
  | ref _ => cases r; rfl
  | ty _ => cases r; rfl
theorem RelV.inj {x y : V} {u : Value} (r : RelV x u) (q : RelV y u) : x = y := Option.some.inj (r.abs.symm.trans q.abs)
theorem Vals.inj : ∀ {xs ys : List V} {us : List Value}, Vals xs us → Vals ys us → xs = ys
  | _, _, _, .nil, .nil => rfl
  | _, _, _, .cons r t, .cons r' t' => by rw [r.inj r', Vals.inj t t']
section
variable {X : Cx} {pins : List (Addr × Obj)} {σ : St} {H : Hp} {s : Shared} {a : Addr} {xs ys : List V}
theorem SqL.of {K : PySem.W.Frag} (h : H a = some (.lst xs)) : SqL K H a xs := .inl (.inl h)
theorem SqT.of {K : PySem.W.Frag} (h : H a = some (.tup xs)) : SqT K H a xs := .inl (.inl h)
theorem Inv.list (I : Inv X pins σ H s) (h : SqL X.K H a xs) : ∃ its : List Value, Vals xs its ∧ PlainL s.heap a its.toArray ∧ xs.length ≤ sizeLine := by
  rcases h with h | ⟨o, its, n, hk, hc, hd, hs, hz, r⟩
  · obtain ⟨z, its, n, r, e⟩ := h.ok I.hok
    exact ⟨its, r, ⟨_, n, e, rfl, rfl, rfl⟩, z⟩
  · refine ⟨its.toList, r, ⟨o, n, I.kIn a o hk, hc, hd, by simpa using hs⟩, ?_⟩
    have e := r.length
    simp only [Array.length_toList] at e
    omega
theorem Inv.tuple (I : Inv X pins σ H s) (h : SqT X.K H a xs) : ∃ its : List Value, Vals xs its ∧ IsTup s.heap a its.toArray ∧ xs.length ≤ sizeLine := by
  rcases h with h | ⟨o, its, n, hk, hc, hs, hz, r⟩
  · obtain ⟨z, its, r, p⟩ := h.ok I.hok
    exact ⟨its, r, p, z⟩
  · refine ⟨its.toList, r, ⟨o, I.kIn a o hk, hc, n, by simpa using hs⟩, ?_⟩
    have e := r.length
    simp only [Array.length_toList] at e
    omega
theorem Inv.list_inj (I : Inv X pins σ H s) (h : SqL X.K H a xs) (h' : SqL X.K H a ys) : xs = ys := by
  obtain ⟨its, r, ⟨o, n, e, _, _, d⟩, _⟩ := I.list h
  obtain ⟨its', r', ⟨o', n', e', _, _, d'⟩, _⟩ := I.list h'
  rw [e] at e'; cases e'
  rw [d] at d'
  injection d' with d1 _
  have : its = its' := by simpa using congrArg Array.toList d1
  subst this
  exact r.inj r'
theorem Inv.tuple_inj (I : Inv X pins σ H s) (h : SqT X.K H a xs) (h' : SqT X.K H a ys) : xs = ys := by
  obtain ⟨its, r, ⟨o, e, _, n, d⟩, _⟩ := I.tuple h
  obtain ⟨its', r', ⟨o', e', _, n', d'⟩, _⟩ := I.tuple h'
  rw [e] at e'; cases e'
  rw [d] at d'
  injection d' with d1 _
  have : its = its' := by simpa using congrArg Array.toList d1
  subst this
  exact r.inj r'
end

/-! ### another wish about exceptions -/
abbrev Cx.wish (X : Cx) (E : Value → Shared → Prop) : Cx := { X with xe := E }
/-- no exception leaves -/
abbrev Cx.nox (X : Cx) : Cx := X.wish fun _ _ => False
theorem Cx.Ok.wish {X : Cx} (ok : X.Ok) (E : Value → Shared → Prop) : (X.wish E).Ok :=
  ⟨ok.mod, ok.kind, ok.glob, ok.blt, ok.above, ok.inj, ok.has, ok.cab, ok.hd, ok.frames, ok.stk, ok.exf, ok.bs, ok.bsz, ok.noex, ok.exfs, ok.funs, ok.frf⟩
theorem Cx.Ok.unwish {X : Cx} {E : Value → Shared → Prop} (ok : (X.wish E).Ok) : X.Ok :=
  ⟨ok.mod, ok.kind, ok.glob, ok.blt, ok.above, ok.inj, ok.has, ok.cab, ok.hd, ok.frames, ok.stk, ok.exf, ok.bs, ok.bsz, ok.noex, ok.exfs, ok.funs, ok.frf⟩
section
variable {X : Cx} {pins : List (Addr × Obj)} {σ : St} {H : Hp} {s : Shared} {E : Value → Shared → Prop}
theorem Inv.wish (I : Inv X pins σ H s) (E : Value → Shared → Prop) : Inv (X.wish E) pins σ H s := ⟨I.ok.wish E, I.os, I.bare, I.base, I.loc, I.cell, I.free, I.freeC, I.pin, I.hok, I.len⟩
theorem Inv.unwish (I : Inv (X.wish E) pins σ H s) : Inv X pins σ H s := ⟨I.ok.unwish, I.os, I.bare, I.base, I.loc, I.cell, I.free, I.freeC, I.pin, I.hok, I.len⟩
theorem SP.unwish {D : Ends} {f : Flow} {s' : Shared} (h : SP (X.wish E) pins D f s') : SP X pins D f s' := by
  cases f with
  | next => obtain ⟨σ', H', I, q⟩ := h; exact ⟨σ', H', I.unwish, q⟩
  | brk => obtain ⟨σ', H', I, q⟩ := h; exact ⟨σ', H', I.unwish, q⟩
  | cont => obtain ⟨σ', H', I, q⟩ := h; exact ⟨σ', H', I.unwish, q⟩
  | ret u => obtain ⟨v, σ', H', I, r, q⟩ := h; exact ⟨v, σ', H', I.unwish, r, q⟩
theorem PE.nox {e : Expr} {t : TE} (h : PE X.nox e t) : PE X e t := fun pins s σ H Q I hw =>
  wpAny_mono (h pins s σ H Q (I.wish _) hw) (fun _ _ ⟨v, H', I', r, q⟩ => ⟨v, H', I'.unwish, r, q⟩) fun _ _ z => False.elim z
theorem PT.nox {e : Expr} {t : TT} (h : PT X.nox e t) : PT X e t := fun pins s σ H Q I hw =>
  wpAny_mono (h pins s σ H Q (I.wish _) hw) (fun _ _ ⟨H', I', q⟩ => ⟨H', I'.unwish, q⟩) fun _ _ z => False.elim z
theorem PSs.nox {st : List Stmt} {t : TS} (h : PSs X.nox st t) : PSs X st t := fun pins s σ H D I hw =>
  wpAny_mono (h pins s σ H D (I.wish _) hw) (fun _ _ q => q.unwish) fun _ _ z => False.elim z
end

/-! ### blocks and small statements -/
section
variable {X : Cx} {st : Stmt} {rest : List Stmt} {t u : TS} {e : Expr} {te : TE} {pos : Pos}
def tNext : TS := fun D σ H => D.nx σ H
def tSeq (t u : TS) : TS := fun D σ H => t { D with nx := u D } σ H
theorem pss_nil : PSs X [] tNext := fun _ _ σ H _ I h => wpAny_execs_nil ⟨σ, H, I, h⟩
theorem pss_cons (h1 : PS X st t) (h2 : PSs X rest u) : PSs X (st :: rest) (tSeq t u) := by
  intro pins s σ H D I h
  refine wpAny_execs_cons (thn (h1 pins s σ H { D with nx := u D } I h) fun f s1 q => ?_)
  cases f with
  | next =>
    obtain ⟨σ', H', I', q⟩ := q
    exact h2 pins s1 σ' H' D I' q
  | ret v => exact q
  | brk => exact q
  | cont => exact q
theorem pss_one (h1 : PS X st t) : PSs X [st] t := by
  intro pins s σ H D I h
  refine wpAny_execs_cons (thn (h1 pins s σ H D I h) fun f s1 q => ?_)
  cases f with
  | next => exact wpAny_execs_nil q
  | ret v => exact q
  | brk => exact q
  | cont => exact q
def tBreak : TS := fun D σ H => D.bk σ H
def tCont : TS := fun D σ H => D.ct σ H
theorem ps_pass : PS X (.Pass pos) tNext := fun _ _ σ H _ I h => wpAny_Pass ⟨σ, H, I, h⟩
theorem ps_break : PS X (.Break pos) tBreak := fun _ _ σ H _ I h => wpAny_Break ⟨σ, H, I, h⟩
theorem ps_continue : PS X (.Continue pos) tCont := fun _ _ σ H _ I h => wpAny_Continue ⟨σ, H, I, h⟩
/-- in a def's body nothing is shown -/
theorem Inv.quiet {pins : List (Addr × Obj)} {σ : St} {H : Hp} {s : Shared} (I : Inv X pins σ H s) : interactive X.env = false := by simp [interactive, I.ok.kind]
/-- a docstring -/
theorem ps_doc {x j pos pos'} : PS X (.Expr (.Constant (.str x) j pos) pos') tNext := fun _ s σ H _ I h => wpAny_Expr (Calls.Constant_str (show SP X _ _ .next { s with toks := s.toks + 1 } from ⟨σ, H, I.tok _, h⟩)) I.quiet
/-- an expression whose value is dropped -/
def tDrop (te : TE) : TS := fun D σ H => te σ H fun _ H1 => D.nx σ H1
theorem ps_expr (he : PE X e te) (hs : swapsWith e none pos.line X.env = pure false := by rfl) : PS X (.Expr e pos) (tDrop te) := by
  intro pins s σ H D I h
  exact wpAny_Expr_any (thn (he pins s σ H _ I h) fun v s1 ⟨x, H1, I1, r1, q1⟩ => ⟨σ, H1, I1, q1⟩) I.quiet hs
def tRet (te : TE) : TS := fun D σ H => te σ H D.rt
theorem ps_ret (he : PE X e te) : PS X (.Return (some e) pos) (tRet te) := by
  intro pins s σ H D I h
  exact wpAny_Return_some (thn (he pins s σ H _ I h) fun v s1 ⟨x, H1, I1, r1, q1⟩ => ⟨x, σ, H1, I1, r1, q1⟩)
def tRetN : TS := fun D _ H => D.rt .non H
theorem ps_retN : PS X (.Return none pos) tRetN := fun _ _ σ H _ I h => wpAny_Return_none ⟨.non, σ, H, I, rfl, h⟩
def tIfS (c : TT) (t u : TS) : TS := fun D σ H => c σ H fun b H1 => if b = true then t D σ H1 else u D σ H1
theorem ps_if {c : Expr} {a b : List Stmt} {tc : TT} (hc : PT X c tc) (ha : PSs X a t) (hb : PSs X b u) : PS X (.If c a b pos) (tIfS tc t u) := by
  intro pins s σ H D I h
  refine wpAny_If (thn (hc pins s σ H _ I h) fun d s1 ⟨H1, I1, q1⟩ => ?_)
  cases d with
  | true => exact ha pins s1 σ H1 D I1 q1
  | false => exact hb pins s1 σ H1 D I1 q1
/-- code that the proof never comes to -/
def tNever : TS := fun _ _ _ => False
theorem ps_never : PS X st tNever := fun _ _ _ _ _ _ h => h.elim
theorem pss_never {sts : List Stmt} : PSs X sts tNever := fun _ _ _ _ _ _ h => h.elim
end

/-! ### targets -/
abbrev TG := V → St → Hp → (St → Hp → Prop) → Prop
abbrev TGs := List V → St → Hp → (St → Hp → Prop) → Prop
def PG (X : Cx) (target : Expr) (t : TG) : Prop :=
  ∀ (pins : List (Addr × Obj)) (s : Shared) (σ : St) (H : Hp) (v : V) (u : Value) (Q : St → Hp → Prop), Inv X pins σ H s → RelV v u → t v σ H Q →
    wpAny (model X.prog X.w) X.A (assign target X.env u) (fun _ s' => ∃ σ' H', Inv X pins σ' H' s' ∧ Q σ' H') X.xe s
/-- several targets, one after another -/
def PGs (X : Cx) (ts : List Expr) (t : TGs) : Prop :=
  ∀ (pins : List (Addr × Obj)) (s : Shared) (σ : St) (H : Hp) (vs : List V) (us : List Value) (Q : St → Hp → Prop), Inv X pins σ H s → Vals vs us → t vs σ H Q →
    wpAny (model X.prog X.w) X.A (assignInOrder ((assignEach ts X.env).map (·.2)) us) (fun _ s' => ∃ σ' H', Inv X pins σ' H' s' ∧ Q σ' H') X.xe s
/-- o[i] = v, by values -/
abbrev TSet := V → V → V → Hp → (Hp → Prop) → Prop
def PSet (X : Cx) (t : TSet) : Prop :=
  ∀ (pins : List (Addr × Obj)) (s : Shared) (σ : St) (H : Hp) (o i v : V) (ov iv u : Value) (Q : Hp → Prop), Inv X pins σ H s → RelV o ov → RelV i iv → RelV v u → t o i v H Q →
    wpAny (model X.prog X.w) X.A (setItem ov iv u) (fun _ s' => ∃ H', Inv X pins σ H' s' ∧ Q H') X.xe s
/-- a op= b, by values -/
abbrev TIp := V → V → Hp → VK → Prop
def PIp (X : Cx) (op : Operator) (t : TIp) : Prop :=
  ∀ (pins : List (Addr × Obj)) (s : Shared) (σ : St) (H : Hp) (x y : V) (v u : Value) (Q : VK), Inv X pins σ H s → RelV x v → RelV y u → t x y H Q →
    wpAny (model X.prog X.w) X.A (inplaceOp op v u) (EP X pins σ Q) X.xe s
section
variable {X : Cx} {pos : Pos}
def gName (i : Nat) : TG := fun v σ H Q => Q (σ.set i (some v)) H
theorem pg_name {i : Nat} {x : Str} (hN : X.N.Nodup) (hi : X.N[i]? = some x) (hx : Loc X.env.scope x) (hf : X.fn x = true ∨ X.env.scope.names.lookup x = some .local := by first | exact .inl rfl | exact .inr rfl | assumption) : PG X (.Name x pos) (gName i) := by
  intro pins s σ H v u Q I r h
  exact wpAny_assign_Name (store_ok I hN hi hx r (fun s' I' => ⟨_, H, I', h⟩) hf)
def gNil : TGs := fun vs σ H Q => vs = [] ∧ Q σ H
def gCons (t : TG) (u : TGs) : TGs := fun vs σ H Q => ∃ v r, vs = v :: r ∧ t v σ H fun σ' H' => u r σ' H' Q
theorem pgs_nil : PGs X [] gNil := by
  intro pins s σ H vs us Q I r h
  obtain ⟨e, h⟩ := h
  subst e
  cases r
  exact assignInOrder_nil ⟨σ, H, I, h⟩
theorem pgs_cons {e : Expr} {es : List Expr} {t : TG} {u : TGs} (h1 : PG X e t) (h2 : PGs X es u)
    (hs : (assignEach (e :: es) X.env).map (·.2) = assign e X.env :: (assignEach es X.env).map (·.2) := by rfl) : PGs X (e :: es) (gCons t u) := by
  intro pins s σ H vs us Q I r h
  obtain ⟨v, vr, e1, h⟩ := h
  subst e1
  cases r with
  | cons r rr =>
    rw [hs]
    refine assignInOrder_cons (thn (h1 pins s σ H _ _ _ I r h) fun _ s1 ⟨σ1, H1, I1, q1⟩ => ?_)
    exact h2 pins s1 σ1 H1 _ _ Q I1 rr q1
/-- (a, b, ..) = a tuple of that length -/
def gTup (K : PySem.W.Frag) (n : Nat) (t : TGs) : TG := fun v σ H Q => ∃ a xs, v = .ref a ∧ SqT K H a xs ∧ xs.length = n ∧ t xs σ H Q
theorem pg_tup {es : List Expr} {k : Nat} {t : TGs} {n : Nat} (hc : X.calm = true) (h : PGs X es t)
    (hn : (assignEach es X.env).length = n := by rfl) (hst : (assignEach es X.env).findIdx? (·.1) = none := by rfl) : PG X (.Tuple es k pos) (gTup X.K n t) := by
  intro pins s σ H v u Q I r hw
  obtain ⟨a, xs, e1, hq, hl, hw⟩ := hw
  subst e1
  cases r
  obtain ⟨its, rv, ht, hz⟩ := I.tuple hq
  refine assign_Tuple_tuple (I.ok.hd hc) ht (by simp [hn, ← hl, rv.length]) hst fun h' hx => ?_
  have I1 : Inv X pins σ H { s with heap := h' } := I.kept (t' := s.toks) fun b o e => hx b o (Nat.ne_of_lt (Heap.lt_size e)) e
  exact h pins _ σ H xs _ Q I1 (by simpa using rv) hw
/-- o[i] = .. -/
def gSub (to ti : TE) (t : TSet) : TG := fun v σ H Q => to σ H fun o H1 => ti σ H1 fun i H2 => t o i v H2 fun H3 => Q σ H3
theorem pg_sub {o i : Expr} {to ti : TE} {t : TSet} (ho : PE X o to) (hi : PE X i ti) (hs : PSet X t)
    (ha : ∀ v, assign (.Subscript o i pos) X.env v = (do
      let ov ← holding [v] (eval o X.env)
      let iv ← holding [v, ov] (eval i X.env)
      standAt pos
      holding [v, ov, iv] (setItem ov iv v)
      release [v, ov, iv] []) := by intro _; rfl) : PG X (.Subscript o i pos) (gSub to ti t) := by
  intro pins s σ H v u Q I r h
  rw [ha]
  refine wpAny_bind (wpAny_holding (thn (ho pins s σ H _ I h) fun ov s1 ⟨x, H1, I1, r1, q1⟩ => ?_))
  refine wpAny_bind (wpAny_holding (thn (hi pins s1 σ H1 _ I1 q1) fun iv s2 ⟨y, H2, I2, r2, q2⟩ => ?_))
  refine wpAny_bind (wpAny_standAt (wpAny_bind (wpAny_holding (thn (hs pins s2 σ H2 x y v ov iv u _ I2 r1 r2 r q2) fun _ s3 ⟨H3, I3, q3⟩ => ?_))))
  exact wpAny_release ⟨σ, H3, I3, q3⟩
/-- target = value -/
def tAsg (te : TE) (g : TG) : TS := fun D σ H => te σ H fun x H1 => g x σ H1 D.nx
theorem ps_asg {tg e : Expr} {te : TE} {g : TG} (he : PE X e te) (hg : PG X tg g) (hs : swapsWithSole [tg] e pos.line X.env = pure false := by rfl) (hw : swappedStores [tg] e X.env = pure none := by rfl)
    (h1 : (assignEach [tg] X.env).map (·.2) = [assign tg X.env] := by rfl) : PS X (.Assign [tg] e pos) (tAsg te g) := by
  intro pins s σ H D I h
  refine wpAny_Assign_stores (thn (he pins s σ H _ I h) fun v s1 ⟨x, H1, I1, r1, q1⟩ => ?_) hs hw
  rw [h1]
  exact thn (hg pins s1 σ H1 x v _ I1 r1 q1) fun _ s2 q => q
/-- name = value -/
theorem ps_set {i : Nat} {x : Str} {e : Expr} {te : TE} {pos' : Pos} (hN : X.N.Nodup) (hi : X.N[i]? = some x) (hx : Loc X.env.scope x) (he : PE X e te) (hs : swapsWith e (some (.Name x pos')) pos.line X.env = pure false := by rfl) (hf : X.fn x = true ∨ X.env.scope.names.lookup x = some .local := by first | exact .inl rfl | exact .inr rfl | assumption) :
    PS X (.Assign [.Name x pos'] e pos) (tAsg te (gName i)) := by
  intro pins s σ H D I h
  refine wpAny_Assign_Name (thn (he pins s σ H _ I h) fun v s1 ⟨y, H1, I1, r1, q1⟩ => ?_) hs
  exact store_ok I1 hN hi hx r1 (fun s2 I2 => ⟨_, H1, I2, q1⟩) hf
/-- a, b = x, y with plain local names: stored from the right; the pair itself is not tracked (the opening rows as in PyProof/Rows/TupAssign.lean:23) -/
def tPar (i j : Nat) (ta : TA) : TS := fun D σ H => ta σ H fun vs H1 => ∃ v w, vs = [v, w] ∧ D.nx ((σ.set i (some v)).set j (some w)) H1
theorem ps_par {i j : Nat} {x y : Str} {a b : Expr} {ta : TA} {px py pt : Pos} {kt k2 pt2} (hc : X.calm = true) (hN : X.N.Nodup) (hi : X.N[i]? = some x) (hj : X.N[j]? = some y) (hij : i ≠ j)
    (hx : X.env.scope.names.lookup x = some .local) (hy : X.env.scope.names.lookup y = some .local) (ha : PA X [a, b] ta)
    (hw : swappedStores [.Tuple [.Name x px, .Name y py] kt pt] (.Tuple [a, b] k2 pt2) X.env = pure (some [x, y]))
    (hs : swapsWithSole [.Tuple [.Name x px, .Name y py] kt pt] (.Tuple [a, b] k2 pt2) pos.line X.env = pure false := by rfl) :
    PS X (.Assign [.Tuple [.Name x px, .Name y py] kt pt] (.Tuple [a, b] k2 pt2) pos) (tPar i j ta) := by
  intro pins s σ H D I h
  rw [exec_Assign_arm]
  refine wpAny_bind (wpAny_standAt ?_)
  rw [hs]
  refine wpAny_bind (wpAny_pure ?_)
  rw [if_neg (by decide)]
  refine wpAny_bind (Tuple_ (thn (ha _ pins s σ H _ I h) fun us s1 ⟨vs, H1, I1, r1, q1⟩ => ?_))
  obtain ⟨v, w, e1, q1⟩ := q1
  subst e1
  obtain ⟨u1, u2, rfl, rv, rw'⟩ : ∃ u1 u2, us = [u1, u2] ∧ RelV v u1 ∧ RelV w u2 := by
    cases r1 with
    | cons p q =>
      cases q with
      | cons p' q' =>
        cases q'
        exact ⟨_, _, rfl, p, p'⟩
  refine wpAny_newObj_type ?_ (by show 2 ≤ sizeLine; decide)
  have I2 : Inv X pins σ H1 { s1 with heap := s1.heap.push { cls := .type "tuple", data := .seq [u1, u2].toArray } } := I1.kept (t' := s1.toks) fun b o e => Heap.get?_push_of_some _ e
  rw [hw]
  refine wpAny_bind (wpAny_pure ?_)
  show wpAny (model X.prog X.w) X.A (do rule "assign.swapped-stores"; let items ← unpackItems (.ref s1.heap.objs.size) 2 none; assignInOrder [fun v => bindName X.env y v, fun v => bindName X.env x v] items.reverse; pure Flow.next) _ _ _
  refine wpAny_bind (wpAny_rule (wpAny_bind (unpackItems_tuple (items := #[u1, u2]) (I.ok.hd hc) (IsTup.new s1.heap _) fun h' hx' => ?_)))
  have I3 := I2.kept (h' := h') (t' := s1.toks) fun b o e => hx' b o (Nat.ne_of_lt (Heap.lt_size e)) e
  show wpAny _ _ (assignInOrder [fun v => bindName X.env y v, fun v => bindName X.env x v] [u2, u1] >>= fun _ => pure Flow.next) _ _ _
  refine wpAny_bind (assignInOrder_cons (wpAny_bindName (store_ok I3 hN hj (.inl hy) rw' (fun s2 I4 => ?_) (.inr hy))))
  refine assignInOrder_cons (wpAny_bindName (store_ok I4 hN hi (.inl hx) rv (fun s3 I5 => assignInOrder_nil (wpAny_pure ?_)) (.inr hx)))
  rw [List.set_comm _ _ (Ne.symm hij)] at I5
  exact ⟨_, H1, I5, q1⟩
/-- name op= e -/
def tAug (i : Nat) (te : TE) (ti : TIp) : TS := fun D σ H => ∃ x, σ[i]? = some (some x) ∧ te σ H fun y H1 => ti x y H1 fun z H2 => D.nx (σ.set i (some z)) H2
theorem ps_aug {i : Nat} {x : Str} {e : Expr} {te : TE} {op : Operator} {ti : TIp} {pos' : Pos} (hN : X.N.Nodup) (hi : X.N[i]? = some x) (hx : Loc X.env.scope x) (he : PE X e te) (ho : PIp X op ti) (hf : X.fn x = true ∨ X.env.scope.names.lookup x = some .local := by first | exact .inl rfl | exact .inr rfl | assumption) :
    PS X (.AugAssign (.Name x pos') op e pos) (tAug i te ti) := by
  intro pins s σ H D I h
  obtain ⟨v, e1, h⟩ := h
  obtain ⟨m, hn, hl⟩ := I.loc
  have vis : Vis X.env.scope x := by rcases hx with k | k; exact .inl k; exact .inr (.inl k)
  obtain ⟨u, r, l⟩ := hl i x v hi e1 vis
  refine wpAny_AugAssign_Name ?_
  have go : wpAny (model X.prog X.w) X.A (eval e X.env) (fun w s₂ => wpAny (model X.prog X.w) X.A (inplaceOp op u w) (fun r s₃ => wpAny (model X.prog X.w) X.A (storeName X.env x r) (fun _ => SP X pins D .next) X.xe s₃) X.xe s₂) X.xe s := by
    refine thn (he pins s σ H _ I h) fun w s1 ⟨y, H1, I1, r1, q1⟩ => ?_
    refine thn (ho pins s1 σ H1 v y u w _ I1 r r1 q1) fun z s2 ⟨zv, H2, I2, r2, q2⟩ => ?_
    exact store_ok I2 hN hi hx r2 (fun s3 I3 => ⟨_, H2, I3, q2⟩) hf
  rcases l with ⟨hk, hm⟩ | ⟨hk, c, hc, hcell⟩
  · exact wpAny_loadName_local I.ok.kind hk hn hm go
  · rcases hk with hk | hk
    · exact wpAny_loadName_cell I.ok.kind hk hc hcell go
    · rcases hx with k | k
      · have : X.env.scope.names.lookup x = some .free := hk
        rw [k] at this; cases this
      · have : X.env.scope.names.lookup x = some .free := hk
        rw [k] at this; cases this
/-- o[i] op= e -/
def tAugS (to ti te : TE) (tget : V → V → Hp → VK → Prop) (tip : TIp) (tset : TSet) : TS := fun D σ H => to σ H fun o H1 => ti σ H1 fun i H2 => tget o i H2 fun x H3 => te σ H3 fun y H4 => tip x y H4 fun z H5 => tset o i z H5 fun H6 => D.nx σ H6
/-- o[i], by values -/
def PGet (X : Cx) (t : V → V → Hp → VK → Prop) : Prop :=
  ∀ (pins : List (Addr × Obj)) (s : Shared) (σ : St) (H : Hp) (o i : V) (ov iv : Value) (Q : VK), Inv X pins σ H s → RelV o ov → RelV i iv → t o i H Q →
    wpAny (model X.prog X.w) X.A (getItem ov iv) (EP X pins σ Q) X.xe s
theorem ps_augS {o i e : Expr} {to ti te : TE} {tget : V → V → Hp → VK → Prop} {tip : TIp} {tset : TSet} {op : Operator} {tpos : Pos} (ho : PE X o to) (hi : PE X i ti) (hg : PGet X tget) (he : PE X e te) (hp : PIp X op tip) (hs : PSet X tset)
    (ha : ∀ ov iv new, augStore i ov iv new = (do holding [new, ov, iv] (setItem ov iv new); release [new, ov, iv] []; pure .next) := by intros; rfl) : PS X (.AugAssign (.Subscript o i tpos) op e pos) (tAugS to ti te tget tip tset) := by
  intro pins s σ H D I h
  refine wpAny_AugAssign_SubscriptAny (thn (ho pins s σ H _ I h) fun ov s1 ⟨x1, H1, I1, r1, q1⟩ => ?_) ha
  refine thn (hi pins s1 σ H1 _ I1 q1) fun iv s2 ⟨x2, H2, I2, r2, q2⟩ => ?_
  refine thn (hg pins s2 σ H2 x1 x2 ov iv _ I2 r1 r2 q2) fun old s3 ⟨x3, H3, I3, r3, q3⟩ => ?_
  refine thn (he pins s3 σ H3 _ I3 q3) fun v s4 ⟨x4, H4, I4, r4, q4⟩ => ?_
  refine thn (hp pins s4 σ H4 x3 x4 old v _ I4 r3 r4 q4) fun new s5 ⟨x5, H5, I5, r5, q5⟩ => ?_
  exact thn (hs pins s5 σ H5 x1 x2 x5 ov iv new _ I5 r1 r2 r5 q5) fun _ s6 ⟨H6, I6, q6⟩ => ⟨σ, H6, I6, q6⟩
/-- ints -/
def ipI (f : Int → Int → Int) : TIp := fun x y H Q => ∃ i j, x = .int i ∧ y = .int j ∧ Q (.int (f i j)) H
theorem ip_add : PIp X .Add (ipI fun i j => i + j) := by
  intro pins s σ H x y v u Q I r1 r2 h
  obtain ⟨i, j, e1, e2, q⟩ := h
  subst e1; subst e2
  obtain ⟨t, rfl⟩ := r1
  obtain ⟨t', rfl⟩ := r2
  exact iadd_int ⟨.int _, H, I.tok _, ⟨_, rfl⟩, q⟩
theorem ip_sub : PIp X .Sub (ipI fun i j => i - j) := by
  intro pins s σ H x y v u Q I r1 r2 h
  obtain ⟨i, j, e1, e2, q⟩ := h
  subst e1; subst e2
  obtain ⟨t, rfl⟩ := r1
  obtain ⟨t', rfl⟩ := r2
  exact isub_int ⟨.int _, H, I.tok _, ⟨_, rfl⟩, q⟩
end

/-! ### while -/
section
variable {X : Cx} {pos : Pos}
/-- the invariant W with its measure -/
def tWhile (c : TT) (tb : TS) : TS := fun D σ H => ∃ W : Nat → St → Hp → Prop, (∃ m, W m σ H) ∧ ∀ m σ H, W m σ H →
  c σ H fun b H1 => if b = true then ∃ N : St → Hp → Prop, (∀ σ' H', N σ' H' → ∃ m', m' < m ∧ W m' σ' H') ∧ tb { D with nx := N, ct := N, bk := D.nx } σ H1 else D.nx σ H1
theorem ps_while {c : Expr} {body : List Stmt} {tc : TT} {tb : TS} (hp : PassesOwn (model X.prog X.w) X.A X.env X.xe) (hc : PT X c tc) (hb : PSs X body tb) : PS X (.While c body [] pos) (tWhile tc tb) := by
  intro pins s σ H D I h
  obtain ⟨W, ⟨m0, w0⟩, turn⟩ := h
  refine wpAny_While (codeAny_whileLoop (fun n s' => ∃ σ' H', Inv X pins σ' H' s' ∧ W n σ' H') ?_ m0 ⟨σ, H, I, w0⟩)
  rintro n s1 ⟨σ1, H1, I1, w1⟩
  refine wpAny_passesOwn hp (thn (hc pins s1 σ1 H1 _ I1 (turn n σ1 H1 w1)) fun b s2 ⟨H2, I2, q2⟩ => ?_)
  cases b with
  | true =>
    obtain ⟨N, hN, q2⟩ := q2
    rw [if_pos rfl]
    refine wpAny_passesOwn hp (thn (hb pins s2 σ1 H2 _ I2 q2) fun f s3 q3 => ?_)
    cases f with
    | next =>
      obtain ⟨σ3, H3, I3, n3⟩ := q3
      obtain ⟨m', hm, w3⟩ := hN σ3 H3 n3
      exact ⟨m', hm, σ3, H3, I3, w3⟩
    | cont =>
      obtain ⟨σ3, H3, I3, n3⟩ := q3
      obtain ⟨m', hm, w3⟩ := hN σ3 H3 n3
      exact ⟨m', hm, σ3, H3, I3, w3⟩
    | brk => exact q3
    | ret v => exact q3
  | false =>
    rw [if_neg Bool.false_ne_true]
    exact wpAny_execs_nil ⟨σ1, H2, I2, q2⟩
end

/-! ### what a loop or a comprehension walks -/
/-- at turn i: it yields x (the heap may grow), or it stops -/
structure It where
  go : Nat → Hp → Prop
  yld : Nat → Hp → V → Hp → Prop
  stop : Nat → Hp → Prop
/-- the iterator's own objects may turn: they are not the frame's, not pinned, younger than the entry (or a comprehension's own) -/
def FpOk (X : Cx) (pins : List (Addr × Obj)) (H : Hp) (b : Addr) : Prop :=
  H b = none ∧ b ≠ X.env.locals ∧ b ∉ X.fs ∧ (b ∈ X.ex ∨ X.s₀.heap.objs.size ≤ b) ∧ (∀ x c, X.env.cells.lookup x = some c → c ≠ b) ∧ ∀ p ∈ X.pn ++ pins, p.1 ≠ b
theorem Inv.fpOk {X : Cx} {pins : List (Addr × Obj)} {σ : St} {H H' : Hp} {s : Shared} {b : Addr} (I : Inv X pins σ H s) (hb : s.heap.objs.size ≤ b) (hn : H' b = none) : FpOk X pins H' b := by
  refine ⟨hn, Nat.ne_of_gt (Nat.lt_of_lt_of_le I.lt hb), I.nofs hb, .inr (Nat.le_trans I.sz hb), fun x c e z => ?_, fun p hp z => ?_⟩
  · obtain ⟨v, q⟩ := I.cell x c e
    exact absurd (Nat.lt_of_lt_of_le q.lt (by rw [z]; exact hb)) (Nat.lt_irrefl _)
  · exact absurd (Nat.lt_of_lt_of_le (Heap.lt_size (I.pin p hp).1) (by rw [z]; exact hb)) (Nat.lt_irrefl _)
structure Turn (P : Program) (w : World) (K : PySem.W.Frag) (tg : Expr) (J : It) (fp : List Addr) (it : Addr) (tn : Nat → Heap → Prop) : Prop where
  mem : it ∈ fp
  obj : ∀ i h, tn i h → ∀ b ∈ fp, ∃ o, h.get? b = some o ∧ ∀ v, o.data ≠ .cell v
  keep : ∀ i h h', tn i h → (∀ b ∈ fp, ∀ o, h.get? b = some o → h'.get? b = some o) → tn i h'
  item : ∀ (X : Cx), X.prog = P → X.w = w → X.K = K → X.calm = true → ∀ (i : Nat) (pins : List (Addr × Obj)) (s : Shared) (σ : St) (H : Hp) (E : Value → Shared → Prop), Inv X pins σ H s → (∀ b ∈ fp, FpOk X pins H b) → tn i s.heap → J.go i H →
    wpAny (model P w) X.A (pyNext (.ref it)) (fun r s1 => ∃ u, r = some u ∧
      wpAny (model P w) X.A (letOwnedTupleGo tg (.ref it) u) (fun _ s2 => ∃ x H', Inv X pins σ H' s2 ∧ RelV x u ∧ J.yld i H x H' ∧ tn (i + 1) s2.heap ∧ ∀ b ∈ fp, H' b = none) E s1) E s
  done : ∀ (X : Cx), X.prog = P → X.w = w → X.K = K → X.calm = true → ∀ (i : Nat) (pins : List (Addr × Obj)) (s : Shared) (σ : St) (H : Hp) (E : Value → Shared → Prop), Inv X pins σ H s → (∀ b ∈ fp, FpOk X pins H b) → tn i s.heap → J.stop i H →
    wpAny (model P w) X.A (pyNext (.ref it)) (fun r s1 => r = none ∧ Inv X pins σ H s1) E s
  self : ∀ (A : Around) (i : Nat) (s : Shared) (Q : Value → Shared → Prop) (E : Value → Shared → Prop), tn i s.heap → Q (.ref it) s → wpAny (model P w) A (pyIter (.ref it)) Q E s
abbrev TI := St → Hp → (It → Hp → Prop) → Prop
/-- an iterator has come -/
def PIE (X : Cx) (pins : List (Addr × Obj)) (σ : St) (tg : Expr) (R : It → Hp → Prop) (itv : Value) (s2 : Shared) : Prop :=
  ∃ (it : Addr) (fp : List Addr) (tn : Nat → Heap → Prop) (J : It) (H' : Hp), itv = .ref it ∧ Inv X pins σ H' s2 ∧ Turn X.prog X.w X.K tg J fp it tn ∧ tn 0 s2.heap ∧ (∀ b ∈ fp, FpOk X pins H' b) ∧ R J H'
def PI (X : Cx) (tg iter : Expr) (wi : TI) : Prop :=
  ∀ (pins : List (Addr × Obj)) (s : Shared) (σ : St) (H : Hp) (R : It → Hp → Prop), Inv X pins σ H s → wi σ H R →
    wpAny (model X.prog X.w) X.A (eval iter X.env) (fun v s1 => wpAny (model X.prog X.w) X.A (pyIter v) (PIE X pins σ tg R) X.xe s1) X.xe s

/-- the step ahead of the store is nothing for an iterator that keeps no tuple -/
theorem go_of {M : Model} {A : Around} {E : Value → Shared → Prop} {s : Shared} {tg : Expr} {it : Addr} {u : Value} {o : Obj} {n : String} {vs : Array Value} {Q : Unit → Shared → Prop} (ho : s.heap.get? it = some o) (hc : o.cls = .type n) (hd : o.data = .fields vs)
    (hn : ["enumerate", "zip", "dict_itemiterator", "dict_reverseitemiterator", "odict_iterator", "itertools.zip_longest", "itertools.pairwise"].contains n = false) (hQ : Q () s) : wpAny M A (letOwnedTupleGo tg (.ref it) u) Q E s := by
  unfold letOwnedTupleGo
  cases tg <;> first
    | exact wpAny_pure hQ
    | (cases u <;> first
        | exact wpAny_pure hQ
        | (refine wpAny_bind (wpAny_load ho ?_)
           rw [hc, hd]
           show wpAny M A (if (["enumerate", "zip", "dict_itemiterator", "dict_reverseitemiterator", "odict_iterator", "itertools.zip_longest", "itertools.pairwise"].contains n && vs[0]? == some (rawInt _)) = true then _ else _) Q E s
           rw [if_neg (by intro h; rw [hn, Bool.false_and] at h; cases h)]
           exact wpAny_pure hQ))

/-- the list at a, as it stands at each turn (a loop may append to it) -/
def Itl (K : PySem.W.Frag) (a : Addr) : It :=
  ⟨fun i H => ∃ xs x, SqL K H a xs ∧ xs[i]? = some x, fun i H x H' => H' = H ∧ ∀ xs, SqL K H a xs → xs[i]? = some x, fun i H => ∃ xs, SqL K H a xs ∧ xs.length ≤ i⟩
def Itt (K : PySem.W.Frag) (a : Addr) : It :=
  ⟨fun i H => ∃ xs x, SqT K H a xs ∧ xs[i]? = some x, fun i H x H' => H' = H ∧ ∀ xs, SqT K H a xs → xs[i]? = some x, fun i H => ∃ xs, SqT K H a xs ∧ xs.length ≤ i⟩
/-- lo, lo + 1, .. (n of them) -/
def Itr (lo : Int) (n : Nat) : It := ⟨fun i _ => i < n, fun i H x H' => H' = H ∧ x = .int (lo + i), fun i _ => n ≤ i⟩
theorem turn_list {P : Program} {w : World} {K : PySem.W.Frag} {tg : Expr} (a it : Addr) : Turn P w K tg (Itl K a) [it] it (fun i h => h.IsListIter it a i) where
  mem := by simp
  obj := fun i h st b hb => by
    have e : b = it := by simpa using hb
    subst e
    obtain ⟨o, e, c, d⟩ := st
    exact ⟨o, e, fun v z => by rw [d] at z; cases z⟩
  keep := fun i h h' st k => st.at fun o e => k it (by simp) o e
  item := by
    intro X hP hw hK hc i pins s σ H E I hf st hg
    subst hP hw hK
    obtain ⟨xs, x, hq, hx⟩ := hg
    obtain ⟨its, rv, p, hz⟩ := I.list hq
    obtain ⟨u, hu, ru⟩ := rv.get hx
    obtain ⟨f0, f1, f2, f3, f4, f5⟩ := hf it (by simp)
    refine wpAny_pyNext_list_item st p.isList (x := u) (by simpa using hu) fun h' st' sb => ?_
    have I1 : Inv X pins σ H { s with heap := h' } := I.turned (t' := s.toks) (fun b o hb e => (sb.2 b hb).trans e) f0 f1 f3 f4 f5
    obtain ⟨o, e, c, d⟩ := id st'
    exact ⟨u, rfl, go_of (s := { s with heap := h' }) e c d (by decide) ⟨x, H, I1, ru, ⟨rfl, fun ys hy => by rw [I.list_inj hy hq]; exact hx⟩, st', fun b hb => (hf b hb).1⟩⟩
  done := by
    intro X hP hw hK hc i pins s σ H E I hf st hg
    subst hP hw hK
    obtain ⟨xs, hq, hx⟩ := hg
    obtain ⟨its, rv, p, hz⟩ := I.list hq
    obtain ⟨f0, f1, f2, f3, f4, f5⟩ := hf it (by simp)
    have hl := rv.length
    exact wpAny_pyNext_list_end (I.ok.hd hc) st p.isList (by simp; omega) fun h' eb => ⟨rfl, I.turned (t' := s.toks) (fun b o hb e => eb b o hb e) f0 f1 f3 f4 f5⟩
  self := fun _ _ _ _ _ st h => wpAny_pyIter_listiter st h
theorem turn_tuple {P : Program} {w : World} {K : PySem.W.Frag} {tg : Expr} (a it : Addr) : Turn P w K tg (Itt K a) [it] it (fun i h => h.IsTupleIter it a i) where
  mem := by simp
  obj := fun i h st b hb => by
    have e : b = it := by simpa using hb
    subst e
    obtain ⟨o, e, c, d⟩ := st
    exact ⟨o, e, fun v z => by rw [d] at z; cases z⟩
  keep := fun i h h' st k => st.at fun o e => k it (by simp) o e
  item := by
    intro X hP hw hK hc i pins s σ H E I hf st hg
    subst hP hw hK
    obtain ⟨xs, x, hq, hx⟩ := hg
    obtain ⟨its, rv, p, hz⟩ := I.tuple hq
    obtain ⟨u, hu, ru⟩ := rv.get hx
    obtain ⟨f0, f1, f2, f3, f4, f5⟩ := hf it (by simp)
    refine wpAny_pyNext_tuple_item st (show s.heap.IsTuple a its.toArray from p) (x := u) (by simpa using hu) fun h' st' sb => ?_
    have I1 : Inv X pins σ H { s with heap := h' } := I.turned (t' := s.toks) (fun b o hb e => (sb.2 b hb).trans e) f0 f1 f3 f4 f5
    obtain ⟨o, e, c, d⟩ := id st'
    exact ⟨u, rfl, go_of (s := { s with heap := h' }) e c d (by decide) ⟨x, H, I1, ru, ⟨rfl, fun ys hy => by rw [I.tuple_inj hy hq]; exact hx⟩, st', fun b hb => (hf b hb).1⟩⟩
  done := by
    intro X hP hw hK hc i pins s σ H E I hf st hg
    subst hP hw hK
    obtain ⟨xs, hq, hx⟩ := hg
    obtain ⟨its, rv, p, hz⟩ := I.tuple hq
    obtain ⟨f0, f1, f2, f3, f4, f5⟩ := hf it (by simp)
    have hl := rv.length
    exact wpAny_pyNext_tuple_end (I.ok.hd hc) st (show s.heap.IsTuple a its.toArray from p) (by simp; omega) fun h' eb => ⟨rfl, I.turned (t' := s.toks) (fun b o hb e => eb b o hb e) f0 f1 f3 f4 f5⟩
  self := fun _ _ _ _ _ st h => wpAny_pyIter_tupleiter st h
theorem turn_range {P : Program} {w : World} {K : PySem.W.Frag} {tg : Expr} (it : Addr) (lo : Int) (n : Nat) : Turn P w K tg (Itr lo n) [it] it (fun i h => IsRangeIter h it (lo + (i : Nat) * 1) ((n : Int) - (i : Nat)) 1) where
  mem := by simp
  obj := fun i h st b hb => by
    have e : b = it := by simpa using hb
    subst e
    exact ⟨_, st, fun v z => by
      have z' : Data.fields _ = Data.cell v := z
      cases z'⟩
  keep := fun i h h' st k => k it (by simp) _ st
  item := by
    intro X hP hw hK hc i pins s σ H E I hf st hg
    subst hP hw hK
    obtain ⟨f0, f1, f2, f3, f4, f5⟩ := hf it (by simp)
    have W := Walks.range (prog := X.prog) (w := X.w) (I.ok.hd hc) it lo 1 n
    refine W.item i s _ _ hg st fun v h' tk hv st' kk => ?_
    obtain ⟨t, rfl⟩ := hv
    have I1 : Inv X pins σ H { s with heap := h', toks := tk } := I.turned (fun b o hb e => kk b o (by simpa using hb) e) f0 f1 f3 f4 f5
    refine ⟨_, rfl, go_of (s := { s with heap := h', toks := tk }) (n := "range_iterator") st' rfl rfl (by decide) ⟨.int (lo + i), H, I1, ⟨t, ?_⟩, ⟨rfl, rfl⟩, st', fun b hb => (hf b hb).1⟩⟩
    rw [Int.mul_one]
  done := by
    intro X hP hw hK hc i pins s σ H E I hf st hg
    subst hP hw hK
    obtain ⟨f0, f1, f2, f3, f4, f5⟩ := hf it (by simp)
    exact wpAny_pyNext_range_end (I.ok.hd hc) st (by have : n ≤ i := hg; omega) fun h' eb => ⟨rfl, I.turned (t' := s.toks) (fun b o hb e => eb b o hb e) f0 f1 f3 f4 f5⟩
  self := fun _ _ _ _ _ st h => wpAny_pyIter_rangeiter st h
end L2

namespace L2
open PySem PySem.Spec PyProof.Rows
section
variable {X : Cx} {tg : Expr}
def iList (K : PySem.W.Frag) (tl : TE) : TI := fun σ H R => tl σ H fun x H1 => ∃ a, x = .ref a ∧ (∃ xs, SqL K H1 a xs) ∧ R (Itl K a) H1
def iTup (K : PySem.W.Frag) (tl : TE) : TI := fun σ H R => tl σ H fun x H1 => ∃ a, x = .ref a ∧ (∃ xs, SqT K H1 a xs) ∧ R (Itt K a) H1
theorem pi_list {l : Expr} {tl : TE} (hl : PE X l tl) : PI X tg l (iList X.K tl) := by
  intro pins s σ H R I h
  refine thn (hl pins s σ H _ I h) fun v s1 ⟨x, H1, I1, r1, q1⟩ => ?_
  obtain ⟨a, e, ⟨xs, hq⟩, q⟩ := q1
  subst e
  cases r1
  obtain ⟨its, rv, p, hz⟩ := I1.list hq
  refine wpAny_pyIter_list p.isList ?_
  refine ⟨s1.heap.objs.size, [s1.heap.objs.size], _, _, H1, rfl, I1.kept (t' := s1.toks) fun b o e => Heap.get?_push_of_some _ e, turn_list a _, ⟨_, Heap.get?_push_size _ rfl, rfl, rfl⟩, fun b hb => ?_, q⟩
  have e : b = s1.heap.objs.size := by simpa using hb
  subst e
  exact I1.fpOk (Nat.le_refl _) (I1.hok.fresh (Nat.le_refl _))
theorem pi_tup {l : Expr} {tl : TE} (hl : PE X l tl) : PI X tg l (iTup X.K tl) := by
  intro pins s σ H R I h
  refine thn (hl pins s σ H _ I h) fun v s1 ⟨x, H1, I1, r1, q1⟩ => ?_
  obtain ⟨a, e, ⟨xs, hq⟩, q⟩ := q1
  subst e
  cases r1
  obtain ⟨its, rv, p, hz⟩ := I1.tuple hq
  refine wpAny_pyIter_tuple (show s1.heap.IsTuple a its.toArray from p) ?_
  refine ⟨s1.heap.objs.size, [s1.heap.objs.size], _, _, H1, rfl, I1.kept (t' := s1.toks) fun b o e => Heap.get?_push_of_some _ e, turn_tuple a _, ⟨_, Heap.get?_push_size _ rfl, rfl, rfl⟩, fun b hb => ?_, q⟩
  have e : b = s1.heap.objs.size := by simpa using hb
  subst e
  exact I1.fpOk (Nat.le_refl _) (I1.hok.fresh (Nat.le_refl _))
/-- a range object just made, walked -/
theorem range_it {pins : List (Addr × Obj)} {σ : St} {H : Hp} {s : Shared} {R : It → Hp → Prop} {E : Value → Shared → Prop} {lo hi : Int} {t u v : Tok} {tk : Nat} (I : Inv X pins σ H s) (h1 : -(2 ^ 62) ≤ lo) (h2 : lo < 2 ^ 62) (h3 : -(2 ^ 62) ≤ hi) (h4 : hi < 2 ^ 62)
    (q : R (Itr lo (hi - lo).toNat) H) : wpAny (model X.prog X.w) X.A (pyIter (.ref s.heap.objs.size)) (PIE X pins σ tg R) E { s with heap := s.heap.push { cls := .type "range", data := .fields #[.int lo t, .int hi u, .int 1 v] }, toks := tk } := by
  refine wpAny_pyIter_range (IsRange.new ..) (small_one h1 h2 h3 h4) ?_
  have I1 : Inv X pins σ H { s with heap := s.heap.push { cls := .type "range", data := .fields #[.int lo t, .int hi u, .int 1 v] }, toks := tk } := I.kept fun b o e => Heap.get?_push_of_some _ e
  refine ⟨(s.heap.push { cls := .type "range", data := .fields #[.int lo t, .int hi u, .int 1 v] }).objs.size, [(s.heap.push { cls := .type "range", data := .fields #[.int lo t, .int hi u, .int 1 v] }).objs.size], _, _, H, rfl,
    I1.kept (t' := tk) fun b o e => Heap.get?_push_of_some _ e, turn_range _ lo (hi - lo).toNat, ?_, fun b hb => ?_, q⟩
  · have e1 : lo + ((0 : Nat) : Int) * 1 = lo := by simp
    have e2 : (((hi - lo).toNat : Nat) : Int) - ((0 : Nat) : Int) = Builtin.Range.rangeSize lo hi 1 := by rw [rangeSize_one]; split <;> omega
    show IsRangeIter _ _ (lo + ((0 : Nat) : Int) * 1) ((((hi - lo).toNat : Nat) : Int) - ((0 : Nat) : Int)) 1
    rw [e1, e2]
    exact Heap.get?_push_size _ rfl
  · have e : b = (s.heap.push { cls := .type "range", data := .fields #[.int lo t, .int hi u, .int 1 v] }).objs.size := by simpa using hb
    subst e
    exact I1.fpOk (Nat.le_refl _) (I1.hok.fresh (Nat.le_refl _))
def iRng1 (ta : TA) : TI := fun σ H R => ta σ H fun vs H1 => ∃ j : Int, vs = [.int j] ∧ -(2 ^ 62) ≤ j ∧ j < 2 ^ 62 ∧ R (Itr 0 j.toNat) H1
def iRng2 (ta : TA) : TI := fun σ H R => ta σ H fun vs H1 => ∃ i j : Int, vs = [.int i, .int j] ∧ (-(2 ^ 62) ≤ i ∧ i < 2 ^ 62 ∧ -(2 ^ 62) ≤ j ∧ j < 2 ^ 62) ∧ R (Itr i (j - i).toNat) H1
theorem pi_range1 {a : Expr} {ta : TA} {p pos : Pos} (hg : Gl X "range") (hm : X.mg "range" = none) (ha : PA X [a] ta) (hs : starEach [a] X.env = [(false, eval a X.env)] := by rfl) : PI X tg (.Call (.Name "range" p) [a] [] pos) (iRng1 ta) := by
  intro pins s σ H R I h
  refine Call_ (ld_blt I hg hm boot_range (PyProof.Rows.callWith_type1 (thn (ha pos pins s σ H _ I h) fun us s1 ⟨vs, H1, I1, r1, q1⟩ => ?_) hs rfl))
  obtain ⟨j, e, q1, q2, q⟩ := q1
  subst e
  cases r1 with
  | cons r rr =>
    cases rr
    obtain ⟨t, rfl⟩ := r
    exact call_range_1 (range_it I1 (by omega) (by omega) q1 q2 (by simpa using q))
theorem pi_range2 {a b : Expr} {ta : TA} {p pos : Pos} (hg : Gl X "range") (hm : X.mg "range" = none) (ha : PA X [a, b] ta) (hs : starEach [a, b] X.env = [(false, eval a X.env), (false, eval b X.env)] := by rfl) (hs2 : starEach [b] X.env = [(false, eval b X.env)] := by rfl) :
    PI X tg (.Call (.Name "range" p) [a, b] [] pos) (iRng2 ta) := by
  intro pins s σ H R I h
  refine Call_ (ld_blt I hg hm boot_range (PyProof.Rows.callWith_type1 (thn (ha pos pins s σ H _ I h) fun us s1 ⟨vs, H1, I1, r1, q1⟩ => ?_) (by rw [hs, hs2]) (by rw [hs2]; rfl)))
  obtain ⟨i, j, e, ⟨q1, q2, q3, q4⟩, q⟩ := q1
  subst e
  cases r1 with
  | cons r rr =>
    cases rr with
    | cons r' rr =>
      cases rr
      obtain ⟨t, rfl⟩ := r
      obtain ⟨t', rfl⟩ := r'
      exact call_range_2 (range_it I1 q1 q2 q3 q4 q)

/-! ### for -/
/-- W: the invariant by the turn and a measure; N: what the body is to reach -/
def tFor (wi : TI) (g : TG) (tb : TS) : TS := fun D σ H => wi σ H fun J H1 => ∃ W : Nat → Nat → St → Hp → Prop, (∃ m, W 0 m σ H1) ∧ ∀ i m σ H, W i m σ H →
  (J.stop i H ∧ D.nx σ H) ∨ (J.go i H ∧ ∃ N : St → Hp → Prop, (∀ σ' H', N σ' H' → ∃ m', m' < m ∧ W (i + 1) m' σ' H') ∧ ∀ x H', J.yld i H x H' → g x σ H' fun σ2 H2 => tb { D with nx := N, ct := N, bk := D.nx } σ2 H2)
/-- the records at fp as they stand -/
def pinsAt (fp : List Addr) (h : Heap) : List (Addr × Obj) := fp.filterMap fun b => (h.get? b).map fun o => (b, o)
theorem mem_pinsAt {fp : List Addr} {h : Heap} {b : Addr} {o : Obj} (hb : b ∈ fp) (e : h.get? b = some o) : (b, o) ∈ pinsAt fp h := List.mem_filterMap.mpr ⟨b, hb, by rw [e]; rfl⟩
theorem of_pinsAt {fp : List Addr} {h : Heap} {p : Addr × Obj} (hp : p ∈ pinsAt fp h) : p.1 ∈ fp ∧ h.get? p.1 = some p.2 := by
  obtain ⟨b, hb, e⟩ := List.mem_filterMap.mp hp
  cases q : h.get? b with
  | none => rw [q] at e; cases e
  | some o =>
    rw [q] at e
    have e' : (b, o) = p := Option.some.inj e
    subst e'
    exact ⟨hb, q⟩
theorem Inv.pinned {pins : List (Addr × Obj)} {σ : St} {H : Hp} {s : Shared} {fp : List Addr} (I : Inv X pins σ H s) (hf : ∀ b ∈ fp, FpOk X pins H b) (ho : ∀ b ∈ fp, ∃ o, s.heap.get? b = some o ∧ ∀ v, o.data ≠ .cell v) : Inv X (pins ++ pinsAt fp s.heap) σ H s :=
  I.pins_of fun p hp => (List.mem_append.mp hp).elim (fun z => I.pin p (List.mem_append_right _ z)) fun z => by
    obtain ⟨hb, e⟩ := of_pinsAt z
    obtain ⟨f0, f1, f2, _⟩ := hf p.1 hb
    obtain ⟨o, e', d⟩ := ho p.1 hb
    rw [e] at e'; cases e'
    exact ⟨e, f0, f1, f2, d⟩
theorem Inv.unpinned {pins pl : List (Addr × Obj)} {σ : St} {H : Hp} {s : Shared} (I : Inv X (pins ++ pl) σ H s) : Inv X pins σ H s := I.pins_of fun p hp => I.pin p (List.mem_append_right _ (List.mem_append_left _ hp))
theorem ps_for {iter : Expr} {body : List Stmt} {wi : TI} {g : TG} {tb : TS} {pos : Pos} (hp : PassesOwn (model X.prog X.w) X.A X.env X.xe) (hc : X.calm = true) (hi : PI X tg iter wi) (hg : PG X tg g) (hb : PSs X body tb)
    (hs : ∀ x, foldedSetIterable iter X.env x = pure x := by intro _; rfl) : PS X (.For tg iter body [] pos) (tFor wi g tb) := by
  intro pins s σ H D I h
  refine wpAny_For (thn (hi pins s σ H _ I h) fun v s1 h1 => thn h1 fun itv s2 h2 => ?_) hs
  obtain ⟨it, fp, tn, J, H2, e, I2, T, st2, f2, W, ⟨m0, w0⟩, turn⟩ := h2
  subst e
  -- what stays true of the iterator's objects through the loop
  have stat : ∀ {H' : Hp}, (∀ b ∈ fp, H' b = none) → ∀ b ∈ fp, FpOk X pins H' b := fun hn b hb => ⟨hn b hb, (f2 b hb).2⟩
  refine codeAny_forLoop_any (fun n s' => ∃ i σ' H', Inv X pins σ' H' s' ∧ tn i s'.heap ∧ (∀ b ∈ fp, H' b = none) ∧ W i n σ' H') ?_ m0 ⟨0, σ, H2, I2, st2, fun b hb => (f2 b hb).1, w0⟩
  rintro n s3 ⟨i, σ3, H3, I3, st3, fr3, w3⟩
  rcases turn i n σ3 H3 w3 with ⟨stop, qn⟩ | ⟨go, N, hN, step⟩
  · refine wpAny_passesOwn hp (thn (T.done X rfl rfl rfl hc i pins s3 σ3 H3 X.xe I3 (stat fr3) st3 stop) fun r s4 ⟨hr, I4⟩ => ?_)
    subst hr
    exact wpAny_execs_nil ⟨σ3, H3, I4, qn⟩
  · refine wpAny_passesOwn hp (thn (T.item X rfl rfl rfl hc i pins s3 σ3 H3 X.xe I3 (stat fr3) st3 go) fun r s4 ⟨u, hr, h4⟩ => ?_)
    subst hr
    refine wpAny_passesOwn hp (thn h4 fun _ s5 ⟨x, H5, I5, r5, y5, st5, fr5⟩ => ?_)
    have I5' := I5.pinned (stat fr5) (T.obj _ _ st5)
    refine wpAny_passesOwn hp (thn (hg _ s5 σ3 H5 x u _ I5' r5 (step x H5 y5)) fun _ s6 ⟨σ6, H6, I6, q6⟩ => ?_)
    refine wpAny_passesOwn hp (thn (hb _ s6 σ6 H6 _ I6 q6) fun f s7 q7 => ?_)
    have again : ∀ {σ7 : St} {H7 : Hp}, Inv X (pins ++ pinsAt fp s5.heap) σ7 H7 s7 → N σ7 H7 → ∃ m, m < n ∧ ∃ i σ' H', Inv X pins σ' H' s7 ∧ tn i s7.heap ∧ (∀ b ∈ fp, H' b = none) ∧ W i m σ' H' := fun {σ7 H7} I7 n7 => by
      obtain ⟨m', hm, w7⟩ := hN σ7 H7 n7
      refine ⟨m', hm, i + 1, σ7, H7, I7.unpinned, T.keep _ _ _ st5 fun b hb o e => (I7.pin (b, o) (List.mem_append_right _ (List.mem_append_right _ (mem_pinsAt hb e)))).1, fun b hb => ?_, w7⟩
      obtain ⟨o, e, d⟩ := T.obj _ _ st5 b hb
      exact (I7.pin (b, o) (List.mem_append_right _ (List.mem_append_right _ (mem_pinsAt hb e)))).2.1
    cases f with
    | next => obtain ⟨σ7, H7, I7, n7⟩ := q7; exact again I7 n7
    | cont => obtain ⟨σ7, H7, I7, n7⟩ := q7; exact again I7 n7
    | brk => obtain ⟨σ7, H7, I7, q7⟩ := q7; exact ⟨σ7, H7, I7.unpinned, q7⟩
    | ret v => obtain ⟨x7, σ7, H7, I7, r7, q7⟩ := q7; exact ⟨x7, σ7, H7, I7.unpinned, r7, q7⟩
end

/-! ### the forms one uses -/
/-- over a list that the body leaves as it is -/
theorem for_list {K : PySem.W.Frag} {a : Addr} {xs : List V} {g : TG} {tb : TS} {D : Ends} {σ : St} {H : Hp} (Pv : Nat → St → Hp → Prop) (h0 : Pv 0 σ H) (hl : ∀ i σ H, i ≤ xs.length → Pv i σ H → SqL K H a xs)
    (hs : ∀ i x σ H, xs[i]? = some x → Pv i σ H → g x σ H fun σ2 H2 => tb { D with nx := Pv (i + 1), ct := Pv (i + 1), bk := D.nx } σ2 H2) (hd : ∀ σ H, Pv xs.length σ H → D.nx σ H) :
    ∃ W : Nat → Nat → St → Hp → Prop, (∃ m, W 0 m σ H) ∧ ∀ i m σ H, W i m σ H →
      ((Itl K a).stop i H ∧ D.nx σ H) ∨ ((Itl K a).go i H ∧ ∃ N : St → Hp → Prop, (∀ σ' H', N σ' H' → ∃ m', m' < m ∧ W (i + 1) m' σ' H') ∧ ∀ x H', (Itl K a).yld i H x H' → g x σ H' fun σ2 H2 => tb { D with nx := N, ct := N, bk := D.nx } σ2 H2) := by
  refine ⟨fun i m σ H => m = xs.length - i ∧ i ≤ xs.length ∧ Pv i σ H, ⟨xs.length, by simp, Nat.zero_le _, h0⟩, ?_⟩
  rintro i m σ H ⟨rfl, hi, p⟩
  have q := hl i σ H hi p
  by_cases hlt : i < xs.length
  · refine .inr ⟨⟨xs, xs[i], q, by simp [hlt]⟩, Pv (i + 1), fun σ' H' p' => ⟨xs.length - (i + 1), by omega, rfl, hlt, p'⟩, fun x H' y => ?_⟩
    obtain ⟨e, y⟩ := y
    subst e
    exact hs i x σ _ (y xs q) p
  · have e : i = xs.length := by omega
    subst e
    exact .inl ⟨⟨xs, q, Nat.le_refl _⟩, hd σ H p⟩
theorem for_tup {K : PySem.W.Frag} {a : Addr} {xs : List V} {g : TG} {tb : TS} {D : Ends} {σ : St} {H : Hp} (Pv : Nat → St → Hp → Prop) (h0 : Pv 0 σ H) (hl : ∀ i σ H, i ≤ xs.length → Pv i σ H → SqT K H a xs)
    (hs : ∀ i x σ H, xs[i]? = some x → Pv i σ H → g x σ H fun σ2 H2 => tb { D with nx := Pv (i + 1), ct := Pv (i + 1), bk := D.nx } σ2 H2) (hd : ∀ σ H, Pv xs.length σ H → D.nx σ H) :
    ∃ W : Nat → Nat → St → Hp → Prop, (∃ m, W 0 m σ H) ∧ ∀ i m σ H, W i m σ H →
      ((Itt K a).stop i H ∧ D.nx σ H) ∨ ((Itt K a).go i H ∧ ∃ N : St → Hp → Prop, (∀ σ' H', N σ' H' → ∃ m', m' < m ∧ W (i + 1) m' σ' H') ∧ ∀ x H', (Itt K a).yld i H x H' → g x σ H' fun σ2 H2 => tb { D with nx := N, ct := N, bk := D.nx } σ2 H2) := by
  refine ⟨fun i m σ H => m = xs.length - i ∧ i ≤ xs.length ∧ Pv i σ H, ⟨xs.length, by simp, Nat.zero_le _, h0⟩, ?_⟩
  rintro i m σ H ⟨rfl, hi, p⟩
  have q := hl i σ H hi p
  by_cases hlt : i < xs.length
  · refine .inr ⟨⟨xs, xs[i], q, by simp [hlt]⟩, Pv (i + 1), fun σ' H' p' => ⟨xs.length - (i + 1), by omega, rfl, hlt, p'⟩, fun x H' y => ?_⟩
    obtain ⟨e, y⟩ := y
    subst e
    exact hs i x σ _ (y xs q) p
  · have e : i = xs.length := by omega
    subst e
    exact .inl ⟨⟨xs, q, Nat.le_refl _⟩, hd σ H p⟩
theorem for_range {lo : Int} {n : Nat} {g : TG} {tb : TS} {D : Ends} {σ : St} {H : Hp} (Pv : Nat → St → Hp → Prop) (h0 : Pv 0 σ H)
    (hs : ∀ i σ H, i < n → Pv i σ H → g (.int (lo + i)) σ H fun σ2 H2 => tb { D with nx := Pv (i + 1), ct := Pv (i + 1), bk := D.nx } σ2 H2) (hd : ∀ σ H, Pv n σ H → D.nx σ H) :
    ∃ W : Nat → Nat → St → Hp → Prop, (∃ m, W 0 m σ H) ∧ ∀ i m σ H, W i m σ H →
      ((Itr lo n).stop i H ∧ D.nx σ H) ∨ ((Itr lo n).go i H ∧ ∃ N : St → Hp → Prop, (∀ σ' H', N σ' H' → ∃ m', m' < m ∧ W (i + 1) m' σ' H') ∧ ∀ x H', (Itr lo n).yld i H x H' → g x σ H' fun σ2 H2 => tb { D with nx := N, ct := N, bk := D.nx } σ2 H2) := by
  refine ⟨fun i m σ H => m = n - i ∧ i ≤ n ∧ Pv i σ H, ⟨n, by simp, Nat.zero_le _, h0⟩, ?_⟩
  rintro i m σ H ⟨rfl, hi, p⟩
  by_cases hlt : i < n
  · refine .inr ⟨hlt, Pv (i + 1), fun σ' H' p' => ⟨n - (i + 1), by omega, rfl, hlt, p'⟩, fun x H' y => ?_⟩
    obtain ⟨e, y⟩ := y
    subst e y
    exact hs i σ _ hlt p
  · have e : i = n := by omega
    subst e
    exact .inl ⟨Nat.le_refl _, hd σ H p⟩
/-- while, by a word and a measure of the state -/
theorem while_by {c : TT} {tb : TS} {D : Ends} {σ : St} {H : Hp} (Pv : St → Hp → Prop) (μ : St → Hp → Nat) (h0 : Pv σ H)
    (hs : ∀ σ H, Pv σ H → c σ H fun b H1 => if b = true then tb { D with nx := fun σ' H' => Pv σ' H' ∧ μ σ' H' < μ σ H, ct := fun σ' H' => Pv σ' H' ∧ μ σ' H' < μ σ H, bk := D.nx } σ H1 else D.nx σ H1)
    (mono : ∀ σ H Q Q', (∀ b H1, Q b H1 → Q' b H1) → c σ H Q → c σ H Q') : tWhile c tb D σ H := by
  refine ⟨fun m σ H => m = μ σ H ∧ Pv σ H, ⟨_, rfl, h0⟩, ?_⟩
  rintro m σ H ⟨rfl, p⟩
  refine mono σ H _ _ (fun b H1 q => ?_) (hs σ H p)
  cases b with
  | true => exact ⟨_, fun σ' H' ⟨p', l⟩ => ⟨_, l, rfl, p'⟩, q⟩
  | false => exact q
end L2

namespace L2
open PySem PySem.Spec PyProof.Rows

abbrev R2 := V → V → Hp → VK → Prop
/-- a two-place operation on values: f is binaryOp op, inplaceOp op or compareOp op -/
def OpR (X : Cx) (f : Value → Value → Sem Value) (r : R2) : Prop :=
  ∀ (pins : List (Addr × Obj)) (s : Shared) (σ : St) (H : Hp) (x y : V) (v u : Value) (Q : VK), Inv X pins σ H s → RelV x v → RelV y u → r x y H Q →
    wpAny (model X.prog X.w) X.A (f v u) (EP X pins σ Q) X.xe s
/-- a one-place operation -/
def UnR (X : Cx) (f : Value → Sem Value) (r : V → Hp → VK → Prop) : Prop :=
  ∀ (pins : List (Addr × Obj)) (s : Shared) (σ : St) (H : Hp) (x : V) (v : Value) (Q : VK), Inv X pins σ H s → RelV x v → r x H Q →
    wpAny (model X.prog X.w) X.A (f v) (EP X pins σ Q) X.xe s
/-- a call of a value that is known (a builtin, a type) with values -/
def CallR (X : Cx) (f : Value) (r : List V → Hp → VK → Prop) : Prop :=
  ∀ (pins : List (Addr × Obj)) (s : Shared) (σ : St) (H : Hp) (xs : List V) (us : List Value) (Q : VK), Inv X pins σ H s → Vals xs us → r xs H Q →
    wpAny (model X.prog X.w) X.A (call f us) (EP X pins σ Q) X.xe s
/-- a value's truth -/
def TruR (X : Cx) (r : V → Hp → (Bool → Hp → Prop) → Prop) : Prop :=
  ∀ (pins : List (Addr × Obj)) (s : Shared) (σ : St) (H : Hp) (x : V) (v : Value) (Q : Bool → Hp → Prop), Inv X pins σ H s → RelV x v → r x H Q →
    wpAny (model X.prog X.w) X.A (truthy v) (TP X pins σ Q) X.xe s

def tOp (r : R2) (ta tb : TE) : TE := fun σ H Q => ta σ H fun x H1 => tb σ H1 fun y H2 => r x y H2 Q
def tUn (r : V → Hp → VK → Prop) (ta : TE) : TE := fun σ H Q => ta σ H fun x H1 => r x H1 Q
/-- ints in, under C, and a value out -/
def rI (C : Int → Int → Prop) (g : Int → Int → V) : R2 := fun x y H Q => ∃ i j, x = .int i ∧ y = .int j ∧ C i j ∧ Q (g i j) H
def rI0 (g : Int → Int → V) : R2 := fun x y H Q => ∃ i j, x = .int i ∧ y = .int j ∧ Q (g i j) H
def rU (g : Int → V) : V → Hp → VK → Prop := fun x H Q => ∃ i, x = .int i ∧ Q (g i) H

section
variable {X : Cx} {a b c : Expr} {ta tb tc : TE} {pos : Pos}

theorem binT (ha : PE X a ta) (hb : PE X b tb) {pins : List (Addr × Obj)} {s : Shared} {σ : St} {H : Hp} {R : V → V → Hp → Prop} (I : Inv X pins σ H s)
    (h : ta σ H fun x H1 => tb σ H1 fun y H2 => R x y H2) {Q : Value → Shared → Prop} {f : Value → Value → Sem Value}
    (hf : ∀ v u s2 x y H2, Inv X pins σ H2 s2 → RelV x v → RelV y u → R x y H2 → wpAny (model X.prog X.w) X.A (f v u) Q X.xe s2) :
    wpAny (model X.prog X.w) X.A (eval a X.env) (fun v s₁ => wpAny (model X.prog X.w) X.A (eval b X.env) (fun u s₂ => wpAny (model X.prog X.w) X.A (f v u) Q X.xe s₂) X.xe s₁) X.xe s := by
  refine thn (ha pins s σ H _ I h) fun v s1 ⟨x, H1, I1, r1, q1⟩ => ?_
  refine thn (hb pins s1 σ H1 _ I1 q1) fun u s2 ⟨y, H2, I2, r2, q2⟩ => ?_
  exact hf v u s2 x y H2 I2 r1 r2 q2

theorem pe_op {op : Operator} {r : R2} (ho : OpR X (binaryOp op) r) (ha : PE X a ta) (hb : PE X b tb) : PE X (.BinOp a op b pos) (tOp r ta tb) := by
  intro pins s σ H Q I h
  exact wpAny_BinOp (binT ha hb I h fun v u s2 x y H2 I2 rx ry q => ho pins s2 σ H2 x y v u Q I2 rx ry q)
theorem pe_un {op : UnaryOp} {r : V → Hp → VK → Prop} (ho : UnR X (unaryOp op) r) (ha : PE X a ta) : PE X (.UnaryOp op a pos) (tUn r ta) := by
  intro pins s σ H Q I h
  exact UnaryOp_ (thn (ha pins s σ H _ I h) fun v s1 ⟨x, H1, I1, r1, q1⟩ => ho pins s1 σ H1 x v Q I1 r1 q1)
/-- a op= e at a name: the name's slot i -/
theorem augR {op : Operator} {r : R2} (ho : OpR X (inplaceOp op) r) {pins : List (Addr × Obj)} {s : Shared} {σ : St} {H : Hp} {x y : V} {v u : Value} {Q : VK} (I : Inv X pins σ H s)
    (rx : RelV x v) (ry : RelV y u) (q : r x y H Q) : wpAny (model X.prog X.w) X.A (inplaceOp op v u) (EP X pins σ Q) X.xe s := ho pins s σ H x y v u Q I rx ry q

/-! ### ints -/
theorem opI {f : Value → Value → Sem Value} {C : Int → Int → Prop} {g : Int → Int → Int}
    (rule : ∀ (i j : Int) (t u : Tok) (s : Shared) (Q : Value → Shared → Prop) (E : Value → Shared → Prop), C i j → Q (.int (g i j) s.toks) { s with toks := s.toks + 1 } → wpAny (model X.prog X.w) X.A (f (.int i t) (.int j u)) Q E s) :
    OpR X f (rI C fun i j => .int (g i j)) := by
  intro pins s σ H x y v u Q I rx ry h
  obtain ⟨i, j, rfl, rfl, hc, q⟩ := h
  obtain ⟨t, rfl⟩ := rx
  obtain ⟨t', rfl⟩ := ry
  exact rule i j t t' s _ _ hc ⟨.int (g i j), H, I.tok _, ⟨_, rfl⟩, q⟩
theorem opI0 {f : Value → Value → Sem Value} {g : Int → Int → Int}
    (rule : ∀ (i j : Int) (t u : Tok) (s : Shared) (Q : Value → Shared → Prop) (E : Value → Shared → Prop), Q (.int (g i j) s.toks) { s with toks := s.toks + 1 } → wpAny (model X.prog X.w) X.A (f (.int i t) (.int j u)) Q E s) :
    OpR X f (rI0 fun i j => .int (g i j)) := by
  intro pins s σ H x y v u Q I rx ry h
  obtain ⟨i, j, rfl, rfl, q⟩ := h
  obtain ⟨t, rfl⟩ := rx
  obtain ⟨t', rfl⟩ := ry
  exact rule i j t t' s _ _ ⟨.int (g i j), H, I.tok _, ⟨_, rfl⟩, q⟩
theorem opB0 {f : Value → Value → Sem Value} {g : Int → Int → Bool}
    (rule : ∀ (i j : Int) (t u : Tok) (s : Shared) (Q : Value → Shared → Prop) (E : Value → Shared → Prop), Q (.bool (g i j)) s → wpAny (model X.prog X.w) X.A (f (.int i t) (.int j u)) Q E s) :
    OpR X f (rI0 fun i j => .bl (g i j)) := by
  intro pins s σ H x y v u Q I rx ry h
  obtain ⟨i, j, rfl, rfl, q⟩ := h
  obtain ⟨t, rfl⟩ := rx
  obtain ⟨t', rfl⟩ := ry
  exact rule i j t t' s _ _ ⟨.bl (g i j), H, I, rfl, q⟩

def CDiv (i j : Int) : Prop := 0 < j ∧ j < 1073741824
def CDivN (i j : Int) : Prop := j ≠ 0 ∧ j.natAbs < 1073741824
def CPow (i j : Int) : Prop := 0 ≤ j ∧ j ≤ 1000000 ∧ i.natAbs < 2 ^ 64
def CMul (i j : Int) : Prop := (-(2 ^ 64) < i ∧ i < 2 ^ 64) ∨ (-(2 ^ 64) < j ∧ j < 2 ^ 64)
theorem CMul.ok {i j : Int} (h : CMul i j) : IntMulOk i j := by
  rcases h with ⟨h1, h2⟩ | ⟨h1, h2⟩
  · exact .of_left (intBits_le_64 h1 h2)
  · exact .of_right (intBits_le_64 h1 h2)
theorem two_pow_nn (k : Nat) : (0 : Int) ≤ 2 ^ k := by
  rw [two_pow_cast]
  exact Int.natCast_nonneg _

theorem op_add : OpR X (binaryOp .Add) (rI0 fun i j => .int (i + j)) := opI0 fun _ _ _ _ _ _ _ q => add_int q
theorem op_sub : OpR X (binaryOp .Sub) (rI0 fun i j => .int (i - j)) := opI0 fun _ _ _ _ _ _ _ q => sub_int q
theorem op_mul : OpR X (binaryOp .Mult) (rI CMul fun i j => .int (i * j)) := opI fun _ _ _ _ _ _ _ hc q => mul_int q hc.ok
/-- // by a positive divisor -/
theorem op_fdiv : OpR X (binaryOp .FloorDiv) (rI CDiv fun i j => .int (i / j)) := opI fun i j _ _ _ _ _ hc q => by
  have h1 : (0 : Int) < j := hc.1
  have h2 : j < 1073741824 := hc.2
  exact floordiv_int (by omega) (by rw [Int.fdiv_eq_ediv_of_nonneg i (by omega)]; exact q) (.inl (PyProof.noPylong_small (by omega)))
theorem op_fdivN : OpR X (binaryOp .FloorDiv) (rI CDivN fun i j => .int (i.fdiv j)) := opI fun _ _ _ _ _ _ _ hc q => floordiv_int hc.1 q (.inl (PyProof.noPylong_small hc.2))
/-- % by a positive divisor of any size -/
theorem op_mod : OpR X (binaryOp .Mod) (rI (fun _ j => 0 < j) fun i j => .int (i % j)) := opI fun i j _ _ _ _ _ hc q => by
  have h1 : (0 : Int) < j := hc
  exact mod_int' (by omega) (by rw [Int.fmod_eq_emod_of_nonneg i (by omega)]; exact q)
theorem op_modN : OpR X (binaryOp .Mod) (rI (fun _ j => j ≠ 0) fun i j => .int (i.fmod j)) := opI fun _ _ _ _ _ _ _ hc q => mod_int' hc q
theorem op_pow : OpR X (binaryOp .Pow) (rI CPow fun i j => .int (i ^ j.toNat)) := opI fun _ _ _ _ _ _ _ hc q => pow_int_small hc.1 hc.2.1 hc.2.2 q
theorem op_shl : OpR X (binaryOp .LShift) (rI CPow fun i j => .int (i * 2 ^ j.toNat)) := opI fun _ _ _ _ _ _ _ hc q => lshift_int_small hc.1 hc.2.1 hc.2.2 q
theorem op_shr : OpR X (binaryOp .RShift) (rI (fun _ j => 0 ≤ j) fun i j => .int (i / 2 ^ j.toNat)) := opI fun i j _ _ _ _ _ hc q =>
  rshift_int hc (by rw [Int.fdiv_eq_ediv_of_nonneg i (two_pow_nn _)]; exact q)
theorem op_and : OpR X (binaryOp .BitAnd) (rI0 fun i j => .int (Builtin.bitAnd i j)) := opI0 fun _ _ _ _ _ _ _ q => and_int q
theorem op_or : OpR X (binaryOp .BitOr) (rI0 fun i j => .int (Builtin.bitOr i j)) := opI0 fun _ _ _ _ _ _ _ q => or_int q
theorem op_xor : OpR X (binaryOp .BitXor) (rI0 fun i j => .int (Builtin.bitXor i j)) := opI0 fun _ _ _ _ _ _ _ q => xor_int q

theorem iop_add : OpR X (inplaceOp .Add) (rI0 fun i j => .int (i + j)) := opI0 fun _ _ _ _ _ _ _ q => iadd_int q
theorem iop_sub : OpR X (inplaceOp .Sub) (rI0 fun i j => .int (i - j)) := opI0 fun _ _ _ _ _ _ _ q => isub_int q
theorem iop_mul : OpR X (inplaceOp .Mult) (rI CMul fun i j => .int (i * j)) := opI fun _ _ _ _ _ _ _ hc q => imul_int q hc.ok
theorem iop_fdiv : OpR X (inplaceOp .FloorDiv) (rI CDiv fun i j => .int (i / j)) := opI fun i j _ _ _ _ _ hc q => by
  have h1 : (0 : Int) < j := hc.1
  have h2 : j < 1073741824 := hc.2
  exact ifloordiv_int (by omega) (by rw [Int.fdiv_eq_ediv_of_nonneg i (by omega)]; exact q) (.inl (PyProof.noPylong_small (by omega)))
theorem iop_mod : OpR X (inplaceOp .Mod) (rI (fun _ j => 0 < j) fun i j => .int (i % j)) := opI fun i j _ _ _ _ _ hc q => by
  have h1 : (0 : Int) < j := hc
  exact imod_int (by omega) (by rw [Int.fmod_eq_emod_of_nonneg i (by omega)]; exact q)
theorem iop_shl : OpR X (inplaceOp .LShift) (rI CPow fun i j => .int (i * 2 ^ j.toNat)) := opI fun _ _ _ _ _ _ _ hc q => ilshift_int_small hc.1 hc.2.1 hc.2.2 q
theorem iop_shr : OpR X (inplaceOp .RShift) (rI (fun _ j => 0 ≤ j) fun i j => .int (i / 2 ^ j.toNat)) := opI fun i j _ _ _ _ _ hc q =>
  irshift_int hc (by rw [Int.fdiv_eq_ediv_of_nonneg i (two_pow_nn _)]; exact q)
theorem iop_and : OpR X (inplaceOp .BitAnd) (rI0 fun i j => .int (Builtin.bitAnd i j)) := opI0 fun _ _ _ _ _ _ _ q => iand_int q
theorem iop_or : OpR X (inplaceOp .BitOr) (rI0 fun i j => .int (Builtin.bitOr i j)) := opI0 fun _ _ _ _ _ _ _ q => ior_int q
theorem iop_xor : OpR X (inplaceOp .BitXor) (rI0 fun i j => .int (Builtin.bitXor i j)) := opI0 fun _ _ _ _ _ _ _ q => ixor_int q

theorem unI {f : Value → Sem Value} {g : Int → Int}
    (rule : ∀ (i : Int) (t : Tok) (s : Shared) (Q : Value → Shared → Prop) (E : Value → Shared → Prop), Q (.int (g i) s.toks) { s with toks := s.toks + 1 } → wpAny (model X.prog X.w) X.A (f (.int i t)) Q E s) :
    UnR X f (rU fun i => .int (g i)) := by
  intro pins s σ H x v Q I rx h
  obtain ⟨i, rfl, q⟩ := h
  obtain ⟨t, rfl⟩ := rx
  exact rule i t s _ _ ⟨.int (g i), H, I.tok _, ⟨_, rfl⟩, q⟩
theorem un_neg : UnR X (unaryOp .USub) (rU fun i => .int (-i)) := unI fun _ _ _ _ _ q => neg_int q
theorem un_inv : UnR X (unaryOp .Invert) (rU fun i => .int (Builtin.bitNot i)) := unI fun _ _ _ _ _ q => invert_int q

/-! ### bools among ints: n += (a < b) -/
theorem op_add_ib : OpR X (binaryOp .Add) (fun x y H Q => ∃ i k, x = .int i ∧ y = .bl k ∧ Q (.int (i + b2i k)) H) := by
  intro pins s σ H x y v u Q I rx ry h
  obtain ⟨i, k, rfl, rfl, q⟩ := h
  obtain ⟨t, rfl⟩ := rx
  cases ry
  exact add_int_bool ⟨.int (i + b2i k), H, I.tok _, ⟨_, rfl⟩, q⟩
end

/-! ### comparisons -/
/-- the scalars that == tells apart as data does -/
def scal : V → V → Bool
  | .non, .non => true | .non, .int _ => true | .int _, .non => true | .non, .bl _ => true | .bl _, .non => true | .non, .str _ => true | .str _, .non => true
  | .int _, .int _ => true | .bl _, .bl _ => true | .str _, .str _ => true | .byt _, .byt _ => true
  | .int _, .str _ => true | .str _, .int _ => true | .bl _, .str _ => true | .str _, .bl _ => true
  | _, _ => false
def rEq : R2 := fun x y H Q => scal x y = true ∧ Q (.bl (decide (x = y))) H
def rNe : R2 := fun x y H Q => scal x y = true ∧ Q (.bl (!decide (x = y))) H

theorem dec_int {i j : Int} : decide (V.int i = V.int j) = (i == j) := by
  rw [Bool.eq_iff_iff]
  simp
theorem dec_bl {i j : Bool} : decide (V.bl i = V.bl j) = (i == j) := by
  rw [Bool.eq_iff_iff]
  simp
theorem dec_str {i j : Str} : decide (V.str i = V.str j) = (i == j) := by
  rw [Bool.eq_iff_iff]
  simp
theorem dec_byt {i j : Array UInt8} : decide (V.byt i = V.byt j) = (i.toList == j.toList) := by
  rw [Bool.eq_iff_iff]
  cases i
  cases j
  simp

section
variable {X : Cx} {a b c : Expr} {ta tb tc : TE} {pos : Pos}
theorem fin_bl {pins : List (Addr × Obj)} {σ : St} {H : Hp} {s : Shared} {Q : VK} {k k' : Bool} (I : Inv X pins σ H s) (q : Q (.bl k) H) (e : k = k') : EP X pins σ Q (.bool k') s := by
  subst e
  exact ⟨.bl k, H, I, rfl, q⟩
theorem op_eq : OpR X (compareOp .Eq) rEq := by
  intro pins s σ H x y v u Q I rx ry h
  obtain ⟨hs, q⟩ := h
  cases x with
  | non =>
    cases rx
    cases y with
    | non => cases ry; exact PySem.EqNone.eq_none_none (fin_bl I q (by simp))
    | bl j => cases ry; exact PySem.EqNone.eq_none_bool (fin_bl I q (by simp))
    | int j => obtain ⟨t', rfl⟩ := ry; exact PySem.EqNone.eq_none_int (fin_bl I q (by simp))
    | str j => obtain ⟨t', rfl⟩ := ry; exact PySem.EqNone.eq_none_str (fin_bl I q (by simp))
    | _ => exact absurd (show false = true from hs) Bool.false_ne_true
  | bl i =>
    cases rx
    cases y with
    | non => cases ry; exact PySem.EqNone.eq_bool_none (fin_bl I q (by simp))
    | bl j => cases ry; exact eq_bool (fin_bl I q dec_bl)
    | str j => obtain ⟨t', rfl⟩ := ry; exact PySem.EqMixed.eq_bool_str (fin_bl I q (by simp))
    | _ => exact absurd (show false = true from hs) Bool.false_ne_true
  | int i =>
    obtain ⟨t, rfl⟩ := rx
    cases y with
    | non => cases ry; exact PySem.EqNone.eq_int_none (fin_bl I q (by simp))
    | int j => obtain ⟨t', rfl⟩ := ry; exact eq_int (fin_bl I q dec_int)
    | str j => obtain ⟨t', rfl⟩ := ry; exact PySem.EqMixed.eq_int_str (fin_bl I q (by simp))
    | _ => exact absurd (show false = true from hs) Bool.false_ne_true
  | str i =>
    obtain ⟨t, rfl⟩ := rx
    cases y with
    | non => cases ry; exact PySem.EqNone.eq_str_none (fin_bl I q (by simp))
    | bl j => cases ry; exact PySem.EqMixed.eq_str_bool (fin_bl I q (by simp))
    | int j => obtain ⟨t', rfl⟩ := ry; exact PySem.EqMixed.eq_str_int (fin_bl I q (by simp))
    | str j => obtain ⟨t', rfl⟩ := ry; exact eq_str (fin_bl I q dec_str)
    | _ => exact absurd (show false = true from hs) Bool.false_ne_true
  | byt i =>
    obtain ⟨t, rfl⟩ := rx
    cases y with
    | byt j => obtain ⟨t', rfl⟩ := ry; exact PySem.W.eq_bytes (fin_bl I q dec_byt)
    | _ => exact absurd (show false = true from hs) Bool.false_ne_true
  | _ => cases y <;> exact absurd (show false = true from hs) Bool.false_ne_true
theorem op_ne : OpR X (compareOp .NotEq) rNe := by
  intro pins s σ H x y v u Q I rx ry h
  obtain ⟨hs, q⟩ := h
  cases x with
  | non =>
    cases rx
    cases y with
    | non => cases ry; exact PySem.EqNone.ne_none_none (fin_bl I q (by simp))
    | bl j => cases ry; exact PySem.EqNone.ne_none_bool (fin_bl I q (by simp))
    | int j => obtain ⟨t', rfl⟩ := ry; exact PySem.EqNone.ne_none_int (fin_bl I q (by simp))
    | str j => obtain ⟨t', rfl⟩ := ry; exact PySem.EqNone.ne_none_str (fin_bl I q (by simp))
    | _ => exact absurd (show false = true from hs) Bool.false_ne_true
  | bl i =>
    cases rx
    cases y with
    | non => cases ry; exact PySem.EqNone.ne_bool_none (fin_bl I q (by simp))
    | bl j => cases ry; exact ne_bool (fin_bl I q (congrArg not dec_bl))
    | str j => obtain ⟨t', rfl⟩ := ry; exact PySem.EqMixed.ne_bool_str (fin_bl I q (by simp))
    | _ => exact absurd (show false = true from hs) Bool.false_ne_true
  | int i =>
    obtain ⟨t, rfl⟩ := rx
    cases y with
    | non => cases ry; exact PySem.EqNone.ne_int_none (fin_bl I q (by simp))
    | int j => obtain ⟨t', rfl⟩ := ry; exact ne_int (fin_bl I q (congrArg not dec_int))
    | str j => obtain ⟨t', rfl⟩ := ry; exact PySem.EqMixed.ne_int_str (fin_bl I q (by simp))
    | _ => exact absurd (show false = true from hs) Bool.false_ne_true
  | str i =>
    obtain ⟨t, rfl⟩ := rx
    cases y with
    | non => cases ry; exact PySem.EqNone.ne_str_none (fin_bl I q (by simp))
    | bl j => cases ry; exact PySem.EqMixed.ne_str_bool (fin_bl I q (by simp))
    | int j => obtain ⟨t', rfl⟩ := ry; exact PySem.EqMixed.ne_str_int (fin_bl I q (by simp))
    | str j => obtain ⟨t', rfl⟩ := ry; exact ne_str (fin_bl I q (congrArg not dec_str))
    | _ => exact absurd (show false = true from hs) Bool.false_ne_true
  | byt i =>
    obtain ⟨t, rfl⟩ := rx
    cases y with
    | byt j => obtain ⟨t', rfl⟩ := ry; exact PySem.W.ne_bytes (fin_bl I q (congrArg not dec_byt))
    | _ => exact absurd (show false = true from hs) Bool.false_ne_true
  | _ => cases y <;> exact absurd (show false = true from hs) Bool.false_ne_true

theorem op_lt : OpR X (compareOp .Lt) (rI0 fun i j => .bl (decide (i < j))) := opB0 fun _ _ _ _ _ _ _ q => lt_int q
theorem op_le : OpR X (compareOp .LtE) (rI0 fun i j => .bl (decide (i ≤ j))) := opB0 fun _ _ _ _ _ _ _ q => le_int q
theorem op_gt : OpR X (compareOp .Gt) (rI0 fun i j => .bl (decide (j < i))) := opB0 fun _ _ _ _ _ _ _ q => gt_int q
theorem op_ge : OpR X (compareOp .GtE) (rI0 fun i j => .bl (decide (j ≤ i))) := opB0 fun _ _ _ _ _ _ _ q => ge_int q
theorem op_lt_str : OpR X (compareOp .Lt) (fun x y H Q => ∃ i j, x = .str i ∧ y = .str j ∧ Q (.bl (decide (i.cps.toList < j.cps.toList))) H) := by
  intro pins s σ H x y v u Q I rx ry h
  obtain ⟨i, j, rfl, rfl, q⟩ := h
  obtain ⟨t, rfl⟩ := rx
  obtain ⟨t', rfl⟩ := ry
  exact lt_str (fin_bl I q rfl)
/-- the one string within the other -/
theorem op_in_str : OpR X (compareOp .In) (fun x y H Q => ∃ i j, x = .str i ∧ y = .str j ∧ Q (.bl (!(Builtin.Str.occurrences j i 0 j.length 1).isEmpty)) H) := by
  intro pins s σ H x y v u Q I rx ry h
  obtain ⟨i, j, rfl, rfl, q⟩ := h
  obtain ⟨t, rfl⟩ := rx
  obtain ⟨t', rfl⟩ := ry
  exact in_str (fin_bl I q rfl)

/-- is None, is not None: the right side a value none -/
theorem op_isN : OpR X (compareOp .Is) (fun x y H Q => y = .non ∧ Q (.bl (decide (x = .non))) H) := by
  intro pins s σ H x y v u Q I rx ry h
  obtain ⟨rfl, q⟩ := h
  cases ry
  refine is_none_gen (fin_bl I q ?_)
  cases x <;> first
    | (cases rx; rfl)
    | (obtain ⟨t, rfl⟩ := rx; rfl)
theorem op_notN : OpR X (compareOp .IsNot) (fun x y H Q => y = .non ∧ Q (.bl (!decide (x = .non))) H) := by
  intro pins s σ H x y v u Q I rx ry h
  obtain ⟨rfl, q⟩ := h
  cases ry
  refine isnot_none_gen (fin_bl I q ?_)
  cases x <;> first
    | (cases rx; rfl)
    | (obtain ⟨t, rfl⟩ := rx; rfl)

theorem op_notin_str : OpR X (compareOp .NotIn) (fun x y H Q => ∃ i j, x = .str i ∧ y = .str j ∧ Q (.bl (!(!(Builtin.Str.occurrences j i 0 j.length 1).isEmpty))) H) := by
  intro pins s σ H x y v u Q I rx ry h
  obtain ⟨i, j, rfl, rfl, q⟩ := h
  obtain ⟨t, rfl⟩ := rx
  obtain ⟨t', rfl⟩ := ry
  exact notIn_str (fin_bl I q rfl)
/-- is, is not of two objects that are tracked lists or instances -/
def isObj : HO → Bool
  | .lst _ => true
  | .ins _ _ _ => true
  | _ => false
theorem obj_there {pins : List (Addr × Obj)} {s : Shared} {σ : St} {H : Hp} {a : Addr} {o : HO} (I : Inv X pins σ H s) (h : H a = some o) (p : isObj o = true) : ∃ ob, s.heap.get? a = some ob ∧ ob.cls ≠ .type "tuple" := by
  cases o with
  | lst xs =>
    obtain ⟨_, its, n, _, e⟩ : xs.length ≤ sizeLine ∧ ∃ (its : List Value) (n : Nat), Vals xs its ∧ s.heap.get? a = some { cls := .type "list", data := .seq its.toArray n } := I.hok a _ h
    exact ⟨_, e, (by show Value.type "list" ≠ .type "tuple"; decide +kernel)⟩
  | ins C dx fs =>
    have x := I.hok a _ h
    obtain ⟨_, _, _, e, _⟩ := x
    exact ⟨_, e, (by show Value.ref C ≠ .type "tuple"; exact fun z => by cases z)⟩
  | _ => exact absurd (show false = true from p) Bool.false_ne_true
theorem op_is_ref : OpR X (compareOp .Is) (fun x y H Q => ∃ a b oa ob, x = .ref a ∧ y = .ref b ∧ H a = some oa ∧ isObj oa = true ∧ H b = some ob ∧ isObj ob = true ∧ Q (.bl (decide (a = b))) H) := by
  intro pins s σ H x y v u Q I rx ry h
  obtain ⟨a, b, oa, ob, rfl, rfl, ha, pa, hb, pb, q⟩ := h
  cases rx
  cases ry
  obtain ⟨o1, e1, n1⟩ := obj_there I ha pa
  obtain ⟨o2, e2, _⟩ := obj_there I hb pb
  by_cases z : a = b
  · subst z
    exact wpAny_is_ref_self (fin_bl I q (by simp))
  · exact wpAny_is_ref_other z e1 e2 n1 (fin_bl I q (by simp [z]))
theorem op_isnot_ref : OpR X (compareOp .IsNot) (fun x y H Q => ∃ a b oa ob, x = .ref a ∧ y = .ref b ∧ H a = some oa ∧ isObj oa = true ∧ H b = some ob ∧ isObj ob = true ∧ Q (.bl (!decide (a = b))) H) := by
  intro pins s σ H x y v u Q I rx ry h
  obtain ⟨a, b, oa, ob, rfl, rfl, ha, pa, hb, pb, q⟩ := h
  cases rx
  cases ry
  obtain ⟨o1, e1, n1⟩ := obj_there I ha pa
  obtain ⟨o2, e2, _⟩ := obj_there I hb pb
  by_cases z : a = b
  · subst z
    exact wpAny_isNot_ref_self (fin_bl I q (by simp))
  · exact wpAny_isNot_ref_other z e1 e2 n1 (fin_bl I q (by simp [z]))

/-- two rules for one operation: by cases -/
theorem OpR.or {f : Value → Value → Sem Value} {r r' : R2} (h : OpR X f r) (h' : OpR X f r') : OpR X f (fun x y H Q => r x y H Q ∨ r' x y H Q) := by
  intro pins s σ H x y v u Q I rx ry q
  rcases q with q | q
  · exact h pins s σ H x y v u Q I rx ry q
  · exact h' pins s σ H x y v u Q I rx ry q

theorem nomark (b : Expr) {op : CmpOp} (h : op ≠ .In := by decide) (h2 : op ≠ .NotIn := by decide) : behindInMarks op b = false := by
  have e1 : (op == CmpOp.In) = false := by cases op <;> first | rfl | exact absurd rfl h
  have e2 : (op == CmpOp.NotIn) = false := by cases op <;> first | rfl | exact absurd rfl h2
  cases b <;> simp [behindInMarks, e1, e2]
/-- a comparison as a value; hm: nomark b, or (for in, not in) by with_unfolding_all rfl -/
theorem pe_cmpR {op : CmpOp} {r : R2} (ho : OpR X (compareOp op) r) (ha : PE X a ta) (hb : PE X b tb) (hm : behindInMarks op b = false) : PE X (.Compare a [op] [b] pos) (tOp r ta tb) := by
  intro pins s σ H Q I h
  exact wpAny_Compare1 (binT ha hb I h fun v u s2 x y H2 I2 rx ry q => ho pins s2 σ H2 x y v u Q I2 rx ry q) hm
/-- a reading of a value as a test -/
def tTest (t : TE) : TT := fun σ H Q => t σ H fun x H' => ∃ k, x = .bl k ∧ Q k H'
theorem pt_cmpR {op : CmpOp} {r : R2} (ho : OpR X (compareOp op) r) (ha : PE X a ta) (hb : PE X b tb) (hm : behindInMarks op b = false) : PT X (.Compare a [op] [b] pos) (tTest (tOp r ta tb)) := by
  intro pins s σ H Q I h
  refine wpAny_isTrue_Compare1 (thn (ha pins s σ H _ I h) fun v s1 ⟨x, H1, I1, r1, q1⟩ => thn (hb pins s1 σ H1 _ I1 q1) fun u s2 ⟨y, H2, I2, r2, q2⟩ =>
    thn (ho pins s2 σ H2 x y v u _ I2 r1 r2 q2) fun c s3 ⟨z, H3, I3, r3, k, e, q3⟩ => ?_) hm
  subst e
  cases r3
  exact wpAny_truthy_bool ⟨H3, I3, q3⟩
/-- a op1 b op2 c -/
def tChain (r r' : R2) (ta tb tc : TE) : TE := fun σ H Q => ta σ H fun x H1 => tb σ H1 fun y H2 => r x y H2 fun z H3 => ∃ k, z = .bl k ∧
  (if k = true then tc σ H3 fun w' H4 => r' y w' H4 Q else Q (.bl false) H3)
theorem pe_chain {op op' : CmpOp} {r r' : R2} (ho : OpR X (compareOp op) r) (ho' : OpR X (compareOp op') r') (ha : PE X a ta) (hb : PE X b tb) (hc : PE X c tc)
    (hm : lastMarks [op, op'] [b, c] = false := by with_unfolding_all rfl) : PE X (.Compare a [op, op'] [b, c] pos) (tChain r r' ta tb tc) := by
  intro pins s σ H Q I h
  refine Compare_chain (thn (ha pins s σ H _ I h) fun v s1 ⟨x, H1, I1, r1, q1⟩ => chain_link (thn (hb pins s1 σ H1 _ I1 q1) fun u s2 ⟨y, H2, I2, r2, q2⟩ =>
    thn (ho pins s2 σ H2 x y v u _ I2 r1 r2 q2) fun d s3 ⟨z, H3, I3, r3, k, e, q3⟩ => ?_)) hm
  subst e
  cases r3
  refine wpAny_truthy_bool ?_
  cases k with
  | false => exact ite_ff ⟨.bl false, H3, I3, rfl, q3⟩
  | true => exact ite_tt (chain_last (thn (hc pins s3 σ H3 _ I3 q3) fun w' s4 ⟨z', H4, I4, r4, q4⟩ => ho' pins s4 σ H4 y z' u w' Q I4 r2 r4 q4))
theorem pt_chain {op op' : CmpOp} {r r' : R2} (ho : OpR X (compareOp op) r) (ho' : OpR X (compareOp op') r') (ha : PE X a ta) (hb : PE X b tb) (hc : PE X c tc)
    (hm : lastMarks [op, op'] [b, c] = false := by with_unfolding_all rfl) : PT X (.Compare a [op, op'] [b, c] pos) (tTest (tChain r r' ta tb tc)) := by
  intro pins s σ H Q I h
  refine isTrue_chain (thn (ha pins s σ H _ I h) fun v s1 ⟨x, H1, I1, r1, q1⟩ => test_link (thn (hb pins s1 σ H1 _ I1 q1) fun u s2 ⟨y, H2, I2, r2, q2⟩ =>
    thn (ho pins s2 σ H2 x y v u _ I2 r1 r2 q2) fun d s3 ⟨z, H3, I3, r3, k, e, q3⟩ => ?_)) hm
  subst e
  cases r3
  refine wpAny_truthy_bool ?_
  cases k with
  | false =>
    obtain ⟨k', e', q'⟩ := q3
    cases e'
    exact ite_ff ⟨H3, I3, q'⟩
  | true =>
    refine ite_tt (test_last (thn (hc pins s3 σ H3 _ I3 q3) fun w' s4 ⟨z', H4, I4, r4, q4⟩ => thn (ho' pins s4 σ H4 y z' u w' _ I4 r2 r4 q4) fun d' s5 ⟨z2, H5, I5, r5, k2, e2, q5⟩ => ?_))
    subst e2
    cases r5
    exact wpAny_truthy_bool ⟨H5, I5, q5⟩

/-! ### truth -/
/-- a value's truth by the abstract heap -/
def TruV (K : PySem.W.Frag) (x : V) (H : Hp) (k : Bool) : Prop :=
  match x with
  | .non => k = false
  | .bl b => k = b
  | .int i => k = (i != 0)
  | .str y => y.length ≤ sizeLine ∧ k = ((y.length : Int) != 0)
  | .byt y => y.size ≤ sizeLine ∧ k = ((y.size : Int) != 0)
  | .ref p => (∃ xs, SqL K H p xs ∧ k = !xs.isEmpty) ∨ (∃ xs, SqT K H p xs ∧ k = !xs.isEmpty) ∨ ∃ kvs, H p = some (.dK kvs) ∧ k = !kvs.isEmpty
  | _ => False
theorem isEmpty_kv {κ : Type} {kvs : List (κ × V)} {vs : List (κ × Value)} (r : KV kvs vs) : (!vs.isEmpty) = !kvs.isEmpty := by
  cases r <;> rfl
theorem isEmpty_of {xs : List V} {its : List Value} (r : Vals xs its) : (!its.toArray.isEmpty) = !xs.isEmpty := by
  cases r <;> simp
theorem line63 : (sizeLine : Nat) < 2 ^ 63 := by rw [sizeLine_eq]; decide
theorem tru_ok : TruR X (fun x H Q => ∃ k, TruV X.K x H k ∧ Q k H) := by
  intro pins s σ H x v Q I rx h
  obtain ⟨k, e, q⟩ := h
  have hl := line63
  have hs : sizeLine = 16777216 := sizeLine_eq
  cases x with
  | non =>
    cases rx
    have e' : k = false := e
    subst e'
    exact truthy_none ⟨H, I, q⟩
  | bl b =>
    cases rx
    have e' : k = b := e
    subst e'
    exact wpAny_truthy_bool ⟨H, I, q⟩
  | int i =>
    obtain ⟨t, rfl⟩ := rx
    have e' : k = (i != 0) := e
    subst e'
    exact PySem.P.truthy_int ⟨H, I, q⟩
  | str y =>
    obtain ⟨t, rfl⟩ := rx
    obtain ⟨hy, e'⟩ : y.length ≤ sizeLine ∧ k = ((y.length : Int) != 0) := e
    subst e'
    exact PySem.P.truthy_str (by omega) ⟨H, I.tok _, q⟩
  | byt y =>
    obtain ⟨t, rfl⟩ := rx
    obtain ⟨hy, e'⟩ : y.size ≤ sizeLine ∧ k = ((y.size : Int) != 0) := e
    subst e'
    exact PySem.W.truthy_bytes (by omega) ⟨H, I.tok _, q⟩
  | ref p =>
    cases rx
    have e' : (∃ xs, SqL X.K H p xs ∧ k = !xs.isEmpty) ∨ (∃ xs, SqT X.K H p xs ∧ k = !xs.isEmpty) ∨ ∃ kvs, H p = some (.dK kvs) ∧ k = !kvs.isEmpty := e
    rcases e' with ⟨xs, hx, e'⟩ | ⟨xs, hx, e'⟩ | ⟨kvs, hx, e'⟩
    · subst e'
      obtain ⟨its, r, pl, hz⟩ := I.list hx
      have hlen := r.length
      exact wpAny_truthy_list pl.isList (by simp only [List.size_toArray]; omega) ⟨H, I.tok _, by rw [isEmpty_of r]; exact q⟩
    · subst e'
      obtain ⟨its, r, pl, hz⟩ := I.tuple hx
      have hlen := r.length
      exact truthy_tuple pl (by simp only [List.size_toArray]; omega) ⟨H, I.tok _, by rw [isEmpty_of r]; exact q⟩
    · subst e'
      obtain ⟨hz, hS, vs, r, m⟩ : kvs.length ≤ sizeLine ∧ (p == sysModules) = false ∧ ∃ vs, KV kvs vs ∧ s.heap.DictOf (mixKind X.prog X.w) p vs := I.hok p _ hx
      have hlen : kvs.length = vs.length := Paired.length r
      exact wpAny_truthy_dict hS m (by omega) ⟨H, I.tok _, by rw [isEmpty_kv r]; exact q⟩
  | _ => exact (show False from e).elim
/-- any expression whose test is its value's truth (a name, a call, a subscript, a field ..: he by fun _ => rfl) -/
theorem pt_truth (ha : PE X a ta) (he : ∀ whole, isTrue a X.env whole = (do let v ← whole; standAt a.pos; holding [v] (truthy v))) :
    PT X a (fun σ H Q => ta σ H fun x H' => ∃ k, TruV X.K x H' k ∧ Q k H') := by
  intro pins s σ H Q I h
  exact isTrue_plain (thn (ha pins s σ H _ I h) fun v s1 ⟨x, H1, I1, r1, q1⟩ => tru_ok pins s1 σ H1 x v Q I1 r1 q1) (he _)

/-! ### strs and bytes -/
theorem pe_byt {x : List UInt8} {k : Nat} : PE X (.Constant (.bytes x) k pos) (fun _ H Q => Q (.byt x.toArray) H) := fun _ _ _ H _ I h => PySem.W.Constant_bytes ⟨.byt x.toArray, H, I.tok _, ⟨_, rfl⟩, h⟩
theorem op_add_str : OpR X (binaryOp .Add) (fun x y H Q => ∃ i j, x = .str i ∧ y = .str j ∧ i.length + j.length ≤ sizeLine ∧ Q (.str (i ++ j)) H) := by
  intro pins s σ H x y v u Q I rx ry h
  obtain ⟨i, j, rfl, rfl, hz, q⟩ := h
  obtain ⟨t, rfl⟩ := rx
  obtain ⟨t', rfl⟩ := ry
  exact add_str (fun t' tk => ⟨.str (i ++ j), H, I.tok _, ⟨_, rfl⟩, q⟩) hz
theorem iop_add_str : OpR X (inplaceOp .Add) (fun x y H Q => ∃ i j, x = .str i ∧ y = .str j ∧ i.length + j.length ≤ sizeLine ∧ Q (.str (i ++ j)) H) := by
  intro pins s σ H x y v u Q I rx ry h
  obtain ⟨i, j, rfl, rfl, hz, q⟩ := h
  obtain ⟨t, rfl⟩ := rx
  obtain ⟨t', rfl⟩ := ry
  exact iadd_str (fun t' tk => ⟨.str (i ++ j), H, I.tok _, ⟨_, rfl⟩, q⟩) hz
theorem op_add_byt : OpR X (binaryOp .Add) (fun x y H Q => ∃ i j, x = .byt i ∧ y = .byt j ∧ i.size + j.size ≤ 16777216 ∧ Q (.byt (i ++ j)) H) := by
  intro pins s σ H x y v u Q I rx ry h
  obtain ⟨i, j, rfl, rfl, hz, q⟩ := h
  obtain ⟨t, rfl⟩ := rx
  obtain ⟨t', rfl⟩ := ry
  exact PySem.W.KBy.add_bytes hz (fun t' tk => ⟨.byt (i ++ j), H, I.tok _, ⟨_, rfl⟩, q⟩)

def PlainIxT (b : Expr) : Prop := ∀ o i, subscripted b false o i = operate [o, i] (getItem o i)
/-- s[i], 0 ≤ i < len -/
theorem pe_item_str (ha : PE X a ta) (hb : PE X b tb) (hs : PlainIxT b) :
    PE X (.Subscript a b pos) (tOp (fun x y H Q => ∃ z i c, x = .str z ∧ y = .int i ∧ 0 ≤ i ∧ i < 2 ^ 63 ∧ i < z.length ∧ z.cps[i.toNat]? = some c ∧ Q (.str ⟨#[c]⟩) H) ta tb) := by
  intro pins s σ H Q I h
  refine Subscript_ (binT ha hb I h fun v u s2 x y H2 I2 rx ry q => ?_)
  obtain ⟨z, i, c, rfl, rfl, h0, h63, h1, hc, q⟩ := q
  obtain ⟨t, rfl⟩ := rx
  obtain ⟨t', rfl⟩ := ry
  have e : seqIndex? i z.length = some i.toNat := PySem.StrLaws.seqIndex_nonneg h0 h1
  exact tail_any (typeIs_str s2 z t) slot_str_getitem.lookup (getItem_str (c := c) (by
    have e1 : decide (i < -(2 ^ 63 : Int)) = false := decide_eq_false (by omega)
    have e2 : decide (i ≥ 2 ^ 63) = false := decide_eq_false (by omega)
    rw [e1, e2] <;> rfl) (by rw [e]; exact hc) ⟨.str ⟨#[c]⟩, H2, I2.tok _, ⟨_, rfl⟩, q⟩) (hs _ _)
/-- b[i], 0 ≤ i < len -/
theorem pe_item_byt (ha : PE X a ta) (hb : PE X b tb) (hs : PlainIxT b) :
    PE X (.Subscript a b pos) (tOp (fun x y H Q => ∃ (z : List UInt8) (i : Int), x = .byt z.toArray ∧ y = .int i ∧ z.length ≤ sizeLine ∧ 0 ≤ i ∧ i < z.length ∧ Q (.int ((z.getD i.toNat 0).toNat : Nat)) H) ta tb) := by
  intro pins s σ H Q I h
  refine Subscript_ (binT ha hb I h fun v u s2 x y H2 I2 rx ry q => ?_)
  obtain ⟨z, i, rfl, rfl, hz, h0, h1, q⟩ := q
  obtain ⟨t, rfl⟩ := rx
  obtain ⟨t', rfl⟩ := ry
  have hl : sizeLine = 16777216 := sizeLine_eq
  exact tail_any (PySem.W.typeIs_bytes s2 z.toArray t) PySem.W.FB.slot_bytes_getitem.lookup (PySem.W.getItem_bytes (by omega) h0 h1 ⟨.int ((z.getD i.toNat 0).toNat : Nat), H2, I2.tok _, ⟨_, rfl⟩, q⟩) (hs _ _)

/-! ### scalar builtins, by CallR -/
theorem vals1 {x : V} {us : List Value} (r : Vals [x] us) : ∃ u, us = [u] ∧ RelV x u := by
  cases r with
  | cons r1 r2 => cases r2; exact ⟨_, rfl, r1⟩
theorem vals2 {x y : V} {us : List Value} (r : Vals [x, y] us) : ∃ u w', us = [u, w'] ∧ RelV x u ∧ RelV y w' := by
  cases r with
  | cons r1 r2 =>
    cases r2 with
    | cons r3 r4 => cases r4; exact ⟨_, _, rfl, r1, r3⟩
theorem call_abs : CallR X (.builtin "abs") (fun xs H Q => ∃ i, xs = [.int i] ∧ Q (.int (if i < 0 then -i else i)) H) := by
  intro pins s σ H xs us Q I r h
  obtain ⟨i, rfl, q⟩ := h
  obtain ⟨u, rfl, t, rfl⟩ := vals1 r
  exact call_abs_int fun u tk => ⟨.int (if i < 0 then -i else i), H, I.tok _, ⟨_, rfl⟩, q⟩
theorem call_max2 (hc : X.calm = true) : CallR X (.builtin "max") (fun xs H Q => ∃ i j, xs = [.int i, .int j] ∧ Q (.int (if j > i then j else i)) H) := by
  intro pins s σ H xs us Q I r h
  obtain ⟨i, j, rfl, q⟩ := h
  obtain ⟨u, w', rfl, ⟨t, rfl⟩, ⟨t', rfl⟩⟩ := vals2 r
  refine max_two_ints (I.ok.hd hc) fun h' tk k => ⟨_, H, I.kept k, ?_, q⟩
  by_cases hj : j > i
  · rw [if_pos hj, if_pos hj]; exact ⟨_, rfl⟩
  · rw [if_neg hj, if_neg hj]; exact ⟨_, rfl⟩
theorem call_min2 (hc : X.calm = true) : CallR X (.builtin "min") (fun xs H Q => ∃ i j, xs = [.int i, .int j] ∧ Q (.int (if j < i then j else i)) H) := by
  intro pins s σ H xs us Q I r h
  obtain ⟨i, j, rfl, q⟩ := h
  obtain ⟨u, w', rfl, ⟨t, rfl⟩, ⟨t', rfl⟩⟩ := vals2 r
  refine min_two_ints (I.ok.hd hc) fun h' tk k => ⟨_, H, I.kept k, ?_, q⟩
  by_cases hj : j < i
  · rw [if_pos hj, if_pos hj]; exact ⟨_, rfl⟩
  · rw [if_neg hj, if_neg hj]; exact ⟨_, rfl⟩
theorem call_int1 : CallR X (.type "int") (fun xs H Q => (∃ i, xs = [.int i] ∧ Q (.int i) H) ∨ ∃ k, xs = [.bl k] ∧ Q (.int (if k then 1 else 0)) H) := by
  intro pins s σ H xs us Q I r h
  rcases h with ⟨i, rfl, q⟩ | ⟨k, rfl, q⟩
  · obtain ⟨u, rfl, t, rfl⟩ := vals1 r
    exact call_int_int ⟨.int i, H, I, ⟨_, rfl⟩, q⟩
  · obtain ⟨u, rfl, r1⟩ := vals1 r
    cases r1
    exact call_int_bool ⟨.int (if k then 1 else 0), H, I.tok _, ⟨_, rfl⟩, q⟩
theorem call_bool1 : CallR X (.type "bool") (fun xs H Q => (∃ i, xs = [.int i] ∧ Q (.bl (i != 0)) H) ∨ ∃ k, xs = [.bl k] ∧ Q (.bl k) H) := by
  intro pins s σ H xs us Q I r h
  rcases h with ⟨i, rfl, q⟩ | ⟨k, rfl, q⟩
  · obtain ⟨u, rfl, t, rfl⟩ := vals1 r
    exact call_bool_int ⟨.bl (i != 0), H, I, rfl, q⟩
  · obtain ⟨u, rfl, r1⟩ := vals1 r
    cases r1
    exact call_bool_bool ⟨.bl k, H, I, rfl, q⟩
theorem call_str_int : CallR X (.type "str") (fun xs H Q => ∃ i, xs = [.int i] ∧ i.natAbs.log2 < 1920 ∧ Q (.str (toString i)) H) := by
  intro pins s σ H xs us Q I r h
  obtain ⟨i, rfl, hz, q⟩ := h
  obtain ⟨u, rfl, t, rfl⟩ := vals1 r
  exact PySem.P.str_of_int hz ⟨.str _, H, I.tok _, ⟨_, rfl⟩, q⟩
theorem call_ord : CallR X (.builtin "ord") (fun xs H Q => ∃ x, xs = [.str x] ∧ x.length = 1 ∧ Q (.int (x.cps.getD 0 0 : Nat)) H) := by
  intro pins s σ H xs us Q I r h
  obtain ⟨x, rfl, hz, q⟩ := h
  obtain ⟨u, rfl, t, rfl⟩ := vals1 r
  exact ord_of_one hz ⟨.int _, H, I.tok _, ⟨_, rfl⟩, q⟩
theorem call_chr : CallR X (.builtin "chr") (fun xs H Q => ∃ i, xs = [.int i] ∧ 0 ≤ i ∧ i ≤ 1114111 ∧ Q (.str ⟨#[i.toNat]⟩) H) := by
  intro pins s σ H xs us Q I r h
  obtain ⟨i, rfl, h0, h1, q⟩ := h
  obtain ⟨u, rfl, t, rfl⟩ := vals1 r
  exact chr_of_range h0 h1 ⟨.str _, H, I.tok _, ⟨_, rfl⟩, q⟩
/-- len of a str, a bytes, a list, a tuple -/
def LenV (K : PySem.W.Frag) (x : V) (H : Hp) (n : Nat) : Prop :=
  match x with
  | .str y => y.length ≤ sizeLine ∧ n = y.length
  | .byt y => y.size ≤ sizeLine ∧ n = y.size
  | .ref p => (∃ xs, SqL K H p xs ∧ n = xs.length) ∨ ∃ xs, SqT K H p xs ∧ n = xs.length
  | _ => False
theorem call_len : CallR X (.builtin "len") (fun xs H Q => ∃ x n, xs = [x] ∧ LenV X.K x H n ∧ Q (.int n) H) := by
  intro pins s σ H xs us Q I r h
  obtain ⟨x, n, rfl, e, q⟩ := h
  obtain ⟨u, rfl, rx⟩ := vals1 r
  have hl := line63
  have hs : sizeLine = 16777216 := sizeLine_eq
  cases x with
  | str y =>
    obtain ⟨t, rfl⟩ := rx
    obtain ⟨hy, e'⟩ : y.length ≤ sizeLine ∧ n = y.length := e
    subst e'
    exact len_str (by omega) ⟨.int _, H, I.tok _, ⟨_, rfl⟩, q⟩
  | byt y =>
    obtain ⟨t, rfl⟩ := rx
    obtain ⟨hy, e'⟩ : y.size ≤ sizeLine ∧ n = y.size := e
    subst e'
    exact PySem.W.len_bytes (by omega) ⟨.int _, H, I.tok _, ⟨_, rfl⟩, q⟩
  | ref p =>
    cases rx
    have e' : (∃ xs, SqL X.K H p xs ∧ n = xs.length) ∨ ∃ xs, SqT X.K H p xs ∧ n = xs.length := e
    rcases e' with ⟨xs, hx, e'⟩ | ⟨xs, hx, e'⟩
    · subst e'
      obtain ⟨its, r', pl, hz⟩ := I.list hx
      have hlen := r'.length
      exact Calls.call_len_list pl.isList (by simp only [List.size_toArray]; omega) ⟨.int xs.length, H, I.tok _, ⟨_, by simp only [List.size_toArray]; rw [hlen]⟩, q⟩
    · subst e'
      obtain ⟨its, r', pl, hz⟩ := I.tuple hx
      have hlen := r'.length
      exact len_tuple pl (by simp only [List.size_toArray]; omega) ⟨.int xs.length, H, I.tok _, ⟨_, by simp only [List.size_toArray]; rw [hlen]⟩, q⟩
  | _ => exact (show False from e).elim
/-- divmod: a new tuple -/
theorem call_divmod : CallR X (.builtin "divmod") (fun xs H Q => ∃ i j, xs = [.int i, .int j] ∧ CDiv i j ∧ ∀ p, H p = none → Q (.ref p) (upd H p (.tup [.int (i / j), .int (i % j)]))) := by
  intro pins s σ H xs us Q I r h
  obtain ⟨i, j, rfl, ⟨h1, h2⟩, q⟩ := h
  obtain ⟨u, w', rfl, ⟨t, rfl⟩, ⟨t', rfl⟩⟩ := vals2 r
  refine divmod_int (by omega) ?_ (.inl (PyProof.noPylong_small (by omega)))
  rw [Int.fdiv_eq_ediv_of_nonneg i (by omega), Int.fmod_eq_emod_of_nonneg i (by omega)]
  have hn : H s.heap.objs.size = none := I.hok.fresh (Nat.le_refl _)
  refine ⟨.ref s.heap.objs.size, _, ?_, rfl, q _ hn⟩
  refine I.laid (fun b o e => Heap.get?_push_of_some _ e) (Nat.le_refl _) ⟨by simp only [List.length_cons, List.length_nil]; rw [sizeLine_eq]; decide, [.int (i / j) s.toks, .int (i % j) (s.toks + 1)], .cons ⟨_, rfl⟩ (.cons ⟨_, rfl⟩ .nil), ?_⟩
  exact ⟨_, Heap.get?_push_size s.heap rfl, rfl, 0, rfl⟩
end
end L2

namespace L2
open PySem PySem.Spec PyProof.Rows

/-! ### an instance, its attributes a map -/
structure ObjM (h : Heap) (x dx C : Addr) (mA : Str → Option Value) : Prop where
  obj : h.get? x = some (PySem.W.instObj C dx)
  ns : h.Ns1 dx mA
  ne : dx ≠ x

theorem lookIn_ns {h : Heap} {dx : Addr} {mA : Str → Option Value} (n : h.Ns1 dx mA) : ∃ od, h.get? dx = some od ∧ ∀ name, PySem.W.lookIn name od = some (mA name) := by
  obtain ⟨o, es, ep, ho, hd, hk, _, hm⟩ := n
  refine ⟨o, ho, fun name => ?_⟩
  have e := hm name
  unfold nsFind findBy at e
  rw [← Array.find?_toList] at e
  unfold PySem.W.lookIn
  rw [hd]
  dsimp only
  split
  · rename_i y q
    rw [q] at e
    exact congrArg some e
  · rename_i q
    rw [q] at e
    have a : es.toList.any (·.refKey) = false := by
      rw [List.any_eq_false]
      intro y hy
      obtain ⟨z, t, hkey⟩ := hk y (Array.mem_toList_iff.mp hy)
      simp [DictEntry.refKey, hkey]
    have a' : ¬ es.toList.any (·.refKey) = true := by rw [a]; exact Bool.false_ne_true
    rw [if_neg a']
    exact congrArg some e

theorem ObjM.look {h : Heap} {x dx C : Addr} {mA : Str → Option Value} (I : ObjM h x dx C mA) : ∃ od, PySem.W.InstAt h x (PySem.W.instObj C dx) C (some od) ∧ ∀ name, PySem.W.lookIn name od = some (mA name) :=
  let ⟨od, ho, hl⟩ := lookIn_ns I.ns
  ⟨od, ⟨I.obj, rfl, rfl, ho⟩, hl⟩

section
variable {prog : Program} {w : World} {A : Around} {E : Value → Shared → Prop} {s : Shared} {K : PySem.W.Frag} {x dx C f : Addr} {mA : Str → Option Value} {name : Str} {v : Value}

theorem get_map {expr : Bool} {Q : Value → Shared → Prop} (X : K.In s.heap) (I : ObjM s.heap x dx C mA) (hg : PySem.W.plainGet K C name = true) (hh : PySem.W.hasDictIn K C = true)
    (ha : PySem.W.findIn K (.ref C) name = some none) (hv : mA name = some v) (hv' : PySem.W.handedIn v = true) (h : Q v { s with toks := s.toks + 1 }) :
    wpAny (model prog w) A (getAttr (.ref x) name expr) Q E s := by
  obtain ⟨od, J, hl⟩ := I.look
  exact PySem.W.get_value X J (PySem.W.plainGet_of hg).1 (PySem.W.findObj_own hh ha rfl (by rw [hl, hv])) hv' h

theorem get_const {expr : Bool} {a : Value} {Q : Value → Shared → Prop} (X : K.In s.heap) (I : ObjM s.heap x dx C mA) (hg : PySem.W.plainGet K C name = true) (hh : PySem.W.hasDictIn K C = true)
    (ha : PySem.W.findIn K (.ref C) name = some (some a)) (hn : PySem.W.specialIn K a "__get__" = some none) (hc : PySem.W.copiedNames.contains name = false) (hv : mA name = none) (hv' : PySem.W.handedIn a = true)
    (h : Q a { s with toks := s.toks + 1 }) : wpAny (model prog w) A (getAttr (.ref x) name expr) Q E s := by
  obtain ⟨od, J, hl⟩ := I.look
  exact PySem.W.get_value X J (PySem.W.plainGet_of hg).1 (PySem.W.findObj_cls hh ha hn hv' hc (by rw [hl, hv])) hv' h

theorem get_meth {pl : Sem Bool} {Q : Value × List Value → Shared → Prop} (X : K.In s.heap) (I : ObjM s.heap x dx C mA) (hg : PySem.W.plainGet K C name = true)
    (hf : PySem.W.findIn K (.ref C) name = some (some (.ref f))) (ht : PySem.W.isFn K (.ref f) = true) (hv : mA name = none) (h : Q (.ref f, [.ref x]) s) :
    wpAny (model prog w) A (getMethod (.ref x) name pl) Q E s := by
  obtain ⟨od, J, hl⟩ := I.look
  exact PySem.W.method_fn X J (PySem.W.plainGet_of hg).1 (PySem.W.plainGet_of hg).2 hf (beq_iff_eq.mp ht) (by show (PySem.W.lookIn name od).map (·.isSome) = some false; rw [hl, hv]; rfl) h

theorem set_map {ns : List Str} {Q : Unit → Shared → Prop} (X : K.In s.heap) (I : ObjM s.heap x dx C mA)
    (hs : PySem.W.findIn K (.ref C) "__setattr__" = some (some (.builtin "object.__setattr__"))) (hp : PySem.W.plainOver K C = true) (ht : PySem.W.takerIn K C name = some none) (hh : PySem.W.hasDictIn K C = true)
    (hw : PySem.Within mA ns) (hsz : ns.length ≤ sizeLine)
    (h : ∀ h', ObjM h' x dx C (fun y => if y = name then some v else mA y) → Heap.SameBut dx s.heap h' → Q () { s with heap := h', toks := s.toks + 2 }) :
    wpAny (model prog w) A (setAttr (.ref x) name v) Q E s := by
  obtain ⟨od, J, hl⟩ := I.look
  refine PySem.W.set_plain X J hs (PySem.W.osa_open (s := { s with toks := s.toks + 1 }) (r := none) X J hp ht fun b => ?_)
  obtain ⟨cd, hc, hd'⟩ := PySem.W.any_some hh
  have hx : s.heap.get? x = some ⟨.ref C, some dx, .plain, #[]⟩ := I.obj
  refine wpAny_bind (wpAny_pure (wpAny_bind (wpAny_bind (wpAny_loadPart hx (wpAny_bind (PySem.W.Looks.here (s := { s with toks := s.toks + 1 }) (PySem.W.looks_clsIn X hc) ?_))))))
  rw [hd']
  refine wpAny_pure (a := some dx) (wpAny_bind (wpAny_pure (wpAny_bind ?_)))
  refine wpAny_nsSet1 (s := { s with toks := s.toks + 1 }) I.ns fun h' hn2 hs2 => ?_
  obtain ⟨oD, esD, epD, hoD, hdD, hcD⟩ := hn2.count (PySem.Within.cons name v hw)
  refine wpAny_bind (wpAny_lookBehind hoD (by rw [hdD]; exact pastItsLine_dict (Nat.le_trans hcD (by rw [List.length_cons]; omega))) ?_)
  exact wpAny_pure (h _ ⟨(hs2.2 _ (Ne.symm I.ne)).trans I.obj, hn2, I.ne⟩ hs2)

/-- C(..): the dict at the heap's end, the instance behind it; then its __init__ -/
theorem make_map {R : Result → Shared → Prop} {vs : List Value} {kw : List (Str × Value)} (X : K.In s.heap) (hm : PySem.W.makesIn K C = true)
    (hi : PySem.W.findIn K (.ref C) "__init__" = some (some (.ref f))) (hf : PySem.W.typeIn K (.ref f) = some (.type "function"))
    (h : codeAny (model prog w) (A.under (.builtin "type.__call__" ⟨.ref C :: vs, kw⟩)) (.call (.ref f) ⟨.ref (s.heap.objs.size + 1) :: vs, kw⟩) (PySem.W.InitBack (s.heap.objs.size + 1) R)
      { s with heap := (s.heap.push PySem.W.emptyDict).push (PySem.W.instObj C s.heap.objs.size) }) :
    codeAny (model prog w) A (.call (.ref C) ⟨vs, kw⟩) R s := by
  obtain ⟨hh, g, d, t, os⟩ := s
  exact PySem.W.make_core (PySem.W.makes_of X hm) (PySem.W.looks_findIn X hi) (fun self => PySem.W.bind_fn X self hf) (.inl rfl) h
/-- C() where there is no __init__ but object's -/
theorem make_map0 {R : Result → Shared → Prop} (X : K.In s.heap) (hm : PySem.W.makesIn K C = true)
    (hi : PySem.W.findIn K (.ref C) "__init__" = some (some (.builtin "object.__init__")))
    (hb : ∀ self, PySem.W.Looks (model prog w) s.heap (bindSpecial (.builtin "object.__init__") self) (.builtin "object.__init__", [self]))
    (h : codeAny (model prog w) (A.under (.builtin "type.__call__" ⟨[.ref C], []⟩)) (.call (.builtin "object.__init__") ⟨[.ref (s.heap.objs.size + 1)], []⟩) (PySem.W.InitBack (s.heap.objs.size + 1) R)
      { s with heap := (s.heap.push PySem.W.emptyDict).push (PySem.W.instObj C s.heap.objs.size) }) :
    codeAny (model prog w) A (.call (.ref C) ⟨[], []⟩) R s := by
  obtain ⟨hh, g, d, t, os⟩ := s
  exact PySem.W.make_core (PySem.W.makes_of X hm) (PySem.W.looks_findIn X hi) hb (.inr ⟨rfl, rfl⟩) h
end

/-! ### the attributes as a list of pairs -/
def putF (f : Str) (v : V) : List (Str × V) → List (Str × V)
  | [] => [(f, v)]
  | (g, x) :: r => if g = f then (g, v) :: r else (g, x) :: putF f v r
theorem lookup_putF (f g : Str) (v : V) : ∀ fs : List (Str × V), (putF f v fs).lookup g = if g = f then some v else fs.lookup g
  | [] => by
    show List.lookup g [(f, v)] = _
    by_cases h : g = f
    · have hb : (g == f) = true := beq_iff_eq.mpr h
      simp only [List.lookup, hb, if_pos h]
    · have hb : (g == f) = false := beq_eq_false_iff_ne.mpr h
      simp only [List.lookup, hb, if_neg h]
  | (k, x) :: r => by
    have ih := lookup_putF f g v r
    rw [show putF f v ((k, x) :: r) = (if k = f then (k, v) :: r else (k, x) :: putF f v r) from rfl]
    by_cases hk : k = f
    · rw [if_pos hk]
      by_cases h : g = k
      · have hb : (g == k) = true := beq_iff_eq.mpr h
        simp only [List.lookup, hb, if_pos (h.trans hk)]
      · have hb : (g == k) = false := beq_eq_false_iff_ne.mpr h
        simp only [List.lookup, hb, if_neg (fun e : g = f => h (e.trans hk.symm))]
    · rw [if_neg hk]
      by_cases h : g = k
      · have hb : (g == k) = true := beq_iff_eq.mpr h
        simp only [List.lookup, hb, if_neg (fun e : g = f => hk (h.symm.trans e))]
      · have hb : (g == k) = false := beq_eq_false_iff_ne.mpr h
        simp only [List.lookup, hb]
        exact ih
theorem keys_putF (f : Str) (v : V) : ∀ fs : List (Str × V), f ∈ (putF f v fs).map (·.1) ∧ ∀ g, g ∈ fs.map (·.1) → g ∈ (putF f v fs).map (·.1)
  | [] => ⟨by simp [putF], fun g h => by simp at h⟩
  | (k, x) :: r => by
    obtain ⟨i1, i2⟩ := keys_putF f v r
    rw [show putF f v ((k, x) :: r) = (if k = f then (k, v) :: r else (k, x) :: putF f v r) from rfl]
    by_cases hk : k = f
    · rw [if_pos hk]
      subst hk
      exact ⟨by simp, fun g h => by simpa using h⟩
    · rw [if_neg hk]
      refine ⟨?_, fun g h => ?_⟩
      · rw [List.map_cons]
        exact List.mem_cons_of_mem _ i1
      · rw [List.map_cons] at h ⊢
        rcases List.mem_cons.mp h with e | e
        · exact List.mem_cons.mpr (.inl e)
        · exact List.mem_cons_of_mem _ (i2 g e)
theorem length_putF (f : Str) (v : V) : ∀ fs : List (Str × V), (putF f v fs).length ≤ fs.length + 1
  | [] => by simp [putF]
  | (k, x) :: r => by
    have ih := length_putF f v r
    rw [show putF f v ((k, x) :: r) = (if k = f then (k, v) :: r else (k, x) :: putF f v r) from rfl]
    by_cases hk : k = f
    · rw [if_pos hk, List.length_cons, List.length_cons]; omega
    · rw [if_neg hk, List.length_cons, List.length_cons]; omega

theorem RelO.some_of {v : V} {o : Option Value} (r : RelO (some v) o) : ∃ u, o = some u ∧ RelV v u := by
  cases o with
  | none => exact (show False from r).elim
  | some u => exact ⟨u, rfl, r⟩
theorem RelO.none_of {o : Option Value} (r : RelO none o) : o = none := by
  cases o with
  | none => rfl
  | some u => exact (show False from r).elim
theorem handed_of {v : V} {u : Value} (r : RelV v u) : PySem.W.handedIn u = true := by
  cases v with
  | non => cases (show u = Value.none from r); rfl
  | bl b => cases (show u = Value.bool b from r); rfl
  | int i => obtain ⟨t, e⟩ := (show ∃ t, u = Value.int i t from r); cases e; rfl
  | str x => obtain ⟨t, e⟩ := (show ∃ t, u = Value.str x t from r); cases e; rfl
  | byt b => obtain ⟨t, e⟩ := (show ∃ t, u = Value.bytes b t from r); cases e; rfl
  | flt b => obtain ⟨t, e⟩ := (show ∃ t, u = Value.float b t from r); cases e; rfl
  | ref a => cases (show u = Value.ref a from r); rfl
  | ty n => cases (show u = Value.type n from r); rfl

section
variable {P : Program} {w : World} {H H' : Hp} {h h' : Heap} {a C dx : Addr} {fs fs' : List (Str × V)}
theorem ins_get (hok : HOk P w H h) (e : H a = some (.ins C dx fs)) : ∃ mA, ObjM h a dx C mA ∧ (∀ f, RelO (fs.lookup f) (mA f)) ∧ PySem.Within mA (fs.map (·.1)) ∧ fs.length ≤ 1000 ∧ H dx = some (.own a) := by
  obtain ⟨d, z, ne, ob, mA, n, r, q⟩ := (show ObjOk P w H h a (.ins C dx fs) from hok a _ e)
  exact ⟨mA, ⟨ob, n, ne⟩, r, q, z, d⟩
end

/-! ### what of the text a class must have -/
structure Cls (K : PySem.W.Frag) (C : Addr) : Prop where
  pg : PySem.W.plainGet K C Str.empty = true
  hd : PySem.W.hasDictIn K C = true
  po : PySem.W.plainOver K C = true
  sa : PySem.W.findIn K (.ref C) "__setattr__" = some (some (.builtin "object.__setattr__"))
theorem Cls.get {K : PySem.W.Frag} {C : Addr} (c : Cls K C) (f : Str) : PySem.W.plainGet K C f = true := c.pg
/-- no class of it has the name -/
def NoAttr (K : PySem.W.Frag) (C : Addr) (f : Str) : Prop := PySem.W.findIn K (.ref C) f = some none
theorem NoAttr.taker {K : PySem.W.Frag} {C : Addr} {f : Str} (n : NoAttr K C f) : PySem.W.takerIn K C f = some none := by
  unfold PySem.W.takerIn
  rw [show PySem.W.findIn K (.ref C) f = some none from n]
  rfl
/-- a constant of the class -/
structure Con (K : PySem.W.Frag) (C : Addr) (f : Str) (v : V) (u : Value) : Prop where
  at_ : PySem.W.findIn K (.ref C) f = some (some u)
  rel : RelV v u
  get : PySem.W.specialIn K u "__get__" = some none
  cp : PySem.W.copiedNames.contains f = false
/-- a method: a plain def of the class or of one above it -/
structure Meth (K : PySem.W.Frag) (C : Addr) (m : Str) (f : Addr) : Prop where
  at_ : PySem.W.findIn K (.ref C) m = some (some (.ref f))
  fn : PySem.W.isFn K (.ref f) = true
  kp : PySem.W.keepIn K (.ref f) = true

section
variable {X : Cx} {pins : List (Addr × Obj)} {σ : St} {H : Hp} {s : Shared} {a C dx : Addr} {fs : List (Str × V)} {f : Str} {v : V} {A : Around} {E : Value → Shared → Prop}

theorem getattr_ok {b : Bool} {Q : Value → Shared → Prop} (I : Inv X pins σ H s) (e : H a = some (.ins C dx fs)) (c : Cls X.K C) (n : NoAttr X.K C f) (l : fs.lookup f = some v)
    (h : ∀ u s', Inv X pins σ H s' → RelV v u → Q u s') : wpAny (model X.prog X.w) A (getAttr (.ref a) f b) Q E s := by
  obtain ⟨mA, O, r, _, _, _⟩ := ins_get I.hok e
  obtain ⟨u, hu, ru⟩ := RelO.some_of (v := v) (o := mA f) (by rw [← l]; exact r f)
  exact get_map I.kIn O (c.get f) c.hd n hu (handed_of ru) (h u _ (I.tok _) ru)

theorem getcon_ok {b : Bool} {u : Value} {Q : Value → Shared → Prop} (I : Inv X pins σ H s) (e : H a = some (.ins C dx fs)) (c : Cls X.K C) (k : Con X.K C f v u) (l : fs.lookup f = none)
    (h : ∀ s', Inv X pins σ H s' → Q u s') : wpAny (model X.prog X.w) A (getAttr (.ref a) f b) Q E s := by
  obtain ⟨mA, O, r, _, _, _⟩ := ins_get I.hok e
  have hn : mA f = none := RelO.none_of (by rw [← l]; exact r f)
  exact get_const I.kIn O (c.get f) c.hd k.at_ k.get k.cp hn (handed_of k.rel) (h _ (I.tok _))

theorem getmeth_ok {m : Str} {g : Addr} {pl : Sem Bool} {Q : Value × List Value → Shared → Prop} (I : Inv X pins σ H s) (e : H a = some (.ins C dx fs)) (c : Cls X.K C) (k : Meth X.K C m g) (l : fs.lookup m = none)
    (h : Q (.ref g, [.ref a]) s) : wpAny (model X.prog X.w) A (getMethod (.ref a) m pl) Q E s := by
  obtain ⟨mA, O, r, _, _, _⟩ := ins_get I.hok e
  have hn : mA m = none := RelO.none_of (by rw [← l]; exact r m)
  exact get_meth I.kIn O (c.get m) k.at_ k.fn hn h

theorem setattr_ok {y : V} {u : Value} {Q : Unit → Shared → Prop} (I : Inv X pins σ H s) (e : H a = some (.ins C dx fs)) (c : Cls X.K C) (n : NoAttr X.K C f) (hl : fs.length < 1000) (ry : RelV y u)
    (h : ∀ s', Inv X pins σ (upd H a (.ins C dx (putF f y fs))) s' → Q () s') : wpAny (model X.prog X.w) A (setAttr (.ref a) f u) Q E s := by
  obtain ⟨mA, O, r, wi, _, ho⟩ := ins_get I.hok e
  have hz : (fs.map (·.1)).length ≤ sizeLine := by rw [List.length_map, sizeLine_eq]; omega
  refine set_map I.kIn O c.sa c.po n.taker c.hd wi hz fun h' O' sb => h _ ?_
  have hd : ∃ o, h'.get? dx = some o := let ⟨o, _, _, e', _⟩ := O'.ns; ⟨o, e'⟩
  refine I.write (x := a) (e := dx) (by rw [e]; exact True.intro) (.inr ho) (fun b q hb z => (sb.2 b hb).trans z) hd ?_
  refine ⟨by rw [upd_ne O.ne]; exact ho, ?_, O.ne, O'.obj, _, O'.ns, fun g => ?_, fun g hg => ?_⟩
  · have := length_putF f y fs; omega
  · show RelO ((putF f y fs).lookup g) (if g = f then some u else mA g)
    rw [lookup_putF]
    by_cases q : g = f
    · rw [if_pos q, if_pos q]; exact ry
    · rw [if_neg q, if_neg q]; exact r g
  · by_cases q : g = f
    · rw [q]; exact (keys_putF f y fs).1
    · refine (keys_putF f y fs).2 g (wi g fun z => hg ?_)
      show (if g = f then some u else mA g) = none
      rw [if_neg q]; exact z

/-- a new instance, tracked, without attributes -/
theorem Inv.made (I : Inv X pins σ H s) : Inv X pins σ (upd (upd H s.heap.objs.size (.own (s.heap.objs.size + 1))) (s.heap.objs.size + 1) (.ins C s.heap.objs.size []))
    { s with heap := (s.heap.push PySem.W.emptyDict).push (PySem.W.instObj C s.heap.objs.size) } := by
  have e1 : (s.heap.push PySem.W.emptyDict).get? s.heap.objs.size = some PySem.W.emptyDict := Heap.get?_push_size s.heap rfl
  have e2 : ((s.heap.push PySem.W.emptyDict).push (PySem.W.instObj C s.heap.objs.size)).get? (s.heap.objs.size + 1) = some (PySem.W.instObj C s.heap.objs.size) := by
    have := Heap.get?_push_size (s.heap.push PySem.W.emptyDict) (o := PySem.W.instObj C s.heap.objs.size) rfl
    rwa [Heap.size_push] at this
  have e3 : (s.heap.push PySem.W.emptyDict).Ns s.heap.objs.size (fun _ => none) := ⟨PySem.W.emptyDict, #[], _, e1, rfl, (fun e he => absurd he (by simp)), fun _ => rfl⟩
  have I1 := I.laid (a := s.heap.objs.size) (o := .own (s.heap.objs.size + 1)) (h' := s.heap.push PySem.W.emptyDict) (t' := s.toks) (fun b u q => Heap.get?_push_of_some _ q) (Nat.le_refl _) ⟨_, e1⟩
  refine I1.laid (a := s.heap.objs.size + 1) (o := .ins C s.heap.objs.size []) (t' := s.toks) (fun b u q => Heap.get?_push_of_some _ q) (Nat.le_of_eq (Heap.size_push _ _)) ?_
  have ne : s.heap.objs.size ≠ s.heap.objs.size + 1 := Nat.ne_of_lt (Nat.lt_succ_self _)
  refine ⟨by rw [upd_ne ne, upd_same], Nat.zero_le _, ne, e2, fun _ => none, (Heap.Ns1.of_empty e3).at fun o q => Heap.get?_push_of_some _ q, fun _ => True.intro, fun y hy => absurd rfl hy⟩

/-- e.f where nothing but the object is asked: through attributeBase (super) and the last hold -/
theorem attr_of {prog : Program} {w : World} {env : Env} {e : Expr} {f : Str} {pos : Pos} {s : Shared} {Q : Value → Shared → Prop} (hb : attributeBase e f env (eval e env) = eval e env)
    (h : wpAny (model prog w) A (eval e env) (fun o s₁ => wpAny (model prog w) A (getAttr o f true) Q E s₁) E s) : wpAny (model prog w) A (eval (.Attribute e f pos) env) Q E s :=
  Attribute_any_ h (by rw [arm_eval_Attribute, hb])
end

/-! ### readings and rules -/
/-- e.f, an attribute of the instance -/
def tFld (K : PySem.W.Frag) (ta : TE) (f : Str) : TE := fun σ H Q => ta σ H fun x H1 => ∃ a C dx fs v, x = .ref a ∧ H1 a = some (.ins C dx fs) ∧ Cls K C ∧ NoAttr K C f ∧ fs.lookup f = some v ∧ Q v H1
/-- e.f, a constant of the class -/
def tCon (K : PySem.W.Frag) (ta : TE) (f : Str) : TE := fun σ H Q => ta σ H fun x H1 => ∃ a C dx fs v u, x = .ref a ∧ H1 a = some (.ins C dx fs) ∧ Cls K C ∧ Con K C f v u ∧ fs.lookup f = none ∧ Q v H1
/-- e.f = value -/
def sFld (K : PySem.W.Frag) (ta tv : TE) (f : Str) : TS := fun D σ H => tv σ H fun y H1 => ta σ H1 fun x H2 => ∃ a C dx fs, x = .ref a ∧ H2 a = some (.ins C dx fs) ∧ Cls K C ∧ NoAttr K C f ∧ fs.length < 1000 ∧
  D.nx σ (upd H2 a (.ins C dx (putF f y fs)))
/-- an augmented operator on two values -/
def InOp (X : Cx) (op : Operator) (rd : V → V → Hp → VK → Prop) : Prop :=
  ∀ (pins : List (Addr × Obj)) (s : Shared) (σ : St) (H : Hp) (x y : V) (u v : Value) (Q : VK), Inv X pins σ H s → RelV x u → RelV y v → rd x y H Q → wpAny (model X.prog X.w) X.A (inplaceOp op u v) (EP X pins σ Q) X.xe s
/-- e.f op= value -/
def sFldAug (K : PySem.W.Frag) (ta tv : TE) (rd : V → V → Hp → VK → Prop) (f : Str) : TS := fun D σ H => ta σ H fun x H1 => ∃ a C dx fs v, x = .ref a ∧ H1 a = some (.ins C dx fs) ∧ Cls K C ∧ NoAttr K C f ∧ fs.lookup f = some v ∧
  tv σ H1 fun y H2 => rd v y H2 fun z H3 => ∃ dx' fs', H3 a = some (.ins C dx' fs') ∧ fs'.length < 1000 ∧ D.nx σ (upd H3 a (.ins C dx' (putF f z fs')))

section
variable {X : Cx} {o e value : Expr} {f : Str} {pos pos' tpos : Pos} {ta tv : TE}
theorem pe_fld (he : PE X e ta) (hb : attributeBase e f X.env (eval e X.env) = eval e X.env) : PE X (.Attribute e f pos) (tFld X.K ta f) := by
  intro pins s σ H Q I h
  refine attr_of hb (thn (he pins s σ H _ I h) fun u s1 ⟨x, H1, I1, rx, a, C, dx, fs, v, ex, ea, c, n, l, q⟩ => ?_)
  subst ex
  obtain rfl : u = Value.ref a := rx
  exact getattr_ok I1 ea c n l fun u' s2 I2 ru => ⟨v, H1, I2, ru, q⟩
theorem pe_con (he : PE X e ta) (hb : attributeBase e f X.env (eval e X.env) = eval e X.env) : PE X (.Attribute e f pos) (tCon X.K ta f) := by
  intro pins s σ H Q I h
  refine attr_of hb (thn (he pins s σ H _ I h) fun u s1 ⟨x, H1, I1, rx, a, C, dx, fs, v, u0, ex, ea, c, k, l, q⟩ => ?_)
  subst ex
  obtain rfl : u = Value.ref a := rx
  exact getcon_ok I1 ea c k l fun s2 I2 => ⟨v, H1, I2, k.rel, q⟩
theorem ps_fld (ha : PE X o ta) (hv : PE X value tv) (hs : swapsWith value (some (.Attribute o f pos')) pos.line X.env = pure false) : PS X (.Assign [.Attribute o f pos'] value pos) (sFld X.K ta tv f) := by
  intro pins s σ H D I h
  refine plainObj_wpAny_Assign_Attribute (thn (hv pins s σ H _ I h) fun u s1 ⟨y, H1, I1, ry, q⟩ => thn (ha pins s1 σ H1 _ I1 q) fun ov s2 ⟨x, H2, I2, rx, a, C, dx, fs, ex, ea, c, n, l, q2⟩ => ?_) hs
  subst ex
  obtain rfl : ov = Value.ref a := rx
  exact setattr_ok I2 ea c n l ry fun s3 I3 => ⟨σ, _, I3, q2⟩
theorem ps_fldaug {op : Operator} {rd : V → V → Hp → VK → Prop} (ha : PE X o ta) (hv : PE X value tv) (hop : InOp X op rd) : PS X (.AugAssign (.Attribute o f tpos) op value pos) (sFldAug X.K ta tv rd f) := by
  intro pins s σ H D I h
  refine wpAny_AugAssign_AttributeAny (thn (ha pins s σ H _ I h) fun ov s1 ⟨x, H1, I1, rx, a, C, dx, fs, v, ex, ea, c, n, l, q⟩ => ?_)
  subst ex
  obtain rfl : ov = Value.ref a := rx
  refine getattr_ok I1 ea c n l fun u s2 I2 ru => thn (hv pins s2 σ H1 _ I2 q) fun w3 s3 ⟨y, H2, I3, ry, q3⟩ => thn (hop pins s3 σ H2 v y u w3 _ I3 ru ry q3) fun w4 s4 ⟨z, H3, I4, rz, dx', fs', ea', l', q4⟩ => ?_
  exact setattr_ok I4 ea' c n l' rz fun s5 I5 => ⟨σ, _, I5, q4⟩
def rAdd : V → V → Hp → VK → Prop := fun x y H Q => ∃ i j, x = .int i ∧ y = .int j ∧ Q (.int (i + j)) H
def rSub : V → V → Hp → VK → Prop := fun x y H Q => ∃ i j, x = .int i ∧ y = .int j ∧ Q (.int (i - j)) H
theorem in_add : InOp X .Add rAdd := by
  rintro pins s σ H x y u v Q I rx ry ⟨i, j, rfl, rfl, q⟩
  obtain ⟨t, rfl⟩ := (show ∃ t, u = Value.int i t from rx)
  obtain ⟨t', rfl⟩ := (show ∃ t', v = Value.int j t' from ry)
  exact PyProof.Rows.iadd_int ⟨.int (i + j), H, I.tok _, ⟨_, rfl⟩, q⟩
theorem in_sub : InOp X .Sub rSub := by
  rintro pins s σ H x y u v Q I rx ry ⟨i, j, rfl, rfl, q⟩
  obtain ⟨t, rfl⟩ := (show ∃ t, u = Value.int i t from rx)
  obtain ⟨t', rfl⟩ := (show ∃ t', v = Value.int j t' from ry)
  exact PyProof.Rows.isub_int ⟨.int (i - j), H, I.tok _, ⟨_, rfl⟩, q⟩

/-- what is between an instance and its method: the tree of a method call -/
theorem methcall_of {pl : Sem Bool} {m : Str} {apos : Pos} {args : List Expr} {pins : List (Addr × Obj)} {s : Shared} {σ : St} {H : Hp} {Q : Value → Shared → Prop} {te : TE} (he : PE X e te) (I : Inv X pins σ H s)
    (h : te σ H fun x H1 => ∃ a C dx fs g, x = .ref a ∧ H1 a = some (.ins C dx fs) ∧ Cls X.K C ∧ Meth X.K C m g ∧ fs.lookup m = none ∧
      ∀ s1, Inv X pins σ H1 s1 → wpAny (model X.prog X.w) X.A (callWith pos (.ref g) [.ref a] (backTo pos (starEach args X.env)) (backToKw pos (keywordEach [] X.env))) Q X.xe s1)
    (ht : eval (.Call (.Attribute e m apos) args [] pos) X.env = (do
      let ov ← eval e X.env
      standAt apos.atName
      let (f, first) ← holding [ov] (getMethod ov m pl)
      callWith pos f first (backTo pos (starEach args X.env)) (backToKw pos (keywordEach [] X.env)))) :
    wpAny (model X.prog X.w) X.A (eval (.Call (.Attribute e m apos) args [] pos) X.env) Q X.xe s := by
  refine PySem.W.methodCall_KW (pl := pl) (thn (he pins s σ H _ I h) fun u s1 ⟨x, H1, I1, rx, a, C, dx, fs, g, ex, ea, c, k, l, q⟩ => ?_) ht
  subst ex
  obtain rfl : u = Value.ref a := rx
  exact getmeth_ok I1 ea c k l (q s1 I1)
end

/-! ### isinstance -/
section
variable {X : Cx} {pins : List (Addr × Obj)} {σ : St} {H : Hp} {s : Shared} {A : Around} {E : Value → Shared → Prop} {Q : Value → Shared → Prop} {c : Value} {b : Bool}
/-- the type of a value, as the fragment's deciders take it; for an instance its class -/
inductive TyOf (K : PySem.W.Frag) (H : Hp) : V → Value → Prop where
  | non : TyOf K H .non (.type "NoneType")
  | bl (x : Bool) : TyOf K H (.bl x) (.type "bool")
  | int (i : Int) : TyOf K H (.int i) (.type "int")
  | str (x : Str) : TyOf K H (.str x) (.type "str")
  | flt (x : UInt64) : TyOf K H (.flt x) (.type "float")
  | lst {a : Addr} {xs : List V} (e : H a = some (.lst xs)) : TyOf K H (.ref a) (.type "list")
  | frz {a : Addr} {o : Obj} {xs : List V} (e : H a = some (.frz o (.lst xs))) : TyOf K H (.ref a) (.type "list")
  | tup {a : Addr} {xs : List V} (e : H a = some (.tup xs)) : TyOf K H (.ref a) (.type "tuple")
  | dK {a : Addr} {kvs : List (Key × V)} (e : H a = some (.dK kvs)) : TyOf K H (.ref a) (.type "dict")
  | dT {a : Addr} {kvs : List (List Key × V)} (e : H a = some (.dT kvs)) : TyOf K H (.ref a) (.type "dict")
  | ins {a C dx : Addr} {fs : List (Str × V)} (e : H a = some (.ins C dx fs)) (cl : Cls K C) (ha : PySem.W.findIn K (.ref C) "__class__" = some (some (.builtin "object.__class__")))
      (hn : PySem.W.specialIn K (.builtin "object.__class__") "__get__" = some (some (.builtin "getset_descriptor.__get__"))) (htk : PySem.W.takesIn K (.builtin "object.__class__") = some true)
      (hm : PySem.W.mroIn K C (.type "object") = some true) : TyOf K H (.ref a) (.ref C)
/-- isinstance(x, c) for one class c, a built-in or an own one: kitOne's answer -/
theorem isinst_ok {x : V} {u t : Value} (I : Inv X pins σ H s) (rx : RelV x u) (ty : TyOf X.K H x t) (e : PySem.W.kitOne X.K t c = some b) (h : ∀ tk, Q (.bool b) { s with toks := tk }) :
    wpAny (model X.prog X.w) A (call (.builtin "isinstance") [u, c]) Q E s := by
  cases ty with
  | non => cases (show u = Value.none from rx); exact PySem.W.kia_one PySem.W.kitx_none I.kIn True.intro e (fun z => nomatch z) h
  | bl y => cases (show u = Value.bool y from rx); exact PySem.W.kia_one PySem.W.kitx_bool I.kIn True.intro e (fun z => nomatch z) h
  | int i => obtain ⟨t, q⟩ := (show ∃ t, u = Value.int i t from rx); cases q; exact PySem.W.kia_one PySem.W.kitx_int I.kIn True.intro e (fun z => nomatch z) h
  | str y => obtain ⟨t, q⟩ := (show ∃ t, u = Value.str y t from rx); cases q; exact PySem.W.kia_one PySem.W.kitx_str I.kIn True.intro e (fun z => nomatch z) h
  | flt y => obtain ⟨t, q⟩ := (show ∃ t, u = Value.float y t from rx); cases q; exact PySem.W.kia_one PySem.W.kitx_float I.kIn True.intro e (fun z => nomatch z) h
  | @lst a xs ea =>
    cases (show u = Value.ref a from rx)
    obtain ⟨_, _, n, _, h1⟩ := (show ObjOk X.prog X.w H s.heap a (.lst xs) from I.hok a _ ea)
    exact PySem.W.kia_one PySem.W.kitx_list I.kIn ⟨_, h1, rfl⟩ e (fun z => nomatch z) h
  | @frz a ob xs ea =>
    cases (show u = Value.ref a from rx)
    obtain ⟨_, _, _, n, _, h1⟩ := (show ObjOk X.prog X.w H s.heap a (.frz ob (.lst xs)) from I.hok a _ ea)
    exact PySem.W.kia_one PySem.W.kitx_list I.kIn ⟨_, h1, rfl⟩ e (fun z => nomatch z) h
  | @tup a xs ea =>
    cases (show u = Value.ref a from rx)
    obtain ⟨_, _, _, p⟩ := (show ObjOk X.prog X.w H s.heap a (.tup xs) from I.hok a _ ea)
    obtain ⟨o, h1, h2, _⟩ := p
    exact PySem.W.kia_one PySem.W.kitx_tuple I.kIn ⟨o, h1, h2⟩ e (fun z => nomatch z) h
  | @dK a kvs ea =>
    cases (show u = Value.ref a from rx)
    obtain ⟨_, _, vs, _, p⟩ := (show ObjOk X.prog X.w H s.heap a (.dK kvs) from I.hok a _ ea)
    obtain ⟨o, es, ep, h1, h2, _⟩ := p
    exact PySem.W.kia_one PySem.W.kitx_dict I.kIn ⟨o, h1, h2.1⟩ e (fun z => nomatch z) h
  | @dT a kvs ea =>
    cases (show u = Value.ref a from rx)
    obtain ⟨_, _, xs, _, o, es, ep, h1, h2, _⟩ := (show ObjOk X.prog X.w H s.heap a (.dT kvs) from I.hok a _ ea)
    exact PySem.W.kia_one PySem.W.kitx_dict I.kIn ⟨o, h1, h2.1⟩ e (fun z => nomatch z) h
  | @ins a C dx fs ea cl ha hn htk hm =>
    cases (show u = Value.ref a from rx)
    obtain ⟨mA, O, _⟩ := ins_get I.hok ea
    obtain ⟨od, J, _⟩ := O.look
    exact PySem.W.kia_one (PySem.W.kitx_own (cl.get _) cl.hd ha hn htk hm) I.kIn J e (fun z => nomatch z) h
end
end L2

namespace L2
open PySem PySem.Spec PyProof.Rows

/-! ### room -/
structure Room (k : Nat) (A : Around) : Prop where
  hd : A.handled = none
  dp : A.depth + 3 * k + 5 < recursionLimit
  un : A.units + 16 * k + 200 < cLine
theorem Room.mono {j k : Nat} {A : Around} (r : Room k A) (h : j ≤ k) : Room j A := ⟨r.hd, by have := r.dp; omega, by have := r.un; omega⟩
theorem Room.deeper {k : Nat} {A : Around} (r : Room (k + 1) A) (env : Env) : Room k (A.deeper env) :=
  ⟨r.hd, by have := r.dp; show A.depth + 1 + 3 * k + 5 < _; omega, by have := r.un; show A.units + 3 + 16 * k + 200 < _; omega⟩
theorem Room.in1 {k : Nat} {A : Around} (r : Room (k + 1) A) : Room k A.in1 :=
  ⟨r.hd, by have := r.dp; show A.depth + 3 * k + 5 < _; omega, by have := r.un; show A.units + 1 + 16 * k + 200 < _; omega⟩
theorem make_depth {A : Around} {C : Addr} {us : List Value} {kw : List (Str × Value)} : (A.under (.builtin "type.__call__" ⟨.ref C :: us, kw⟩)).depth = A.depth + 1 := by
  first | rfl | simp [Around.under, Code.weight, Code.isCreation, Code.isGuard, Code.isCaller, Code.frames, Code.isFrame, guardIds]
theorem make_units {A : Around} {C : Addr} {us : List Value} {kw : List (Str × Value)} : (A.under (.builtin "type.__call__" ⟨.ref C :: us, kw⟩)).units = A.units + 1 := by
  first | rfl | simp [Around.under, Code.cUnits, Code.frames, Code.isFrame]
theorem Room.make {k : Nat} {A : Around} (r : Room (k + 1) A) (C : Addr) (us : List Value) (kw : List (Str × Value)) : Room k (A.under (.builtin "type.__call__" ⟨.ref C :: us, kw⟩)) :=
  ⟨r.hd, by have := r.dp; rw [make_depth]; omega, by have := r.un; rw [make_units]; omega⟩
theorem Room.depth {k : Nat} {A : Around} (r : Room k A) : A.depth < recursionLimit := by have := r.dp; omega
theorem Room.units {k : Nat} {A : Around} (r : Room k A) : A.units + 64 < cLine := by have := r.un; omega
theorem Room.units0 {k : Nat} {A : Around} (r : Room k A) : A.units < cLine := by have := r.un; omega

/-! ### argument lists and displays -/
def tNil : TA := fun _ H Q => Q [] H
def tCons (ta : TE) (tr : TA) : TA := fun σ H Q => ta σ H fun x H1 => tr σ H1 fun xs H2 => Q (x :: xs) H2
section
variable {X : Cx} {e : Expr} {es : List Expr} {te : TE} {t : TA} {pos : Pos}
theorem pa_nil : PA X [] tNil := fun _ _ _ _ H Q I h => Calls.spliced_nil ⟨[], H, I, .nil, h⟩
theorem pa_cons (ha : PE X e te) (hr : PA X es t) (hs : starEach (e :: es) X.env = (false, eval e X.env) :: starEach es X.env := by rfl) : PA X (e :: es) (tCons te t) := by
  intro pos pins s σ H Q I h
  rw [hs]
  show wpAny _ _ (spliced ((false, eval e X.env) :: backTo pos (starEach es X.env))) _ _ s
  refine Calls.spliced_cons (thn (ha pins s σ H _ I h) fun u s1 ⟨x, H1, I1, r1, q1⟩ => ?_)
  exact thn (hr pos pins s1 σ H1 _ I1 q1) fun us s2 ⟨xs, H2, I2, r2, q2⟩ => ⟨x :: xs, H2, I2, .cons r1 r2, q2⟩

/-- a tuple, a list of written items -/
def tTup (t : TA) : TE := fun σ H Q => t σ H fun xs H1 => xs.length ≤ sizeLine ∧ ∀ p, H1 p = none → Q (.ref p) (upd H1 p (.tup xs))
def tLst (t : TA) : TE := fun σ H Q => t σ H fun xs H1 => xs.length ≤ sizeLine ∧ ∀ p, H1 p = none → Q (.ref p) (upd H1 p (.lst xs))
theorem pe_tup {x1} (h : PA X es t) : PE X (.Tuple es x1 pos) (tTup t) := by
  intro pins s σ H Q I hq
  refine wpAny_Tuple_spliced (thn (h pos pins s σ H _ I hq) fun us s1 ⟨xs, H1, I1, r, z, q⟩ => ⟨by rw [← r.length]; exact z, ?_⟩)
  have hf : H1 s1.heap.objs.size = none := I1.hok.fresh (Nat.le_refl _)
  refine ⟨.ref s1.heap.objs.size, upd H1 s1.heap.objs.size (.tup xs), I1.laid (t' := s1.toks) (fun b u e => Heap.get?_push_of_some _ e) (Nat.le_refl _) ?_, rfl, q _ hf⟩
  exact ⟨z, us, r, ⟨_, Heap.get?_push_size _ rfl, rfl, _, rfl⟩⟩
theorem pe_lst (h : PA X es t) : PE X (.List es pos) (tLst t) := by
  intro pins s σ H Q I hq
  refine wpAny_List_spliced (thn (h pos pins s σ H _ I hq) fun us s1 ⟨xs, H1, I1, r, z, q⟩ => ⟨by rw [← r.length]; exact z, ?_⟩)
  have hf : H1 s1.heap.objs.size = none := I1.hok.fresh (Nat.le_refl _)
  refine ⟨.ref s1.heap.objs.size, upd H1 s1.heap.objs.size (.lst xs), I1.laid (t' := s1.toks) (fun b u e => Heap.get?_push_of_some _ e) (Nat.le_refl _) ?_, rfl, q _ hf⟩
  exact ⟨z, us, 0, r, Heap.get?_push_size _ rfl⟩
end

/-! ### what a def promises -/
/-- a def's promise: the bound arguments in the parameters' order, the heap, the wanted end, the wanted exception -/
abbrev Sp := List V → Hp → VK → XK → Prop
/-- how an exception lies behind a call (file 08 gives it): the callers' frames, abstract heap and state ahead of the call, the wish, the exception, the state -/
abbrev CXT := List Env → Hp → Shared → XK → Value → Shared → Prop

/-- the state at a call -/
structure Env0 (P : Program) (w : World) (K : PySem.W.Frag) (mg : Str → Option Value) (base : Heap) (A : Around) (outer : List Env) (s : Shared) (H : Hp) : Prop where
  frames : A.frames = some outer
  mod : Mod K mg base
  bs : ∀ b o, base.get? b = some o → s.heap.get? b = some o ∧ H b = none
  bsz : base.objs.size ≤ s.heap.objs.size
  funs : s.heap.FunFrames base outer
  frf : ∀ b ∈ frs outer, H b = none
  hok : HOk P w H s.heap
  bare : AllBare s.gens
/-- a call's end -/
def CE (outer : List Env) (P : Program) (w : World) (H : Hp) (s : Shared) (Q : VK) (u : Value) (s' : Shared) : Prop :=
  ∃ v H', s'.os = s.os ∧ AllBare s'.gens ∧ Un (frs outer) [] H H' s.heap s'.heap ∧ HOk P w H' s'.heap ∧ RelV v u ∧ Q v H'
def CR (CX : CXT) (outer : List Env) (P : Program) (w : World) (H : Hp) (s : Shared) (Q : VK) (E : XK) (r : Result) (s' : Shared) : Prop :=
  match r with
  | .ok (.ret u) => CE outer P w H s Q u s'
  | .ok _ => False
  | .error e => CX outer H s E e s'
structure FnOk (P : Program) (w : World) (K : PySem.W.Frag) (mg : Str → Option Value) (base : Heap) (CX : CXT) (k : Nat) (f : Addr) (fd : FuncData) (ps : List Str) (sp : Sp) : Prop where
  len : ∀ vs H Q E, sp vs H Q E → vs.length = ps.length
  run : ∀ (A : Around) (outer : List Env) (s : Shared) (H : Hp) (args : Args) (us : List Value) (vs : List V) (Q : VK) (E : XK), Room k A → Env0 P w K mg base A outer s H → BindsTo s fd args (ps.zip us) → Vals vs us → sp vs H Q E →
    codeAny (model P w) A (.call (.ref f) args) (CR CX outer P w H s Q E) s
theorem FnOk.mono {P : Program} {w : World} {K : PySem.W.Frag} {mg : Str → Option Value} {base : Heap} {CX : CXT} {j k : Nat} {f : Addr} {fd : FuncData} {ps : List Str} {sp : Sp} (F : FnOk P w K mg base CX j f fd ps sp) (h : j ≤ k) :
    FnOk P w K mg base CX k f fd ps sp := ⟨F.len, fun A outer s H args us vs Q E hr => F.run A outer s H args us vs Q E (hr.mono h)⟩
/-- a weaker promise -/
theorem FnOk.imp {P : Program} {w : World} {K : PySem.W.Frag} {mg : Str → Option Value} {base : Heap} {CX : CXT} {k : Nat} {f : Addr} {fd : FuncData} {ps : List Str} {sp sp' : Sp} (F : FnOk P w K mg base CX k f fd ps sp)
    (h : ∀ vs H Q E, sp' vs H Q E → sp vs H Q E) : FnOk P w K mg base CX k f fd ps sp' :=
  ⟨fun vs H Q E q => F.len vs H Q E (h _ _ _ _ q), fun A outer s H args us vs Q E hr he hb hv hs => F.run A outer s H args us vs Q E hr he hb hv (h _ _ _ _ hs)⟩

theorem Env0.make {P : Program} {w : World} {K : PySem.W.Frag} {mg : Str → Option Value} {base : Heap} {A : Around} {outer : List Env} {s : Shared} {H : Hp} (e : Env0 P w K mg base A outer s H) (C : Addr) (us : List Value) (kw : List (Str × Value)) :
    Env0 P w K mg base (A.under (.builtin "type.__call__" ⟨.ref C :: us, kw⟩)) outer s H := ⟨by first | exact e.frames | (simpa [Around.under, Code.envs, Code.isFrame, pushEnvs] using e.frames), e.mod, e.bs, e.bsz, e.funs, e.frf, e.hok, e.bare⟩
theorem Env0.in1 {P : Program} {w : World} {K : PySem.W.Frag} {mg : Str → Option Value} {base : Heap} {A : Around} {outer : List Env} {s : Shared} {H : Hp} (e : Env0 P w K mg base A outer s H) :
    Env0 P w K mg base A.in1 outer s H := ⟨e.frames, e.mod, e.bs, e.bsz, e.funs, e.frf, e.hok, e.bare⟩

section
variable {X : Cx} {pins : List (Addr × Obj)} {σ : St} {H : Hp} {s s' : Shared}
/-- from a body: what a callee wants -/
theorem Inv.env0 (I : Inv X pins σ H s) : Env0 X.prog X.w X.K X.mg X.base X.A X.stack s H :=
  ⟨I.ok.frames, I.ok.mod, I.bs, Nat.le_trans I.ok.bsz I.sz, I.stack, I.stkFree, I.hok, I.bare⟩
/-- behind a call -/
theorem Inv.after {Q : VK} {u : Value} (I : Inv X pins σ H s) (h : CE X.stack X.prog X.w H s Q u s') : EP X pins σ Q u s' := by
  obtain ⟨v, H', os, bare, un, hok, r, q⟩ := h
  obtain ⟨hh, g, d, t, os'⟩ := s'
  obtain rfl : os' = s.os := os
  exact ⟨v, H', I.call (h' := hh) (g' := g) (d' := d) (t' := t) (ch := []) un hok bare (fun b z => absurd z (by simp)), r, q⟩
end

/-! ### calls -/
/-- f(..): the written arguments, then the defaults dvs; E: what is wanted of an exception -/
def tCall (sp : Sp) (dvs : List V) (E : XK) (t : TA) : TE := fun σ H Q => t σ H fun vs H1 => sp (vs ++ dvs) H1 Q E
/-- o.m(..) of an instance of the class at C -/
def tMeth (C : Addr) (m : Str) (sp : Sp) (dvs : List V) (E : XK) (ta : TE) (t : TA) : TE := fun σ H Q => ta σ H fun x H1 => ∃ a dx fs, x = .ref a ∧ H1 a = some (.ins C dx fs) ∧ fs.lookup m = none ∧
  t σ H1 fun vs H2 => sp (x :: (vs ++ dvs)) H2 Q E
/-- C(..): a new instance and its dict, then __init__ -/
def tMake (C : Addr) (sp : Sp) (dvs : List V) (E : XK) (t : TA) : TE := fun σ H Q => t σ H fun vs H1 => ∀ x dx, H1 x = none → H1 dx = none → dx ≠ x →
  sp (.ref x :: (vs ++ dvs)) (upd (upd H1 dx (.own x)) x (.ins C dx [])) (fun v H2 => v = .non ∧ Q (.ref x) H2) E

/-- how the parameters are bound: us the positional arguments, kw the keywords' values by name, ds the defaults that fill up -/
def Binds (K : PySem.W.Frag) (fd : FuncData) (ps : List Str) (ds : List Value) : Prop :=
  ∀ (s : Shared) (us : List Value), K.In s.heap → (us ++ ds).length = ps.length → BindsTo s fd ⟨us, []⟩ (ps.zip (us ++ ds))
/-- every parameter is given -/
theorem Binds.all {K : PySem.W.Frag} {fd : FuncData} {ps : List Str} (h : ∀ us : List Value, us.length = ps.length → bindArgs fd ⟨us, []⟩ = pure (ps.zip us)) : Binds K fd ps [] := fun s us _ hl => by
  rw [List.append_nil] at hl ⊢
  exact .of_eq (h us hl)

/-- an exception of a callee reaches what this body wants of exceptions -/
def Passes (CX : CXT) (X : Cx) (E : XK) : Prop := ∀ (pins : List (Addr × Obj)) (σ : St) (H : Hp) (s : Shared) (e : Value) (s' : Shared), Inv X pins σ H s → CX X.stack H s E e s' → X.xe e s'

section
variable {X : Cx} {CX : CXT} {k : Nat} {f C : Addr} {fd : FuncData} {ps : List Str} {sp : Sp} {dvs : List V} {ds : List Value} {E : XK} {x m : Str} {p pos apos : Pos} {e o : Expr} {es : List Expr} {ta : TE} {t : TA}

/-- the callee runs -/
theorem run_fn {pins : List (Addr × Obj)} {σ : St} {H : Hp} {s : Shared} {Q : VK} {us : List Value} {vs : List V} (F : FnOk X.prog X.w X.K X.mg X.base CX k f fd ps sp) (hr : Room k X.A) (hb : Binds X.K fd ps ds) (hd : Vals dvs ds) (hx : Passes CX X E)
    (I : Inv X pins σ H s) (r : Vals vs us) (h : sp (vs ++ dvs) H Q E) : wpAny (model X.prog X.w) X.A (call (.ref f) us) (EP X pins σ Q) X.xe s := by
  have r2 : Vals (vs ++ dvs) (us ++ ds) := r.append hd
  have hl : (us ++ ds).length = ps.length := by rw [← r2.length]; exact F.len _ _ _ _ h
  refine wpAny_call (codeAny_mono (F.run X.A X.stack s H ⟨us, []⟩ (us ++ ds) (vs ++ dvs) Q E hr I.env0 (hb s us I.kIn hl) r2 h) fun r s' hq => ?_)
  cases r with
  | error e => exact hx pins σ H s e s' I hq
  | ok fl =>
    cases fl with
    | ret u => exact I.after hq
    | next => exact False.elim hq
    | brk => exact False.elim hq
    | cont => exact False.elim hq

theorem pe_call (F : FnOk X.prog X.w X.K X.mg X.base CX k f fd ps sp) (hr : Room k X.A) (hg : Gl X x) (hm : X.mg x = some (.ref f)) (hk : PySem.W.keepIn X.K (.ref f) = true) (hb : Binds X.K fd ps ds) (hd : Vals dvs ds) (hx : Passes CX X E)
    (ha : PA X (e :: es) t) (hdb : (x == ("__debug__" : Str)) = false := by decide) (he : starEach (e :: es) X.env = (false, eval e X.env) :: starEach es X.env := by rfl) (hpl : (backTo pos (starEach es X.env)).any (·.1) = false := by rfl) :
    PE X (.Call (.Name x p) (e :: es) [] pos) (tCall sp dvs E t) := by
  intro pins s σ H Q I h
  refine wpAny_Call_Name_kw (ld_glob I hg hm ?_ hdb)
  refine PySem.W.callWith_K (h₀ := X.base) I.ok.mod.kin hk (thn (ha pos pins s σ H _ I h) fun us s1 ⟨vs, H1, I1, r, q⟩ => ⟨I1.kIn, ?_⟩) he hpl
  exact run_fn F hr hb hd hx I1 r q
theorem pe_call0 (F : FnOk X.prog X.w X.K X.mg X.base CX k f fd ps sp) (hr : Room k X.A) (hg : Gl X x) (hm : X.mg x = some (.ref f)) (hk : PySem.W.keepIn X.K (.ref f) = true) (hb : Binds X.K fd ps ds) (hd : Vals dvs ds) (hx : Passes CX X E)
    (hdb : (x == ("__debug__" : Str)) = false := by decide) : PE X (.Call (.Name x p) [] [] pos) (tCall sp dvs E tNil) := by
  intro pins s σ H Q I h
  refine wpAny_Call_Name_kw (ld_glob I hg hm ?_ hdb)
  exact PySem.W.callWith_K0 I.kIn hk (run_fn (us := []) F hr hb hd hx I .nil h)

/-- o.m(e, ..) -/
theorem pe_meth {pl : Sem Bool} (he : PE X o ta) (c : Cls X.K C) (hm : Meth X.K C m f) (F : FnOk X.prog X.w X.K X.mg X.base CX k f fd ps sp) (hr : Room k X.A) (hb : Binds X.K fd ps ds) (hd : Vals dvs ds) (hx : Passes CX X E) (ha : PA X (e :: es) t)
    (hst : starEach (e :: es) X.env = (false, eval e X.env) :: starEach es X.env := by rfl) (hpl : (backTo pos (starEach es X.env)).any (·.1) = false := by rfl)
    (ht : eval (.Call (.Attribute o m apos) (e :: es) [] pos) X.env = (do
      let ov ← eval o X.env
      standAt apos.atName
      let (f, first) ← holding [ov] (getMethod ov m pl)
      callWith pos f first (backTo pos (starEach (e :: es) X.env)) (backToKw pos (keywordEach [] X.env))) := by rfl) :
    PE X (.Call (.Attribute o m apos) (e :: es) [] pos) (tMeth C m sp dvs E ta t) := by
  intro pins s σ H Q I h
  refine PySem.W.methodCall_KW (pl := pl) (thn (he pins s σ H _ I h) fun u s1 ⟨x, H1, I1, rx, a, dx, fs, ex, ea, l, q⟩ => ?_) ht
  subst ex
  obtain rfl : u = Value.ref a := rx
  refine getmeth_ok I1 ea c hm l ?_
  refine PySem.W.callWith_K (first := [.ref a]) (h₀ := X.base) I.ok.mod.kin hm.kp (thn (ha pos pins s1 σ H1 _ I1 q) fun us s2 ⟨vs, H2, I2, r, q2⟩ => ⟨I2.kIn, ?_⟩) hst hpl
  exact run_fn (us := .ref a :: us) (vs := .ref a :: vs) F hr hb hd hx I2 (.cons rfl r) q2
/-- o.m() -/
theorem pe_meth0 {pl : Sem Bool} (he : PE X o ta) (c : Cls X.K C) (hm : Meth X.K C m f) (F : FnOk X.prog X.w X.K X.mg X.base CX k f fd ps sp) (hr : Room k X.A) (hb : Binds X.K fd ps ds) (hd : Vals dvs ds) (hx : Passes CX X E)
    (ht : eval (.Call (.Attribute o m apos) [] [] pos) X.env = (do
      let ov ← eval o X.env
      standAt apos.atName
      let (f, first) ← holding [ov] (getMethod ov m pl)
      callWith pos f first (backTo pos (starEach [] X.env)) (backToKw pos (keywordEach [] X.env))) := by rfl) :
    PE X (.Call (.Attribute o m apos) [] [] pos) (tMeth C m sp dvs E ta tNil) := by
  intro pins s σ H Q I h
  refine PySem.W.methodCall_KW (pl := pl) (thn (he pins s σ H _ I h) fun u s1 ⟨x, H1, I1, rx, a, dx, fs, ex, ea, l, q⟩ => ?_) ht
  subst ex
  obtain rfl : u = Value.ref a := rx
  refine getmeth_ok I1 ea c hm l ?_
  exact PySem.W.callWith_K0 (first := [.ref a]) I1.kIn hm.kp (run_fn (us := [.ref a]) (vs := [.ref a]) F hr hb hd hx I1 (.cons rfl .nil) q)

/-- what a class must have to be made -/
structure Mk (K : PySem.W.Frag) (C f : Addr) : Prop where
  makes : PySem.W.makesIn K C = true
  init : PySem.W.findIn K (.ref C) "__init__" = some (some (.ref f))
  fn : PySem.W.isFn K (.ref f) = true
  kp : PySem.W.keepIn K (.ref C) = true

theorem run_make {pins : List (Addr × Obj)} {σ : St} {H : Hp} {s : Shared} {Q : VK} {us : List Value} {vs : List V} (M : Mk X.K C f) (F : FnOk X.prog X.w X.K X.mg X.base CX k f fd ps sp) (hr : Room (k + 1) X.A) (hb : Binds X.K fd ps ds) (hd : Vals dvs ds)
    (hx : Passes CX X E) (I : Inv X pins σ H s) (r : Vals vs us)
    (h : ∀ x dx, H x = none → H dx = none → dx ≠ x → sp (.ref x :: (vs ++ dvs)) (upd (upd H dx (.own x)) x (.ins C dx [])) (fun v H2 => v = .non ∧ Q (.ref x) H2) E) :
    wpAny (model X.prog X.w) X.A (call (.ref C) us) (EP X pins σ Q) X.xe s := by
  have hq := h (s.heap.objs.size + 1) s.heap.objs.size (I.hok.fresh (Nat.le_succ _)) (I.hok.fresh (Nat.le_refl _)) (Nat.ne_of_lt (Nat.lt_succ_self _))
  have I2 := Inv.made (C := C) I
  have r2 : Vals (V.ref (s.heap.objs.size + 1) :: (vs ++ dvs)) (Value.ref (s.heap.objs.size + 1) :: (us ++ ds)) := .cons rfl (r.append hd)
  have hl : (Value.ref (s.heap.objs.size + 1) :: us ++ ds).length = ps.length := by
    have e := r2.length
    rw [F.len _ _ _ _ hq] at e
    exact e.symm
  refine wpAny_call (make_map (f := f) I.kIn M.makes M.init (beq_iff_eq.mp M.fn) (codeAny_mono (F.run _ X.stack _ _ ⟨Value.ref (s.heap.objs.size + 1) :: us, []⟩ (Value.ref (s.heap.objs.size + 1) :: (us ++ ds)) _ _ E (hr.make C us [])
    (I2.env0.make C us []) (hb _ (Value.ref (s.heap.objs.size + 1) :: us) I2.kIn hl) r2 hq) fun r s' hq' => ?_))
  cases r with
  | error e => exact hx pins σ _ _ e s' I2 hq'
  | ok fl =>
    cases fl with
    | ret u =>
      obtain ⟨v, H', I3, rv, ev, q3⟩ := I2.after hq'
      subst ev
      exact ⟨rv, ⟨V.ref (s.heap.objs.size + 1), H', I3, rfl, q3⟩⟩
    | next => exact False.elim hq'
    | brk => exact False.elim hq'
    | cont => exact False.elim hq'
theorem pe_make (M : Mk X.K C f) (F : FnOk X.prog X.w X.K X.mg X.base CX k f fd ps sp) (hr : Room (k + 1) X.A) (hg : Gl X x) (hm : X.mg x = some (.ref C)) (hb : Binds X.K fd ps ds) (hd : Vals dvs ds) (hx : Passes CX X E)
    (ha : PA X (e :: es) t) (hdb : (x == ("__debug__" : Str)) = false := by decide) (he : starEach (e :: es) X.env = (false, eval e X.env) :: starEach es X.env := by rfl) (hpl : (backTo pos (starEach es X.env)).any (·.1) = false := by rfl) :
    PE X (.Call (.Name x p) (e :: es) [] pos) (tMake C sp dvs E t) := by
  intro pins s σ H Q I h
  refine wpAny_Call_Name_kw (ld_glob I hg hm ?_ hdb)
  refine PySem.W.callWith_K (h₀ := X.base) I.ok.mod.kin M.kp (thn (ha pos pins s σ H _ I h) fun us s1 ⟨vs, H1, I1, r, q⟩ => ⟨I1.kIn, ?_⟩) he hpl
  exact run_make M F hr hb hd hx I1 r q
theorem pe_make0 (M : Mk X.K C f) (F : FnOk X.prog X.w X.K X.mg X.base CX k f fd ps sp) (hr : Room (k + 1) X.A) (hg : Gl X x) (hm : X.mg x = some (.ref C)) (hb : Binds X.K fd ps ds) (hd : Vals dvs ds) (hx : Passes CX X E)
    (hdb : (x == ("__debug__" : Str)) = false := by decide) : PE X (.Call (.Name x p) [] [] pos) (tMake C sp dvs E tNil) := by
  intro pins s σ H Q I h
  refine wpAny_Call_Name_kw (ld_glob I hg hm ?_ hdb)
  exact PySem.W.callWith_K0 I.kIn M.kp (run_make (us := []) M F hr hb hd hx I .nil h)
end

/-! ### keywords -/
/-- the values of the keywords, from the left -/
def PK (X : Cx) (kws : List Keyword) (t : TA) : Prop :=
  ∀ (pos : Pos) (pins : List (Addr × Obj)) (s : Shared) (σ : St) (H : Hp) (Q : List V → Hp → Prop), Inv X pins σ H s → t σ H Q → wpAny (model X.prog X.w) X.A (evalAll ((backToKw pos (keywordEach kws X.env)).map (·.2))) (AP X pins σ Q) X.xe s
section
variable {X : Cx} {CX : CXT} {k : Nat} {f C : Addr} {fd : FuncData} {ps ks : List Str} {sp : Sp} {E : XK} {x m : Str} {p pos apos kpos : Pos} {e o : Expr} {es : List Expr} {kws : List Keyword} {te ta : TE} {t tk : TA} {nm : Option Str}
theorem pk_nil : PK X [] tNil := fun _ _ _ _ H Q I h => wpAny_evalAll_nil ⟨[], H, I, .nil, h⟩
theorem pk_cons (ha : PE X e te) (hr : PK X kws t) : PK X (⟨nm, e, kpos⟩ :: kws) (tCons te t) := by
  intro pos pins s σ H Q I h
  show wpAny _ _ (evalAll ((do let v ← eval e X.env; standAt pos; pure v) :: (backToKw pos (keywordEach kws X.env)).map (·.2))) _ _ s
  refine wpAny_evalAll_cons (wpAny_bind (thn (ha pins s σ H _ I h) fun u s1 ⟨x, H1, I1, r1, q1⟩ => wpAny_bind (wpAny_standAt (wpAny_pure ?_))))
  exact thn (hr pos pins s1 σ H1 _ I1 q1) fun us s2 ⟨xs, H2, I2, r2, q2⟩ => ⟨x :: xs, H2, I2, .cons r1 r2, q2⟩

/-- how a call with keywords binds: g puts the positional values us and the keywords' values ws (names ks) in the parameters' order, defaults among them -/
structure KBinds (K : PySem.W.Frag) (fd : FuncData) (ps ks : List Str) (g : List Value → List Value → List Value) (gV : List V → List V → List V) : Prop where
  to : ∀ (s : Shared) (us ws : List Value), K.In s.heap → (g us ws).length = ps.length → BindsTo s fd ⟨us, ks.zip ws⟩ (ps.zip (g us ws))
  rel : ∀ {vs : List V} {us : List Value} {zs : List V} {ws : List Value}, Vals vs us → Vals zs ws → Vals (gV vs zs) (g us ws)
def tCallK (sp : Sp) (gV : List V → List V → List V) (E : XK) (t tk : TA) : TE := fun σ H Q => t σ H fun vs H1 => tk σ H1 fun zs H2 => sp (gV vs zs) H2 Q E
variable {g : List Value → List Value → List Value} {gV : List V → List V → List V}
theorem run_fnk {pins : List (Addr × Obj)} {σ : St} {H : Hp} {s : Shared} {Q : VK} {us ws : List Value} {vs zs : List V} (F : FnOk X.prog X.w X.K X.mg X.base CX k f fd ps sp) (hr : Room k X.A) (hb : KBinds X.K fd ps ks g gV) (hx : Passes CX X E)
    (I : Inv X pins σ H s) (r : Vals vs us) (rz : Vals zs ws) (h : sp (gV vs zs) H Q E) : wpAny (model X.prog X.w) X.A (call (.ref f) us (ks.zip ws)) (EP X pins σ Q) X.xe s := by
  have r2 := hb.rel r rz
  have hl : (g us ws).length = ps.length := by rw [← r2.length]; exact F.len _ _ _ _ h
  refine wpAny_call (codeAny_mono (F.run X.A X.stack s H ⟨us, ks.zip ws⟩ (g us ws) (gV vs zs) Q E hr I.env0 (hb.to s us ws I.kIn hl) r2 h) fun r s' hq => ?_)
  cases r with
  | error e => exact hx pins σ H s e s' I hq
  | ok fl =>
    cases fl with
    | ret u => exact I.after hq
    | next => exact False.elim hq
    | brk => exact False.elim hq
    | cont => exact False.elim hq
/-- f(e, .., k = v, ..) -/
theorem pe_callK (F : FnOk X.prog X.w X.K X.mg X.base CX k f fd ps sp) (hr : Room k X.A) (hg : Gl X x) (hm : X.mg x = some (.ref f)) (hk : PySem.W.keepIn X.K (.ref f) = true) (hb : KBinds X.K fd ps ks g gV) (hx : Passes CX X E)
    (ha : PA X (e :: es) t) (hkw : PK X kws tk) (hall : (backToKw pos (keywordEach kws X.env)).all (·.1.isSome) = true := by rfl) (hks : (backToKw pos (keywordEach kws X.env)).filterMap (·.1) = ks := by rfl)
    (hdb : (x == ("__debug__" : Str)) = false := by decide) (he : starEach (e :: es) X.env = (false, eval e X.env) :: starEach es X.env := by rfl)
    (hpl : ((backTo pos (starEach (e :: es) X.env)).any (·.1) || (backToKw pos (keywordEach kws X.env)).any (·.1.isNone)) = false := by rfl) :
    PE X (.Call (.Name x p) (e :: es) kws pos) (tCallK sp gV E t tk) := by
  intro pins s σ H Q I h
  refine wpAny_Call_Name_kw (ld_glob I hg hm ?_ hdb)
  refine PySem.W.callWith_KW (h₀ := X.base) I.ok.mod.kin hk hall (thn (ha pos pins s σ H _ I h) fun us s1 ⟨vs, H1, I1, r, q⟩ => ?_) hpl he
  refine thn (hkw pos pins s1 σ H1 _ I1 q) fun ws s2 ⟨zs, H2, I2, rz, q2⟩ => ⟨I2.kIn, ?_⟩
  rw [hks]
  exact run_fnk F hr hb hx I2 r rz q2
end

/-! ### a def's body keeps its promise -/
/-- names: the parameters first -/
structure FnScope (N P : List Str) (sc : Scope) : Prop where
  kind : sc.kind = .function
  co : sc.isCoroutine = false
  gen : sc.isGenerator = false
  nd : N.Nodup
  pre : N.take P.length = P
  par : ∀ x ∈ P, sc.names.lookup x = some .local ∨ sc.names.lookup x = some .cell
  nofree : ∀ y ∈ sc.names, y.2 ≠ .free

theorem bindL_out {kindOf : Str → Option NameKind} {x : Str} : ∀ {binds : List (Str × Value)} {m : Str → Option Value}, (∀ v, (x, v) ∉ binds) → bindL kindOf binds m x = m x
  | [], _, _ => rfl
  | (n, v) :: r, m, h => by
    unfold bindL
    rw [bindL_out fun w hw => h w (List.mem_cons_of_mem _ hw)]
    split
    · have : x ≠ n := by rintro rfl; exact h v List.mem_cons_self
      simp [this]
    · rfl
theorem bindC_out {kindOf : Str → Option NameKind} {x : Str} : ∀ {binds : List (Str × Value)} {m : Str → Option Value}, (∀ v, (x, v) ∉ binds) → bindC kindOf binds m x = m x
  | [], _, _ => rfl
  | (n, v) :: r, m, h => by
    unfold bindC
    rw [bindC_out fun w hw => h w (List.mem_cons_of_mem _ hw)]
    split
    · rfl
    · have : x ≠ n := by rintro rfl; exact h v List.mem_cons_self
      simp [this]
theorem bindL_get {kindOf : Str → Option NameKind} {x : Str} {v : Value} : ∀ {P : List Str} {vs : List Value} {i : Nat} {m : Str → Option Value}, P.Nodup → P[i]? = some x → vs[i]? = some v → kindOf x = some .local →
    bindL kindOf (P.zip vs) m x = some v
  | [], _, _, _, _, h, _, _ => by simp at h
  | _ :: _, [], _, _, _, _, h, _ => by simp at h
  | p :: P, w :: vs, 0, m, nd, h1, h2, hk => by
    simp at h1 h2; subst h1; subst h2
    show bindL kindOf ((p, w) :: P.zip vs) m p = _
    unfold bindL
    rw [bindL_out fun v hv => (List.nodup_cons.mp nd).1 (List.of_mem_zip hv).1, if_pos hk]
    simp
  | p :: P, w :: vs, i + 1, m, nd, h1, h2, hk => by
    show bindL kindOf ((p, w) :: P.zip vs) m x = _
    unfold bindL
    exact bindL_get (i := i) (List.nodup_cons.mp nd).2 (by simpa using h1) (by simpa using h2) hk
theorem bindC_get {kindOf : Str → Option NameKind} {x : Str} {v : Value} : ∀ {P : List Str} {vs : List Value} {i : Nat} {m : Str → Option Value}, P.Nodup → P[i]? = some x → vs[i]? = some v → kindOf x ≠ some .local →
    bindC kindOf (P.zip vs) m x = some v
  | [], _, _, _, _, h, _, _ => by simp at h
  | _ :: _, [], _, _, _, _, h, _ => by simp at h
  | p :: P, w :: vs, 0, m, nd, h1, h2, hk => by
    simp at h1 h2; subst h1; subst h2
    show bindC kindOf ((p, w) :: P.zip vs) m p = _
    unfold bindC
    rw [bindC_out fun v hv => (List.nodup_cons.mp nd).1 (List.of_mem_zip hv).1, if_neg hk]
    simp
  | p :: P, w :: vs, i + 1, m, nd, h1, h2, hk => by
    show bindC kindOf ((p, w) :: P.zip vs) m x = _
    unfold bindC
    exact bindC_get (i := i) (List.nodup_cons.mp nd).2 (by simpa using h1) (by simpa using h2) hk

/-- the names' values at the entry -/
def start (N : List Str) (vs : List V) : St := vs.map some ++ List.replicate (N.length - vs.length) none

/-- the context of a def's body, at its entry; an exception leaves the frame, then lies as CX says -/
def cxOf (CX : CXT) (P : Program) (w : World) (K : PySem.W.Frag) (mg : Str → Option Value) (base : Heap) (N : List Str) (qual : Str) (scope : Scope) (f : Addr) (cd : Value) (A : Around) (outer : List Env) (s : Shared) (H : Hp) (E : XK) : Cx where
  prog := P
  w := w
  K := K
  mg := mg
  base := base
  A := A.deeper (envOfC qual scope s.heap.objs.size f cd)
  N := N
  s₀ := s
  H₀ := H
  env := envOfC qual scope s.heap.objs.size f cd
  outer := outer
  stack := envOfC qual scope s.heap.objs.size f cd :: outer
  ex := []
  calm := true
  fn := fun _ => true
  pn := []
  xe := fun e s' => wpAny (model P w) (A.deeper (envOfC qual scope s.heap.objs.size f cd)) (leaving (envOfC qual scope s.heap.objs.size f cd) e) (fun _ s'' => CX outer H s E e s'') (fun e' s'' => CX outer H s E e' s'') s'

theorem cell_has {sc : Scope} {n : Nat} {x : Str} (h : sc.names.lookup x = some .cell) : ∃ c, (cellsFrom n sc.names []).lookup x = some c := by
  have q := PySem.W.cellsFrom_some sc.names n [] (.inl h)
  exact Option.isSome_iff_exists.mp q

theorem inv_start {CX : CXT} {P : Program} {w : World} {K : PySem.W.Frag} {mg : Str → Option Value} {base : Heap} {N ps : List Str} {qual : Str} {scope : Scope} {f : Addr} {cd : Value} {A : Around} {outer : List Env} {s s1 : Shared} {H : Hp} {E : XK} {us : List Value} {vs : List V}
    (S : FnScope N ps scope) (hd : A.handled = none) (e0 : Env0 P w K mg base A outer s H) (hl : vs.length = ps.length) (r : Vals vs us)
    (x : InCallC s s.heap.objs.size (bindL (envOfC qual scope s.heap.objs.size f cd).kindOf (ps.zip us) fun _ => none) (cellsFrom (s.heap.objs.size + 1) scope.names []) (bindC (envOfC qual scope s.heap.objs.size f cd).kindOf (ps.zip us) fun _ => none) s1) :
    Inv (cxOf CX P w K mg base N qual scope f cd A outer s H E) [] (start N vs) H s1 := by
  have hpl : ps.length ≤ N.length := by have := congrArg List.length S.pre; rw [List.length_take] at this; omega
  obtain ⟨h1, tk, rfl, hk⟩ := x.done
  have noA : ∀ b : Addr, b ∉ (cxOf CX P w K mg base N qual scope f cd A outer s H E).ex := fun b z => absurd (show b ∈ ([] : List Addr) from z) (by simp)
  refine ⟨⟨e0.mod, S.kind, rfl, rfl, Nat.le_refl _, fun y z c h1 h2 => ?_, fun y hy => ?_, fun y c _ h => ?_, fun _ => hd, Around.frames_deeper e0.frames, .inr ⟨rfl, rfl⟩, fun b z => absurd z (noA b), e0.bs, e0.bsz, fun b _ _ => noA b, fun b z => absurd z (noA b), e0.funs, e0.frf⟩,
    rfl, e0.bare, Un.kept hk, ⟨_, x.toInCall.ns, fun i y v h1 h2 h3 => ?_⟩, fun y c h => ⟨_, x.cell y c h⟩, e0.hok.fresh (Nat.le_refl _), fun y c h => ?_, fun p hp => absurd (show p ∈ ([] : List (Addr × Obj)) from hp) (by simp), e0.hok.kept hk, ?_⟩
  · exact name_of_addr x.apart (PySem.mem_of_lookup h1) (PySem.mem_of_lookup h2)
  · have hy : scope.names.lookup y = some .cell ∨ scope.names.lookup y = some .free := hy
    rcases hy with hy | hy
    · exact cell_has hy
    · exact absurd rfl (S.nofree _ (PySem.mem_of_lookup hy))
  · exact Nat.le_of_lt (x.above y c (PySem.mem_of_lookup h))
  · have hi : i < vs.length := by
      unfold start at h2
      by_cases hi : i < vs.length
      · exact hi
      · rw [List.getElem?_append_right (by simpa using hi)] at h2
        rw [List.getElem?_replicate] at h2
        split at h2 <;> cases h2
    have ha : vs[i]? = some v := by
      unfold start at h2
      rw [List.getElem?_append_left (by simpa using hi), List.getElem?_map] at h2
      cases e : vs[i]? with
      | none => rw [e] at h2; cases h2
      | some a => rw [e] at h2; cases h2; rfl
    obtain ⟨u, hu, rv⟩ := r.get ha
    have hp : ps[i]? = some y := by
      rw [← S.pre, List.getElem?_take_of_lt (by omega)]; exact h1
    have ndP : ps.Nodup := by rw [← S.pre]; exact S.nd.sublist (List.take_sublist _ _)
    refine ⟨u, rv, ?_⟩
    rcases S.par y (List.mem_of_getElem? hp) with k | k
    · exact .inl ⟨k, bindL_get ndP hp hu k⟩
    · obtain ⟨c, e⟩ := cell_has (n := s.heap.objs.size + 1) k
      refine .inr ⟨.inl k, c, e, ?_⟩
      have q := x.cell y c e
      rw [bindC_get ndP hp hu (by show scope.names.lookup y ≠ _; rw [k]; decide)] at q
      exact q
  · exact e0.hok.fresh (Nat.le_of_lt (x.above y c (PySem.mem_of_lookup h)))
  · unfold start
    show _ = N.length
    rw [List.length_append, List.length_map, List.length_replicate]
    omega

/-- THE RULE: a def (or a method) of the text, by its body. The body's reading t is chosen for each entry; it is run at the parameters' values -/
theorem fn_of {CX : CXT} {P : Program} {w : World} {K : PySem.W.Frag} {mg : Str → Option Value} {base : Heap} {k : Nat} {f : Addr} {name qual : Str} {params : Arguments} {body : List Stmt} {scope : Scope} {dV kV doc pm cdv ct oc : Value} {an od : Option Addr}
    {osl : Array (Option Value)} {N ps : List Str} {sp : Sp} (lk : K.lookup f = some ⟨oc, od, .func (PySem.W.fnOf name qual params body scope dV kV doc pm an cdv ct), osl⟩) (hcd : PySem.W.codeIn K cdv qual = true) (S : FnScope N ps scope)
    (len : ∀ vs H Q E, sp vs H Q E → vs.length = ps.length)
    (hbody : ∀ (A : Around) (outer : List Env) (s : Shared) (H : Hp) (vs : List V) (Q : VK) (E : XK), Room k (A.deeper (envOfC qual scope s.heap.objs.size f cdv)) → sp vs H Q E →
      ∃ t, PSs (cxOf CX P w K mg base N qual scope f cdv A outer s H E) body t ∧ t { nx := fun _ H' => Q .non H', rt := Q } (start N vs) H) :
    FnOk P w K mg base CX (k + 1) f (PySem.W.fnOf name qual params body scope dV kV doc pm an cdv ct) ps sp := by
  refine ⟨len, fun A outer s H args us vs Q E hr e0 hb r hsp => ?_⟩
  have hl := len _ _ _ _ hsp
  have KX : K.In s.heap := e0.mod.kin.keeps fun b o e => (e0.bs b o e).1
  have lim : s.heap.NoLimit := e0.mod.nolimit.keeps fun b o e => (e0.bs b o e).1
  have hkind : ∀ y ∈ ps.zip us, scope.names.lookup y.1 = some .local ∨ (scope.names.lookup y.1 = some .cell ∧ ((cellsFrom (s.heap.objs.size + 1) scope.names []).lookup y.1).isSome = true) := fun ⟨n, v⟩ hy => by
    rcases S.par n (List.of_mem_zip hy).1 with q | q
    · exact .inl q
    · exact .inr ⟨q, PySem.W.cellsFrom_some _ _ _ (.inl q)⟩
  refine codeAny_call_function hr.depth (KX _ _ lk) rfl S.co S.gen rfl (PySem.W.codeRec_of KX hcd) (hb _ _ _ _ ?_)
  refine wpAny_newFunctionEnv_cells S.kind hkind fun env he s1 x => ?_
  subst he
  refine ⟨lim.keeps x.toInCall.keep, codeAny_func ?_⟩
  obtain ⟨t, ht, hq⟩ := hbody A outer s H vs Q E (hr.deeper _) hsp
  have I : Inv (cxOf CX P w K mg base N qual scope f cdv A outer s H E) [] (start N vs) H s1 := inv_start S hr.hd e0 hl r x
  refine wpAny_mono (ht [] s1 (start N vs) H _ I hq) (fun fl s' hs => ?_) fun e s' hs => hs
  have fin : ∀ {σ' : St} {H' : Hp} {v : V} {u : Value}, Inv (cxOf CX P w K mg base N qual scope f cdv A outer s H E) [] σ' H' s' → RelV v u → Q v H' → CE outer P w H s Q u s' :=
    fun {σ' H' v u} J rv q => ⟨v, H', J.os, J.bare, J.base, J.hok, rv, q⟩
  cases fl with
  | ret u =>
    obtain ⟨v, σ', H', J, rv, q⟩ := hs
    exact fin J rv q
  | next =>
    obtain ⟨σ', H', J, q⟩ := hs
    exact fin (v := V.non) (u := Value.none) J rfl q
  | brk =>
    obtain ⟨_, _, _, q⟩ := hs
    exact False.elim q
  | cont =>
    obtain ⟨_, _, _, q⟩ := hs
    exact False.elim q
end L2

namespace L2
open PySem PySem.Spec PyProof.Rows
section
variable {X : Cx} {x : Str} {p pos : Pos} {e : Expr} {es : List Expr} {t : TA} {id T : String} {r : List V → Hp → VK → Prop}

def tCB (r : List V → Hp → VK → Prop) (t : TA) : TE := fun σ H Q => t σ H fun vs H1 => r vs H1 Q
/-- f(e, ..), f a built-in function -/
theorem pe_callB (hc : CallR X (.builtin id) r) (hg : Gl X x) (hm : X.mg x = none) (hv : bootBuiltins x = some (.builtin id)) (ha : PA X (e :: es) t) (hn : x ≠ "__name__" := by decide) (hdb : (x == ("__debug__" : Str)) = false := by decide)
    (he : starEach (e :: es) X.env = (false, eval e X.env) :: starEach es X.env := by rfl) (hpl : (backTo pos (starEach es X.env)).any (·.1) = false := by rfl) : PE X (.Call (.Name x p) (e :: es) [] pos) (tCB r t) := by
  intro pins s σ H Q I h
  refine wpAny_Call_Name_kw (ld_blt I hg hm hv ?_ hn hdb)
  exact PyProof.Rows.callWith_builtin1 (thn (ha pos pins s σ H _ I h) fun us s1 ⟨vs, H1, I1, r1, q1⟩ => hc pins s1 σ H1 vs us Q I1 r1 q1) he hpl
/-- T(e, ..), T a built-in type -/
theorem pe_callTy (hc : CallR X (.type T) r) (hg : Gl X x) (hm : X.mg x = none) (hv : bootBuiltins x = some (.type T)) (ha : PA X (e :: es) t) (hn : x ≠ "__name__" := by decide) (hdb : (x == ("__debug__" : Str)) = false := by decide)
    (he : starEach (e :: es) X.env = (false, eval e X.env) :: starEach es X.env := by rfl) (hpl : (backTo pos (starEach es X.env)).any (·.1) = false := by rfl) : PE X (.Call (.Name x p) (e :: es) [] pos) (tCB r t) := by
  intro pins s σ H Q I h
  refine wpAny_Call_Name_kw (ld_blt I hg hm hv ?_ hn hdb)
  exact PyProof.Rows.callWith_type1 (thn (ha pos pins s σ H _ I h) fun us s1 ⟨vs, H1, I1, r1, q1⟩ => hc pins s1 σ H1 vs us Q I1 r1 q1) he hpl
/-- T() -/
theorem pe_callTy0 (hc : CallR X (.type T) r) (hg : Gl X x) (hm : X.mg x = none) (hv : bootBuiltins x = some (.type T)) (hn : x ≠ "__name__" := by decide) (hdb : (x == ("__debug__" : Str)) = false := by decide) :
    PE X (.Call (.Name x p) [] [] pos) (tCB r tNil) := by
  intro pins s σ H Q I h
  refine wpAny_Call_Name_kw (ld_blt I hg hm hv ?_ hn hdb)
  exact PyProof.Rows.callWith_type0 (hc pins s σ H [] [] Q I .nil h)
end
end L2

namespace HT
open PySem PyProof.Rows

/-- t < u of tuples of ints -/
def lexLt : List Int → List Int → Bool
  | [], [] => false
  | [], _ :: _ => true
  | _ :: _, [] => false
  | x :: xs, y :: ys => if x = y then lexLt xs ys else decide (x < y)
theorem lexLt_cons (x y : Int) (xs ys : List Int) : lexLt (x :: xs) (y :: ys) = if x = y then lexLt xs ys else decide (x < y) := rfl
theorem lexLt_nil_nil : lexLt [] [] = false := rfl
theorem lexLt_nil_cons (y : Int) (ys : List Int) : lexLt [] (y :: ys) = true := rfl
theorem lexLt_cons_nil (x : Int) (xs : List Int) : lexLt (x :: xs) [] = false := rfl

theorem eqAt_int (A : Around) (s : Shared) (a : Int) (t : Tok) (c : Int) (u : Tok) : ∃ e, SeqAt.EqAt A s (.int a t) (.int c u) e ∧ (e = true ↔ a = c) :=
  ⟨(a == c), SeqAt.EqAt.int_int a t c u, by simp⟩
theorem rcLt_int (A : Around) (s : Shared) (a : Int) (t : Tok) (c : Int) (u : Tok) (prog : Program) (w : World) (E : Value → Shared → Prop) (Q : Value → Shared → Prop) (h : Q (.bool (decide (a < c))) s) :
    wpAny (model prog w) A (richCompare .Lt (.int a t) (.int c u)) Q E s :=
  (PyProof.Rows.lt_int h : wpAny (model prog w) A (compareOp .Lt (.int a t) (.int c u)) Q E s)

section
open PySem.SeqAt
open PySem.AutoSeq1 (wpAny_loadPart')
open PySem.MeetsSeq PySem.MeetsSeq2 PySem.MeetsSeq3

theorem tuple_lt_ints (l b : Addr) (items items2 : Array Value) (n n2 : Nat) (dd dd2 : Option Addr) (sl sl2 : Array (Option Value)) (ns ms : List Int) (hi : IntsAre items.toList ns) (hj : IntsAre items2.toList ms) :
    Meets (Builtin.«tuple.__lt__» ⟨[.ref l, .ref b], []⟩)
      (fun _ R s => s.heap.get? l = some { cls := .type "tuple", dict := dd, data := .seq items n, slots := sl } ∧ s.heap.get? b = some { cls := .type "tuple", dict := dd2, data := .seq items2 n2, slots := sl2 } ∧
        R (.ok (.ret (.bool (lexLt ns ms)))) s) :=
  .of_wp fun prog w A R s h => by
    obtain ⟨hp, g, d, tk, os⟩ := s; obtain ⟨hl, hb, h⟩ := h
    have f2 := AutoSeq1.sub_tuple_tuple
    have z1 : items.size = ns.length := by rw [← hi.length]; simp
    have z2 : items2.size = ms.length := by rw [← hj.length]; simp
    wp_walk using wpAny_loadPart' hl, wpAny_loadPart' hb, wpAny_forIn_list _ (fun rest b s' => b.1 = none ∧ s' = ⟨hp, g, d, tk, os⟩ ∧ ∃ (vs ws : List Value) (ns' ms' : List Int), rest = vs.zip ws ∧
      IntsAre vs ns' ∧ IntsAre ws ms' ∧ ns'.length + items2.size = ms'.length + items.size ∧ R (.ok (.ret (.bool (lexLt ns' ms')))) ⟨hp, g, d, tk, os⟩) _
    case turn =>
      rintro ⟨y, x⟩ rest b s' ⟨hb', rfl, vs, ws, ns', ms', hz, hvi, hwi, hlen, hR⟩
      cases hvi with
      | nil => rw [List.zip_nil_left] at hz; cases hz
      | cons a t hvi' =>
        cases hwi with
        | nil => rw [List.zip_nil_right] at hz; cases hz
        | cons c u hwi' =>
          rw [List.zip_cons_cons] at hz
          injection hz with hyx hrest
          injection hyx with hy hx
          subst hy hx
          rw [lexLt_cons] at hR
          simp only [List.length_cons] at hlen
          obtain ⟨e, he, hiff⟩ := eqAt_int A.in1 ⟨hp, g, d, tk, os⟩ a t c u
          refine wpAny_bind (he prog w _ _ ?_)
          cases e with
          | true =>
            rw [if_pos (hiff.mp rfl)] at hR
            wp_walk
            exact ⟨rfl, rfl, _, _, _, _, hrest, hvi', hwi', by omega, hR⟩
          | false =>
            rw [if_neg (fun q => absurd (hiff.mpr q) Bool.false_ne_true)] at hR
            have hri := rcLt_int A.in1 ⟨hp, g, d, tk, os⟩ a t c u prog w
            wp_walk using hri
            exact ⟨_, rfl, by simpa using hR⟩
    case fin =>
      rintro ⟨b1, b2⟩ s' ⟨hb', rfl, vs, ws, ns', ms', hz, hvi, hwi, hlen, hR⟩
      simp only at hb'
      subst hb'
      have hv : lexLt ns' ms' = decide (items.size < items2.size) := by
        cases hvi with
        | nil =>
          cases hwi with
          | nil =>
            simp only [List.length_nil] at hlen
            rw [lexLt_nil_nil]
            exact (decide_eq_false (by omega)).symm
          | cons c u hw =>
            simp only [List.length_nil, List.length_cons] at hlen
            rw [lexLt_nil_cons]
            exact (decide_eq_true (by omega)).symm
        | cons a t hv =>
          cases hwi with
          | nil =>
            simp only [List.length_nil, List.length_cons] at hlen
            rw [lexLt_cons_nil]
            exact (decide_eq_false (by omega)).symm
          | cons c u hw =>
            rw [List.zip_cons_cons] at hz
            cases hz
      rw [hv] at hR
      wp_walk
      exact ⟨_, rfl, by simpa [Builtin.Tuple.tupleCompareSizes] using hR⟩
    case h =>
      exact ⟨rfl, rfl, items.toList, items2.toList, ns, ms, rfl, hi, hj, by omega, h⟩
end

section
variable {prog : Program} {w : World} {A : Around} {E : Value → Shared → Prop} {s : Shared}

theorem lt_tupInts {l b : Addr} {items items2 : Array Value} {ns ms : List Int} {Q : Value → Shared → Prop} (hl : IsTup s.heap l items) (hb : IsTup s.heap b items2) (hi : IntsAre items.toList ns) (hj : IntsAre items2.toList ms)
    (hu : A.units < cLine) (h : Q (.bool (lexLt ns ms)) s) : wpAny (model prog w) A (compareOp .Lt (.ref l) (.ref b)) Q E s := by
  obtain ⟨⟨cls, dd, data, sl⟩, ho, hc, n, hd⟩ := id hl
  obtain ⟨⟨cls2, dd2, data2, sl2⟩, ho2, hc2, n2, hd2⟩ := id hb
  simp only at hc hd hc2 hd2
  subst hc hd hc2 hd2
  exact richCompare_meets_room (op := .Lt) ⟨_, ho, rfl⟩ ⟨_, ho2, rfl⟩ PySem.F.slot_tuple_lt PySem.F.entry_tuple_lt (PySem.F.args_tuple_lt_2 _ _) (tuple_lt_ints l b items items2 n n2 dd dd2 sl sl2 ns ms hi hj)
    ⟨ho, ho2, show Value.bool (lexLt ns ms) ≠ Value.notImplemented ∧ Q (.bool (lexLt ns ms)) s from ⟨(fun x => nomatch x), h⟩⟩ hu

/-- t + u, t not empty -/
theorem cat_tup {t b : Addr} {vs ws : List Value} {Q : Value → Shared → Prop} (ht : IsTup s.heap t vs.toArray) (hb : IsTup s.heap b ws.toArray) (hv : vs ≠ [])
    (h1 : ws = [] → Q (.ref t) s) (h2 : ws ≠ [] → Q (.ref s.heap.objs.size) { s with heap := s.heap.push { cls := .type "tuple", data := .seq (vs ++ ws).toArray } })
    (hsz : vs.length + ws.length ≤ sizeLine) : wpAny (model prog w) A (binaryOp .Add (.ref t) (.ref b)) Q E s := by
  obtain ⟨⟨cls, dd, data, sl⟩, ho, hc, n, hd⟩ := id ht
  obtain ⟨⟨cls2, dd2, data2, sl2⟩, ho2, hc2, n2, hd2⟩ := id hb
  simp only at hc hd hc2 hd2
  subst hc hd hc2 hd2
  have e : vs.toArray ++ ws.toArray = (vs ++ ws).toArray := by simp
  by_cases hw : ws = []
  · exact concat_meets ⟨_, ho, rfl⟩ ⟨_, ho2, rfl⟩ noFill_tuple_add seq_tuple_add PySem.F.slot_tuple_add PySem.F.entry_tuple_add (PySem.F.args_tuple_add_2 _ _)
      (tuple_addW1 t b vs.toArray ws.toArray n n2 dd dd2 sl sl2 (by simpa using hv) (by simp [hw])) ⟨ho, ho2, h1 hw⟩
  · refine concat_meets ⟨_, ho, rfl⟩ ⟨_, ho2, rfl⟩ noFill_tuple_add seq_tuple_add PySem.F.slot_tuple_add PySem.F.entry_tuple_add (PySem.F.args_tuple_add_2 _ _)
      (tuple_addW2 t b vs.toArray ws.toArray n n2 dd dd2 sl sl2 (by simpa using hv) (by simpa using hw) (by rw [List.size_toArray, List.size_toArray]; exact hsz)) ⟨ho, ho2, ?_⟩
    rw [e]
    exact h2 hw

/-! ### t[a:b], not the whole -/
/-- a slice's bound as a place among n (d where it is left out) -/
def sIx (n d : Nat) : Option Int → Nat
  | none => d
  | some v => if v < 0 then (v + (n : Int)).toNat else min v.toNat n
theorem sIx_none (n d : Nat) : sIx n d none = d := rfl
theorem sIx_nat (n d k : Nat) : sIx n d (some (k : Int)) = min k n := by
  show (if (k : Int) < 0 then ((k : Int) + (n : Int)).toNat else min (k : Int).toNat n) = min k n
  rw [if_neg (by omega), Int.toNat_natCast]
theorem sIx_le (n d : Nat) (hd : d ≤ n) (o : Option Int) : sIx n d o ≤ n := by
  cases o with
  | none => exact hd
  | some v =>
    show (if v < 0 then (v + (n : Int)).toNat else min v.toNat n) ≤ n
    by_cases hv : v < 0
    · rw [if_pos hv]; omega
    · rw [if_neg hv]; exact Nat.min_le_right _ _
theorem clip_eq (v : Int) (n d : Nat) : (if v < 0 then max (v + (n : Int)) 0 else min v (n : Int)) = ((sIx n d (some v) : Nat) : Int) := by
  show (if v < 0 then max (v + (n : Int)) 0 else min v (n : Int)) = (((if v < 0 then (v + (n : Int)).toNat else min v.toNat n) : Nat) : Int)
  by_cases hv : v < 0
  · simp only [if_pos hv]; omega
  · simp only [if_neg hv]; omega
theorem adjust_gen (lo hi : Option Int) (n : Nat) : Builtin.Slice.sliceAdjust lo hi 1 (n : Int) = (((sIx n 0 lo : Nat) : Int), ((sIx n n hi : Nat) : Int)) := by
  have h1 : ¬ ((1 : Int) < 0) := by omega
  unfold Builtin.Slice.sliceAdjust
  simp only [h1, if_false]
  refine Prod.ext ?_ ?_
  · cases lo with
    | none => rfl
    | some v => exact clip_eq v n 0
  · cases hi with
    | none => rfl
    | some v => exact clip_eq v n n
theorem places_gen (i j : Nat) : Builtin.Slice.slicePlaces (i : Int) (j : Int) 1 = j - i := by
  unfold Builtin.Slice.slicePlaces
  have h1 : (1 : Int) > 0 := by omega
  simp only [h1, if_true, Int.ediv_one]
  split <;> omega
theorem slicePart_ {v : Value} {o : Option Int} {Q : Option Int → Shared → Prop} (p : IsPart v o) (h : Q o s) : wpAny (model prog w) A (Builtin.Slice.slicePartIndex v) Q E s := by
  cases p with
  | none => exact slicePart_none h
  | int i t => exact slicePart_int h
theorem sliceApplied_gen {sl : Addr} {vl vu : Value} {lo hi : Option Int} {n : Nat} {Q : Int × Int × Nat → Shared → Prop} (hs : s.heap.IsSliceOf sl vl vu .none) (pl : IsPart vl lo) (pu : IsPart vu hi)
    (h : Q (((sIx n 0 lo : Nat) : Int), 1, sIx n n hi - sIx n 0 lo) s) : wpAny (model prog w) A (Builtin.Slice.sliceApplied (.ref sl) (pure (n : Int))) Q E s := by
  obtain ⟨os, hos, hcs, hds⟩ := id hs
  unfold Builtin.Slice.sliceApplied Builtin.Slice.sliceFields
  refine wpAny_bind (wpAny_bind (wpAny_field hos hds (x := vl) rfl (wpAny_bind (wpAny_field hos hds (x := vu) rfl (wpAny_bind (wpAny_field hos hds (x := .none) rfl (wpAny_pure ?_)))))))
  refine wpAny_bind (slicePart_none ?_)
  show wpAny _ _ (if ((1 : Int) == 0) = true then _ else _) _ _ s
  rw [if_neg (by decide)]
  refine wpAny_bind (slicePart_ pl (wpAny_bind (slicePart_ pu (wpAny_bind (wpAny_pure ?_)))))
  show wpAny _ _ (match Builtin.Slice.sliceAdjust lo hi 1 (n : Int) with | (lo, hi) => pure (lo, (1 : Int), Builtin.Slice.slicePlaces lo hi 1)) _ _ s
  rw [adjust_gen lo hi n]
  show wpAny _ _ (pure (((sIx n 0 lo : Nat) : Int), (1 : Int), Builtin.Slice.slicePlaces ((sIx n 0 lo : Nat) : Int) ((sIx n n hi : Nat) : Int) 1)) _ _ s
  rw [places_gen]
  exact wpAny_pure h
theorem pick_gen (xs : Array Value) (i k : Nat) : ((List.range k).filterMap fun (m : Nat) => xs[((i : Int) + (m : Int) * 1).toNat]?).toArray = ((xs.toList.drop i).take k).toArray := by
  have e : (fun (m : Nat) => xs[((i : Int) + (m : Int) * 1).toNat]?) = fun m => xs[i + m]? := by
    funext m
    have : ((i : Int) + (m : Int) * 1).toNat = i + m := by omega
    rw [this]
  rw [e]
  have := pick_run xs i k
  rw [List.filterMap_map] at this
  have e2 : ((fun x => xs[x]?) ∘ fun x => i + x) = fun m => xs[i + m]? := rfl
  rw [e2] at this
  rw [this]

theorem getItem_tuple_cut {t sl : Addr} {items : Array Value} {vl vu : Value} {lo hi : Option Int} {Q : Value → Shared → Prop} (ht : IsTup s.heap t items) (hs : s.heap.IsSliceOf sl vl vu .none) (pl : IsPart vl lo) (pu : IsPart vu hi)
    (hw : ¬ (sIx items.size 0 lo = 0 ∧ sIx items.size items.size hi = items.size))
    (h : Q (.ref s.heap.objs.size) { s with heap := s.heap.push { cls := .type "tuple", data := .seq ((items.toList.drop (sIx items.size 0 lo)).take (sIx items.size items.size hi - sIx items.size 0 lo)).toArray } })
    (hsz : items.size ≤ sizeLine) : wpAny (model prog w) A (getItem (.ref t) (.ref sl)) Q E s := by
  have htake : sizeOk (.seq ((items.toList.drop (sIx items.size 0 lo)).take (sIx items.size items.size hi - sIx items.size 0 lo)).toArray) := by
    show ((items.toList.drop (sIx items.size 0 lo)).take (sIx items.size items.size hi - sIx items.size 0 lo)).toArray.size ≤ sizeLine
    rw [List.size_toArray, List.length_take, List.length_drop, Array.length_toList]
    omega
  have hj : sIx items.size items.size hi ≤ items.size := sIx_le _ _ (Nat.le_refl _) hi
  obtain ⟨os, hos, hcs, hds⟩ := id hs
  have hTs : s.TypeIs (.ref sl) "slice" := ⟨os, hos, hcs⟩
  unfold getItem
  try with_reducible refine wpAny_holding ?_
  first | refine wpAny_bind (wpAny_pure ?_) | skip
  refine wpAny_bind (wpAny_sequenceKey ht.typeIs (by decide) ?_)
  refine wpAny_bind (wpAny_callSpecial?_slot (name := Str.ofString "__getitem__") ht.typeIs PyProof.Rows.slot_tuple_getitem
    (wpAny_call_entry PyProof.Rows.slot_tuple_getitem ht.typeIs entry_tuple_getitem ?_ (args_tuple_getitem _ _)))
  show wpAny _ _ (Builtin.Tuple.tupleItemsOf (.ref t) >>= _) _ _ s
  refine wpAny_bind (tupleItemsOf_ ht ?_)
  refine wpAny_bind (wpAny_typeOf hTs ?_)
  rw [if_pos (by decide)]
  refine wpAny_bind (sliceApplied_gen hs pl pu ?_)
  have hno : ¬ ((((sIx items.size 0 lo : Nat) : Int) == 0 && (1 : Int) == 1 && (sIx items.size items.size hi - sIx items.size 0 lo) == items.size) = true) := by
    intro q
    rw [Bool.and_eq_true, Bool.and_eq_true] at q
    have q1 : ((sIx items.size 0 lo : Nat) : Int) = 0 := eq_of_beq q.1.1
    have q2 : sIx items.size items.size hi - sIx items.size 0 lo = items.size := eq_of_beq q.2
    exact hw ⟨by omega, by omega⟩
  show wpAny _ _ (if (((sIx items.size 0 lo : Nat) : Int) == 0 && (1 : Int) == 1 && (sIx items.size items.size hi - sIx items.size 0 lo) == items.size) = true then _ else _) _ _ s
  rw [if_neg hno, pick_gen]
  first
    | exact wpAny_bind (m := Builtin.Tuple.tupleExact _) (wpAny_newObj_type (wpAny_pure ⟨_, rfl, wpAny_pure h⟩) htake)
    | exact wpAny_bind (m := Builtin.Tuple.tupleExact _) (wpAny_newObj_type (wpAny_bind (wpAny_pure (wpAny_pure ⟨_, rfl, wpAny_pure h⟩))) htake)
    | exact wpAny_bind (wpAny_bind (m := Builtin.Tuple.tupleExact _) (wpAny_newObj_type (wpAny_pure (wpAny_pure ⟨_, rfl, wpAny_pure h⟩)) htake))
    | exact wpAny_bind (wpAny_bind (m := Builtin.Tuple.tupleExact _) (wpAny_newObj_type (wpAny_pure ⟨_, rfl, wpAny_pure h⟩) htake))
end
end HT

namespace L2
open PySem PySem.Spec PyProof.Rows

/-! ### the parts of a slice -/
abbrev TO := St → Hp → (Option Int → Hp → Prop) → Prop
/-- a slice's part (left out, or an int) -/
def PO (X : Cx) (e : Option Expr) (t : TO) : Prop :=
  ∀ (pins : List (Addr × Obj)) (s : Shared) (σ : St) (H : Hp) (Q : Option Int → Hp → Prop), Inv X pins σ H s → t σ H Q →
    wpAny (model X.prog X.w) X.A (evalPart e X.env) (fun u s' => ∃ o H', Inv X pins σ H' s' ∧ IsPart u o ∧ Q o H') X.xe s
def tNoPart : TO := fun _ H Q => Q none H
def tPart (t : TE) : TO := fun σ H Q => t σ H fun x H1 => ∃ i, x = .int i ∧ Q (some i) H1

theorem intsAre_of {ns : List Int} : ∀ {us : List Value}, Vals (ns.map V.int) us → IntsAre us ns := by
  induction ns with
  | nil => intro us r; rw [List.map_nil] at r; cases r; exact .nil
  | cons n ns ih =>
    intro us r
    rw [List.map_cons] at r
    cases r with
    | cons r1 r2 =>
      obtain ⟨t, e⟩ := r1
      subst e
      exact .cons n t (ih r2)

section
variable {X : Cx} {e : Expr} {te : TE} {lo hi : Option Expr} {tl th : TO} {pos p2 : Pos}

theorem po_none : PO X none tNoPart := by
  intro pins s σ H Q I h
  rw [evalPart_none]
  exact wpAny_pure ⟨none, H, I, .none, h⟩
theorem po_some (h : PE X e te) : PO X (some e) (tPart te) := by
  intro pins s σ H Q I hw
  rw [evalPart_some]
  refine thn (h pins s σ H _ I hw) fun u s1 ⟨x, H1, I1, r1, q1⟩ => ?_
  obtain ⟨i, rfl, q⟩ := q1
  obtain ⟨t, rfl⟩ := r1
  exact ⟨some i, H1, I1, .int i t, q⟩

/-- what a slice of a value is, by values: the slice object stands at sl -/
def SlR (X : Cx) (r : V → Option Int → Option Int → Hp → VK → Prop) : Prop :=
  ∀ (pins : List (Addr × Obj)) (s : Shared) (σ : St) (H : Hp) (x : V) (v vl vu : Value) (lo hi : Option Int) (sl : Addr) (Q : VK), Inv X pins σ H s → RelV x v → s.heap.IsSliceOf sl vl vu .none → IsPart vl lo → IsPart vu hi → r x lo hi H Q →
    ∃ T id, typeLookup (.type T) "__getitem__" = pure (some (.builtin id)) ∧ s.TypeIs v T ∧ wpAny (model X.prog X.w) X.A (getItem v (.ref sl)) (EP X pins σ Q) X.xe s
theorem SlR.or {r r' : V → Option Int → Option Int → Hp → VK → Prop} (h : SlR X r) (h' : SlR X r') : SlR X (fun x lo hi H Q => r x lo hi H Q ∨ r' x lo hi H Q) := by
  intro pins s σ H x v vl vu lo hi sl Q I rx hs pl pu q
  rcases q with q | q
  · exact h pins s σ H x v vl vu lo hi sl Q I rx hs pl pu q
  · exact h' pins s σ H x v vl vu lo hi sl Q I rx hs pl pu q
def tSl (r : V → Option Int → Option Int → Hp → VK → Prop) (te : TE) (tl th : TO) : TE := fun σ H Q => te σ H fun x H1 => tl σ H1 fun l H2 => th σ H2 fun u H3 => r x l u H3 Q
/-- a[lo:hi], any a -/
theorem pe_slice {r : V → Option Int → Option Int → Hp → VK → Prop} (hr : SlR X r) (he : PE X e te) (hl : PO X lo tl) (hu : PO X hi th) : PE X (.Subscript e (.Slice lo hi none p2) pos) (tSl r te tl th) := by
  intro pins s σ H Q I h
  refine Subscript_ (thn (he pins s σ H _ I h) fun v s1 ⟨x, H1, I1, r1, q1⟩ => ?_)
  refine wpAny_Slice (thn (hl pins s1 σ H1 _ I1 q1) fun vl s2 ⟨l, H2, I2, pl, q2⟩ => thn (hu pins s2 σ H2 _ I2 q2) fun vu s3 ⟨u, H3, I3, pu, q3⟩ => ?_)
  rw [evalPart_none]
  refine wpAny_pure ?_
  have I4 : Inv X pins σ H3 { s3 with heap := s3.heap.push { cls := .type "slice", data := .fields #[vl, vu, .none] } } := I3.kept (t' := s3.toks) fun b ob q => Heap.get?_push_of_some _ q
  obtain ⟨T, id, hT, ht, hg⟩ := hr pins { s3 with heap := s3.heap.push { cls := .type "slice", data := .fields #[vl, vu, .none] } } σ H3 x v vl vu l u s3.heap.objs.size Q I4 r1 (Heap.IsSliceOf.new ..) pl pu q3
  show wpAny (model X.prog X.w) X.A (subscriptTail e (.Slice lo hi none p2) v (.ref s3.heap.objs.size)) (EP X pins σ Q) X.xe { s3 with heap := s3.heap.push { cls := .type "slice", data := .fields #[vl, vu, .none] } }
  exact tail_any (ops := [.ref s3.heap.objs.size, v]) ht hT hg (by with_unfolding_all rfl)

/-- the items of xs[lo:hi] -/
def cutV (xs : List V) (lo hi : Option Int) : List V := (xs.drop (HT.sIx xs.length 0 lo)).take (HT.sIx xs.length xs.length hi - HT.sIx xs.length 0 lo)
theorem cutV_length (xs : List V) (lo hi : Option Int) : (cutV xs lo hi).length ≤ xs.length := by
  unfold cutV
  rw [List.length_take, List.length_drop]
  omega
/-- t[lo:hi], not the whole of it (the whole would be t itself) -/
def rSlT (K : PySem.W.Frag) : V → Option Int → Option Int → Hp → VK → Prop := fun x lo hi H Q => ∃ a xs, x = .ref a ∧ SqT K H a xs ∧
  ¬ (HT.sIx xs.length 0 lo = 0 ∧ HT.sIx xs.length xs.length hi = xs.length) ∧ ∀ p, H p = none → Q (.ref p) (upd H p (.tup (cutV xs lo hi)))
theorem sl_tup : SlR X (rSlT X.K) := by
  intro pins s σ H x v vl vu lo hi sl Q I rx hs pl pu h
  obtain ⟨a, xs, rfl, hx, hw, q⟩ := h
  cases rx
  obtain ⟨its, r, ht, hz⟩ := I.tuple hx
  have hlen : its.toArray.size = xs.length := by rw [List.size_toArray]; exact r.length.symm
  refine ⟨"tuple", _, PyProof.Rows.slot_tuple_getitem.lookup, ht.typeIs, ?_⟩
  refine HT.getItem_tuple_cut ht hs pl pu (by rw [hlen]; exact hw) ?_ (by rw [hlen]; exact hz)
  rw [hlen]
  refine ⟨.ref s.heap.objs.size, _, I.laid (t' := s.toks) (o := .tup (cutV xs lo hi)) (fun b ob q => Heap.get?_push_of_some _ q) (Nat.le_refl _) ?_, rfl, q _ (I.hok.fresh (Nat.le_refl _))⟩
  exact ⟨Nat.le_trans (cutV_length xs lo hi) hz, _, (r.drop (HT.sIx xs.length 0 lo)).take (HT.sIx xs.length xs.length hi - HT.sIx xs.length 0 lo), IsTup.new _ _⟩

/-! ### t < u, t + u -/
def rLtT (K : PySem.W.Frag) : R2 := fun x y H Q => ∃ a b ns ms, x = .ref a ∧ y = .ref b ∧ SqT K H a (ns.map V.int) ∧ SqT K H b (ms.map V.int) ∧ Q (.bl (HT.lexLt ns ms)) H
theorem op_ltT (hu : X.A.units < cLine) : OpR X (compareOp .Lt) (rLtT X.K) := by
  intro pins s σ H x y v u Q I rx ry h
  obtain ⟨a, b, ns, ms, rfl, rfl, ha, hb, q⟩ := h
  cases rx
  cases ry
  obtain ⟨its, r1, p1, _⟩ := I.tuple ha
  obtain ⟨its2, r2, p2, _⟩ := I.tuple hb
  have i1 : IntsAre its.toArray.toList ns := intsAre_of r1
  have i2 : IntsAre its2.toArray.toList ms := intsAre_of r2
  exact HT.lt_tupInts p1 p2 i1 i2 hu ⟨.bl (HT.lexLt ns ms), H, I, rfl, q⟩
/-- t + u, t not empty: u empty gives t itself -/
def rCatT (K : PySem.W.Frag) : R2 := fun x y H Q => ∃ a b xs ys, x = .ref a ∧ y = .ref b ∧ SqT K H a xs ∧ SqT K H b ys ∧ xs ≠ [] ∧ xs.length + ys.length ≤ sizeLine ∧
  (ys = [] → Q (.ref a) H) ∧ (ys ≠ [] → ∀ p, H p = none → Q (.ref p) (upd H p (.tup (xs ++ ys))))
theorem Vals.nil_iff {xs : List V} {us : List Value} (r : Vals xs us) : us = [] ↔ xs = [] := by
  cases r with
  | nil => simp
  | cons _ _ => simp
theorem op_catT : OpR X (binaryOp .Add) (rCatT X.K) := by
  intro pins s σ H x y v u Q I rx ry h
  obtain ⟨a, b, xs, ys, rfl, rfl, ha, hb, hx, hz, q1, q2⟩ := h
  cases rx
  cases ry
  obtain ⟨its, r1, p1, _⟩ := I.tuple ha
  obtain ⟨its2, r2, p2, _⟩ := I.tuple hb
  refine HT.cat_tup p1 p2 (fun z => hx (r1.nil_iff.mp z)) (fun z => ⟨.ref a, H, I, rfl, q1 (r2.nil_iff.mp z)⟩) (fun z => ?_) (by rw [← r1.length, ← r2.length]; exact hz)
  refine ⟨.ref s.heap.objs.size, _, I.laid (t' := s.toks) (o := .tup (xs ++ ys)) (fun b ob q => Heap.get?_push_of_some _ q) (Nat.le_refl _) ?_, rfl, q2 (fun w => z (r2.nil_iff.mpr w)) _ (I.hok.fresh (Nat.le_refl _))⟩
  exact ⟨by rw [List.length_append]; exact hz, _, r1.append r2, IsTup.new _ _⟩
/-- tuple(t) -/
theorem call_tupleT : CallR X (.type "tuple") (fun xs H Q => ∃ a ys, xs = [.ref a] ∧ SqT X.K H a ys ∧ Q (.ref a) H) := by
  intro pins s σ H xs us Q I r h
  obtain ⟨a, ys, rfl, ha, q⟩ := h
  obtain ⟨u, rfl, ru⟩ := vals1 r
  cases ru
  obtain ⟨its, _, p1, _⟩ := I.tuple ha
  exact call_tuple_same (items := its.toArray) p1 ⟨.ref a, H, I, rfl, q⟩
end
end L2

namespace L2
open PySem PySem.Spec PyProof.Rows

/-! ### places -/
/-- the place that an index of any sign means -/
def ixN (n : Nat) (i : Int) : Option Nat := if 0 ≤ i then (if i < n then some i.toNat else none) else if -(n : Int) ≤ i then some (i + n).toNat else none
def atI {α : Type} (xs : List α) (i : Int) : Option α := (ixN xs.length i).bind fun j => xs[j]?
theorem ixN_seq {n : Nat} {i : Int} {j : Nat} (h : ixN n i = some j) : seqIndex? i n = some j ∧ j < n ∧ -(n : Int) ≤ i ∧ i < n := by
  unfold ixN at h
  by_cases h0 : 0 ≤ i
  · rw [if_pos h0] at h
    by_cases h1 : i < n
    · rw [if_pos h1] at h
      have e : i.toNat = j := Option.some.inj h
      exact ⟨by rw [seqIndex_of h0 h1, e], by omega, by omega, h1⟩
    · rw [if_neg h1] at h; cases h
  · rw [if_neg h0] at h
    by_cases h1 : -(n : Int) ≤ i
    · rw [if_pos h1] at h
      have e : (i + n).toNat = j := Option.some.inj h
      exact ⟨by rw [seqIndex_neg (by omega) h1, e], by omega, h1, by omega⟩
    · rw [if_neg h1] at h; cases h
theorem atI_get {α : Type} {xs : List α} {i : Int} {v : α} (h : atI xs i = some v) : ∃ j, seqIndex? i xs.length = some j ∧ xs[j]? = some v ∧ j < xs.length ∧ -(xs.length : Int) ≤ i ∧ i < xs.length := by
  unfold atI at h
  cases e : ixN xs.length i with
  | none => rw [e] at h; cases h
  | some j =>
    rw [e] at h
    obtain ⟨h1, h2, h3, h4⟩ := ixN_seq e
    exact ⟨j, h1, h, h2, h3, h4⟩
theorem atI_nat {α : Type} {xs : List α} {j : Nat} {v : α} (h : xs[j]? = some v) : atI xs (j : Int) = some v := by
  have hj : j < xs.length := (List.getElem?_eq_some_iff.mp h).1
  have e : ixN xs.length (j : Int) = some j := by
    unfold ixN
    rw [if_pos (by omega), if_pos (by omega)]; simp
  unfold atI; rw [e]; exact h
theorem atI_last {α : Type} (xs : List α) (v : α) : atI (xs ++ [v]) (-1) = some v := by
  have hl : (xs ++ [v]).length = xs.length + 1 := by simp
  have e : ixN (xs ++ [v]).length (-1) = some xs.length := by
    unfold ixN
    rw [hl, if_neg (by decide), if_pos (by omega)]
    congr 1
    omega
  unfold atI
  rw [e]
  show (xs ++ [v])[xs.length]? = some v
  simp

/-! ### what may be subscripted -/
/-- what stands as an index of a plain subscript -/
def PlainIx (b : Expr) : Prop := ∀ o i, subscripted b false o i = operate [o, i] (getItem o i)
/-- a subscript by values -/
def IxR (X : Cx) (r : R2) : Prop :=
  ∀ (value slice : Expr) (pins : List (Addr × Obj)) (s : Shared) (σ : St) (H : Hp) (x y : V) (v u : Value) (Q : VK), Inv X pins σ H s → RelV x v → RelV y u → r x y H Q →
    subscripted slice false v u = operate [v, u] (getItem v u) → wpAny (model X.prog X.w) X.A (subscriptTail value slice v u) (EP X pins σ Q) X.xe s
/-- a call of a builtin's method by values: the receiver, the arguments -/
def MtR (X : Cx) (id : String) (r : V → List V → Hp → VK → Prop) : Prop :=
  ∀ (pins : List (Addr × Obj)) (s : Shared) (σ : St) (H : Hp) (x : V) (xs : List V) (v : Value) (us : List Value) (Q : VK), Inv X pins σ H s → RelV x v → Vals xs us → r x xs H Q →
    wpAny (model X.prog X.w) X.A (call (.builtin id) (v :: us)) (EP X pins σ Q) X.xe s
section
variable {X : Cx} {a b : Expr} {ta tb : TE} {pos : Pos}
theorem IxR.or {r r' : R2} (h : IxR X r) (h' : IxR X r') : IxR X (fun x y H Q => r x y H Q ∨ r' x y H Q) := by
  intro value slice pins s σ H x y v u Q I rx ry q hs
  rcases q with q | q
  · exact h value slice pins s σ H x y v u Q I rx ry q hs
  · exact h' value slice pins s σ H x y v u Q I rx ry q hs
theorem MtR.or {id : String} {r r' : V → List V → Hp → VK → Prop} (h : MtR X id r) (h' : MtR X id r') : MtR X id (fun x xs H Q => r x xs H Q ∨ r' x xs H Q) := by
  intro pins s σ H x xs v us Q I rx rs q
  rcases q with q | q
  · exact h pins s σ H x xs v us Q I rx rs q
  · exact h' pins s σ H x xs v us Q I rx rs q
/-- a[b] -/
theorem pe_ix {r : R2} (hr : IxR X r) (ha : PE X a ta) (hb : PE X b tb) (hs : PlainIx b) : PE X (.Subscript a b pos) (tOp r ta tb) := by
  intro pins s σ H Q I h
  exact Subscript_ (binT ha hb I h fun v u s2 x y H2 I2 rx ry q => hr a b pins s2 σ H2 x y v u Q I2 rx ry q (hs _ _))

def rIxL (K : PySem.W.Frag) : R2 := fun x y H Q => ∃ p xs i v, x = .ref p ∧ y = .int i ∧ SqL K H p xs ∧ atI xs i = some v ∧ Q v H
def rIxT (K : PySem.W.Frag) : R2 := fun x y H Q => ∃ p xs i v, x = .ref p ∧ y = .int i ∧ SqT K H p xs ∧ atI xs i = some v ∧ Q v H
def rIxS : R2 := fun x y H Q => ∃ z i c, x = .str z ∧ y = .int i ∧ z.length ≤ sizeLine ∧ atI z.cps.toList i = some c ∧ Q (.str ⟨#[c]⟩) H
theorem ix_list : IxR X (rIxL X.K) := by
  intro value slice pins s σ H x y v u Q I rx ry h hs
  obtain ⟨p, xs, i, z, rfl, rfl, hq, he, q⟩ := h
  cases rx
  obtain ⟨t, rfl⟩ := ry
  obtain ⟨its, r, pl, hz⟩ := I.list hq
  obtain ⟨j, h1, h2, h3, h4, h5⟩ := atI_get he
  obtain ⟨w, ew, rw'⟩ := r.get h2
  have hl := r.length
  have hn := line63
  have fin : EP X pins σ Q w s := ⟨z, H, I, rw', q⟩
  by_cases h0 : 0 ≤ i
  · have hj : i.toNat = j := by
      rw [seqIndex_of h0 h5] at h1
      exact Option.some.inj h1
    exact item_listR pl.isList h0 (by omega) (by rw [hj]; simpa using ew) fin hs
  · have hj : (i + (its.toArray.size : Int)).toNat = j := by
      rw [seqIndex_neg (by omega) h4] at h1
      rw [List.size_toArray, ← hl]
      exact Option.some.inj h1
    exact subscriptTail_builtinR (x := w) pl.isList.typeIs slot_list_getitem.lookup
      (wpAny_getItem_list_neg (Q := fun r s' => r = w ∧ EP X pins σ Q r s') pl.isList (by omega) (by rw [List.size_toArray] <;> omega) (by omega) (by rw [hj]; simpa using ew) ⟨rfl, fin⟩) hs
theorem ix_tup : IxR X (rIxT X.K) := by
  intro value slice pins s σ H x y v u Q I rx ry h hs
  obtain ⟨p, xs, i, z, rfl, rfl, hq, he, q⟩ := h
  cases rx
  obtain ⟨t, rfl⟩ := ry
  obtain ⟨its, r, pl, hz⟩ := I.tuple hq
  obtain ⟨j, h1, h2, h3, h4, h5⟩ := atI_get he
  obtain ⟨w, ew, rw'⟩ := r.get h2
  have hl := r.length
  have hn := line63
  have fin : EP X pins σ Q w s := ⟨z, H, I, rw', q⟩
  exact subscriptTail_builtinR (x := w) pl.typeIs slot_tuple_getitem.lookup
    (getItem_tuple (j := j) (Q := fun r s' => r = w ∧ EP X pins σ Q r s') pl (by omega) (by omega) (by rw [List.size_toArray, ← hl]; exact h1) (by simpa using ew) ⟨rfl, fin⟩) hs
theorem ix_str : IxR X rIxS := by
  intro value slice pins s σ H x y v u Q I rx ry h hs
  obtain ⟨z, i, c, rfl, rfl, hz, he, q⟩ := h
  obtain ⟨t, rfl⟩ := rx
  obtain ⟨t', rfl⟩ := ry
  obtain ⟨j, h1, h2, h3, h4, h5⟩ := atI_get he
  have hl : z.cps.toList.length = z.length := by simp [Str.length]
  rw [hl] at h1 h4 h5
  have hn := line63
  exact tail_any (typeIs_str s z t) slot_str_getitem.lookup (getItem_str (c := c) (by
    have e1 : decide (i < -(2 ^ 63 : Int)) = false := decide_eq_false (by omega)
    have e2 : decide (i ≥ 2 ^ 63) = false := decide_eq_false (by omega)
    rw [e1, e2, Bool.or_false]) (by rw [h1]; simpa using h2) ⟨.str ⟨#[c]⟩, H, I.tok _, ⟨_, rfl⟩, q⟩) hs
/-- list, tuple or str -/
def rIx (K : PySem.W.Frag) : R2 := fun x y H Q => rIxL K x y H Q ∨ rIxT K x y H Q ∨ rIxS x y H Q
theorem ix_seq : IxR X (rIx X.K) := ix_list.or (ix_tup.or ix_str)

/-! ### xs[i] = v, any sign -/
/-- the list's object behind a store -/
theorem mapSeq_set (its : List Value) (n j : Nat) (u : Value) : Obj.mapSeq (·.setIfInBounds j u) { cls := .type "list", data := .seq its.toArray n } = { cls := .type "list", data := .seq (its.set j u).toArray n } := by
  simp [Obj.mapSeq]
theorem Inv.lst {pins : List (Addr × Obj)} {σ : St} {H : Hp} {s : Shared} {p : Addr} {xs : List V} (I : Inv X pins σ H s) (h : H p = some (.lst xs)) :
    ∃ (its : List Value) (n : Nat), Vals xs its ∧ s.heap.get? p = some { cls := .type "list", data := .seq its.toArray n } ∧ xs.length ≤ sizeLine := by
  obtain ⟨z, its, n, r, e⟩ := I.hok p _ h
  exact ⟨its, n, r, e, z⟩
/-- the list at p is written by an update of its object -/
theorem Inv.lstUpd {pins : List (Addr × Obj)} {σ : St} {H : Hp} {s : Shared} {p : Addr} {xs ys : List V} {its its' : List Value} {n n' : Nat} {f : Obj → Obj} (I : Inv X pins σ H s) (h : H p = some (.lst xs))
    (ho : s.heap.get? p = some { cls := .type "list", data := .seq its.toArray n }) (hf : f { cls := .type "list", data := .seq its.toArray n } = { cls := .type "list", data := .seq its'.toArray n' }) (r : Vals ys its') (hz : ys.length ≤ sizeLine) (t : Nat) :
    Inv X pins σ (upd H p (.lst ys)) { s with heap := s.heap.update p f, toks := t } := by
  have e : (s.heap.update p f).get? p = some { cls := .type "list", data := .seq its'.toArray n' } := by
    rw [Heap.get?_update_self f ho (by rw [hf] <;> rfl), hf]
  refine I.write (x := p) (e := p) (by rw [h]; trivial) (.inl rfl) (fun b u hb q => (Heap.get?_update_other _ _ (Ne.symm hb)).trans q) ⟨_, e⟩ ?_
  exact ⟨hz, its', n', r, e⟩
def rSetL : V → V → V → Hp → (Hp → Prop) → Prop := fun o i v H Q => ∃ p xs k j, o = .ref p ∧ i = .int k ∧ H p = some (.lst xs) ∧ ixN xs.length k = some j ∧ Q (upd H p (.lst (xs.set j v)))
theorem set_list : PSet X rSetL := by
  intro pins s σ H o i v ov iv u Q I ro ri rv h
  obtain ⟨p, xs, k, j, rfl, rfl, hp, hj, q⟩ := h
  cases ro
  obtain ⟨t, rfl⟩ := ri
  obtain ⟨its, n, r, ho, hz⟩ := I.lst hp
  obtain ⟨h1, h2, h3, h4⟩ := ixN_seq hj
  have hl := r.length
  have hn := line63
  have I' : Inv X pins σ (upd H p (.lst (xs.set j v))) { s with heap := s.heap.update p (Obj.mapSeq (·.setIfInBounds j u)) } :=
    I.lstUpd hp ho (mapSeq_set its n j u) (r.set rv j) (by rw [List.length_set]; exact hz) s.toks
  by_cases h0 : 0 ≤ k
  · have hk : k.toNat = j := by
      rw [seqIndex_of h0 h4] at h1
      exact Option.some.inj h1
    exact PySem.W.ki_setAt ho h0 (by omega) (by rw [List.size_toArray, ← hl]; exact h4) (by rw [hk]; exact ⟨_, I', q⟩)
  · have hk : (k + (its.toArray.size : Int)).toNat = j := by
      rw [seqIndex_neg (by omega) h3] at h1
      rw [List.size_toArray, ← hl]
      exact Option.some.inj h1
    exact PySem.W.ki_setBack ho (by omega) (by rw [List.size_toArray, ← hl]; exact h3) (by omega) (by rw [hk]; exact ⟨_, I', q⟩)

/-! ### slices -/
theorem slice_bounds (lo hi : Option Int) (n : Nat) : (sliceBounds lo hi none n).1 = ((HT.sIx n 0 lo : Nat) : Int) ∧ (sliceBounds lo hi none n).2.1 = ((HT.sIx n n hi : Nat) : Int) ∧ (sliceBounds lo hi none n).2.2 = 1 := by
  refine ⟨?_, ?_, rfl⟩
  · cases lo with
    | none => simp [sliceBounds, HT.sIx]
    | some i =>
      simp only [sliceBounds, HT.sIx, Option.getD_none, show (1 : Int) > 0 by decide, if_true]
      by_cases h : i < 0
      · simp only [h, if_true] <;> omega
      · simp only [h, if_false] <;> omega
  · cases hi with
    | none => simp [sliceBounds, HT.sIx]
    | some i =>
      simp only [sliceBounds, HT.sIx, Option.getD_none, show (1 : Int) > 0 by decide, if_true]
      by_cases h : i < 0
      · simp only [h, if_true] <;> omega
      · simp only [h, if_false] <;> omega
theorem slicePick_cut (its : List Value) (lo hi : Option Int) : slicePick its.toArray lo hi none = ((its.drop (HT.sIx its.length 0 lo)).take (HT.sIx its.length its.length hi - HT.sIx its.length 0 lo)).toArray := by
  obtain ⟨h1, h2, h3⟩ := slice_bounds lo hi its.toArray.size
  unfold slicePick
  rw [h1, h2, h3]
  simp only [sliceRange_one, pick_run, List.size_toArray] <;> rfl
/-- xs[lo:hi] of a list: a new list -/
def rSlL (K : PySem.W.Frag) : V → Option Int → Option Int → Hp → VK → Prop := fun x lo hi H Q => ∃ a xs, x = .ref a ∧ SqL K H a xs ∧ ∀ p, H p = none → Q (.ref p) (upd H p (.lst (cutV xs lo hi)))
theorem sl_list : SlR X (rSlL X.K) := by
  intro pins s σ H x v vl vu lo hi sl Q I rx hs pl pu h
  obtain ⟨a, xs, rfl, hx, q⟩ := h
  cases rx
  obtain ⟨its, r, ht, hz⟩ := I.list hx
  have hlen := r.length
  refine ⟨"list", _, slot_list_getitem.lookup, ht.isList.typeIs, ?_⟩
  refine wpAny_getItem_list_slice ht.isList hs pl pu .none (by simp) ?_ (by rw [List.size_toArray] <;> omega)
  rw [slicePick_cut, ← hlen]
  refine ⟨.ref s.heap.objs.size, _, I.laid (t' := s.toks) (o := .lst (cutV xs lo hi)) (fun b ob q => Heap.get?_push_of_some _ q) (Nat.le_refl _) ?_, rfl, q _ (I.hok.fresh (Nat.le_refl _))⟩
  exact ⟨Nat.le_trans (cutV_length xs lo hi) hz, _, 0, (r.drop (HT.sIx xs.length 0 lo)).take (HT.sIx xs.length xs.length hi - HT.sIx xs.length 0 lo), Heap.get?_push_size _ rfl⟩

/-! ### in, not in: flat items -/
def flatV : V → Bool
  | .non => true
  | .bl _ => true
  | .int _ => true
  | .str _ => true
  | _ => false
/-- == of flat values -/
def eqV : V → V → Bool
  | .non, .non => true
  | .bl a, .bl b => a == b
  | .bl a, .int b => (if a then 1 else 0) == b
  | .int a, .bl b => a == (if b then 1 else 0)
  | .int a, .int b => a == b
  | .str a, .str b => a == b
  | _, _ => false
theorem eqAt_V {A : Around} {s : Shared} {y x : V} {u v : Value} (ry : RelV y u) (rx : RelV x v) (fy : flatV y = true) (fx : flatV x = true) : SeqAt.EqAt A s u v (eqV y x) := by
  cases y with
  | non =>
    cases ry
    cases x with
    | non => cases rx; exact SeqAt.EqAt.same _
    | bl b => cases rx; exact SeqAt.EqAt.none_bool b
    | int b => obtain ⟨t, rfl⟩ := rx; exact SeqAt.EqAt.none_int b t
    | str b => obtain ⟨t, rfl⟩ := rx; exact SeqAt.EqAt.none_str b t
    | _ => exact absurd (show false = true from fx) Bool.false_ne_true
  | bl a =>
    cases ry
    cases x with
    | non => cases rx; exact SeqAt.EqAt.bool_none a
    | bl b => cases rx; exact SeqAt.EqAt.bool_bool a b
    | int b => obtain ⟨t, rfl⟩ := rx; exact SeqAt.EqAt.bool_int a b t
    | str b => obtain ⟨t, rfl⟩ := rx; exact SeqAt.EqAt.bool_str a b t
    | _ => exact absurd (show false = true from fx) Bool.false_ne_true
  | int a =>
    obtain ⟨t', rfl⟩ := ry
    cases x with
    | non => cases rx; exact SeqAt.EqAt.int_none a t'
    | bl b => cases rx; exact SeqAt.EqAt.int_bool a t' b
    | int b => obtain ⟨t, rfl⟩ := rx; exact SeqAt.EqAt.int_int a t' b t
    | str b => obtain ⟨t, rfl⟩ := rx; exact SeqAt.EqAt.int_str a t' b t
    | _ => exact absurd (show false = true from fx) Bool.false_ne_true
  | str a =>
    obtain ⟨t', rfl⟩ := ry
    cases x with
    | non => cases rx; exact SeqAt.EqAt.str_none a t'
    | bl b => cases rx; exact SeqAt.EqAt.str_bool a t' b
    | int b => obtain ⟨t, rfl⟩ := rx; exact SeqAt.EqAt.str_int a t' b t
    | str b => obtain ⟨t, rfl⟩ := rx; exact SeqAt.EqAt.str_str a t' b t
    | _ => exact absurd (show false = true from fx) Bool.false_ne_true
  | _ => exact absurd (show false = true from fy) Bool.false_ne_true
/-- the items' answers, read off the values (a value's own answer does not lean on its token) -/
def eqU (x : V) (u : Value) : Bool := match u with
  | .none => eqV .non x
  | .bool b => eqV (.bl b) x
  | .int i _ => eqV (.int i) x
  | .str z _ => eqV (.str z) x
  | _ => false
theorem eqU_of {x y : V} {u : Value} (r : RelV y u) (f : flatV y = true) : eqU x u = eqV y x := by
  cases y with
  | non => cases r; rfl
  | bl b => cases r; rfl
  | int i => obtain ⟨t, rfl⟩ := r; rfl
  | str z => obtain ⟨t, rfl⟩ := r; rfl
  | _ => exact absurd (show false = true from f) Bool.false_ne_true
theorem any_eqU {x : V} : ∀ {xs : List V} {us : List Value}, Vals xs us → xs.all flatV = true → us.any (eqU x) = xs.any fun y => eqV y x
  | _, _, .nil, _ => rfl
  | y :: xs, u :: us, .cons r t, f => by
    rw [List.all_cons, Bool.and_eq_true] at f
    rw [List.any_cons, List.any_cons, eqU_of r f.1, any_eqU t f.2]
theorem mem_eqAt {A : Around} {s : Shared} {x : V} {v : Value} (rx : RelV x v) (fx : flatV x = true) : ∀ {xs : List V} {us : List Value}, Vals xs us → xs.all flatV = true → ∀ u ∈ us, SeqAt.EqAt A s u v (eqU x u)
  | _, _, .nil, _ => fun u hu => by cases hu
  | y :: xs, u :: us, .cons r t, f => fun u' hu => by
    rw [List.all_cons, Bool.and_eq_true] at f
    rcases List.mem_cons.mp hu with rfl | hu
    · rw [eqU_of r f.1]; exact eqAt_V r rx f.1 fx
    · exact mem_eqAt rx fx t f.2 u' hu
def inV (x : V) (xs : List V) : Bool := xs.any fun y => eqV y x
/-- x in a list or tuple of flat items -/
def rIn (K : PySem.W.Frag) (neg : Bool) : R2 := fun x y H Q => ∃ p xs, y = .ref p ∧ (SqL K H p xs ∨ SqT K H p xs) ∧ flatV x = true ∧ xs.all flatV = true ∧ Q (.bl (if neg then !inV x xs else inV x xs)) H
theorem op_in_seq : OpR X (compareOp .In) (rIn X.K false) := by
  intro pins s σ H x y v u Q I rx ry h
  obtain ⟨p, xs, rfl, hq, fx, fs, q⟩ := h
  cases ry
  rcases hq with hq | hq
  · obtain ⟨its, r, pl, hz⟩ := I.list hq
    refine SeqAt.in_listAt (eqU x) pl.isList (fun w hw => mem_eqAt rx fx r fs w (by simpa using hw)) ⟨.bl _, H, I, rfl, ?_⟩
    rw [show its.toArray.any (eqU x) = its.any (eqU x) by simp, any_eqU r fs]
    exact q
  · obtain ⟨its, r, pl, hz⟩ := I.tuple hq
    refine SeqAt.in_tupleAt (eqU x) pl (fun w hw => mem_eqAt rx fx r fs w (by simpa using hw)) ⟨.bl _, H, I, rfl, ?_⟩
    rw [show its.toArray.any (eqU x) = its.any (eqU x) by simp, any_eqU r fs]
    exact q
theorem op_notIn_seq : OpR X (compareOp .NotIn) (rIn X.K true) := by
  intro pins s σ H x y v u Q I rx ry h
  obtain ⟨p, xs, rfl, hq, fx, fs, q⟩ := h
  cases ry
  rcases hq with hq | hq
  · obtain ⟨its, r, pl, hz⟩ := I.list hq
    refine SeqAt.notIn_listAt (eqU x) pl.isList (fun w hw => mem_eqAt rx fx r fs w (by simpa using hw)) ⟨.bl _, H, I, rfl, ?_⟩
    rw [show its.toArray.any (eqU x) = its.any (eqU x) by simp, any_eqU r fs]
    exact q
  · obtain ⟨its, r, pl, hz⟩ := I.tuple hq
    refine SeqAt.notIn_tupleAt (eqU x) pl (fun w hw => mem_eqAt rx fx r fs w (by simpa using hw)) ⟨.bl _, H, I, rfl, ?_⟩
    rw [show its.toArray.any (eqU x) = its.any (eqU x) by simp, any_eqU r fs]
    exact q
theorem op_notIn_str : OpR X (compareOp .NotIn) (fun x y H Q => ∃ i j, x = .str i ∧ y = .str j ∧ Q (.bl (!(!(Builtin.Str.occurrences j i 0 j.length 1).isEmpty))) H) := by
  intro pins s σ H x y v u Q I rx ry h
  obtain ⟨i, j, rfl, rfl, q⟩ := h
  obtain ⟨t, rfl⟩ := rx
  obtain ⟨t', rfl⟩ := ry
  exact notIn_str ⟨.bl _, H, I, rfl, q⟩

/-! ### len, list(x), tuple(x) of any list or tuple that is read -/
theorem call_len_seq : CallR X (.builtin "len") (fun xs H Q => ∃ p ys, xs = [.ref p] ∧ (SqL X.K H p ys ∨ SqT X.K H p ys) ∧ Q (.int ys.length) H) := by
  intro pins s σ H xs us Q I r h
  obtain ⟨p, ys, rfl, hq, q⟩ := h
  obtain ⟨u, rfl, rx⟩ := vals1 r
  cases rx
  have hn := line63
  rcases hq with hq | hq
  · obtain ⟨its, r', pl, hz⟩ := I.list hq
    have hlen := r'.length
    exact Calls.call_len_list pl.isList (by simp only [List.size_toArray] <;> omega) ⟨.int ys.length, H, I.tok _, ⟨s.toks + 1, by rw [List.size_toArray, hlen]⟩, q⟩
  · obtain ⟨its, r', pl, hz⟩ := I.tuple hq
    have hlen := r'.length
    exact len_tuple pl (by simp only [List.size_toArray] <;> omega) ⟨.int ys.length, H, I.tok _, ⟨s.toks + 1, by rw [List.size_toArray, hlen]⟩, q⟩
theorem call_len_str : CallR X (.builtin "len") (fun xs H Q => ∃ z, xs = [.str z] ∧ z.length ≤ sizeLine ∧ Q (.int z.length) H) := by
  intro pins s σ H xs us Q I r h
  obtain ⟨z, rfl, hz, q⟩ := h
  obtain ⟨u, rfl, t, rfl⟩ := vals1 r
  have hn := line63
  exact len_str (by omega) ⟨.int z.length, H, I.tok _, ⟨_, rfl⟩, q⟩
theorem CallR.or {f : Value} {r r' : List V → Hp → VK → Prop} (h : CallR X f r) (h' : CallR X f r') : CallR X f (fun xs H Q => r xs H Q ∨ r' xs H Q) := by
  intro pins s σ H xs us Q I rs q
  rcases q with q | q
  · exact h pins s σ H xs us Q I rs q
  · exact h' pins s σ H xs us Q I rs q
theorem call_list_of : CallR X (.type "list") (fun xs H Q => ∃ p ys, xs = [.ref p] ∧ (SqL X.K H p ys ∨ SqT X.K H p ys) ∧ ∀ l, H l = none → Q (.ref l) (upd H l (.lst ys))) := by
  intro pins s σ H xs us Q I r h
  obtain ⟨p, ys, rfl, hq, q⟩ := h
  obtain ⟨u, rfl, rx⟩ := vals1 r
  cases rx
  have fin : ∀ (its : List Value), Vals ys its → ys.length ≤ sizeLine → ∀ (h' : Heap) (c' : Nat), (∀ b o', s.heap.get? b = some o' → h'.get? b = some o') →
      h'.get? s.heap.objs.size = some { cls := .type "list", dict := none, data := .seq its.toArray c', slots := #[] } → EP X pins σ Q (.ref s.heap.objs.size) { s with heap := h' } := fun its r' hz h' c' kp e =>
    ⟨.ref s.heap.objs.size, _, I.laid (t' := s.toks) kp (Nat.le_refl _) (show ObjOk X.prog X.w _ h' _ (.lst ys) from ⟨hz, its, c', r', e⟩), rfl, q _ (I.hok.fresh (Nat.le_refl _))⟩
  rcases hq with hq | hq
  · obtain ⟨its, r', pl, hz⟩ := I.list hq
    have hlen := r'.length
    obtain ⟨o, ho, hc, n, hd⟩ := pl.isList
    exact call_list_seq p (.inl rfl) ho hc hd (fun h' c' kp e => fin its r' hz h' c' kp e) (by simp only [List.size_toArray] <;> omega)
  · obtain ⟨its, r', pl, hz⟩ := I.tuple hq
    have hlen := r'.length
    obtain ⟨o, ho, hc, n, hd⟩ := pl
    exact call_list_seq p (.inr rfl) ho hc hd (fun h' c' kp e => fin its r' hz h' c' kp e) (by simp only [List.size_toArray] <;> omega)
theorem call_tuple_of : CallR X (.type "tuple") (fun xs H Q => ∃ p ys, xs = [.ref p] ∧ ((SqL X.K H p ys ∧ ∀ l, H l = none → Q (.ref l) (upd H l (.tup ys))) ∨ (SqT X.K H p ys ∧ Q (.ref p) H))) := by
  intro pins s σ H xs us Q I r h
  obtain ⟨p, ys, rfl, h⟩ := h
  obtain ⟨u, rfl, rx⟩ := vals1 r
  cases rx
  rcases h with ⟨hq, q⟩ | ⟨hq, q⟩
  · obtain ⟨its, r', pl, hz⟩ := I.list hq
    have hlen := r'.length
    refine call_tuple_list pl.isList (fun h' kp => ?_) (by simp only [List.size_toArray] <;> omega)
    have I1 : Inv X pins σ H { s with heap := h' } := I.kept (t' := s.toks) kp
    have I2 : Inv X pins σ (upd H h'.objs.size (.tup ys)) { s with heap := h'.push { cls := .type "tuple", data := .seq its.toArray } } :=
      I1.laid (t' := s.toks) (fun b o e => Heap.get?_push_of_some _ e) (Nat.le_refl _) (show ObjOk X.prog X.w _ _ _ (.tup ys) from ⟨hz, its, r', IsTup.new _ _⟩)
    exact ⟨.ref h'.objs.size, _, I2, rfl, q _ (I1.hok.fresh (Nat.le_refl _))⟩
  · obtain ⟨its, r', pl, hz⟩ := I.tuple hq
    exact call_tuple_same pl ⟨.ref p, H, I, rfl, q⟩

/-! ### the call of a builtin's method: o.m(..) -/
/-- the value is of that builtin type -/
def tyV (K : PySem.W.Frag) (T : String) (x : V) (H : Hp) : Prop := match x with
  | .str _ => T = "str"
  | .int _ => T = "int"
  | .ref p => (T = "list" ∧ ∃ xs, SqL K H p xs) ∨ (T = "tuple" ∧ ∃ o, K.lookup p = some o ∧ o.cls = .type "tuple" ∧ o.dict = none) ∨
      (T = "dict" ∧ ((∃ kvs, H p = some (.dK kvs)) ∨ ∃ kvs, H p = some (.dT kvs))) ∨ (T = "set" ∧ ∃ S n, H p = some (.set S n))
  | _ => False
theorem tyV_is {pins : List (Addr × Obj)} {σ : St} {H : Hp} {s : Shared} {T : String} {x : V} {v : Value} (I : Inv X pins σ H s) (r : RelV x v) (ty : tyV X.K T x H) :
    s.TypeIs v T ∧ ∀ a, v = .ref a → ∃ ob, s.heap.get? a = some ob ∧ ob.dict = none := by
  cases x with
  | str z =>
    obtain ⟨t, rfl⟩ := r
    cases (show T = "str" from ty)
    exact ⟨typeIs_str s z t, fun _ e => nomatch e⟩
  | int i =>
    obtain ⟨t, rfl⟩ := r
    cases (show T = "int" from ty)
    exact ⟨typeIs_int s i t, fun _ e => nomatch e⟩
  | ref p =>
    cases r
    rcases ty with ⟨rfl, xs, hq⟩ | ⟨rfl, o, hk, hc, hd⟩ | ⟨rfl, hk⟩ | ⟨rfl, S, n, hk⟩
    · obtain ⟨its, _, pl, _⟩ := I.list hq
      refine ⟨pl.isList.typeIs, fun a e => ?_⟩
      cases e
      obtain ⟨o, n, e, c, hd, _⟩ := pl
      exact ⟨o, e, hd⟩
    · refine ⟨⟨o, I.kIn p o hk, hc⟩, fun a e => ?_⟩
      cases e
      exact ⟨o, I.kIn _ o hk, hd⟩
    · have z : ∃ o, s.heap.get? p = some o ∧ o.ExactDict := by
        rcases hk with ⟨kvs, hk⟩ | ⟨kvs, hk⟩
        · obtain ⟨_, _, _, _, o, _, _, e, ex, _⟩ := I.hok p _ hk
          exact ⟨o, e, ex⟩
        · obtain ⟨_, _, _, _, o, _, _, e, ex, _⟩ := I.hok p _ hk
          exact ⟨o, e, ex⟩
      obtain ⟨o, e, ex⟩ := z
      refine ⟨⟨o, e, ex.1⟩, fun a e2 => ?_⟩
      cases e2
      exact ⟨o, e, ex.2.1⟩
    · obtain ⟨o, _, _, _, e, ex, _⟩ := I.hok p _ hk
      refine ⟨⟨o, e, ex.1⟩, fun a e2 => ?_⟩
      cases e2
      exact ⟨o, e, ex.2.1⟩
  | _ => exact False.elim ty
def tBM0 (K : PySem.W.Frag) (T : String) (r : V → List V → Hp → VK → Prop) (to : TE) : TE := fun σ H Q => to σ H fun x H1 => tyV K T x H1 ∧ r x [] H1 Q
def tBM (K : PySem.W.Frag) (T : String) (r : V → List V → Hp → VK → Prop) (to : TE) (t : TA) : TE := fun σ H Q => to σ H fun x H1 => tyV K T x H1 ∧ t σ H1 fun xs H2 => r x xs H2 Q
variable {o e : Expr} {es : List Expr} {to : TE} {t : TA} {name : Str} {apos cpos : Pos} {T id : String} {r : V → List V → Hp → VK → Prop}
theorem pe_bm0 (pa : PlainAttrs T) (slot : Slot T name id) (hty : typeOf (.builtin id) = pure (.type "method_descriptor")) (hm : MtR X id r) (ho : PE X o to)
    (hbase : attributeBase o name X.env (eval o X.env) = eval o X.env := by rfl) (hline : (apos.endLine == cpos.line) = true := by rfl) : PE X (.Call (.Attribute o name apos) [] [] cpos) (tBM0 X.K T r to) := by
  intro pins s σ H Q I h
  refine wpAny_Call_method0_late hbase hline (thn (ho pins s σ H _ I h) fun v s1 ⟨x, H1, I1, r1, ty, q1⟩ => ?_)
  obtain ⟨h1, h2⟩ := tyV_is I1 r1 ty
  exact ⟨T, id, pa, slot, hty, h1, h2, Calls.callWith_builtin rfl (PySem.evalArgs_none (hm pins s1 σ H1 x [] v [] Q I1 r1 .nil q1))⟩
theorem pe_bm (pa : PlainAttrs T) (slot : Slot T name id) (hty : typeOf (.builtin id) = pure (.type "method_descriptor")) (hm : MtR X id r) (ho : PE X o to) (ha : PA X (e :: es) t)
    (hbase : attributeBase o name X.env (eval o X.env) = eval o X.env := by rfl)
    (hfew : ((backTo cpos (starEach (e :: es) X.env)).all (fun x => !x.1) && (backToKw cpos (keywordEach [] X.env)).all (fun x => x.1.isSome)
      && decide ((e :: es).length + ([] : List Keyword).length + (if ([] : List Keyword).isEmpty then 0 else 1) < 30)) = true := by rfl)
    (hline : (apos.endLine == cpos.line) = true := by rfl) (hs : starEach (e :: es) X.env = (false, eval e X.env) :: starEach es X.env := by rfl) (hplain : (backTo cpos (starEach es X.env)).any (·.1) = false := by rfl) :
    PE X (.Call (.Attribute o name apos) (e :: es) [] cpos) (tBM X.K T r to t) := by
  intro pins s σ H Q I h
  refine wpAny_Call_method_late hbase hfew hline rfl (thn (ho pins s σ H _ I h) fun v s1 ⟨x, H1, I1, r1, ty, q1⟩ => ?_)
  obtain ⟨h1, h2⟩ := tyV_is I1 r1 ty
  refine ⟨T, id, pa, slot, hty, h1, h2, ?_⟩
  have hA := ha cpos pins s1 σ H1 _ I1 q1
  rw [hs] at hA ⊢
  refine Calls.callWith_builtin (by show (false || (backTo cpos (starEach es X.env)).any (·.1)) = false; rw [hplain] <;> rfl) (Calls.evalArgs_plain ?_)
  exact thn hA fun us s2 ⟨vs, H2, I2, r2, q2⟩ => hm pins s2 σ H2 x vs v us Q I2 r1 r2 q2
/- xs.append(e), list.index on a module's tuple .. are MtR facts of 06m -/
end
end L2

namespace L2
open PySem PySem.Spec PyProof.Rows

def MtM (X : Cx) (id : String) (r : V → List V → Hp → VK → Prop) : Prop :=
  ∀ (pins : List (Addr × Obj)) (s : Shared) (σ : St) (H : Hp) (x : V) (xs : List V) (v : Value) (us : List Value) (Q : VK), Inv X pins σ H s → RelV x v → Vals xs us → r x xs H Q →
    wpAny (model X.prog X.w) X.A (call (.builtin id) (v :: us)) (EP X pins σ Q) X.xe s

/-! ### lists of values -/
theorem Vals.one : ∀ {x : V} {us : List Value}, Vals [x] us → ∃ u, us = [u] ∧ RelV x u
  | _, _, .cons r .nil => ⟨_, rfl, r⟩
theorem Vals.two : ∀ {x y : V} {us : List Value}, Vals [x, y] us → ∃ u v, us = [u, v] ∧ RelV x u ∧ RelV y v
  | _, _, _, .cons r (.cons q .nil) => ⟨_, _, rfl, r, q⟩
theorem Vals.zero : ∀ {us : List Value}, Vals [] us → us = []
  | _, .nil => rfl
theorem Vals.dropLast {xs : List V} {us : List Value} (h : Vals xs us) : Vals xs.dropLast us.dropLast := by
  induction h with
  | nil => exact .nil
  | cons r t ih =>
    cases t with
    | nil => exact .nil
    | cons q t' => exact .cons r ih
theorem Vals.eraseIdx : ∀ {xs : List V} {us : List Value} (i : Nat), Vals xs us → Vals (xs.eraseIdx i) (us.eraseIdx i)
  | _, _, _, .nil => .nil
  | _, _, 0, .cons _ t => t
  | _, _, i + 1, .cons r t => .cons r (Vals.eraseIdx i t)
theorem Vals.reverse {xs : List V} {us : List Value} (h : Vals xs us) : Vals xs.reverse us.reverse := by
  induction h with
  | nil => exact .nil
  | cons r t ih => rw [List.reverse_cons, List.reverse_cons]; exact Vals.append ih (.cons r .nil)
theorem Vals.rep {xs : List V} {us : List Value} (h : Vals xs us) : ∀ k : Nat, Vals (List.replicate k xs).flatten (List.replicate k us).flatten
  | 0 => .nil
  | k + 1 => by
    rw [List.replicate_succ, List.replicate_succ, List.flatten_cons, List.flatten_cons]
    exact Vals.append h (Vals.rep h k)
theorem erase_last {α : Type} (l : List α) : l.eraseIdx (l.length - 1) = l.dropLast := by
  induction l with
  | nil => rfl
  | cons a r ih =>
    cases r with
    | nil => rfl
    | cons b r =>
      have e : (a :: b :: r).length - 1 = ((b :: r).length - 1) + 1 := by
        have h1 : (a :: b :: r).length = r.length + 2 := rfl
        have h2 : (b :: r).length = r.length + 1 := rfl
        omega
      rw [e, List.eraseIdx_cons_succ, ih]
      all_goals rfl
theorem len_erase {α : Type} : ∀ (l : List α) (i : Nat), (l.eraseIdx i).length ≤ l.length
  | [], _ => Nat.le_refl _
  | _ :: _, 0 => Nat.le_succ _
  | _ :: r, i + 1 => Nat.succ_le_succ (len_erase r i)
theorem foldl_rep (its : List Value) : ∀ (k : Nat) (acc : List Value),
    List.foldl (fun x1 x2 => x1 ++ x2) acc.toArray (List.replicate k its.toArray) = (acc ++ (List.replicate k its).flatten).toArray
  | 0, acc => by simp
  | k + 1, acc => by
    have e : acc.toArray ++ its.toArray = (acc ++ its).toArray := by simp
    have e2 : (acc ++ its) ++ (List.replicate k its).flatten = acc ++ (List.replicate (k + 1) its).flatten := by
      rw [List.replicate_succ, List.flatten_cons, List.append_assoc]
    rw [← e2, ← foldl_rep its k (acc ++ its), ← e, List.replicate_succ, List.foldl_cons]

section
variable {X : Cx} {pins : List (Addr × Obj)} {σ : St} {H : Hp} {s : Shared} {l b : Addr} {xs ys zs : List V}

/-! ### the two steps: a tracked list is rewritten, a new list is laid -/
theorem Inv.lset {its its' : List Value} {n : Nat} {f : Array Value → Array Value} {t' : Nat} (I : Inv X pins σ H s) (hH : H l = some (.lst xs))
    (e : s.heap.get? l = some { cls := .type "list", data := .seq its.toArray n }) (hf : f its.toArray = its'.toArray) (hv : Vals ys its') (hz : ys.length ≤ sizeLine) :
    Inv X pins σ (upd H l (.lst ys)) { s with heap := s.heap.update l (Obj.mapSeq f), toks := t' } := by
  have q := PySem.IsL.update e f
  rw [hf] at q
  refine I.write (x := l) (e := l) (by rw [hH]; exact trivial) (.inl rfl) (fun b' u hb hu => (Heap.get?_update_other s.heap (Obj.mapSeq f) (Ne.symm hb)).trans hu) ⟨_, q⟩ ?_
  exact ⟨hz, its', _, hv, q⟩
theorem Inv.lnew {its : List Value} {t' : Nat} (I : Inv X pins σ H s) (hv : Vals ys its) (hz : ys.length ≤ sizeLine) :
    Inv X pins σ (upd H s.heap.objs.size (.lst ys)) { s with heap := s.heap.push { cls := .type "list", data := .seq its.toArray }, toks := t' } :=
  I.laid (fun _ _ q => Heap.get?_push_of_some _ q) (Nat.le_refl _) ⟨hz, its, 0, hv, Heap.get?_push_size _ rfl⟩
theorem Inv.fresh (I : Inv X pins σ H s) : H s.heap.objs.size = none := I.hok.fresh (Nat.le_refl _)
theorem Inv.lstM (I : Inv X pins σ H s) (hH : H l = some (.lst xs)) : xs.length ≤ sizeLine ∧ ∃ (its : List Value) (n : Nat), Vals xs its ∧ xs.length = its.length ∧ s.heap.get? l = some { cls := .type "list", data := .seq its.toArray n } := by
  obtain ⟨z, its, n, r, e⟩ := I.hok l _ hH
  exact ⟨z, its, n, r, r.length, e⟩

theorem notLongL {n : Nat} (h : n ≤ sizeLine) : Builtin.List.listTooLong n = false := by
  unfold Builtin.List.listTooLong
  exact decide_eq_false (by omega)
end

section
variable {X : Cx}

/-! ### methods -/
def rAppend : V → List V → Hp → VK → Prop := fun x vs H Q => ∃ l xs y, x = .ref l ∧ vs = [y] ∧ H l = some (.lst xs) ∧ xs.length < sizeLine ∧ Q .non (upd H l (.lst (xs ++ [y])))
theorem mt_append : MtM X "list.append" rAppend := by
  intro pins s σ H x vs v us Q I rx rv h
  obtain ⟨l, xs, y, rfl, rfl, hH, hz, q⟩ := h
  cases rx
  obtain ⟨u, rfl, ru⟩ := rv.one
  obtain ⟨z, its, n, r, hl, e⟩ := I.lstM hH
  refine call_meets F.slot_list_append ⟨_, e, rfl⟩ F.entry_list_append (F.args_list_append_2 _ _) (PySem.list_append l its.toArray n u (by rw [List.size_toArray]; omega)) ⟨e, ?_⟩
  refine ⟨.non, _, I.lset (its' := its ++ [u]) hH e (by simp) (r.append (.cons ru .nil)) ?_, rfl, q⟩
  rw [List.length_append, List.length_singleton]
  omega

def rExtend : V → List V → Hp → VK → Prop := fun x vs H Q => ∃ l b xs zs, x = .ref l ∧ vs = [.ref b] ∧ H l = some (.lst xs) ∧ H b = some (.lst zs) ∧ xs.length + zs.length ≤ sizeLine ∧ Q .non (upd H l (.lst (xs ++ zs)))
theorem mt_extend : MtM X "list.extend" rExtend := by
  intro pins s σ H x vs v us Q I rx rv h
  obtain ⟨l, b, xs, zs, rfl, rfl, hH, hB, hz, q⟩ := h
  cases rx
  obtain ⟨u, rfl, ru⟩ := rv.one
  cases ru
  obtain ⟨z, its, n, r, hl, e⟩ := I.lstM hH
  obtain ⟨z2, its2, n2, r2, hl2, e2⟩ := I.lstM hB
  have hsz : its.toArray.size + its2.toArray.size ≤ sizeLine := by rw [List.size_toArray, List.size_toArray]; omega
  have hlong : ¬ (!its.toArray.isEmpty && Builtin.List.listTooLong (its.toArray.size + its2.toArray.size)) = true := by
    rw [notLongL hsz, Bool.and_false]
    exact Bool.false_ne_true
  refine call_meets F.slot_list_extend ⟨_, e, rfl⟩ F.entry_list_extend (F.args_list_extend_2 _ _)
    (AutoSeq1.list_extend_list_list_0 l its.toArray n b its2.toArray n2 hlong (by rw [List.size_toArray]; omega) (by omega)) ⟨e, e2, ?_⟩
  refine ⟨.non, _, I.lset (its' := its ++ its2) hH e (by simp) (r.append r2) ?_, rfl, q⟩
  rw [List.length_append]
  omega

def rPop : V → List V → Hp → VK → Prop := fun x vs H Q => ∃ l xs y, x = .ref l ∧ vs = [] ∧ H l = some (.lst xs) ∧ xs[xs.length - 1]? = some y ∧ Q y (upd H l (.lst xs.dropLast))
theorem mt_pop : MtM X "list.pop" rPop := by
  intro pins s σ H x vs v us Q I rx rv h
  obtain ⟨l, xs, y, rfl, rfl, hH, hy, q⟩ := h
  cases rx
  have hus := rv.zero
  subst hus
  obtain ⟨z, its, n, r, hl, e⟩ := I.lstM hH
  obtain ⟨u, hu, ru⟩ := r.get hy
  have hy' : its.toArray[its.toArray.size - 1]? = some u := by
    show its.toArray[its.length - 1]? = some u
    rw [← Array.getElem?_toList, ← hl]
    exact hu
  refine call_meets F.slot_list_pop ⟨_, e, rfl⟩ F.entry_list_pop (F.args_list_pop_1 _) (MeetsSeq.list_pop_last l its.toArray n u hy' (by rw [List.size_toArray]; omega)) ⟨e, ?_⟩
  refine ⟨y, _, I.lset (its' := its.dropLast) hH e ?_ r.dropLast ?_, ru, q⟩
  · show its.toArray.eraseIdxIfInBounds (its.toArray.size - 1) = its.dropLast.toArray
    rw [List.size_toArray, List.eraseIdxIfInBounds_toArray, erase_last]
  · rw [List.length_dropLast]
    omega

def rPopAt : V → List V → Hp → VK → Prop := fun x vs H Q => ∃ l xs i k y, x = .ref l ∧ vs = [.int i] ∧ H l = some (.lst xs) ∧ -(2 ^ 63) ≤ i ∧ i < 2 ^ 63 ∧ seqIndex? i xs.length = some k ∧ xs[k]? = some y ∧ Q y (upd H l (.lst (xs.eraseIdx k)))
theorem mt_popAt : MtM X "list.pop" rPopAt := by
  intro pins s σ H x vs v us Q I rx rv h
  obtain ⟨l, xs, i, k, y, rfl, rfl, hH, h1, h2, hk, hy, q⟩ := h
  cases rx
  obtain ⟨u, rfl, ru⟩ := rv.one
  obtain ⟨t, rfl⟩ := ru
  obtain ⟨z, its, n, r, hl, e⟩ := I.lstM hH
  obtain ⟨w, hw, rw'⟩ := r.get hy
  refine call_meets F.slot_list_pop ⟨_, e, rfl⟩ F.entry_list_pop (F.args_list_pop_2 _ _)
    (MeetsSeq.list_pop_at l its.toArray n i t k w (fitsIndex_both h1 h2) (by rw [List.size_toArray, ← hl]; exact hk) (by rw [← Array.getElem?_toList]; exact hw) (by rw [List.size_toArray]; omega)) ⟨e, ?_⟩
  refine ⟨y, _, I.lset (its' := its.eraseIdx k) hH e ?_ (r.eraseIdx k) ?_, rw', q⟩
  · show its.toArray.eraseIdxIfInBounds k = (its.eraseIdx k).toArray
    rw [List.eraseIdxIfInBounds_toArray]
  · have := len_erase xs k
    omega

def rReverse : V → List V → Hp → VK → Prop := fun x vs H Q => ∃ l xs, x = .ref l ∧ vs = [] ∧ H l = some (.lst xs) ∧ Q .non (upd H l (.lst xs.reverse))
theorem mt_reverse : MtM X "list.reverse" rReverse := by
  intro pins s σ H x vs v us Q I rx rv h
  obtain ⟨l, xs, rfl, rfl, hH, q⟩ := h
  cases rx
  have hus := rv.zero
  subst hus
  obtain ⟨z, its, n, r, hl, e⟩ := I.lstM hH
  refine call_meets F.slot_list_reverse ⟨_, e, rfl⟩ F.entry_list_reverse (F.args_list_reverse_1 _) (AutoSeq1.list_reverse_list_0 l its.toArray n (by rw [List.size_toArray]; omega)) ⟨e, ?_⟩
  refine ⟨.non, _, I.lset (its' := its.reverse) hH e (by simp) r.reverse ?_, rfl, q⟩
  rw [List.length_reverse]
  omega

def rClear : V → List V → Hp → VK → Prop := fun x vs H Q => ∃ l xs, x = .ref l ∧ vs = [] ∧ H l = some (.lst xs) ∧ Q .non (upd H l (.lst []))
theorem mt_clear : MtM X "list.clear" rClear := by
  intro pins s σ H x vs v us Q I rx rv h
  obtain ⟨l, xs, rfl, rfl, hH, q⟩ := h
  cases rx
  have hus := rv.zero
  subst hus
  obtain ⟨z, its, n, r, hl, e⟩ := I.lstM hH
  refine call_meets F.slot_list_clear ⟨_, e, rfl⟩ F.entry_list_clear (F.args_list_clear_1 _) (AutoSeq1.list_clear_list_0 l its.toArray n (by rw [List.size_toArray]; omega)) ⟨e, ?_⟩
  exact ⟨.non, _, I.lset (its' := []) (ys := []) hH e rfl .nil (Nat.zero_le _), rfl, q⟩

/-! ### list + list, list += list, list * int -/
def rCat : R2 := fun x y H Q => ∃ l b xs zs, x = .ref l ∧ y = .ref b ∧ H l = some (.lst xs) ∧ H b = some (.lst zs) ∧ xs.length + zs.length ≤ sizeLine ∧ ∀ p, H p = none → Q (.ref p) (upd H p (.lst (xs ++ zs)))
theorem op_cat : OpR X (binaryOp .Add) rCat := by
  intro pins s σ H x y v u Q I rx ry h
  obtain ⟨l, b, xs, zs, rfl, rfl, hH, hB, hz, q⟩ := h
  cases rx
  cases ry
  obtain ⟨z, its, n, r, hl, e⟩ := I.lstM hH
  obtain ⟨z2, its2, n2, r2, hl2, e2⟩ := I.lstM hB
  refine PySem.P.add_list e e2 ?_ (by rw [List.size_toArray, List.size_toArray]; omega)
  have ea : its.toArray ++ its2.toArray = (its ++ its2).toArray := by simp
  rw [ea]
  exact ⟨.ref _, _, I.lnew (t' := s.toks) (r.append r2) (by rw [List.length_append]; omega), rfl, q _ I.fresh⟩
/-- a list times an int (a negative one is nothing) -/
def rRep : R2 := fun x y H Q => ∃ l k xs, x = .ref l ∧ y = .int k ∧ H l = some (.lst xs) ∧ -(2 ^ 63) ≤ k ∧ k < 2 ^ 63 ∧ xs.length * k.toNat ≤ sizeLine ∧
  ∀ p, H p = none → Q (.ref p) (upd H p (.lst (List.replicate k.toNat xs).flatten))
theorem len_rep {α : Type} (xs : List α) (k : Nat) : (List.replicate k xs).flatten.length = k * xs.length := by
  induction k with
  | zero => simp
  | succ k ih => rw [List.replicate_succ, List.flatten_cons, List.length_append, ih, Nat.succ_mul, Nat.add_comm]
theorem op_rep : OpR X (binaryOp .Mult) rRep := by
  intro pins s σ H x y v u Q I rx ry h
  obtain ⟨l, k, xs, rfl, rfl, hH, h1, h2, hz, q⟩ := h
  cases rx
  obtain ⟨t, rfl⟩ := ry
  obtain ⟨z, its, n, r, hl, e⟩ := I.lstM hH
  have hlen : its.toArray.size * k.toNat ≤ sizeLine := by rw [List.size_toArray, ← hl]; exact hz
  have hcap : ¬ its.toArray.size * k.toNat > (2 ^ 63 - 1) / 8 := by
    have : (sizeLine : Nat) ≤ (2 ^ 63 - 1) / 8 := by decide
    omega
  have hfit : ¬ (!Builtin.List.listFitsIndex k) = true := by
    rw [fitsIndex_both h1 h2]
    exact Bool.false_ne_true
  have hlong : ¬ Builtin.List.listTooLong (its.toArray.size * k.toNat) = true := by
    rw [notLongL hlen]
    exact Bool.false_ne_true
  have hnew : List.foldl (fun x1 x2 => x1 ++ x2) #[] (List.replicate (if its.toArray.isEmpty = true then 0 else k.toNat) its.toArray) = (List.replicate k.toNat its).flatten.toArray := by
    have f0 : ∀ m : Nat, List.foldl (fun x1 x2 => x1 ++ x2) #[] (List.replicate m its.toArray) = (List.replicate m its).flatten.toArray := fun m => by
      have := foldl_rep its m []
      rw [List.nil_append] at this
      exact this
    rw [f0]
    cases its with
    | nil => simp
    | cons a r' => rw [if_neg (by simp)]
  refine wpAny_binaryOp_repeat_ref (T := "list") (U := "int") (by decide) ⟨_, e, rfl⟩ (fun s' => typeIs_int s' k t) noFill_list_mul F.fills_int_mul F.slot_int_rmul repeat_list F.slot_int_index.lookup
    (call_meets F.slot_int_rmul (typeIs_int s k t) F.entry_int_rmul (F.args_int_rmul_2 _ _) (int___rmul___int_list k t l its.toArray n)
      ⟨e, rfl, ⟨_, e, rfl⟩, call_meets F.slot_list_mul ⟨_, e, rfl⟩ F.entry_list_mul (F.args_list_mul_2 _ _) (AutoListH.list___mul___list_int_3 l its.toArray n k t hfit hcap hlong) ⟨e, ?_⟩⟩)
  rw [hnew]
  exact ⟨.ref _, _, I.lnew (t' := s.toks) (r.rep k.toNat) (by rw [len_rep, Nat.mul_comm]; exact hz), rfl, q _ I.fresh⟩

/-! ### del xs[i] -/
theorem del_list {pins : List (Addr × Obj)} {s : Shared} {σ : St} {H : Hp} {l : Addr} {xs : List V} {i : Int} {t : Tok} {k : Nat} {Q : Unit → Shared → Prop} (I : Inv X pins σ H s) (hH : H l = some (.lst xs))
    (h1 : -(2 ^ 63) ≤ i) (h2 : i < 2 ^ 63) (hk : seqIndex? i xs.length = some k) (h : ∀ s', Inv X pins σ (upd H l (.lst (xs.eraseIdx k))) s' → Q () s') :
    wpAny (model X.prog X.w) X.A (delItem (.ref l) (.int i t)) Q X.xe s := by
  obtain ⟨z, its, n, r, hl, e⟩ := I.lstM hH
  refine PySem.P.delItem_list (k := k) e (fitsIndex_both h1 h2) (by rw [List.size_toArray, ← hl]; exact hk) (h _ ?_) (by rw [List.size_toArray]; omega)
  refine I.lset (its' := its.eraseIdx k) (t' := s.toks) hH e ?_ (r.eraseIdx k) ?_
  · show its.toArray.eraseIdxIfInBounds k = (its.eraseIdx k).toArray
    rw [List.eraseIdxIfInBounds_toArray]
  · have := len_erase xs k
    omega
end

/-! ### xs[a:b] = ys -/
section
variable {prog : Program} {w : World} {A : Around} {E : Value → Shared → Prop} {s : Shared}
theorem splice_eq (its its2 : List Value) (a c : Nat) : its.toArray.extract 0 a ++ its2.toArray ++ its.toArray.extract c its.toArray.size = (its.take a ++ its2 ++ its.drop c).toArray := by
  apply Array.toList_inj.mp
  first
    | (simp
       exact List.take_of_length_le (by simp))
    | simp [List.take_of_length_le]
    | simp
theorem bounds_run {a c n : Nat} (hac : a ≤ c) (hc : c ≤ n) : sliceBounds (some (a : Int)) (some (c : Int)) none n = ((a : Int), (c : Int), 1) := by
  simp only [sliceBounds, Option.getD_none]
  have h1 : ¬ ((a : Int) < 0) := by omega
  have h2 : ¬ ((c : Int) < 0) := by omega
  simp only [h1, h2, if_false, show (1 : Int) > 0 by decide, if_true]
  congr 1
  · omega
  · congr 1; omega
set_option maxRecDepth 100000 in
/-- list.__setitem__ with a slice of step one and another list -/
theorem setItem_slice {l b sl : Addr} {items new : Array Value} {n n2 : Nat} {vl vu : Value} {a c : Nat} {Q : Unit → Shared → Prop}
    (e : s.heap.get? l = some { cls := .type "list", data := .seq items n }) (e2 : s.heap.get? b = some { cls := .type "list", data := .seq new n2 }) (hne : l ≠ b)
    (hs : s.heap.IsSliceOf sl vl vu .none) (pl : IsPart vl (some (a : Int))) (pu : IsPart vu (some (c : Int))) (hac : a ≤ c) (hc : c ≤ items.size)
    (hsz : items.size + new.size ≤ sizeLine) (h : Q () { s with heap := s.heap.update l (Obj.mapSeq fun xs => xs.extract 0 a ++ new ++ xs.extract c xs.size) }) :
    wpAny (model prog w) A (setItem (.ref l) (.ref sl) (.ref b)) Q E s := by
  have hl : s.heap.IsList l items := PySem.IsL.isList e
  have hb : s.heap.IsList b new := PySem.IsL.isList e2
  obtain ⟨os, hos, hcs, hds⟩ := id hs
  have hTs : s.TypeIs (.ref sl) "slice" := ⟨os, hos, hcs⟩
  have hstep : ¬ ((rawPart none == rawInt 0) = true) := Bool.false_ne_true
  have hsame : Builtin.List.listSameRef (.ref l) (.ref b) = false := by
    unfold Builtin.List.listSameRef
    exact beq_eq_false_iff_ne.mpr hne
  have hmax : (max (a : Int) (c : Int)).toNat = c := by omega
  have hz' : ((fun xs : Array Value => xs.extract 0 a ++ new ++ xs.extract c xs.size) items).size ≤ sizeLine + 1 := by
    simp only [Array.size_append, Array.size_extract]
    omega
  unfold setItem
  try with_reducible refine wpAny_holding ?_
  first | refine wpAny_bind (wpAny_pure ?_) | skip
  refine wpAny_bind (wpAny_sequenceKey hl.typeIs (by decide) ?_)
  refine wpAny_bind (wpAny_callSpecial?_slot (name := Str.ofString "__setitem__") hl.typeIs slot_list_setitem
    (wpAny_call_entry slot_list_setitem hl.typeIs entry_list_setitem ?_ (args_list_setitem _ _ _)))
  show wpAny _ _ (Builtin.List.listSubscript? (.ref sl) >>= _) _ _ s
  refine wpAny_bind ?_
  unfold Builtin.List.listSubscript?
  refine wpAny_bind (wpAny_specialOf hTs slice_no_index ?_)
  simp only [Option.isNone_none, if_true]
  refine wpAny_pure ?_
  show wpAny _ _ (typeOf (.ref sl) >>= _) _ _ s
  refine wpAny_bind (wpAny_typeOf hTs ?_)
  first
    | rw [if_neg (by decide)]
    | refine PySem.W.KFB.if_not (by decide) ?_
  rw [listSliceParts_eq]
  refine wpAny_bind (wpAny_bind (wpAny_field hos hds (x := .none) rfl (wpAny_bind (wpAny_listPart .none ?_))))
  rw [if_neg hstep]
  refine wpAny_bind (wpAny_field hos hds (x := vl) rfl (wpAny_bind (wpAny_listPart pl ?_)))
  refine wpAny_bind (wpAny_field hos hds (x := vu) rfl (wpAny_bind (wpAny_listPart pu (wpAny_pure ?_))))
  first
    | simp only [hsame, Bool.false_eq_true, if_false]
    | refine PySem.W.KFB.if_not hsame ?_
    | (dsimp only
       rw [if_neg (by rw [hsame]; exact Bool.false_ne_true)])
  refine wpAny_bind (m := Builtin.List.listAllItems (.ref b) "must assign iterable to extended slice") ?_
  unfold Builtin.List.listAllItems
  refine wpAny_bind (wpAny_typeOf hb.typeIs ?_)
  first
    | refine PySem.W.KFB.if_so (by decide) ?_
    | rw [if_pos (by decide)]
    | simp only [beq_self_eq_true, Bool.true_or, if_true]
  unfold Builtin.List.listItems
  refine wpAny_bind (wpAny_seqItems e2 rfl (wpAny_pure ?_))
  refine wpAny_bind (wpAny_bind (wpAny_seqItems e rfl (wpAny_pure ?_)))
  refine wpAny_bind (wpAny_of_eq ((sliceIndices_raw (some (a : Int)) (some (c : Int)) none items.size (by simp)).trans (congrArg (pure : Int × Int × Int → Sem (Int × Int × Int)) (bounds_run hac hc))) ?_)
  show wpAny _ _ (if ((1 : Int) == 1) = true then _ else _) _ _ s
  rw [if_pos (by decide)]
  refine wpAny_bind (wpAny_rule ?_)
  first
    | simp only [notLongL hsz, Bool.false_eq_true, if_false]
    | refine PySem.W.KFB.if_not (notLongL hsz) ?_
  first | refine wpAny_bind (wpAny_pure ?_) | skip
  show wpAny _ _ (updateSeq l (fun xs => xs.extract 0 ((a : Int)).toNat ++ new ++ xs.extract (max (a : Int) (c : Int)).toNat xs.size) >>= _) _ _ s
  rw [hmax, Int.toNat_natCast]
  refine wpAny_bind (wpAny_updateSeq (hz := Nat.le_trans (Nat.le_add_right _ _) hsz) (_hz' := hz') e rfl ?_)
  refine wpAny_bind (wpAny_letGo ?_)
  first
    | exact wpAny_bind (wpAny_pure (wpAny_pure ⟨.none, rfl, wpAny_pure h⟩))
    | exact wpAny_pure ⟨.none, rfl, wpAny_pure h⟩
end

section
variable {X : Cx}
/-- xs[a:c] = ys of another list, at the value level: sl is the slice object that was just made -/
theorem set_slice {pins : List (Addr × Obj)} {s : Shared} {σ : St} {H : Hp} {l b sl : Addr} {xs ys : List V} {a c : Int} {vl vu : Value} {Q : Unit → Shared → Prop} (I : Inv X pins σ H s)
    (hH : H l = some (.lst xs)) (hB : H b = some (.lst ys)) (hne : l ≠ b) (hs : s.heap.IsSliceOf sl vl vu .none) (ra : RelV (.int a) vl) (rc : RelV (.int c) vu) (h0 : 0 ≤ a) (hac : a ≤ c) (hc : c ≤ xs.length)
    (hz : xs.length + ys.length ≤ sizeLine) (h : ∀ s', Inv X pins σ (upd H l (.lst (xs.take a.toNat ++ ys ++ xs.drop c.toNat))) s' → Q () s') :
    wpAny (model X.prog X.w) X.A (setItem (.ref l) (.ref sl) (.ref b)) Q X.xe s := by
  obtain ⟨ta, rfl⟩ := ra
  obtain ⟨tc, rfl⟩ := rc
  obtain ⟨z, its, n, r, hl, e⟩ := I.lstM hH
  obtain ⟨z2, its2, n2, r2, hl2, e2⟩ := I.lstM hB
  obtain ⟨a', rfl⟩ := Int.eq_ofNat_of_zero_le h0
  obtain ⟨c', rfl⟩ := Int.eq_ofNat_of_zero_le (Int.le_trans h0 hac)
  simp only [Int.toNat_natCast] at h
  refine setItem_slice (a := a') (c := c') e e2 hne hs (.int _ _) (.int _ _) (by omega) (by rw [List.size_toArray]; omega) (by rw [List.size_toArray, List.size_toArray]; omega) (h _ ?_)
  refine I.lset (its' := its.take a' ++ its2 ++ its.drop c') (t' := s.toks) hH e ?_ (Vals.append (Vals.append (r.take _) r2) (r.drop _)) ?_
  · exact splice_eq its its2 a' c'
  · rw [List.length_append, List.length_append, List.length_take, List.length_drop]
    omega
end
end L2

namespace Att
open PySem PySem.W PySem.Calls PyProof.Rows

/-! ### the script -/
theorem ints_of_wellAll {P : Params} {h : Heap} : ∀ (ns : List Int) (vs : List Value), WellAll P h vs (ns.map WData.int) → IntsAre vs ns := by
  intro ns
  induction ns with
  | nil =>
    intro vs w
    rw [List.map_nil] at w
    cases w
    exact .nil
  | cons n ns ih =>
    intro vs w
    rw [List.map_cons] at w
    cases w with
    | cons a b =>
      cases a
      exact .cons _ _ (ih _ b)

theorem script_of {l : OpenLaw} {n : Nat} (hn : l.most = some n) {P : Params} {h : Heap} {args : List WData} {vals : List Value}
    (hpre : l.row.toRowW.claim.pre args = true) (hwl : WellAll P h vals args) :
    ∃ a vs ns, vals = [Value.ref a] ∧ args = [WData.list (ns.map WData.int)] ∧ h.get? a = some { cls := .type "list", data := .seq vs.toArray } ∧ IntsAre vs ns ∧ ns.length ≤ n := by
  have hsh : WShape.hasAll [] args [.list .int] = true := (pre_splitW hpre).1
  have hc : l.pre.holds [] { args := args } = true := (pre_splitW hpre).2
  obtain ⟨d, r, rfl, h1, h2⟩ := hasAllW_cons hsh
  obtain rfl := hasAllW_nil h2
  obtain ⟨xs, rfl, h3⟩ := hasW_list h1
  obtain ⟨ns, rfl⟩ := items_int h3
  have hlen : ns.length ≤ n := by
    unfold OpenLaw.pre at hc
    have h4 : (WTm.not (.lt (.lit (.int (n : Int))) (.len (.arg 0)))).holds [] { args := [.list (ns.map .int)] } = true := by
      have h4 := (holds_andW hc).1
      rw [hn] at h4
      exact h4
    have h5 := condW_of h4 (w_not (w_lt w_lit (w_len_list (w_arg rfl))))
    rw [List.length_map] at h5
    refine Nat.le_of_not_lt fun q => ?_
    have q' : (n : Int) < ((ns.length : Nat) : Int) := by omega
    first
      | (rw [decide_eq_true q'] at h5; exact absurd h5 (by decide))
      | (simp at h5; omega)
  cases hwl with
  | cons w1 w2 =>
    cases w2
    cases w1 with
    | list ho hall => exact ⟨_, _, ns, rfl, rfl, ho, ints_of_wellAll ns _ hall, hlen⟩

theorem post_true (l : OpenLaw) (args : List WData) : l.row.toRowW.claim.post args (.bool true) args = true :=
  postW_of (r := l.row.toRowW) (X := (true == true))
    (show WShape.has [] (.bool true) .bool = true by first | rfl | decide | simp [WShape.has, WShape.arms, WShape.armsAll])
    (show (WTm.eq .res (.lit (.bool true))).value [] { args := args, res := some (.bool true), after := args } = some (.bool (true == true)) from w_eq_bool (w_res rfl) w_lit) rfl

/-! ### the attachment: holds_open's last premise (the goal 'hc' behind k_head) from a wpAny of the law's body -/
theorem attach {l : OpenLaw} {n : Nat} {q : Program} {loose : List Str} {XP : (Str → Option Value) → Heap → Prop} {YP : World → Heap → Prop} {d : DefRec} {x : Str}
    (hn : l.most = some n) (hdf : d.params.defaults = [])
    (hbind : ∀ pm cd doc v : Value, bindArgs (docDef d.name d.params d.body d.scope pm cd doc) ⟨[v], []⟩ = pure [(x, v)])
    (hx : d.scope.names.lookup x = some .local ∨ d.scope.names.lookup x = some .cell)
    (hk : d.scope.kind = .function) (hco : d.scope.isCoroutine = false) (hgen : d.scope.isGenerator = false)
    (body : ∀ (w : World) (s₀ s₁ s : Shared) (mg mb : Str → Option Value) (fa : Addr) (o : Obj) (pm cd doc : Value) (a : Addr) (vs : List Value) (ns : List Int),
      Ground q loose [] XP w s₀ mg mb s₁.heap → YP w s₁.heap →
      s₁.heap.get? fa = some o → o.data = .func (docDef d.name d.params d.body d.scope pm cd doc) → s₁.heap.CodeRec cd d.name → mg d.name = some (.ref fa) →
      s₁.heap.get? a = some { cls := .type "list", data := .seq vs.toArray } → IntsAre vs ns → ns.length ≤ n →
      s.gens = #[] → s.os = s₁.os →
      Fr s₁.heap s₁.heap.objs.size s.heap (bindL (envOfC d.name d.scope s₁.heap.objs.size fa cd).kindOf [(x, .ref a)] fun _ => none) →
      Cl s₁.heap.objs.size (cellsFrom (s₁.heap.objs.size + 1) d.scope.names []) s.heap (bindC (envOfC d.name d.scope s₁.heap.objs.size fa cd).kindOf [(x, .ref a)] fun _ => none) →
      wpAny (model l.prog w) (callerA.deeper (envOfC d.name d.scope s₁.heap.objs.size fa cd)) (execs d.body (envOfC d.name d.scope s₁.heap.objs.size fa cd))
        (fun f s' => f = .ret (.bool true) ∧ OldK s₁.heap s'.heap ∧ s'.os = s₁.os ∧ AllBare s'.gens) (fun _ _ => False) s) :
    WalkO q loose XP YP l.row.toRowW d [] (fun f vs => PySem.call f vs) := by
  intro w s₀ s₁ mg mb G Y fa o pm cd doc dV kV ho hd hcd hD hmg hg args vals as hpre hlay hrd hwl hlo
  obtain rfl : dV = .none := Dflts.none hD hdf
  obtain rfl : kV = .none := Dflts.noKw hD
  obtain ⟨a, vs, ns, rfl, rfl, hobj, hints, hlen⟩ := script_of hn hpre hwl
  refine enter_call ?_
  refine call_cells_ret (o := o) (by rw [depth_caller]; decide) ho (fd_plain hd) G.T.nolimit hcd (hbind pm cd doc (.ref a)) (fun y hy => ?_) (fun h₁ tk F X => ?_) hco hgen hk
  · obtain rfl : y = (x, Value.ref a) := List.mem_singleton.mp hy
    rcases hx with e | e
    · exact .inl e
    · exact .inr ⟨e, cellsFrom_some _ _ _ (.inl e)⟩
  · refine wpAny_mono (body w s₀ s₁ { s₁ with heap := h₁, toks := tk } mg mb fa o pm cd doc a vs ns G Y ho (fd_plain hd) hcd hmg hobj hints hlen hg rfl F X) (fun f s' hq => ?_) (fun _ _ hq => hq)
    obtain ⟨rfl, h2, h3, h4⟩ := hq
    exact ⟨.inl ⟨.bool true, .bool true, [], rfl, fun _ => rfl, .bool true, post_true l _, fun _ => ⟨List.Pairwise.nil, fun _ hm => (nomatch hm)⟩⟩, h2, h3, h4⟩

/-- the same from a codeAny of the CALL (for a layer whose function contracts speak of calls) -/
theorem attach_call {l : OpenLaw} {n : Nat} {q : Program} {loose : List Str} {XP : (Str → Option Value) → Heap → Prop} {YP : World → Heap → Prop} {d : DefRec}
    (hn : l.most = some n) (hdf : d.params.defaults = [])
    (call : ∀ (w : World) (s₀ s₁ : Shared) (mg mb : Str → Option Value) (fa : Addr) (o : Obj) (pm cd doc : Value) (a : Addr) (vs : List Value) (ns : List Int),
      Ground q loose [] XP w s₀ mg mb s₁.heap → YP w s₁.heap →
      s₁.heap.get? fa = some o → o.data = .func (docDef d.name d.params d.body d.scope pm cd doc) → s₁.heap.CodeRec cd d.name → mg d.name = some (.ref fa) →
      s₁.heap.get? a = some { cls := .type "list", data := .seq vs.toArray } → IntsAre vs ns → ns.length ≤ n → s₁.gens = #[] →
      codeAny (model l.prog w) callerA (.call (.ref fa) ⟨[.ref a], []⟩) (fun r s' => r = .ok (.ret (.bool true)) ∧ OldK s₁.heap s'.heap ∧ s'.os = s₁.os ∧ AllBare s'.gens) s₁) :
    WalkO q loose XP YP l.row.toRowW d [] (fun f vs => PySem.call f vs) := by
  intro w s₀ s₁ mg mb G Y fa o pm cd doc dV kV ho hd hcd hD hmg hg args vals as hpre hlay hrd hwl hlo
  obtain rfl : dV = .none := Dflts.none hD hdf
  obtain rfl : kV = .none := Dflts.noKw hD
  obtain ⟨a, vs, ns, rfl, rfl, hobj, hints, hlen⟩ := script_of hn hpre hwl
  refine enter_call (codeAny_mono (call w s₀ s₁ mg mb fa o pm cd doc a vs ns G Y ho (fd_plain hd) hcd hmg hobj hints hlen hg) fun r s' hq => ?_)
  obtain ⟨rfl, h2, h3, h4⟩ := hq
  exact ⟨.inl ⟨.bool true, .bool true, [], rfl, fun _ => rfl, .bool true, post_true l _, fun _ => ⟨List.Pairwise.nil, fun _ hm => (nomatch hm)⟩⟩, h2, h3, h4⟩

/-- the same where the top left finished generators (o_head chose holds_openN): nothing may have changed at all and no generator may be left -/
theorem attachN {l : OpenLaw} {n : Nat} {q : Program} {loose : List Str} {XP : (Str → Option Value) → Heap → Prop} {YP : World → Heap → Prop} {d : DefRec} {x : Str}
    (hn : l.most = some n) (hdf : d.params.defaults = [])
    (hbind : ∀ pm cd doc v : Value, bindArgs (docDef d.name d.params d.body d.scope pm cd doc) ⟨[v], []⟩ = pure [(x, v)])
    (hx : d.scope.names.lookup x = some .local ∨ d.scope.names.lookup x = some .cell)
    (hk : d.scope.kind = .function) (hco : d.scope.isCoroutine = false) (hgen : d.scope.isGenerator = false)
    (body : ∀ (w : World) (s₀ s₁ s : Shared) (mg mb : Str → Option Value) (fa : Addr) (o : Obj) (pm cd doc : Value) (a : Addr) (vs : List Value) (ns : List Int),
      Ground q loose [] XP w s₀ mg mb s₁.heap → YP w s₁.heap →
      s₁.heap.get? fa = some o → o.data = .func (docDef d.name d.params d.body d.scope pm cd doc) → s₁.heap.CodeRec cd d.name → mg d.name = some (.ref fa) →
      s₁.heap.get? a = some { cls := .type "list", data := .seq vs.toArray } → IntsAre vs ns → ns.length ≤ n →
      s.gens = #[] → s.os = s₁.os →
      Fr s₁.heap s₁.heap.objs.size s.heap (bindL (envOfC d.name d.scope s₁.heap.objs.size fa cd).kindOf [(x, .ref a)] fun _ => none) →
      Cl s₁.heap.objs.size (cellsFrom (s₁.heap.objs.size + 1) d.scope.names []) s.heap (bindC (envOfC d.name d.scope s₁.heap.objs.size fa cd).kindOf [(x, .ref a)] fun _ => none) →
      wpAny (model l.prog w) (callerA.deeper (envOfC d.name d.scope s₁.heap.objs.size fa cd)) (execs d.body (envOfC d.name d.scope s₁.heap.objs.size fa cd))
        (fun f s' => f = .ret (.bool true) ∧ (∀ b o, s₁.heap.get? b = some o → s'.heap.get? b = some o) ∧ s'.os = s₁.os ∧ s'.gens = #[]) (fun _ _ => False) s) :
    WalkN q loose XP YP l.row.toRowW d [] (fun f vs => PySem.call f vs) := by
  intro w s₀ s₁ mg mb G Y fa o pm cd doc dV kV ho hd hcd hD hmg hg args vals as hpre hlay hrd hwl hlo
  obtain rfl : dV = .none := Dflts.none hD hdf
  obtain rfl : kV = .none := Dflts.noKw hD
  obtain ⟨a, vs, ns, rfl, rfl, hobj, hints, hlen⟩ := script_of hn hpre hwl
  refine enter_callW ?_
  refine call_cells_ret (o := o) (by rw [depth_caller]; decide) ho (fd_plain hd) G.T.nolimit hcd (hbind pm cd doc (.ref a)) (fun y hy => ?_) (fun h₁ tk F X => ?_) hco hgen hk
  · obtain rfl : y = (x, Value.ref a) := List.mem_singleton.mp hy
    rcases hx with e | e
    · exact .inl e
    · exact .inr ⟨e, cellsFrom_some _ _ _ (.inl e)⟩
  · refine wpAny_mono (body w s₀ s₁ { s₁ with heap := h₁, toks := tk } mg mb fa o pm cd doc a vs ns G Y ho (fd_plain hd) hcd hmg hobj hints hlen hg rfl F X) (fun f s' hq => ?_) (fun _ _ hq => hq)
    obtain ⟨rfl, h2, h3, h4⟩ := hq
    exact ⟨.inl ⟨.bool true, .bool true, [], rfl, fun _ => rfl, .bool true, post_true l _, fun _ => ⟨List.Pairwise.nil, fun _ hm => (nomatch hm)⟩⟩, h2, h3, h4⟩

/-! ### rules over ANY heap (no ledger) from facts about the written part K: the library's own take a ledger (News) for what they write -/
section
variable {prog : Program} {w : World} {A : Around} {E : Value → Shared → Prop} {s : Shared} {K : Frag}

/-- a def of the module, or a method (qual 'C.m'), entered: the frame is the next address; cells behind it -/
theorem call_fn {R : Result → Shared → Prop} {name qual : Str} {params : Arguments} {body : List Stmt} {scope : Scope} {dV kV doc pm cdv ct oc : Value} {an od : Option Addr} {osl : Array (Option Value)} {f : Addr} {args : Args} {binds : List (Str × Value)}
    (X : K.In s.heap) (hlim : s.heap.NoLimit) (ho : K.lookup f = some ⟨oc, od, .func (fnOf name qual params body scope dV kV doc pm an cdv ct), osl⟩) (hcd : codeIn K cdv qual = true) (hroom : A.depth < recursionLimit)
    (hbind : BindsTo s (fnOf name qual params body scope dV kV doc pm an cdv ct) args binds)
    (hkind : (binds.all fun y => scope.names.lookup y.1 == some .local || scope.names.lookup y.1 == some .cell) = true)
    (h : ∀ s₁, InCallC s s.heap.objs.size (bindL (envOfC qual scope s.heap.objs.size f cdv).kindOf binds fun _ => none) (cellsFrom (s.heap.objs.size + 1) scope.names [])
        (bindC (envOfC qual scope s.heap.objs.size f cdv).kindOf binds fun _ => none) s₁ →
      wpAny (model prog w) (A.deeper (envOfC qual scope s.heap.objs.size f cdv)) (execs body (envOfC qual scope s.heap.objs.size f cdv))
        (fun fl s' => R (.ok (.ret (match fl with | .ret v => v | _ => .none))) s')
        (fun e s' => wpAny (model prog w) (A.deeper (envOfC qual scope s.heap.objs.size f cdv)) (leaving (envOfC qual scope s.heap.objs.size f cdv) e) (fun _ s'' => R (.error e) s'') (fun e' s'' => R (.error e') s'') s') s₁)
    (hco : scope.isCoroutine = false) (hgen : scope.isGenerator = false) (hk : scope.kind = .function) : codeAny (model prog w) A (.call (.ref f) args) R s := by
  refine codeAny_call_function hroom (X _ _ ho) rfl hco hgen rfl (codeRec_of X hcd) (hbind _ _ _ _ ?_)
  refine wpAny_newFunctionEnv_cells hk (kindsX hkind _) fun env he s₁ x => ?_
  subst he
  exact ⟨hlim.keeps x.toInCall.keep, codeAny_func (h s₁ x)⟩

/-- C(..): dict at size, instance at size + 1, then __init__ -/
theorem make_obj {R : Result → Shared → Prop} {C fI : Addr} {rest : List Value} {kw : List (Str × Value)}
    (X : K.In s.heap) (hm : makesIn K C = true) (hi : findIn K (.ref C) "__init__" = some (some (.ref fI))) (hf : isFn K (.ref fI) = true)
    (h : codeAny (model prog w) (A.under (.builtin "type.__call__" ⟨.ref C :: rest, kw⟩)) (.call (.ref fI) ⟨.ref (s.heap.objs.size + 1) :: rest, kw⟩) (InitBack (s.heap.objs.size + 1) R)
      { s with heap := (s.heap.push emptyDict).push (instObj C s.heap.objs.size) }) : codeAny (model prog w) A (.call (.ref C) ⟨rest, kw⟩) R s := by
  obtain ⟨hh, g, d, t, os⟩ := s
  exact make_core (makes_of X hm) (looks_findIn X hi) (fun self => bind_fn X self (beq_iff_eq.mp hf)) (.inl rfl) h

/-- x.name where the instance's dict holds the name and the class does not -/
theorem get_field {x C : Addr} {ox : Obj} {es : List DictEntry} {n : Nat} {name : Str} {expr : Bool} {v : Value} {Q : Value → Shared → Prop}
    (X : K.In s.heap) (I : PySem.W.InstAt s.heap x ox C (some (dictOf es n))) (hg : plainGet K C name = true) (hh : hasDictIn K C = true) (ha : findIn K (.ref C) name = some none)
    (hl : getL name es = some (some v)) (hv : handedIn v = true) (h : Q v { s with toks := s.toks + 1 }) : wpAny (model prog w) A (getAttr (.ref x) name expr) Q E s :=
  get_value X I (plainGet_of hg).1 (findObj_own hh ha rfl hl) hv h

/-- x.m(..): the method found in the class -/
theorem get_method {x C f : Addr} {ox : Obj} {es : List DictEntry} {n : Nat} {name : Str} {pl : Sem Bool} {Q : Value × List Value → Shared → Prop}
    (X : K.In s.heap) (I : PySem.W.InstAt s.heap x ox C (some (dictOf es n))) (hg : plainGet K C name = true) (hf : findIn K (.ref C) name = some (some (.ref f))) (ht : isFn K (.ref f) = true)
    (hl : getL name es = some none) (h : Q (.ref f, [.ref x]) s) : wpAny (model prog w) A (getMethod (.ref x) name pl) Q E s :=
  method_fn X I (plainGet_of hg).1 (plainGet_of hg).2 hf (beq_iff_eq.mp ht) (by show (lookIn name (dictOf es n)).map _ = _; rw [lookIn_dict, hl]; rfl) h

/-! the whole heap as the ledger: makes every rule that writes through a ledger a rule over any heap -/
def noObjs (h : Heap) : Heap := { h with objs := #[] }
theorem noObjs_get (h : Heap) (b : Addr) : (noObjs h).get? b = none := by
  cases e : (noObjs h).get? b with
  | none => rfl
  | some o => exact absurd (Heap.lt_size e) (Nat.not_lt_zero _)
def ledger (h : Heap) (L d : Addr) : List (Addr × Obj) := (List.range h.objs.size).filterMap fun a => if a = L ∨ a = d then none else (h.get? a).map fun o => (a, o)
theorem mem_ledger {h : Heap} {L d a : Addr} {o : Obj} : (a, o) ∈ ledger h L d ↔ a ≠ L ∧ a ≠ d ∧ h.get? a = some o := by
  unfold ledger
  rw [List.mem_filterMap]
  constructor
  · rintro ⟨b, _, e⟩
    split at e
    · cases e
    · rename_i hb
      obtain ⟨o', ho, e'⟩ := Option.map_eq_some_iff.mp e
      cases e'
      exact ⟨fun q => hb (.inl q), fun q => hb (.inr q), ho⟩
  · rintro ⟨n1, n2, ho⟩
    refine ⟨a, List.mem_range.mpr (Heap.lt_size ho), ?_⟩
    rw [if_neg (show ¬ (a = L ∨ a = d) from fun q => q.elim n1 n2), ho] <;> rfl
theorem news_ledger {h : Heap} {L d : Addr} {od : Obj} (hne : d ≠ L) (ho : h.get? d = some od) : News (noObjs h) L h ([] ++ (d, od) :: ledger h L d) := by
  rintro ⟨a, o⟩ hp
  rcases List.mem_cons.mp hp with e | hp
  · cases e
    exact ⟨ho, hne, noObjs_get _ _⟩
  · obtain ⟨n1, n2, e⟩ := mem_ledger.mp hp
    exact ⟨e, n1, noObjs_get _ _⟩
theorem fr_all {h : Heap} {L : Addr} {m : Str → Option Value} (n : h.Ns L m) : Fr (noObjs h) L h m :=
  ⟨n, fun b o e => (by rw [noObjs_get] at e; cases e), Nat.zero_le _⟩
/-- Upd of the head entry (for append_K, setItem_K ..) -/
theorem upd_ledger {h : Heap} {L d : Addr} {o o' : Obj} : Upd d o o' ((d, o) :: ledger h L d) ((d, o') :: ledger h L d) :=
  .head fun ⟨_, _⟩ hp => (mem_ledger.mp hp).2.1

/-- x.name = v over any heap: L is any namespace of the heap (the frame's, say): its map stays, its object is not told; all else but the dict stays -/
theorem set_field {x C dx L : Addr} {ox : Obj} {m : Str → Option Value} {es es' : List DictEntry} {n n' : Nat} {name : Str} {v : Value} {Q : Unit → Shared → Prop}
    (X : K.In s.heap) (I : PySem.W.InstAt s.heap x ox C (some (dictOf es n))) (hd : ox.dict = some dx) (hL : s.heap.Ns L m) (hne : dx ≠ L)
    (hs : findIn K (.ref C) "__setattr__" = some (some (.builtin "object.__setattr__"))) (hp : plainOver K C = true) (ht : takerIn K C name = some none) (hh : hasDictIn K C = true) (hl : (getL name es).isSome = true)
    (e : (putL name (PyData.keyHash w.params name) (.str name (s.toks + 1)) v es, putN name es n) = (es', n')) (hz : es'.length ≤ 1000)
    (h : ∀ h' : Heap, h'.Ns L m → h'.get? dx = some (dictOf es' n') → (∀ b o, b ≠ dx → b ≠ L → s.heap.get? b = some o → h'.get? b = some o) → Q () { s with heap := h', toks := s.toks + 2 }) :
    wpAny (model prog w) A (setAttr (.ref x) name v) Q E s := by
  obtain ⟨e1, e2⟩ := Prod.mk.inj e
  have hdx : s.heap.get? dx = some (dictOf es n) := by
    have := I.dict
    rw [hd] at this
    exact this
  refine set_plain X I hs (osa_dict (s := { s with toks := s.toks + 1 }) (h₀ := noObjs s.heap) (L := L) (m := m) (od := dictOf es n) (od' := dictOf es' n') (es := es') (n := n') (pre := []) (post := ledger s.heap L dx)
    (fr_all hL) (news_ledger hne hdx) X I hd hp ht hh hl (fun _ q => nomatch q) (fun ⟨_, _⟩ q => (mem_ledger.mp q).2.1) (by rw [putName_dict, e1, e2]) rfl hz fun h' F' N' => ?_)
  exact h h' F'.ns (N'.get (List.Mem.head _)) fun b o n1 n2 ho => N'.get (List.Mem.tail _ (mem_ledger.mpr ⟨n2, n1, ho⟩))
end
end Att

namespace L2
open PySem PySem.Spec PyProof.Rows

theorem vals_ints : ∀ {vs : List Value} {ns : List Int}, IntsAre vs ns → Vals (ns.map V.int) vs
  | _, _, .nil => .nil
  | _, _, .cons n t h => .cons ⟨t, rfl⟩ (vals_ints h)

/-- nothing is tracked but the script, known to the object (or it is an object of the module) -/
def Only (H : Hp) : Prop := ∀ b, H b = none ∨ ∃ o xs, H b = some (.frz o (.lst xs))

/-- THE HEAD: the law's promise, at the heap behind the top. F, the promise of the law's def, may use that base is part of the heap (so K.In base, base.Ns mainGlobals mg stand in Mod) -/
theorem law_call {P : Program} {w : World} {K : PySem.W.Frag} {mg mb : Str → Option Value} {CX : CXT} {k : Nat} {fa a : Addr} {fd : FuncData} {x : Str} {sp : Sp} {s₁ : Shared} {vs : List Value} {ns : List Int}
    (KX : K.In s₁.heap) (hns : s₁.heap.Ns mainGlobals mg) (hb : s₁.heap.Ns builtinsNs mb) (hbb : ∀ x : Str, x ≠ "__name__" → mb x = bootBuiltins x) (hlim : s₁.heap.NoLimit) (hg : s₁.gens = #[])
    (ha : s₁.heap.get? a = some { cls := .type "list", data := .seq vs.toArray }) (hi : IntsAre vs ns) (hl : ns.length ≤ sizeLine) (hr : Room k callerA)
    (F : ∀ base : Heap, K.In base → base.Ns mainGlobals mg → FnOk P w K mg base CX k fa fd [x] sp) (hbind : ∀ (s : Shared) (u : Value), BindsTo s fd ⟨[u], []⟩ [(x, u)])
    (hsp : ∀ H : Hp, Only H → SqL K H a (ns.map V.int) → sp [.ref a] H (fun v _ => v = .bl true) fun _ _ _ => False)
    (hCX : ∀ H e s', CX [] H s₁ (fun _ _ _ => False) e s' → False) :
    codeAny (model P w) callerA (.call (.ref fa) ⟨[.ref a], []⟩) (fun r s' => r = .ok (.ret (.bool true)) ∧ OldK s₁.heap s'.heap ∧ s'.os = s₁.os ∧ AllBare s'.gens) s₁ := by
  have rv := vals_ints hi
  have lenV := hi.length
  -- from an abstract heap in which nothing but the script may be tracked
  have core : ∀ H : Hp, Only H → SqL K H a (ns.map V.int) → HOk P w H s₁.heap → (∀ b, H b ≠ none → b = a) → (H a ≠ none → K.lookup a = none) →
      codeAny (model P w) callerA (.call (.ref fa) ⟨[.ref a], []⟩) (fun r s' => r = .ok (.ret (.bool true)) ∧ OldK s₁.heap s'.heap ∧ s'.os = s₁.os ∧ AllBare s'.gens) s₁ := by
    intro H hO hS hok hA hK
    have base_of : ∀ {b : Addr} {o : Obj}, s₁.heap.get? b = some o → H b = none → (hidT s₁.heap H).get? b = some o := fun e n => hidT_get e n
    have noA : ∀ {b : Addr} {o : Obj} {es : Array DictEntry} {ep : Nat}, s₁.heap.get? b = some o → o.data = .dict es ep → H b = none := fun {b o es ep} e d => by
      cases q : H b with
      | none => rfl
      | some u =>
        have e' : b = a := hA b (by rw [q]; simp)
        subst e'
        rw [ha] at e; cases e
        have d' : Data.seq vs.toArray _ = Data.dict es ep := d
        cases d'
    have nsK : ∀ {b : Addr} {m : Str → Option Value}, s₁.heap.Ns b m → (hidT s₁.heap H).Ns b m := fun {b m} ⟨o, es, ep, e, d, r⟩ => ⟨o, es, ep, base_of e (noA e d), d, r⟩
    have hKb : K.In (hidT s₁.heap H) := fun b o e => base_of (KX b o e) (by
      cases q : H b with
      | none => rfl
      | some u =>
        have e' : b = a := hA b (by rw [q]; simp)
        subst e'
        rw [hK (by rw [q]; simp)] at e; cases e)
    have hM : Mod K mg (hidT s₁.heap H) := ⟨hKb, nsK hns, ⟨mb, nsK hb, hbb⟩, let ⟨mc, h1, h2⟩ := hlim; ⟨mc, nsK h1, h2⟩⟩
    have e0 : Env0 P w K mg (hidT s₁.heap H) callerA [] s₁ H := ⟨rfl, hM, fun b o e => of_hidT e, Nat.le_of_eq (hidT_size _ _), trivial, fun b hb => absurd (show b ∈ ([] : List Addr) from hb) (by simp), hok, .of_eq hg⟩
    refine codeAny_mono ((F _ hKb (nsK hns)).run callerA [] s₁ H ⟨[.ref a], []⟩ [.ref a] [.ref a] _ _ hr e0 (hbind s₁ (.ref a)) (.cons rfl .nil) (hsp H hO hS)) fun r s' h => ?_
    cases r with
    | error e => exact (hCX H e s' h).elim
    | ok fl =>
      cases fl with
      | next => exact False.elim h
      | brk => exact False.elim h
      | cont => exact False.elim h
      | ret u =>
        obtain ⟨v, H', os, bare, un, hok', r', q⟩ := h
        have q' : v = .bl true := q
        subst q'
        obtain rfl : u = Value.bool true := r'
        refine ⟨rfl, OldK.of_keep fun b o e => ?_, os, bare⟩
        cases q : H b with
        | none => exact un.keep b o e q (by intro z; exact absurd (show b ∈ ([] : List Addr) from z) (by simp)) (by simp)
        | some u =>
          rcases hO b with z | ⟨ob, xs, z⟩
          · rw [q] at z; cases z
          · have z2 := un.frzs b ob _ z
            obtain ⟨e1, _⟩ := hok b _ z
            obtain ⟨e2, _⟩ := hok' b _ z2
            rw [e] at e1; cases e1
            exact e2
  cases hk : K.lookup a with
  | some o =>
    -- the script is one of the module's own objects
    have e := KX a o hk
    rw [ha] at e
    cases e
    refine core (fun _ => none) (fun _ => .inl rfl) (.inr ⟨_, vs.toArray, _, hk, rfl, rfl, rfl, by rw [List.size_toArray, lenV]; exact hl, by simpa using rv⟩) (fun b u z => by have z' : (none : Option HO) = some u := z; cases z') (fun b z => absurd rfl z) fun z => absurd rfl z
  | none =>
    refine core (fun b => if b = a then some (.frz { cls := .type "list", data := .seq vs.toArray } (.lst (ns.map V.int))) else none) (fun b => ?_) (.inl (.inr ⟨{ cls := .type "list", data := .seq vs.toArray }, if_pos rfl⟩)) (fun b u z => ?_) (fun b z => ?_) fun _ => hk
    · by_cases hb : b = a
      · exact .inr ⟨_, _, if_pos hb⟩
      · exact .inl (if_neg hb)
    · by_cases hb : b = a
      · have z' := (if_pos hb).symm.trans z
        cases z'
        subst hb
        exact ⟨ha, by rw [List.length_map]; exact hl, vs, _, rv, ha⟩
      · have z' := (if_neg hb).symm.trans z
        cases z'
    · by_cases hb : b = a
      · exact hb
      · exact absurd (if_neg hb) z
end L2

namespace L2
open PySem PySem.Spec PyProof.Rows

abbrev KOf {K : PySem.W.Frag} {h : Heap} (_ : K.In h) : PySem.W.Frag := K

/-- the goal that k_head leaves (case hc), from the law's promise. F gives the function object fd (K's own) once, then the promise over every base -/
theorem walk_of {l : PySem.W.OpenLaw} {n k : Nat} {q : Program} {loose : List Str} {XP : (Str → Option Value) → Heap → Prop} {YP : World → Heap → Prop} {d : DefRec} {K : Params → PySem.W.Frag} {CX : World → CXT} {sp : World → Sp} {x : Str}
    (hn : l.most = some n) (hn2 : n ≤ sizeLine) (hdf : d.params.defaults = []) (hr : Room k callerA)
    (hY : ∀ (w : World) (h : Heap), YP w h → (K w.params).In h)
    (F : ∀ (w : World) (mg : Str → Option Value) (fa : Addr) (h : Heap), (K w.params).In h → h.Ns mainGlobals mg → mg d.name = some (.ref fa) →
      ∃ fd : FuncData, (∀ (s : Shared) (u : Value), BindsTo s fd ⟨[u], []⟩ [(x, u)]) ∧
        ∀ base : Heap, (K w.params).In base → base.Ns mainGlobals mg → FnOk l.prog w (K w.params) mg base (CX w) k fa fd [x] (sp w))
    (hsp : ∀ (w : World) (H : Hp) (a : Addr) (ns : List Int), ns.length ≤ n → Only H → SqL (K w.params) H a (ns.map V.int) → sp w [.ref a] H (fun v _ => v = .bl true) fun _ _ _ => False)
    (hCX : ∀ (w : World) (H : Hp) (s : Shared) (e : Value) (s' : Shared), CX w [] H s (fun _ _ _ => False) e s' → False) :
    PySem.W.WalkO q loose XP YP l.row.toRowW d [] (fun f vs => PySem.call f vs) := by
  refine Att.attach_call hn hdf fun w s₀ s₁ mg mb fa o pm cd doc a vs ns G Y ho hd hcd hmg hobj hints hlen hg => ?_
  have KX := hY w _ Y
  obtain ⟨fd, hb, hF⟩ := F w mg fa _ KX G.T.g hmg
  exact law_call KX G.T.g G.T.b G.T.builtins G.T.nolimit hg hobj hints (Nat.le_trans hlen hn2) hr hF hb (fun H hO hS => hsp w H a ns hlen hO hS) fun H e s' => hCX w H s₁ e s'
/-- the same where the promise hangs on the written part alone: (sp := My.sp_law), no hole under a binder -/
theorem walk_ofK {l : PySem.W.OpenLaw} {n k : Nat} {q : Program} {loose : List Str} {XP : (Str → Option Value) → Heap → Prop} {YP : World → Heap → Prop} {d : DefRec} {K : Params → PySem.W.Frag} {CX : CXT} {sp : PySem.W.Frag → Sp} {x : Str}
    (hn : l.most = some n) (hn2 : n ≤ sizeLine) (hdf : d.params.defaults = []) (hr : Room k callerA)
    (hY : ∀ (w : World) (h : Heap), YP w h → (K w.params).In h)
    (F : ∀ (w : World) (mg : Str → Option Value) (fa : Addr) (h : Heap), (K w.params).In h → h.Ns mainGlobals mg → mg d.name = some (.ref fa) →
      ∃ fd : FuncData, (∀ (s : Shared) (u : Value), BindsTo s fd ⟨[u], []⟩ [(x, u)]) ∧
        ∀ base : Heap, (K w.params).In base → base.Ns mainGlobals mg → FnOk l.prog w (K w.params) mg base CX k fa fd [x] (sp (K w.params)))
    (hsp : ∀ (K : PySem.W.Frag) (H : Hp) (a : Addr) (ns : List Int), ns.length ≤ n → Only H → SqL K H a (ns.map V.int) → sp K [.ref a] H (fun v _ => v = .bl true) fun _ _ _ => False)
    (hCX : ∀ (H : Hp) (s : Shared) (e : Value) (s' : Shared), CX [] H s (fun _ _ _ => False) e s' → False) :
    PySem.W.WalkO q loose XP YP l.row.toRowW d [] (fun f vs => PySem.call f vs) :=
  walk_of (K := K) (CX := fun _ => CX) (sp := fun w => sp (K w.params)) hn hn2 hdf hr hY F (fun w H a ns h1 h2 h3 => hsp (K w.params) H a ns h1 h2 h3) fun _ H s e s' => hCX H s e s'
end L2

/- THE LAST THEOREM (shape; LID, My.* are yours):
   My.Adr: a structure of the addresses that your layer names (classes, functions); My.Txt K t: a structure (Prop) of the equations over K;
   My.txt_mk : {K} {implicit addresses ..} (e1 : nsIn K mainGlobals "law" = some (some (.ref f))) (e2 : K.lookup f = some ⟨oc, od, .func (fnOf "law" "law" params body scope dV kV doc pm an cdv ct), sl⟩) (e3 : codeIn K cdv "law" = true) .. : ∃ t, My.Txt K t

set_option maxRecDepth 100000 in
set_option maxHeartbeats 0 in
theorem PySem.Challenge.cw_LID_holds : PySem.Challenge.rw_LID.Holds := by
  w_on; o_law; k_head; (case hw => w_witness2)
  k_fill
  refine L2.walk_of (l := PySem.Challenge.rw_LID) (n := 63) (k := 40) (x := "script") (CX := fun w => ..) (sp := fun _ => My.sp_law) rfl (by decide) rfl ⟨rfl, by decide, by decide⟩ (fun w h Y => PySem.W.kIn_of Y) ?F ?S ?C
  case F =>
    intro w mg fa h KX G hmg
    have T : ∃ t, My.Txt (L2.KOf KX) t := by
      dsimp only [L2.KOf]                          -- K must stand as «<heap const> w.params» for k_is
      refine' My.txt_mk ?e1 ?e2 ?e3 ..
      (case e1 => PySem.W.k_is)                    -- in the order: a name -> its address -> its object -> its parts
      (case e2 => PySem.W.k_is)
      ..
    obtain ⟨t, T⟩ := T
    have e0 := hmg.symm.trans (PySem.W.mg_of KX G T.law)
    cases e0                                       -- fa is the law's own address
    exact ⟨_, fun s u => .of_eq rfl, fun base kb nb => My.law_fn T kb nb⟩     -- if «.of_eq rfl» comes too early: refine' ⟨_, ?b, fun base kb nb => My.law_fn T kb nb⟩; exact fun s u => .of_eq rfl
  case S => exact fun w H a ns hl hO hS => ..
  case C => exact ..
(the tactic k_is has no namespace: write k_is) -/

/-! SHORT WORDS over the layer: a def of the text, its body, what a loop and a test want. -/
namespace L2
open PySem PySem.Spec PyProof.Rows

/-! ### the text by places -/
/-- the j-th statement of a class's body -/
def inClass (s : Stmt) (j : Nat) : Stmt := match s with
  | .ClassDef _ _ _ body _ _ _ _ _ _ _ => body.getD j (.Pass ⟨0, 0, 0, 0⟩)
  | _ => .Pass ⟨0, 0, 0, 0⟩
def defArgs (s : Stmt) : Arguments := match s with
  | .FunctionDef _ a _ _ _ _ _ _ _ _ => a
  | _ => { posonlyargs := [], args := [], vararg := none, kwonlyargs := [], kw_defaults := [], kwarg := none, defaults := [] }
def defBody (s : Stmt) : List Stmt := match s with
  | .FunctionDef _ _ b _ _ _ _ _ _ _ => b
  | _ => []
def defScope (s : Stmt) : Scope := match s with
  | .FunctionDef _ _ _ _ _ _ sc _ _ _ => sc
  | _ => { kind := .function, names := [], isGenerator := false, isCoroutine := false }

/-! ### no exception leaves a def -/
abbrev CX0 : CXT := fun _ _ _ _ _ _ => False
abbrev E0 : XK := fun _ _ _ => False
theorem pass0 {X : Cx} : Passes CX0 X E0 := fun _ _ _ _ _ _ _ h => h.elim

/-! ### a def (or method) of the text as it stands behind the top -/
structure Fun (K : PySem.W.Frag) (x qual : Str) (st : Stmt) (f : Addr) (fd : FuncData) : Prop where
  ex : ∃ (oc : Value) (od : Option Addr) (kV doc pm : Value) (an : Option Addr) (cdv ct : Value) (osl : Array (Option Value)),
    fd = PySem.W.fnOf x qual (defArgs st) (defBody st) (defScope st) .none kV doc pm an cdv ct ∧ K.lookup f = some ⟨oc, od, .func fd, osl⟩ ∧ PySem.W.codeIn K cdv qual = true
  kp : PySem.W.keepIn K (.ref f) = true
section
variable {P : Program} {w : World} {K : PySem.W.Frag} {mg : Str → Option Value} {base : Heap}
/-- THE RULE for a def: its body as a term of rules, and the reading of that term -/
theorem Fun.ok {x qual : Str} {st : Stmt} {f : Addr} {fd : FuncData} {N ps : List Str} {k : Nat} {sp : Sp} (F : Fun K x qual st f fd) (S : FnScope N ps (defScope st)) (len : ∀ vs H Q E, sp vs H Q E → vs.length = ps.length)
    (hbody : ∀ (cdv : Value) (A : Around) (outer : List Env) (s : Shared) (H : Hp) (vs : List V) (Q : VK) (E : XK), Room k (A.deeper (envOfC qual (defScope st) s.heap.objs.size f cdv)) → sp vs H Q E →
      ∃ t, PSs (cxOf CX0 P w K mg base N qual (defScope st) f cdv A outer s H E).nox (defBody st) t ∧ t { nx := fun _ H' => Q .non H', rt := Q } (start N vs) H) : FnOk P w K mg base CX0 (k + 1) f fd ps sp := by
  obtain ⟨oc, od, kV, doc, pm, an, cdv, ct, osl, rfl, lk, hcd⟩ := F.ex
  refine fn_of lk hcd S len fun A outer s H vs Q E hr hsp => ?_
  obtain ⟨t, h, q⟩ := hbody cdv A outer s H vs Q E hr hsp
  exact ⟨t, h.nox, q⟩
/-- how its arguments bind (no defaults): h is «fun _ _ _ _ _ _ us hl => match us, hl with | [_, _], _ => rfl», one _ a parameter -/
theorem Fun.binds {x qual : Str} {st : Stmt} {f : Addr} {fd : FuncData} {ps : List Str} (F : Fun K x qual st f fd)
    (h : ∀ (kV doc pm : Value) (an : Option Addr) (cdv ct : Value) (us : List Value), us.length = ps.length → bindArgs (PySem.W.fnOf x qual (defArgs st) (defBody st) (defScope st) .none kV doc pm an cdv ct) ⟨us, []⟩ = pure (ps.zip us)) : Binds K fd ps [] := by
  obtain ⟨oc, od, kV, doc, pm, an, cdv, ct, osl, rfl, lk, hcd⟩ := F.ex
  exact .all (h kV doc pm an cdv ct)
theorem fun_mk {x qual : Str} {st : Stmt} {f : Addr} {oc : Value} {od an : Option Addr} {osl : Array (Option Value)} {kV doc pm cdv ct : Value} (l : K.lookup f = some ⟨oc, od, .func (PySem.W.fnOf x qual (defArgs st) (defBody st) (defScope st) .none kV doc pm an cdv ct), osl⟩)
    (c : PySem.W.codeIn K cdv qual = true) (k : PySem.W.keepIn K (.ref f) = true) : Fun K x qual st f (PySem.W.fnOf x qual (defArgs st) (defBody st) (defScope st) .none kV doc pm an cdv ct) := ⟨⟨oc, od, kV, doc, pm, an, cdv, ct, osl, rfl, l, c⟩, k⟩
end
theorem hu_of {A : Around} {k : Nat} (hr : Room k A) : A.units + 1 < cLine := Nat.lt_of_le_of_lt (Nat.add_le_add_left (by decide : 1 ≤ 64) _) hr.units
theorem small1000 {n : Nat} (h : n ≤ 1000) : n < sizeLine := Nat.lt_of_le_of_lt h (by decide)

/-! ### expressions in short: the name that stands in the i-th slot -/
section
variable {X : Cx}
theorem pv (i : Nat) {x : Str} {pos : Pos} (hN : X.N[i]? = some x := by rfl) (hv : Vis X.env.scope x := by first | exact Or.inl rfl | exact Or.inr (Or.inl rfl) | exact Or.inr (Or.inr rfl)) (hd : (x == ("__debug__" : Str)) = false := by decide)
    (hcd : (x == ("__classdict__" : Str)) = false := by decide) : PE X (.Name x pos) (tVar i) := pe_var hN hv hd hcd
end

/-! ### tests -/
theorem iteF {A B : Prop} (h : B) : if false = true then A else B := by
  rw [if_neg Bool.false_ne_true]
  exact h
theorem iteT {A B : Prop} (h : A) : if true = true then A else B := by
  rw [if_pos rfl]
  exact h
theorem ite2 {c A B : Prop} [Decidable c] (h1 : c → A) (h2 : ¬ c → B) : if c then A else B := by
  by_cases h : c
  · rw [if_pos h]
    exact h1 h
  · rw [if_neg h]
    exact h2 h
theorem iteNS {c A B : Prop} [Decidable c] (hc : c) (h : B) : if (!decide c) = true then A else B := by
  rw [decide_eq_true hc]
  exact iteF h

/-! ### heaps -/
/-- all that was tracked is as it was -/
def Same (H H' : Hp) : Prop := ∀ b o, H b = some o → H' b = some o
theorem Same.refl (H : Hp) : Same H H := fun _ _ h => h
theorem Same.trans {H H1 H2 : Hp} (a : Same H H1) (b : Same H1 H2) : Same H H2 := fun c o h => b c o (a c o h)
theorem Same.free {H H' : Hp} (e : Same H H') {l : Addr} (h : H' l = Option.none) : H l = Option.none := by
  cases q : H l with
  | none => rfl
  | some o =>
    rw [e l o q] at h
    cases h
theorem Same.seq {K : PySem.W.Frag} {H H' : Hp} {a : Addr} {xs : List V} (e : Same H H') (h : SqL K H a xs) : SqL K H' a xs := by
  rcases h with (h | ⟨o, h⟩) | h
  · exact .inl (.inl (e _ _ h))
  · exact .inl (.inr ⟨o, e _ _ h⟩)
  · exact .inr h

end L2
set_option maxHeartbeats 1000000
namespace Mx
/-! ### gcd -/
theorem gcd_step {a b : Int} (hb : b ≠ 0) : Int.gcd b (a.fmod b) = Int.gcd a b := by
  have h : a.fmod b = a - b * (a.fdiv b) := by have := Int.mul_fdiv_add_fmod a b; omega
  rw [h, Int.gcd_comm b, Int.gcd_sub_mul_left_left]
theorem fmod_natAbs_lt {a b : Int} (ha : 0 ≤ a) (hb : 0 ≤ b) (h : b ≠ 0) : 0 ≤ a.fmod b ∧ a.fmod b < b :=
  ⟨Int.fmod_nonneg ha hb, Int.fmod_lt_of_pos a (by omega)⟩
theorem gcd_zero_iff {a b : Int} : Int.gcd a b = 0 ↔ a = 0 ∧ b = 0 := Int.gcd_eq_zero_iff
theorem exact_div {g x p : Int} (hg : g ≠ 0) (h : x = g * p) : x.fdiv g = p := by
  subst h; exact Int.mul_fdiv_cancel_left p hg

theorem dvd_cop {q p r : Int} (h : q ∣ p * r) (g : Int.gcd q p = 1) : q ∣ r := by
  have e := Int.gcd_mul_right_right_of_gcd_eq_one (k := r) g
  have e2 : Int.gcd q (p * r) = q.natAbs := Int.gcd_eq_natAbs_left h
  rw [e2] at e
  have d : (Int.gcd q r : Int) ∣ r := Int.gcd_dvd_right q r
  rw [← e] at d
  exact Int.natAbs_dvd.mp d

/-! ### points -/
def GoodP (p q : Int) : Prop := (q = 0 ∧ p = 1) ∨ (0 < q ∧ Int.gcd p q = 1)
instance (p q : Int) : Decidable (GoodP p q) := by unfold GoodP; infer_instance
theorem GoodP.ne {p q : Int} (h : GoodP p q) : p ≠ 0 ∨ q ≠ 0 := by
  rcases h with ⟨_, h⟩ | ⟨h, _⟩ <;> omega

def npt (x y : Int) : Int × Int :=
  if y = 0 then (1, 0) else
  let g : Int := if y < 0 then -(Int.gcd x y : Int) else (Int.gcd x y : Int)
  (x.fdiv g, y.fdiv g)
theorem npt_spec {x y : Int} (h : x ≠ 0 ∨ y ≠ 0) : ∃ k, k ≠ 0 ∧ x = k * (npt x y).1 ∧ y = k * (npt x y).2 ∧ GoodP (npt x y).1 (npt x y).2 := by
  unfold npt
  by_cases hy : y = 0
  · subst hy
    simp only [if_true]
    exact ⟨x, by omega, by omega, by omega, .inl ⟨rfl, rfl⟩⟩
  · rw [if_neg hy]
    have hg : Int.gcd x y ≠ 0 := fun e => hy (gcd_zero_iff.mp e).2
    obtain ⟨p, hp⟩ : (Int.gcd x y : Int) ∣ x := Int.gcd_dvd_left x y
    obtain ⟨q, hq⟩ : (Int.gcd x y : Int) ∣ y := Int.gcd_dvd_right x y
    have hg' : (Int.gcd x y : Int) ≠ 0 := by omega
    have hc : Int.gcd p q = 1 := by
      have e : Int.gcd x y = Int.gcd ((Int.gcd x y : Int) * p) ((Int.gcd x y : Int) * q) := by rw [← hp, ← hq]
      rw [Int.gcd_mul_left] at e
      simp only [Int.natAbs_natCast] at e
      have : Int.gcd x y * 1 = Int.gcd x y * Int.gcd p q := by omega
      exact (Nat.eq_of_mul_eq_mul_left (by omega) this).symm
    have hq0 : q ≠ 0 := fun e => hy (by rw [hq, e]; simp)
    by_cases hn : y < 0
    · simp only [if_pos hn]
      refine ⟨-(Int.gcd x y : Int), by omega, ?_⟩
      have e1 : x.fdiv (-(Int.gcd x y : Int)) = -p := exact_div (by omega) (by rw [Int.neg_mul_neg]; exact hp)
      have e2 : y.fdiv (-(Int.gcd x y : Int)) = -q := exact_div (by omega) (by rw [Int.neg_mul_neg]; exact hq)
      rw [e1, e2]
      refine ⟨by rw [Int.neg_mul_neg]; exact hp, by rw [Int.neg_mul_neg]; exact hq, .inr ⟨?_, by rw [Int.neg_gcd, Int.gcd_neg]; exact hc⟩⟩
      have : ¬ 0 < q := fun hq1 => by
        have : 0 < (Int.gcd x y : Int) * q := Int.mul_pos (by omega) hq1
        omega
      omega
    · simp only [if_neg hn]
      refine ⟨(Int.gcd x y : Int), by omega, ?_⟩
      have e1 : x.fdiv (Int.gcd x y : Int) = p := exact_div (by omega) hp
      have e2 : y.fdiv (Int.gcd x y : Int) = q := exact_div (by omega) hq
      rw [e1, e2]
      refine ⟨hp, hq, .inr ⟨?_, hc⟩⟩
      have : ¬ q < 0 := fun hq1 => by
        have : (Int.gcd x y : Int) * q < 0 := Int.mul_neg_of_pos_of_neg (by omega) hq1
        omega
      omega

theorem good_unique {p q p' q' : Int} (h : GoodP p q) (h' : GoodP p' q') (e : p * q' = q * p') : p = p' ∧ q = q' := by
  rcases h with ⟨rfl, rfl⟩ | ⟨hq, hg⟩
  · rcases h' with ⟨rfl, rfl⟩ | ⟨hq', hg'⟩
    · exact ⟨rfl, rfl⟩
    · omega
  · rcases h' with ⟨rfl, rfl⟩ | ⟨hq', hg'⟩
    · omega
    · have d1 : q ∣ q' := by
        have : q ∣ p * q' := ⟨p', e⟩
        exact dvd_cop this (by rw [Int.gcd_comm]; exact hg)
      have d2 : q' ∣ q := by
        have : q' ∣ p' * q := ⟨p, by rw [Int.mul_comm p' q, ← e, Int.mul_comm]⟩
        exact dvd_cop this (by rw [Int.gcd_comm]; exact hg')
      have hqq : q = q' := Int.le_antisymm (Int.le_of_dvd hq' d1) (Int.le_of_dvd hq d2)
      subst hqq
      refine ⟨?_, rfl⟩
      rw [Int.mul_comm] at e
      exact Int.eq_of_mul_eq_mul_left (by omega) e
/-- proportional -/
theorem npt_eq {x y x' y' : Int} (h : x ≠ 0 ∨ y ≠ 0) (h' : x' ≠ 0 ∨ y' ≠ 0) (e : x * y' = y * x') : npt x y = npt x' y' := by
  obtain ⟨k, hk, e1, e2, g⟩ := npt_spec h
  obtain ⟨k', hk', e1', e2', g'⟩ := npt_spec h'
  have : (npt x y).1 * (npt x' y').2 = (npt x y).2 * (npt x' y').1 := by
    have hkk : k * k' ≠ 0 := Int.mul_ne_zero hk hk'
    apply Int.eq_of_mul_eq_mul_left hkk
    generalize (npt x y).1 = p at *
    generalize (npt x y).2 = q at *
    generalize (npt x' y').1 = p' at *
    generalize (npt x' y').2 = q' at *
    subst e1 e2 e1' e2'
    grind
  obtain ⟨a, b⟩ := good_unique g g' this
  exact Prod.ext a b
theorem npt_good {p q : Int} (h : GoodP p q) : npt p q = (p, q) := by
  obtain ⟨k, hk, e1, e2, g⟩ := npt_spec h.ne
  have : (npt p q).1 * q = (npt p q).2 * p := by
    apply Int.eq_of_mul_eq_mul_left hk
    generalize (npt p q).1 = p' at *
    generalize (npt p q).2 = q' at *
    subst e1 e2
    grind
  obtain ⟨a, b⟩ := good_unique g h this
  exact Prod.ext a b
theorem npt_self_iff {x y : Int} : npt x y = (x, y) ↔ GoodP x y := by
  refine ⟨fun e => ?_, npt_good⟩
  by_cases h : x ≠ 0 ∨ y ≠ 0
  · obtain ⟨k, hk, e1, e2, g⟩ := npt_spec h
    rw [e] at g; exact g
  · have hx : x = 0 := by omega
    have hy : y = 0 := by omega
    subst hx hy
    simp [npt] at e
/-- the law's point -/
def lpt (x y : Int) : Int × Int :=
  let g : Int := if y < 0 ∨ (y = 0 ∧ x < 0) then -(Int.gcd x y : Int) else (Int.gcd x y : Int)
  (x.fdiv g, y.fdiv g)
theorem lpt_eq {x y : Int} (h : x ≠ 0 ∨ y ≠ 0) : lpt x y = npt x y := by
  unfold lpt npt
  by_cases hy : y = 0
  · subst hy
    have hx : x ≠ 0 := by omega
    rw [Int.gcd_zero_right, if_pos rfl]
    show (x.fdiv (if (0 : Int) < 0 ∨ ((0 : Int) = 0 ∧ x < 0) then -((x.natAbs : Nat) : Int) else ((x.natAbs : Nat) : Int)), (0 : Int).fdiv (if (0 : Int) < 0 ∨ ((0 : Int) = 0 ∧ x < 0) then -((x.natAbs : Nat) : Int) else ((x.natAbs : Nat) : Int))) = _
    by_cases hn : x < 0
    · rw [if_pos (.inr ⟨rfl, hn⟩)]
      have : -((x.natAbs : Nat) : Int) = x := by omega
      rw [this, Int.fdiv_self hx, Int.zero_fdiv]
    · rw [if_neg (by omega)]
      have : ((x.natAbs : Nat) : Int) = x := by omega
      rw [this, Int.fdiv_self hx, Int.zero_fdiv]
  · rw [if_neg hy]
    by_cases hn : y < 0
    · simp [hn]
    · simp [hn, hy]

/-! ### changes -/
structure Ch where
  a : Int
  b : Int
  c : Int
  d : Int
  deriving DecidableEq
def Ch.det (m : Ch) : Int := m.a * m.d - m.b * m.c
def Ch.sc (k : Int) (m : Ch) : Ch := ⟨k * m.a, k * m.b, k * m.c, k * m.d⟩
def one4 : Ch := ⟨1, 0, 0, 1⟩
/-- the gcd as the loops reckon it -/
def g4 (m : Ch) : Int := (Int.gcd (Int.gcd (Int.gcd (Int.gcd 0 m.a : Int) m.b : Int) m.c : Int) m.d : Int)
def GoodC (m : Ch) : Prop := m.a * m.d ≠ m.b * m.c ∧ g4 m = 1 ∧ (0 < m.a ∨ (m.a = 0 ∧ 0 < m.b))
instance (m : Ch) : Decidable (GoodC m) := by unfold GoodC; infer_instance
theorem g4_nonneg (m : Ch) : 0 ≤ g4 m := by unfold g4; omega
theorem g4_dvd (m : Ch) : g4 m ∣ m.a ∧ g4 m ∣ m.b ∧ g4 m ∣ m.c ∧ g4 m ∣ m.d := by
  unfold g4
  have h1 := Int.gcd_dvd_left (Int.gcd (Int.gcd (Int.gcd 0 m.a : Int) m.b : Int) m.c : Int) m.d
  have h2 := Int.gcd_dvd_right (Int.gcd (Int.gcd (Int.gcd 0 m.a : Int) m.b : Int) m.c : Int) m.d
  have h3 := Int.gcd_dvd_left (Int.gcd (Int.gcd 0 m.a : Int) m.b : Int) m.c
  have h4 := Int.gcd_dvd_right (Int.gcd (Int.gcd 0 m.a : Int) m.b : Int) m.c
  have h5 := Int.gcd_dvd_left (Int.gcd 0 m.a : Int) m.b
  have h6 := Int.gcd_dvd_right (Int.gcd 0 m.a : Int) m.b
  have h7 := Int.gcd_dvd_right 0 m.a
  exact ⟨Int.dvd_trans (Int.dvd_trans (Int.dvd_trans h1 h3) h5) h7, Int.dvd_trans (Int.dvd_trans h1 h3) h6, Int.dvd_trans h1 h4, h2⟩
theorem dvd_g4 {k : Int} {m : Ch} (h1 : k ∣ m.a) (h2 : k ∣ m.b) (h3 : k ∣ m.c) (h4 : k ∣ m.d) : k ∣ g4 m := by
  unfold g4
  exact Int.dvd_coe_gcd (Int.dvd_coe_gcd (Int.dvd_coe_gcd (Int.dvd_coe_gcd (Int.dvd_zero k) h1) h2) h3) h4
/-- Bezout-free: a common divisor of all four of a good one is a unit -/
theorem GoodC.unit {k : Int} {m : Ch} (g : GoodC m) (h1 : k ∣ m.a) (h2 : k ∣ m.b) (h3 : k ∣ m.c) (h4 : k ∣ m.d) : k = 1 ∨ k = -1 := by
  have h := dvd_g4 h1 h2 h3 h4
  rw [g.2.1] at h
  have := Int.natAbs_dvd_natAbs.mpr h
  have h' := Nat.le_of_dvd (by decide) this
  simp at h'
  have hk : k ≠ 0 := fun e => by subst e; rw [Int.zero_dvd] at h; omega
  omega
def nch (m : Ch) : Ch :=
  let f : Int := if m.a ≠ 0 then m.a else m.b
  let g : Int := if f < 0 then -(g4 m) else g4 m
  ⟨m.a.fdiv g, m.b.fdiv g, m.c.fdiv g, m.d.fdiv g⟩
theorem g4_sc (k : Int) (m : Ch) : g4 (m.sc k) = k.natAbs * g4 m := by
  apply Int.dvd_antisymm (g4_nonneg _) (by have := g4_nonneg m; exact Int.mul_nonneg (by omega) this)
  · obtain ⟨h1, h2, h3, h4⟩ := g4_dvd (m.sc k)
    by_cases hk : k = 0
    · subst hk; simp [g4, Ch.sc]
    · -- g4 (sc k m) = k' * t, t divides all
      have hkd : (k.natAbs : Int) ∣ g4 (m.sc k) := dvd_g4 (Int.natAbs_dvd.mpr ⟨_, rfl⟩) (Int.natAbs_dvd.mpr ⟨_, rfl⟩) (Int.natAbs_dvd.mpr ⟨_, rfl⟩) (Int.natAbs_dvd.mpr ⟨_, rfl⟩)
      obtain ⟨t, ht⟩ := hkd
      rw [ht] at h1 h2 h3 h4 ⊢
      have cut : ∀ x, (k.natAbs : Int) * t ∣ k * x → t ∣ x := fun x h => by
        have h' : k * t ∣ k * x := by
          rcases Int.natAbs_eq k with e | e
          · rw [← e] at h; exact h
          · have e' : (k.natAbs : Int) = -k := by omega
            rw [e', Int.neg_mul] at h; exact Int.neg_dvd.mp h
        exact Int.dvd_of_mul_dvd_mul_left hk h'
      exact Int.mul_dvd_mul_left _ (dvd_g4 (cut _ h1) (cut _ h2) (cut _ h3) (cut _ h4))
  · obtain ⟨h1, h2, h3, h4⟩ := g4_dvd m
    have up : ∀ x, g4 m ∣ x → (k.natAbs : Int) * g4 m ∣ k * x := fun x h => by
      have h' : k * g4 m ∣ k * x := Int.mul_dvd_mul_left _ h
      rcases Int.natAbs_eq k with e | e
      · rw [← e]; exact h'
      · have e' : (k.natAbs : Int) = -k := by omega
        rw [e', Int.neg_mul]; exact Int.neg_dvd.mpr h'
    exact dvd_g4 (up _ h1) (up _ h2) (up _ h3) (up _ h4)
theorem nch_spec {m : Ch} (h : m.det ≠ 0) : ∃ k, k ≠ 0 ∧ m = (nch m).sc k ∧ GoodC (nch m) := by
  have hg : g4 m ≠ 0 := fun e => h (by
    obtain ⟨h1, h2, h3, h4⟩ := g4_dvd m
    rw [e] at h1 h2
    have e1 := Int.zero_dvd.mp h1
    have e2 := Int.zero_dvd.mp h2
    unfold Ch.det; rw [e1, e2]; simp)
  obtain ⟨⟨p, hp⟩, ⟨q, hq⟩, ⟨r, hr⟩, ⟨s, hs⟩⟩ := g4_dvd m
  have hn := g4_nonneg m
  have e4 : g4 ⟨p, q, r, s⟩ = 1 := by
    have e := g4_sc (g4 m) ⟨p, q, r, s⟩
    have e' : Ch.sc (g4 m) ⟨p, q, r, s⟩ = m := by
      cases m; simp only [Ch.sc, Ch.mk.injEq]; exact ⟨hp.symm, hq.symm, hr.symm, hs.symm⟩
    rw [e'] at e
    have e2 : ((g4 m).natAbs : Int) = g4 m := by omega
    rw [e2] at e
    have e3 : g4 m * 1 = g4 m * g4 ⟨p, q, r, s⟩ := by rw [Int.mul_one]; exact e
    exact (Int.eq_of_mul_eq_mul_left hg e3).symm
  have hab : m.a ≠ 0 ∨ m.b ≠ 0 := by
    by_cases ha : m.a = 0
    · by_cases hb : m.b = 0
      · exact absurd (by unfold Ch.det; rw [ha, hb]; simp) h
      · exact .inr hb
    · exact .inl ha
  have hgp : 0 < g4 m := by omega
  have sgn : ∀ x y : Int, x = g4 m * y → (0 < x ↔ 0 < y) ∧ (x = 0 ↔ y = 0) ∧ (x < 0 ↔ y < 0) := fun x y e => by
    subst e
    refine ⟨⟨fun h => Int.not_le.mp fun hy => by have := Int.mul_nonneg (a := g4 m) (by omega) (b := -y) (by omega); rw [Int.mul_neg] at this; omega, fun h => Int.mul_pos hgp h⟩, ⟨fun h => (Int.mul_eq_zero.mp h).resolve_left hg, fun h => by rw [h]; simp⟩, ⟨fun h => ?_, fun h => Int.mul_neg_of_pos_of_neg hgp h⟩⟩
    exact Int.not_le.mp fun hy => by have := Int.mul_nonneg (a := g4 m) (by omega) hy; omega
  obtain ⟨a1, a2, a3⟩ := sgn _ _ hp
  obtain ⟨b1, b2, b3⟩ := sgn _ _ hq
  have hd : p * s ≠ q * r := fun e => h (by
    unfold Ch.det; rw [hp, hq, hr, hs]
    generalize g4 m = g at *
    grind)
  unfold nch
  by_cases hf : (if m.a ≠ 0 then m.a else m.b) < 0
  · simp only [if_pos hf]
    refine ⟨-(g4 m), by omega, ?_⟩
    have ex : ∀ x y : Int, x = g4 m * y → x.fdiv (-(g4 m)) = -y := fun x y e => exact_div (by omega) (by rw [Int.neg_mul_neg]; exact e)
    rw [ex _ _ hp, ex _ _ hq, ex _ _ hr, ex _ _ hs]
    refine ⟨?_, by show (-p) * (-s) ≠ (-q) * (-r); rw [Int.neg_mul_neg, Int.neg_mul_neg]; exact hd, ?_, ?_⟩
    · cases m; simp only [Ch.sc, Ch.mk.injEq, Int.neg_mul_neg]; exact ⟨hp, hq, hr, hs⟩
    · have := g4_sc (-1) ⟨p, q, r, s⟩
      simp only [Ch.sc, Int.neg_mul, Int.one_mul] at this
      rw [this, e4]; rfl
    · show 0 < -p ∨ (-p = 0 ∧ 0 < -q)
      split at hf <;> omega
  · simp only [if_neg hf]
    refine ⟨g4 m, by omega, ?_⟩
    have ex : ∀ x y : Int, x = g4 m * y → x.fdiv (g4 m) = y := fun x y e => exact_div (by omega) e
    rw [ex _ _ hp, ex _ _ hq, ex _ _ hr, ex _ _ hs]
    refine ⟨by cases m; simp only [Ch.sc, Ch.mk.injEq]; exact ⟨hp, hq, hr, hs⟩, hd, e4, ?_⟩
    show 0 < p ∨ (p = 0 ∧ 0 < q)
    split at hf <;> omega
/-- proportional -/
def Pr (m n : Ch) : Prop := ∃ j k : Int, j ≠ 0 ∧ k ≠ 0 ∧ m.sc j = n.sc k
theorem Pr.refl (m : Ch) : Pr m m := ⟨1, 1, by decide, by decide, rfl⟩
theorem Pr.symm {m n : Ch} (h : Pr m n) : Pr n m := by obtain ⟨j, k, a, b, e⟩ := h; exact ⟨k, j, b, a, e.symm⟩
theorem sc_sc (j k : Int) (m : Ch) : (m.sc k).sc j = m.sc (j * k) := by simp [Ch.sc, Int.mul_assoc]
theorem Pr.trans {m n o : Ch} (h : Pr m n) (h' : Pr n o) : Pr m o := by
  obtain ⟨j, k, a, b, e⟩ := h
  obtain ⟨j', k', a', b', e'⟩ := h'
  refine ⟨j' * j, k * k', Int.mul_ne_zero a' a, Int.mul_ne_zero b b', ?_⟩
  rw [← sc_sc, e, ← sc_sc, sc_sc, Int.mul_comm, ← sc_sc, e']
theorem Pr.nch {m : Ch} (h : m.det ≠ 0) : Pr (Mx.nch m) m := by
  obtain ⟨k, hk, e, _⟩ := nch_spec h
  exact ⟨k, 1, hk, by decide, by rw [← e]; simp [Ch.sc]⟩
theorem Pr.sc {m : Ch} {k : Int} (hk : k ≠ 0) : Pr (m.sc k) m := ⟨1, k, by decide, hk, by simp [Ch.sc]⟩
theorem goodC_unique {m n : Ch} (g : GoodC m) (g' : GoodC n) (h : Pr m n) : m = n := by
  obtain ⟨j, k, hj, hk, e⟩ := h
  have e1 := g4_sc j m
  have e2 := g4_sc k n
  rw [e, e2, g.2.1, g'.2.1] at e1
  have ejk : (j.natAbs : Int) = k.natAbs := by omega
  have ea := congrArg Ch.a e
  have eb := congrArg Ch.b e
  have ec := congrArg Ch.c e
  have ed := congrArg Ch.d e
  simp only [Ch.sc] at ea eb ec ed
  have hs : j = k ∨ j = -k := by omega
  rcases hs with rfl | rfl
  · cases m; cases n
    simp only [Ch.mk.injEq]
    exact ⟨Int.eq_of_mul_eq_mul_left hj ea, Int.eq_of_mul_eq_mul_left hj eb, Int.eq_of_mul_eq_mul_left hj ec, Int.eq_of_mul_eq_mul_left hj ed⟩
  · exfalso
    have ea' : n.a = -m.a := by
      have : k * n.a = k * (-m.a) := by rw [← ea, Int.neg_mul, Int.mul_neg]
      exact Int.eq_of_mul_eq_mul_left hk this
    have eb' : n.b = -m.b := by
      have : k * n.b = k * (-m.b) := by rw [← eb, Int.neg_mul, Int.mul_neg]
      exact Int.eq_of_mul_eq_mul_left hk this
    rcases g.2.2 with z | ⟨z1, z2⟩ <;> rcases g'.2.2 with y | ⟨y1, y2⟩ <;> omega
theorem Pr.det {m n : Ch} (h : Pr m n) (hm : m.det ≠ 0) : n.det ≠ 0 := by
  obtain ⟨j, k, hj, hk, e⟩ := h
  intro hn
  have e1 : (m.sc j).det = j * j * m.det := by simp only [Ch.det, Ch.sc]; grind
  have e2 : (n.sc k).det = k * k * n.det := by simp only [Ch.det, Ch.sc]; grind
  rw [e, e2, hn] at e1
  have : j * j * m.det ≠ 0 := Int.mul_ne_zero (Int.mul_ne_zero hj hj) hm
  omega
theorem nch_eq {m n : Ch} (hm : m.det ≠ 0) (h : Pr m n) : nch m = nch n := by
  have hn := h.det hm
  obtain ⟨_, _, _, g⟩ := nch_spec hm
  obtain ⟨_, _, _, g'⟩ := nch_spec hn
  exact goodC_unique g g' (((Pr.nch hm).trans h).trans (Pr.nch hn).symm)
theorem GoodC.det {m : Ch} (g : GoodC m) : m.det ≠ 0 := by have := g.1; unfold Ch.det; omega
theorem nch_good {m : Ch} (g : GoodC m) : nch m = m := by
  obtain ⟨_, _, _, g'⟩ := nch_spec g.det
  exact goodC_unique g' g (Pr.nch g.det)
theorem nch_goodC {m : Ch} (h : m.det ≠ 0) : GoodC (nch m) := (nch_spec h).choose_spec.2.2
theorem nch_self_iff {m : Ch} (h : m.det ≠ 0) : nch m = m ↔ GoodC m := ⟨fun e => by rw [← e]; exact nch_goodC h, nch_good⟩
/-- do m, then n -/
def mul (m n : Ch) : Ch := ⟨n.a * m.a + n.b * m.c, n.a * m.b + n.b * m.d, n.c * m.a + n.d * m.c, n.c * m.b + n.d * m.d⟩
def adj (m : Ch) : Ch := ⟨m.d, -m.b, -m.c, m.a⟩
theorem det_mul (m n : Ch) : (mul m n).det = m.det * n.det := by simp only [Ch.det, mul]; grind
theorem det_adj (m : Ch) : (adj m).det = m.det := by simp only [Ch.det, adj]; grind
theorem mul_ne {m n : Ch} (hm : m.det ≠ 0) (hn : n.det ≠ 0) : (mul m n).det ≠ 0 := by rw [det_mul]; exact Int.mul_ne_zero hm hn
theorem mul_assoc (m n o : Ch) : mul (mul m n) o = mul m (mul n o) := by simp only [mul, Ch.mk.injEq]; refine ⟨?_, ?_, ?_, ?_⟩ <;> grind
theorem mul_adj (m : Ch) : mul m (adj m) = one4.sc m.det := by simp only [mul, adj, one4, Ch.sc, Ch.det, Ch.mk.injEq]; refine ⟨?_, ?_, ?_, ?_⟩ <;> grind
theorem adj_mul (m : Ch) : mul (adj m) m = one4.sc m.det := by simp only [mul, adj, one4, Ch.sc, Ch.det, Ch.mk.injEq]; refine ⟨?_, ?_, ?_, ?_⟩ <;> grind
theorem mul_sc_left (k : Int) (m n : Ch) : mul (m.sc k) n = (mul m n).sc k := by simp only [mul, Ch.sc, Ch.mk.injEq]; refine ⟨?_, ?_, ?_, ?_⟩ <;> grind
theorem mul_sc_right (k : Int) (m n : Ch) : mul m (n.sc k) = (mul m n).sc k := by simp only [mul, Ch.sc, Ch.mk.injEq]; refine ⟨?_, ?_, ?_, ?_⟩ <;> grind
theorem adj_sc (k : Int) (m : Ch) : adj (m.sc k) = (adj m).sc k := by simp only [adj, Ch.sc, Ch.mk.injEq]; refine ⟨?_, ?_, ?_, ?_⟩ <;> grind
theorem Pr.mul_left {m n : Ch} (h : Pr m n) (o : Ch) : Pr (mul m o) (mul n o) := by
  obtain ⟨j, k, hj, hk, e⟩ := h
  exact ⟨j, k, hj, hk, by rw [← mul_sc_left, e, mul_sc_left]⟩
theorem Pr.mul_right {m n : Ch} (h : Pr m n) (o : Ch) : Pr (mul o m) (mul o n) := by
  obtain ⟨j, k, hj, hk, e⟩ := h
  exact ⟨j, k, hj, hk, by rw [← mul_sc_right, e, mul_sc_right]⟩
theorem Pr.mul {m n m' n' : Ch} (h : Pr m n) (h' : Pr m' n') : Pr (Mx.mul m m') (Mx.mul n n') := (h.mul_left m').trans (h'.mul_right n)
theorem Pr.adj {m n : Ch} (h : Pr m n) : Pr (adj m) (adj n) := by
  obtain ⟨j, k, hj, hk, e⟩ := h
  exact ⟨j, k, hj, hk, by rw [← adj_sc, e, adj_sc]⟩
theorem good_one : GoodC one4 := by decide
theorem one_mul (m : Ch) : mul one4 m = m := by cases m; simp only [mul, one4, Ch.mk.injEq]; refine ⟨?_, ?_, ?_, ?_⟩ <;> omega
theorem mul_one (m : Ch) : mul m one4 = m := by cases m; simp only [mul, one4, Ch.mk.injEq]; refine ⟨?_, ?_, ?_, ?_⟩ <;> omega
/-- done, the point moved -/
def mv (m : Ch) (p : Int × Int) : Int × Int := npt (m.a * p.1 + m.b * p.2) (m.c * p.1 + m.d * p.2)
theorem lin_ne {m : Ch} (h : m.det ≠ 0) {x y : Int} (hx : x ≠ 0 ∨ y ≠ 0) : m.a * x + m.b * y ≠ 0 ∨ m.c * x + m.d * y ≠ 0 := by
  by_cases h1 : m.a * x + m.b * y = 0
  · by_cases h2 : m.c * x + m.d * y = 0
    · exfalso
      have e1 : m.det * x = 0 := by unfold Ch.det; grind
      have e2 : m.det * y = 0 := by unfold Ch.det; grind
      rcases hx with hx | hx
      · exact Int.mul_ne_zero h hx e1
      · exact Int.mul_ne_zero h hx e2
    · exact .inr h2
  · exact .inl h1
theorem mv_good {m : Ch} (h : m.det ≠ 0) {p : Int × Int} (hp : GoodP p.1 p.2) : GoodP (mv m p).1 (mv m p).2 := by
  obtain ⟨_, _, _, _, g⟩ := npt_spec (lin_ne h hp.ne)
  exact g
theorem mv_mul {m n : Ch} (hm : m.det ≠ 0) (hn : n.det ≠ 0) {p : Int × Int} (hp : GoodP p.1 p.2) : mv n (mv m p) = mv (mul m n) p := by
  obtain ⟨k, hk, e1, e2, g⟩ := npt_spec (lin_ne hm hp.ne)
  have eg : mv m p = npt (m.a * p.1 + m.b * p.2) (m.c * p.1 + m.d * p.2) := rfl
  rw [← eg] at e1 e2 g
  have l1 := lin_ne hn (mv_good hm hp).ne
  have l2 := lin_ne (mul_ne hm hn) hp.ne
  refine npt_eq l1 l2 ?_
  apply Int.eq_of_mul_eq_mul_left hk
  simp only [mul]
  generalize (mv m p).1 = u at *
  generalize (mv m p).2 = v at *
  generalize p.1 = x at *
  generalize p.2 = y at *
  cases m; cases n
  simp only at *
  grind
theorem mv_pr {m n : Ch} (hm : m.det ≠ 0) (h : Pr m n) {p : Int × Int} (hp : GoodP p.1 p.2) : mv m p = mv n p := by
  have l1 := lin_ne hm hp.ne
  have l2 := lin_ne (h.det hm) hp.ne
  refine npt_eq l1 l2 ?_
  obtain ⟨j, k, hj, hk, e⟩ := h
  simp only [Ch.sc, Ch.mk.injEq] at e
  obtain ⟨e1, e2, e3, e4⟩ := e
  apply Int.eq_of_mul_eq_mul_left (Int.mul_ne_zero hj hk)
  generalize p.1 = x at *
  generalize p.2 = y at *
  cases m; cases n
  simp only at *
  grind
theorem mv_one {p : Int × Int} (hp : GoodP p.1 p.2) : mv one4 p = p := by
  unfold mv one4
  have e1 : (1 : Int) * p.1 + 0 * p.2 = p.1 := by omega
  have e2 : (0 : Int) * p.1 + 1 * p.2 = p.2 := by omega
  rw [e1, e2, npt_good hp]
/-- the law's plain form -/
theorem first_pos {m : Ch} (h : m.det ≠ 0) : m.a ≠ 0 ∨ (m.a = 0 ∧ m.b ≠ 0) := by
  by_cases ha : m.a = 0
  · refine .inr ⟨ha, fun hb => h ?_⟩
    unfold Ch.det; rw [ha, hb]; simp
  · exact .inl ha

/-! ### sizes -/
theorem exact_natAbs {x g p : Int} (hg : g ≠ 0) (h : x = g * p) : p.natAbs ≤ x.natAbs := by
  subst h
  rw [Int.natAbs_mul]
  have : 1 ≤ g.natAbs := by omega
  exact Nat.le_mul_of_pos_left _ this
theorem npt_le {x y : Int} (h : x ≠ 0 ∨ y ≠ 0) : (npt x y).1.natAbs ≤ x.natAbs ∧ (npt x y).2.natAbs ≤ y.natAbs := by
  obtain ⟨k, hk, e1, e2, _⟩ := npt_spec h
  exact ⟨exact_natAbs hk e1, exact_natAbs hk e2⟩
theorem nch_le {m : Ch} (h : m.det ≠ 0) : (nch m).a.natAbs ≤ m.a.natAbs ∧ (nch m).b.natAbs ≤ m.b.natAbs ∧ (nch m).c.natAbs ≤ m.c.natAbs ∧ (nch m).d.natAbs ≤ m.d.natAbs := by
  obtain ⟨k, hk, e, _⟩ := nch_spec h
  have ea := congrArg Ch.a e
  have eb := congrArg Ch.b e
  have ec := congrArg Ch.c e
  have ed := congrArg Ch.d e
  exact ⟨exact_natAbs hk ea, exact_natAbs hk eb, exact_natAbs hk ec, exact_natAbs hk ed⟩
theorem g4_ne {m : Ch} (h : m.det ≠ 0) : g4 m ≠ 0 := fun e => h (by
  obtain ⟨h1, h2, h3, h4⟩ := g4_dvd m
  rw [e] at h1 h2
  have e1 := Int.zero_dvd.mp h1
  have e2 := Int.zero_dvd.mp h2
  unfold Ch.det; rw [e1, e2]; simp)
/-- the gcd as the law's last look reckons it -/
theorem g4_pairs (m : Ch) : Int.gcd (Int.gcd m.a m.b : Int) (Int.gcd m.c m.d : Int) = 1 ↔ g4 m = 1 := by
  have h1 := Int.gcd_dvd_left (Int.gcd m.a m.b : Int) (Int.gcd m.c m.d : Int)
  have h2 := Int.gcd_dvd_right (Int.gcd m.a m.b : Int) (Int.gcd m.c m.d : Int)
  have d1 : (Int.gcd (Int.gcd m.a m.b : Int) (Int.gcd m.c m.d : Int) : Int) ∣ g4 m :=
    dvd_g4 (Int.dvd_trans h1 (Int.gcd_dvd_left ..)) (Int.dvd_trans h1 (Int.gcd_dvd_right ..)) (Int.dvd_trans h2 (Int.gcd_dvd_left ..)) (Int.dvd_trans h2 (Int.gcd_dvd_right ..))
  obtain ⟨a, b, c, d⟩ := g4_dvd m
  have d2 : g4 m ∣ (Int.gcd (Int.gcd m.a m.b : Int) (Int.gcd m.c m.d : Int) : Int) := Int.dvd_coe_gcd (Int.dvd_coe_gcd a b) (Int.dvd_coe_gcd c d)
  have e : (Int.gcd (Int.gcd m.a m.b : Int) (Int.gcd m.c m.d : Int) : Int) = g4 m := Int.dvd_antisymm (by omega) (g4_nonneg m) d1 d2
  omega
end Mx
namespace Mx
/-! ### one of many unlike things is not among few -/
theorem pigeon {α : Type} [DecidableEq α] : ∀ (L : List α) (n : Nat) (f : Nat → α), (∀ i j, i < n → j < n → f i = f j → i = j) → L.length < n → ∃ i, i < n ∧ f i ∉ L
  | [], n, f, _, h => ⟨0, by simpa using h, by simp⟩
  | x :: L, n, f, inj, h => by
    by_cases hx : ∃ k, k < n ∧ f k = x
    · obtain ⟨k, hk, e⟩ := hx
      have hn : 0 < n := by omega
      obtain ⟨i, hi, hi'⟩ := pigeon L (n - 1) (fun i => f (if i < k then i else i + 1)) (fun i j hi hj e => by
        have := inj _ _ (by split <;> omega) (by split <;> omega) e
        split at this <;> split at this <;> omega) (by simp only [List.length_cons] at h; omega)
      refine ⟨if i < k then i else i + 1, by split <;> omega, fun hm => ?_⟩
      rcases List.mem_cons.mp hm with z | z
      · have := inj _ _ (by split <;> omega) hk (z.trans e.symm)
        split at this <;> omega
      · exact hi' z
    · obtain ⟨i, hi, hi'⟩ := pigeon L n f inj (by simp only [List.length_cons] at h; omega)
      refine ⟨i, hi, fun hm => ?_⟩
      rcases List.mem_cons.mp hm with z | z
      · exact hx ⟨i, hi, z⟩
      · exact hi' z
theorem npt_inj {x y b : Int} (hb : b ≠ 0) (e : npt x b = npt y b) : x = y := by
  obtain ⟨k, hk, e1, e2, _⟩ := npt_spec (x := x) (y := b) (.inr hb)
  obtain ⟨k', hk', e1', e2', _⟩ := npt_spec (x := y) (y := b) (.inr hb)
  rw [← e] at e1' e2'
  have hq : (npt x b).2 ≠ 0 := fun z => hb (by rw [e2, z]; simp)
  have : k = k' := by
    have : k * (npt x b).2 = k' * (npt x b).2 := by rw [← e2, ← e2']
    exact Int.eq_of_mul_eq_mul_right hq this
  rw [e1, e1', this]
end Mx
namespace Mx
theorem pr_back {m : Ch} (h : m.det ≠ 0) : Pr (mul m (nch (adj m))) one4 := by
  have da : (adj m).det ≠ 0 := by rw [det_adj]; exact h
  refine ((Pr.nch da).mul_right m).trans ?_
  rw [mul_adj]
  exact Pr.sc h
theorem pr_back' {m : Ch} (h : m.det ≠ 0) : Pr (mul (nch (adj m)) m) one4 := by
  have da : (adj m).det ≠ 0 := by rw [det_adj]; exact h
  refine ((Pr.nch da).mul_left m).trans ?_
  rw [adj_mul]
  exact Pr.sc h
theorem det_one : one4.det ≠ 0 := by decide
theorem mv_back {m : Ch} (h : m.det ≠ 0) {p : Int × Int} (hp : GoodP p.1 p.2) : mv (nch (adj m)) (mv m p) = p := by
  have da : (adj m).det ≠ 0 := by rw [det_adj]; exact h
  have dn := (nch_goodC da).det
  rw [mv_mul h dn hp, mv_pr (mul_ne h dn) (pr_back h) hp, mv_one hp]
end Mx
namespace Mx
theorem nch_one_of {m : Ch} (h : m.det ≠ 0) (p : Pr m one4) : nch m = one4 := by
  rw [nch_eq h p, nch_good good_one]
theorem nch_assoc {m n o : Ch} (hm : m.det ≠ 0) (hn : n.det ≠ 0) (ho : o.det ≠ 0) : nch (mul (nch (mul m n)) o) = nch (mul m (nch (mul n o))) := by
  have d1 := mul_ne hm hn
  have d2 := mul_ne hn ho
  have e1 : Pr (mul (nch (mul m n)) o) (mul (mul m n) o) := (Pr.nch d1).mul_left o
  have e2 : Pr (mul m (nch (mul n o))) (mul m (mul n o)) := (Pr.nch d2).mul_right m
  rw [mul_assoc] at e1
  exact nch_eq (mul_ne (nch_goodC d1).det ho) (e1.trans e2.symm)
theorem mv_nch {m : Ch} (h : m.det ≠ 0) {p : Int × Int} (hp : GoodP p.1 p.2) : mv (nch m) p = mv m p := mv_pr (nch_goodC h).det (Pr.nch h) hp
end Mx
namespace Mx
/-- so often -/
def mpow (s : Ch) : Nat → Ch
  | 0 => one4
  | n + 1 => mul (mpow s n) s
theorem mpow_det {s : Ch} (h : s.det ≠ 0) : ∀ n, (mpow s n).det ≠ 0
  | 0 => det_one
  | n + 1 => mul_ne (mpow_det h n) h
def pw (m : Ch) (t : Int) : Ch := nch (mpow (if t < 0 then nch (adj m) else m) t.natAbs)
/-- brought to lowest terms at every turn: the same -/
theorem mpow_step {s : Ch} (h : s.det ≠ 0) (n : Nat) : nch (mul (nch (mpow s n)) s) = nch (mpow s (n + 1)) :=
  nch_eq (mul_ne (nch_goodC (mpow_det h n)).det h) ((Pr.nch (mpow_det h n)).mul_left s)
theorem mpow_comm (s : Ch) : ∀ n, mul s (mpow s n) = mpow s (n + 1)
  | 0 => by show mul s one4 = mul one4 s; rw [mul_one, one_mul]
  | n + 1 => by
    show mul s (mul (mpow s n) s) = mul (mpow s (n + 1)) s
    rw [← mul_assoc, mpow_comm s n]
theorem Pr.mpow {s t : Ch} (h : Pr s t) : ∀ n, Pr (mpow s n) (Mx.mpow t n)
  | 0 => Pr.refl _
  | n + 1 => (Pr.mpow h n).mul h
theorem mpow_adj {s : Ch} (h : s.det ≠ 0) : ∀ n, Pr (mul (mpow s n) (mpow (adj s) n)) one4
  | 0 => by show Pr (mul one4 one4) one4; rw [mul_one]; exact Pr.refl _
  | n + 1 => by
    have e : mul (mpow s (n + 1)) (mpow (adj s) (n + 1)) = mul (mpow s n) (mul (mul s (adj s)) (mpow (adj s) n)) := by
      rw [← mpow_comm (adj s) n]
      show mul (mul (mpow s n) s) (mul (adj s) (mpow (adj s) n)) = _
      rw [mul_assoc, ← mul_assoc s]
    rw [e, mul_adj, mul_sc_left, one_mul, mul_sc_right]
    exact (Pr.sc h).trans (mpow_adj h n)
/-- the one back of a power -/
theorem back_pow {s : Ch} (h : s.det ≠ 0) (n : Nat) : nch (mpow (nch (adj s)) n) = nch (adj (nch (mpow s n))) := by
  have da : (adj s).det ≠ 0 := by rw [det_adj]; exact h
  have dn := nch_goodC da
  have dp := mpow_det h n
  have dq := nch_goodC dp
  have dqa : (adj (nch (mpow s n))).det ≠ 0 := by rw [det_adj]; exact dq.det
  -- both undo mpow s n
  have e1 : Pr (mul (mpow s n) (mpow (nch (adj s)) n)) one4 := ((Pr.mpow (Pr.nch da) n).mul_right _).trans (mpow_adj h n)
  have e2 : Pr (mul (mpow s n) (adj (nch (mpow s n)))) one4 := by
    have := pr_back (m := mpow s n) dp
    have a : Pr (adj (nch (mpow s n))) (nch (adj (mpow s n))) := by
      have da2 : (adj (mpow s n)).det ≠ 0 := by rw [det_adj]; exact dp
      exact ((Pr.nch dp).adj).trans (Pr.nch da2).symm
    exact (a.mul_right _).trans this
  have undo : ∀ {x : Ch}, Pr (mul (mpow s n) x) one4 → Pr x (adj (mpow s n)) := fun {x} hx => by
    have b := hx.mul_right (adj (mpow s n))
    rw [mul_one, ← mul_assoc, adj_mul, mul_sc_left, one_mul] at b
    exact (Pr.sc dp).symm.trans b
  exact nch_eq (mpow_det dn.det n) ((undo e1).trans (undo e2).symm)
theorem pw_neg {m : Ch} (g : GoodC m) (t : Int) : pw m (-t) = nch (adj (pw m t)) := by
  unfold pw
  have da : (adj m).det ≠ 0 := by rw [det_adj]; exact g.det
  rw [Int.natAbs_neg]
  by_cases h : t < 0
  · rw [if_pos h, if_neg (by omega), ← back_pow (nch_goodC da).det]
    have e : nch (adj (nch (adj m))) = m := by
      have a : Pr (adj (nch (adj m))) m := by
        have := (Pr.nch da).adj
        have e : adj (adj m) = m := by cases m; simp [adj]
        rw [e] at this; exact this
      have d2 : (adj (nch (adj m))).det ≠ 0 := by rw [det_adj]; exact (nch_goodC da).det
      rw [nch_eq d2 a, nch_good g]
    rw [e]
  · by_cases h0 : t = 0
    · subst h0
      rw [if_neg (by decide), if_neg (by decide)]
      show nch one4 = nch (adj (nch one4))
      rw [nch_good good_one]; decide
    · rw [if_neg h, if_pos (by omega), back_pow g.det]
end Mx
namespace Mx
/-! ### three points -/
def gap (x y : Int × Int) : Int := x.1 * y.2 - x.2 * y.1
theorem gap_zero {x y : Int × Int} (hx : GoodP x.1 x.2) (hy : GoodP y.1 y.2) : gap x y = 0 ↔ x = y := by
  unfold gap
  constructor
  · intro h
    obtain ⟨a, b⟩ := good_unique hx hy (by omega)
    exact Prod.ext a b
  · rintro rfl
    rw [Int.mul_comm]; omega
theorem gap_ne {x y : Int × Int} (hx : GoodP x.1 x.2) (hy : GoodP y.1 y.2) (h : x ≠ y) : gap x y ≠ 0 := fun e => h ((gap_zero hx hy).mp e)
def base3 (p q r : Int × Int) : Ch := ⟨q.2 * gap r p, -q.1 * gap r p, p.2 * gap r q, -p.1 * gap r q⟩
theorem det_base (p q r : Int × Int) : (base3 p q r).det = gap r p * gap r q * gap q p := by
  simp only [Ch.det, base3, gap]; grind
theorem base_ne {p q r : Int × Int} (gp : GoodP p.1 p.2) (gq : GoodP q.1 q.2) (gr : GoodP r.1 r.2) (h1 : p ≠ q) (h2 : p ≠ r) (h3 : q ≠ r) : (base3 p q r).det ≠ 0 := by
  rw [det_base]
  exact Int.mul_ne_zero (Int.mul_ne_zero (gap_ne gr gp h2.symm) (gap_ne gr gq h3.symm)) (gap_ne gq gp h1.symm)
theorem mv_base (p q r x : Int × Int) : mv (base3 p q r) x = npt (gap x q * gap r p) (gap x p * gap r q) := by
  unfold mv base3
  congr 1
  · simp only [gap]; grind
  · simp only [gap]; grind
theorem npt_far {x : Int} : npt x 0 = (1, 0) := by simp [npt]
theorem npt_nought {y : Int} (h : y ≠ 0) : npt 0 y = (0, 1) := by
  have e : npt 0 y = npt 0 1 := npt_eq (.inr h) (.inr (by decide)) (by omega)
  rw [e]; decide
theorem npt_one {x : Int} (h : x ≠ 0) : npt x x = (1, 1) := by
  have e : npt x x = npt 1 1 := npt_eq (.inr h) (.inr (by decide)) (by omega)
  rw [e]; decide
theorem gap_self (x : Int × Int) : gap x x = 0 := by unfold gap; rw [Int.mul_comm]; omega
theorem gap_neg (x y : Int × Int) : gap x y = -gap y x := by simp only [gap]; grind
section
variable {p q r : Int × Int} (gp : GoodP p.1 p.2) (gq : GoodP q.1 q.2) (gr : GoodP r.1 r.2) (h1 : p ≠ q) (h2 : p ≠ r) (h3 : q ≠ r)
include gp gq gr h1 h2 h3
theorem base_one : mv (base3 p q r) p = (1, 0) := by rw [mv_base, gap_self, Int.zero_mul, npt_far]
theorem base_two : mv (base3 p q r) q = (0, 1) := by
  rw [mv_base, gap_self, Int.zero_mul, npt_nought (Int.mul_ne_zero (gap_ne gq gp h1.symm) (gap_ne gr gq h3.symm))]
theorem base_three : mv (base3 p q r) r = (1, 1) := by
  rw [mv_base, Int.mul_comm, npt_one (Int.mul_ne_zero (gap_ne gr gp h2.symm) (gap_ne gr gq h3.symm))]
end
/-- a form of two that is nought at three points is nought -/
theorem form_zero {A B C : Int} {p q r : Int × Int} (h1 : gap p q ≠ 0) (h2 : gap p r ≠ 0) (h3 : gap q r ≠ 0)
    (fp : A * p.1 * p.1 + B * p.1 * p.2 + C * p.2 * p.2 = 0) (fq : A * q.1 * q.1 + B * q.1 * q.2 + C * q.2 * q.2 = 0) (fr : A * r.1 * r.1 + B * r.1 * r.2 + C * r.2 * r.2 = 0) : A = 0 ∧ B = 0 ∧ C = 0 := by
  obtain ⟨x1, y1⟩ := p
  obtain ⟨x2, y2⟩ := q
  obtain ⟨x3, y3⟩ := r
  simp only [gap] at *
  have hb : (x3 * y2 - x2 * y3) * (x1 * y3 - x3 * y1) * (2 * A * x1 * x2 + B * (x1 * y2 + x2 * y1) + 2 * C * y1 * y2) = 0 := by grind
  have hb0 : 2 * A * x1 * x2 + B * (x1 * y2 + x2 * y1) + 2 * C * y1 * y2 = 0 := by
    rcases Int.mul_eq_zero.mp hb with z | z
    · rcases Int.mul_eq_zero.mp z with z | z
      · exact absurd (by grind) h3
      · exact absurd (by grind) h2
    · exact z
  have g2 : (x1 * y2 - y1 * x2) * (x1 * y2 - y1 * x2) ≠ 0 := Int.mul_ne_zero h1 h1
  have eA : (x1 * y2 - y1 * x2) * (x1 * y2 - y1 * x2) * A = 0 := by grind
  have eC : (x1 * y2 - y1 * x2) * (x1 * y2 - y1 * x2) * C = 0 := by grind
  have eB : (x1 * y2 - y1 * x2) * (x1 * y2 - y1 * x2) * B = 0 := by grind
  exact ⟨(Int.mul_eq_zero.mp eA).resolve_left g2, (Int.mul_eq_zero.mp eB).resolve_left g2, (Int.mul_eq_zero.mp eC).resolve_left g2⟩
theorem npt_cross {x y x' y' : Int} (h : x ≠ 0 ∨ y ≠ 0) (h' : x' ≠ 0 ∨ y' ≠ 0) (e : npt x y = npt x' y') : x * y' = y * x' := by
  obtain ⟨k, hk, e1, e2, _⟩ := npt_spec h
  obtain ⟨k', hk', e1', e2', _⟩ := npt_spec h'
  rw [← e] at e1' e2'
  generalize (npt x y).1 = a at *
  generalize (npt x y).2 = b at *
  subst e1 e2 e1' e2'
  grind
/-- two changes that lead three unlike points alike -/
theorem three_tell {m n : Ch} (dm : m.det ≠ 0) (dn : n.det ≠ 0) {p q r : Int × Int} (gp : GoodP p.1 p.2) (gq : GoodP q.1 q.2) (gr : GoodP r.1 r.2) (h1 : p ≠ q) (h2 : p ≠ r) (h3 : q ≠ r)
    (e1 : mv m p = mv n p) (e2 : mv m q = mv n q) (e3 : mv m r = mv n r) : Pr m n := by
  have f : ∀ x : Int × Int, GoodP x.1 x.2 → mv m x = mv n x → (m.a * n.c - m.c * n.a) * x.1 * x.1 + (m.a * n.d + m.b * n.c - m.c * n.b - m.d * n.a) * x.1 * x.2 + (m.b * n.d - m.d * n.b) * x.2 * x.2 = 0 := fun x gx ex => by
    have := npt_cross (lin_ne dm gx.ne) (lin_ne dn gx.ne) ex
    generalize x.1 = u at *
    generalize x.2 = v at *
    grind
  obtain ⟨zA, zB, zC⟩ := form_zero (gap_ne gp gq h1) (gap_ne gp gr h2) (gap_ne gq gr h3) (f p gp e1) (f q gq e2) (f r gr e3)
  have em : mul m (adj n) = one4.sc (n.d * m.a - n.b * m.c) := by
    simp only [mul, adj, one4, Ch.sc, Ch.mk.injEq]
    refine ⟨by grind, by grind, by grind, by grind⟩
  have ed : (n.d * m.a - n.b * m.c) * (n.d * m.a - n.b * m.c) = m.det * n.det := by
    have := det_mul m (adj n)
    rw [em, det_adj] at this
    simp only [Ch.det, one4, Ch.sc] at this ⊢
    grind
  have hl : n.d * m.a - n.b * m.c ≠ 0 := fun z => by
    rw [z] at ed
    exact Int.mul_ne_zero dm dn (by omega)
  have e : mul (mul m (adj n)) n = mul (one4.sc (n.d * m.a - n.b * m.c)) n := by rw [em]
  rw [mul_assoc, adj_mul, mul_sc_right, mul_one, mul_sc_left, one_mul] at e
  exact ⟨n.det, n.d * m.a - n.b * m.c, dn, hl, e⟩
/-- the change told by three points and three goals -/
def told3 (p q r p' q' r' : Int × Int) : Ch := nch (mul (nch (base3 p q r)) (nch (adj (nch (base3 p' q' r')))))
section
variable {p q r p' q' r' : Int × Int} (gp : GoodP p.1 p.2) (gq : GoodP q.1 q.2) (gr : GoodP r.1 r.2) (h1 : p ≠ q) (h2 : p ≠ r) (h3 : q ≠ r)
  (gp' : GoodP p'.1 p'.2) (gq' : GoodP q'.1 q'.2) (gr' : GoodP r'.1 r'.2) (h1' : p' ≠ q') (h2' : p' ≠ r') (h3' : q' ≠ r')
include gp gq gr h1 h2 h3 gp' gq' gr' h1' h2' h3'
theorem told_good : GoodC (told3 p q r p' q' r') := by
  have d1 := (nch_goodC (base_ne gp gq gr h1 h2 h3)).det
  have d2 := (nch_goodC (base_ne gp' gq' gr' h1' h2' h3')).det
  have d3 : (adj (nch (base3 p' q' r'))).det ≠ 0 := by rw [det_adj]; exact d2
  exact nch_goodC (mul_ne d1 (nch_goodC d3).det)
theorem told_to {x x' : Int × Int} (gx : GoodP x.1 x.2) (gx' : GoodP x'.1 x'.2) (e : mv (base3 p q r) x = mv (base3 p' q' r') x') : mv (told3 p q r p' q' r') x = x' := by
  have b1 := base_ne gp gq gr h1 h2 h3
  have b2 := base_ne gp' gq' gr' h1' h2' h3'
  have d1 := (nch_goodC b1).det
  have d2 := (nch_goodC b2).det
  have d3 : (adj (nch (base3 p' q' r'))).det ≠ 0 := by rw [det_adj]; exact d2
  unfold told3
  rw [mv_nch (mul_ne d1 (nch_goodC d3).det) gx, ← mv_mul d1 (nch_goodC d3).det gx, mv_nch b1 gx, e, ← mv_nch b2 gx', mv_back d2 gx']
theorem told_leads : mv (told3 p q r p' q' r') p = p' ∧ mv (told3 p q r p' q' r') q = q' ∧ mv (told3 p q r p' q' r') r = r' :=
  ⟨told_to gp gq gr h1 h2 h3 gp' gq' gr' h1' h2' h3' gp gp' (by rw [base_one gp gq gr h1 h2 h3, base_one gp' gq' gr' h1' h2' h3']),
   told_to gp gq gr h1 h2 h3 gp' gq' gr' h1' h2' h3' gq gq' (by rw [base_two gp gq gr h1 h2 h3, base_two gp' gq' gr' h1' h2' h3']),
   told_to gp gq gr h1 h2 h3 gp' gq' gr' h1' h2' h3' gr gr' (by rw [base_three gp gq gr h1 h2 h3, base_three gp' gq' gr' h1' h2' h3'])⟩
/-- just this one -/
theorem told_only {m : Ch} (gm : GoodC m) (e1 : mv m p = p') (e2 : mv m q = q') (e3 : mv m r = r') : told3 p q r p' q' r' = m := by
  have g := told_good gp gq gr h1 h2 h3 gp' gq' gr' h1' h2' h3'
  obtain ⟨l1, l2, l3⟩ := told_leads gp gq gr h1 h2 h3 gp' gq' gr' h1' h2' h3'
  exact goodC_unique g gm (three_tell g.det gm.det gp gq gr h1 h2 h3 (l1.trans e1.symm) (l2.trans e2.symm) (l3.trans e3.symm))
end
theorem mv_inj {m : Ch} (h : m.det ≠ 0) {x y : Int × Int} (gx : GoodP x.1 x.2) (gy : GoodP y.1 y.2) (e : mv m x = mv m y) : x = y := by
  rw [← mv_back h gx, ← mv_back h gy, e]
end Mx
namespace Mx
/-! ### the number of four points -/
def cr (p q r x : Int × Int) : Int × Int := mv (nch (base3 p q r)) x
def fo (p q r n : Int × Int) : Int × Int := mv (nch (adj (nch (base3 p q r)))) n
theorem mv_back' {m : Ch} (h : m.det ≠ 0) {p : Int × Int} (hp : GoodP p.1 p.2) : mv m (mv (nch (adj m)) p) = p := by
  have d3 : (adj m).det ≠ 0 := by rw [det_adj]; exact h
  have d4 := (nch_goodC d3).det
  rw [mv_mul d4 h hp, mv_pr (mul_ne d4 h) (pr_back' h) hp, mv_one hp]
/-- three unlike points -/
structure Un3 (p q r : Int × Int) : Prop where
  gp : GoodP p.1 p.2
  gq : GoodP q.1 q.2
  gr : GoodP r.1 r.2
  pq : p ≠ q
  pr : p ≠ r
  qr : q ≠ r
theorem Un3.det {p q r : Int × Int} (h : Un3 p q r) : (base3 p q r).det ≠ 0 := base_ne h.gp h.gq h.gr h.pq h.pr h.qr
theorem cr_eq {p q r x : Int × Int} (h : Un3 p q r) (gx : GoodP x.1 x.2) : cr p q r x = npt (gap x q * gap r p) (gap x p * gap r q) := by
  unfold cr; rw [mv_nch h.det gx, mv_base]
theorem cr_ne {p q r x : Int × Int} (h : Un3 p q r) (gx : GoodP x.1 x.2) : gap x q * gap r p ≠ 0 ∨ gap x p * gap r q ≠ 0 := by
  have a := gap_ne h.gr h.gp h.pr.symm
  have b := gap_ne h.gr h.gq h.qr.symm
  by_cases e : x = q
  · refine .inr (Int.mul_ne_zero ?_ b)
    rw [e]; exact gap_ne h.gq h.gp h.pq.symm
  · exact .inl (Int.mul_ne_zero (gap_ne gx h.gq e) a)
theorem cr_good {p q r x : Int × Int} (h : Un3 p q r) (gx : GoodP x.1 x.2) : GoodP (cr p q r x).1 (cr p q r x).2 := mv_good (nch_goodC h.det).det gx
theorem fo_good {p q r x : Int × Int} (h : Un3 p q r) (gx : GoodP x.1 x.2) : GoodP (fo p q r x).1 (fo p q r x).2 := by
  refine mv_good (nch_goodC ?_).det gx
  rw [det_adj]; exact (nch_goodC h.det).det
theorem cr_one {p q r : Int × Int} (h : Un3 p q r) : cr p q r p = (1, 0) := by
  unfold cr; rw [mv_nch h.det h.gp]; exact base_one h.gp h.gq h.gr h.pq h.pr h.qr
theorem cr_two {p q r : Int × Int} (h : Un3 p q r) : cr p q r q = (0, 1) := by
  unfold cr; rw [mv_nch h.det h.gq]; exact base_two h.gp h.gq h.gr h.pq h.pr h.qr
theorem cr_three {p q r : Int × Int} (h : Un3 p q r) : cr p q r r = (1, 1) := by
  unfold cr; rw [mv_nch h.det h.gr]; exact base_three h.gp h.gq h.gr h.pq h.pr h.qr
theorem fo_cr {p q r x : Int × Int} (h : Un3 p q r) (gx : GoodP x.1 x.2) : fo p q r (cr p q r x) = x := mv_back (nch_goodC h.det).det gx
theorem cr_fo {p q r x : Int × Int} (h : Un3 p q r) (gx : GoodP x.1 x.2) : cr p q r (fo p q r x) = x := mv_back' (nch_goodC h.det).det gx
theorem fo_far {p q r : Int × Int} (h : Un3 p q r) : fo p q r (1, 0) = p := by rw [← cr_one h]; exact fo_cr h h.gp
theorem fo_nought {p q r : Int × Int} (h : Un3 p q r) : fo p q r (0, 1) = q := by rw [← cr_two h]; exact fo_cr h h.gq
theorem fo_one {p q r : Int × Int} (h : Un3 p q r) : fo p q r (1, 1) = r := by rw [← cr_three h]; exact fo_cr h h.gr
theorem fo_inj {p q r x y : Int × Int} (h : Un3 p q r) (gx : GoodP x.1 x.2) (gy : GoodP y.1 y.2) (e : fo p q r x = fo p q r y) : x = y := by
  rw [← cr_fo h gx, ← cr_fo h gy, e]
/-- four unlike points -/
structure Un4 (p q r x : Int × Int) : Prop extends Un3 p q r where
  gx : GoodP x.1 x.2
  xp : x ≠ p
  xq : x ≠ q
  xr : x ≠ r
section
variable {p q r x : Int × Int} (h : Un4 p q r x)
include h
theorem Un4.three21 : Un3 q p r := ⟨h.gq, h.gp, h.gr, h.pq.symm, h.qr, h.pr⟩
theorem Un4.three13 : Un3 p r q := ⟨h.gp, h.gr, h.gq, h.pr, h.pq, h.qr.symm⟩
theorem Un4.three214 : Un3 q p x := ⟨h.gq, h.gp, h.gx, h.pq.symm, h.xq.symm, h.xp.symm⟩
theorem Un4.three341 : Un3 r x p := ⟨h.gr, h.gx, h.gp, h.xr.symm, h.pr.symm, h.xp⟩
theorem Un4.three432 : Un3 x r q := ⟨h.gx, h.gr, h.gq, h.xr, h.xq, h.qr.symm⟩
theorem cr_way (A B : Int) (hAB : A ≠ 0 ∨ B ≠ 0) (e : A * (gap x p * gap r q) = B * (gap x q * gap r p)) : npt A B = cr p q r x := by
  rw [cr_eq h.toUn3 h.gx]
  exact npt_eq hAB (cr_ne h.toUn3 h.gx) e
theorem cr_turned : cr q p r x = npt (cr p q r x).2 (cr p q r x).1 := by
  rw [cr_eq h.three21 h.gx]
  obtain ⟨k, hk, e1, e2, g⟩ := npt_spec (cr_ne h.toUn3 h.gx)
  rw [← cr_eq h.toUn3 h.gx] at e1 e2 g
  refine npt_eq (cr_ne h.three21 h.gx) (g.ne.symm) ?_
  rw [e1, e2]
  generalize (cr p q r x).1 = u
  generalize (cr p q r x).2 = v
  grind
theorem cr_less : cr p r q x = npt ((cr p q r x).2 - (cr p q r x).1) (cr p q r x).2 := by
  rw [cr_eq h.three13 h.gx]
  obtain ⟨k, hk, e1, e2, g⟩ := npt_spec (cr_ne h.toUn3 h.gx)
  rw [← cr_eq h.toUn3 h.gx] at e1 e2 g
  have h0 : (cr p q r x).2 - (cr p q r x).1 ≠ 0 ∨ (cr p q r x).2 ≠ 0 := by have := g.ne; omega
  refine npt_eq (cr_ne h.three13 h.gx) h0 ?_
  generalize (cr p q r x).1 = u at *
  generalize (cr p q r x).2 = v at *
  have f1 : gap x p * gap q r = -(k * v) := by rw [← e2, gap_neg q r]; grind
  have f2 : gap x r * gap q p = -(k * (v - u)) := by
    have : gap x r * gap q p = gap x q * gap r p - gap x p * gap r q := by simp only [gap]; grind
    rw [this, e1, e2]; grind
  rw [f1, f2]; grind
theorem cr_214 : cr q p x r = cr p q r x := by
  rw [cr_eq h.three214 h.gr]
  exact cr_way h _ _ (cr_ne h.three214 h.gr) (by grind)
theorem cr_341 : cr r x p q = cr p q r x := by
  rw [cr_eq h.three341 h.gq]
  refine cr_way h _ _ (cr_ne h.three341 h.gq) ?_
  rw [gap_neg q x, gap_neg p r, gap_neg q r, gap_neg p x]; grind
theorem cr_432 : cr x r q p = cr p q r x := by
  rw [cr_eq h.three432 h.gp]
  refine cr_way h _ _ (cr_ne h.three432 h.gp) ?_
  rw [gap_neg p r, gap_neg q x, gap_neg p x, gap_neg q r]; grind
end
/-! ### the number is kept -/
theorem gap_mul (m : Ch) (x y : Int × Int) (k l : Int) (u v : Int × Int) (e1 : m.a * x.1 + m.b * x.2 = k * u.1) (e2 : m.c * x.1 + m.d * x.2 = k * u.2) (f1 : m.a * y.1 + m.b * y.2 = l * v.1) (f2 : m.c * y.1 + m.d * y.2 = l * v.2) :
    k * l * gap u v = m.det * gap x y := by
  have : k * l * gap u v = (k * u.1) * (l * v.2) - (k * u.2) * (l * v.1) := by simp only [gap]; grind
  rw [this, ← e1, ← e2, ← f1, ← f2]
  simp only [gap, Ch.det]; grind
theorem mv_un3 {m : Ch} (d : m.det ≠ 0) {p q r : Int × Int} (h : Un3 p q r) : Un3 (mv m p) (mv m q) (mv m r) :=
  ⟨mv_good d h.gp, mv_good d h.gq, mv_good d h.gr, fun e => h.pq (mv_inj d h.gp h.gq e), fun e => h.pr (mv_inj d h.gp h.gr e), fun e => h.qr (mv_inj d h.gq h.gr e)⟩
theorem cr_kept {m : Ch} (d : m.det ≠ 0) {p q r x : Int × Int} (h : Un3 p q r) (gx : GoodP x.1 x.2) : cr (mv m p) (mv m q) (mv m r) (mv m x) = cr p q r x := by
  have h' := mv_un3 d h
  rw [cr_eq h' (mv_good d gx), cr_eq h gx]
  refine npt_eq (cr_ne h' (mv_good d gx)) (cr_ne h gx) ?_
  obtain ⟨kp, kp0, p1, p2, _⟩ := npt_spec (lin_ne d h.gp.ne)
  obtain ⟨kq, kq0, q1, q2, _⟩ := npt_spec (lin_ne d h.gq.ne)
  obtain ⟨kr, kr0, r1, r2, _⟩ := npt_spec (lin_ne d h.gr.ne)
  obtain ⟨kx, kx0, x1, x2, _⟩ := npt_spec (lin_ne d gx.ne)
  have e1 := gap_mul m x q kx kq (mv m x) (mv m q) x1 x2 q1 q2
  have e2 := gap_mul m r p kr kp (mv m r) (mv m p) r1 r2 p1 p2
  have e3 := gap_mul m x p kx kp (mv m x) (mv m p) x1 x2 p1 p2
  have e4 := gap_mul m r q kr kq (mv m r) (mv m q) r1 r2 q1 q2
  generalize gap (mv m x) (mv m q) = a1 at *
  generalize gap (mv m r) (mv m p) = a2 at *
  generalize gap (mv m x) (mv m p) = a3 at *
  generalize gap (mv m r) (mv m q) = a4 at *
  generalize gap x q = b1 at *
  generalize gap r p = b2 at *
  generalize gap x p = b3 at *
  generalize gap r q = b4 at *
  have hz : kx * kq * kr * kp * (m.det * m.det) ≠ 0 := Int.mul_ne_zero (Int.mul_ne_zero (Int.mul_ne_zero (Int.mul_ne_zero kx0 kq0) kr0) kp0) (Int.mul_ne_zero d d)
  refine Int.eq_of_mul_eq_mul_left hz ?_
  have z1 : kx * kq * kr * kp * (m.det * m.det) * (a1 * a2 * (b3 * b4)) = (kx * kq * a1) * (kr * kp * a2) * ((m.det * b3) * (m.det * b4)) := by grind
  have z2 : kx * kq * kr * kp * (m.det * m.det) * (a3 * a4 * (b1 * b2)) = (kx * kp * a3) * (kr * kq * a4) * ((m.det * b1) * (m.det * b2)) := by grind
  rw [z1, z2, e1, e2, e3, e4]; grind
/-- four others, of the same number: told -/
theorem told_four {p q r x p' q' r' x' : Int × Int} (h : Un3 p q r) (gx : GoodP x.1 x.2) (h' : Un3 p' q' r') (gx' : GoodP x'.1 x'.2) : mv (told3 p q r p' q' r') x = x' ↔ cr p' q' r' x' = cr p q r x := by
  have g := told_good h.gp h.gq h.gr h.pq h.pr h.qr h'.gp h'.gq h'.gr h'.pq h'.pr h'.qr
  obtain ⟨l1, l2, l3⟩ := told_leads h.gp h.gq h.gr h.pq h.pr h.qr h'.gp h'.gq h'.gr h'.pq h'.pr h'.qr
  have k := cr_kept g.det h gx
  rw [l1, l2, l3] at k
  constructor
  · rintro rfl; exact k
  · intro e
    rw [← e] at k
    have := congrArg (fo p' q' r') k
    rw [fo_cr h' (mv_good g.det gx), fo_cr h' gx'] at this
    exact this
end Mx
namespace L3
open PySem PySem.Spec PyProof.Rows L2
abbrev St := L2.St

/-! ### sizes of numbers -/
def Bd (k : Nat) (i : Int) : Prop := i.natAbs < 2 ^ k
instance (k : Nat) (i : Int) : Decidable (Bd k i) := inferInstanceAs (Decidable (i.natAbs < 2 ^ k))
theorem Bd.mono {j k : Nat} {i : Int} (h : Bd j i) (l : j ≤ k) : Bd k i := Nat.lt_of_lt_of_le h (Nat.pow_le_pow_right (by decide) l)
theorem Bd.mul {j k : Nat} {a b : Int} (h : Bd j a) (h' : Bd k b) : Bd (j + k) (a * b) := by
  unfold Bd at *
  rw [Int.natAbs_mul, Nat.pow_add]
  exact Nat.mul_lt_mul'' h h'
theorem Bd.add {k : Nat} {a b : Int} (h : Bd k a) (h' : Bd k b) : Bd (k + 1) (a + b) := by
  unfold Bd at *
  rw [Nat.pow_succ]
  generalize (2 : Nat) ^ k = m at *
  omega
theorem Bd.sub {k : Nat} {a b : Int} (h : Bd k a) (h' : Bd k b) : Bd (k + 1) (a - b) := by
  unfold Bd at *
  rw [Nat.pow_succ]
  generalize (2 : Nat) ^ k = m at *
  omega
theorem Bd.neg {k : Nat} {a : Int} (h : Bd k a) : Bd k (-a) := by
  unfold Bd at *
  rw [Int.natAbs_neg]; exact h
theorem Bd.of_le {k : Nat} {a b : Int} (h : Bd k a) (l : b.natAbs ≤ a.natAbs) : Bd k b := Nat.lt_of_le_of_lt l h
theorem Bd.fdiv {k : Nat} {a : Int} (h : Bd k a) (b : Int) : Bd k (a.fdiv b) := h.of_le (natAbs_fdiv_le a b)
theorem Bd.gcd {k : Nat} {a b : Int} (h : Bd k a) (h' : Bd k b) : Bd k (Int.gcd a b : Int) := by
  by_cases ha : a = 0
  · subst ha
    refine h'.of_le ?_
    simp
  · refine h.of_le ?_
    simp only [Int.natAbs_natCast]
    exact Nat.le_of_dvd (by omega) (Int.gcd_dvd_natAbs_left a b)
theorem Bd.mulOk {k : Nat} {a b : Int} (h : Bd k a) (h' : Bd k b) (l : k ≤ 60000000) : IntMulOk a b :=
  IntMulOk.of_le (intBits_le_iff.mpr h) (intBits_le_iff.mpr h') (by omega)
theorem Bd.noPy {i j : Int} (h : Bd 8000 j) : Builtin.divisionGoesByPylong i j = false := by
  refine PyProof.noPylong_of_log2 ?_
  by_cases h0 : j.natAbs = 0
  · rw [h0]; decide +kernel
  · exact Nat.lt_of_lt_of_le ((Nat.log2_lt h0).mpr h) (by decide)
theorem Bd.lit {k : Nat} {a : Int} (h : a.natAbs < 2 ^ k) : Bd k a := h

section
variable {X : Cx}
def cDiv (_ j : Int) : Prop := j ≠ 0 ∧ Bd 8000 j
def cMul (i j : Int) : Prop := Bd 100000 i ∧ Bd 100000 j
theorem op_fdivB : OpR X (binaryOp .FloorDiv) (rI cDiv fun i j => .int (i.fdiv j)) :=
  opI fun _ _ _ _ _ _ _ hc q => floordiv_int hc.1 q (.inl hc.2.noPy)
theorem op_mulB : OpR X (binaryOp .Mult) (rI cMul fun i j => .int (i * j)) :=
  opI fun _ _ _ _ _ _ _ hc q => mul_int q (hc.1.mulOk hc.2 (by decide))
theorem call_absN : CallR X (.builtin "abs") (fun xs H Q => ∃ i : Int, xs = [.int i] ∧ Q (.int (i.natAbs : Int)) H) := by
  intro pins s σ H xs us Q I r h
  obtain ⟨i, rfl, q⟩ := h
  refine call_abs pins s σ H _ us Q I r ⟨i, rfl, ?_⟩
  have e : (if i < 0 then -i else i) = (i.natAbs : Int) := by split <;> omega
  rw [e]
  exact q
end

/-! ### data, seen through the tracked heap -/
mutual
def IsD (K : PySem.W.Frag) (H : Hp) : PyData → V → Prop
  | .none, v => v = .non
  | .bool b, v => v = .bl b
  | .int i, v => v = .int i
  | .str x, v => v = .str x
  | .list ps, v => ∃ a xs, v = .ref a ∧ SqL K H a xs ∧ IsDs K H ps xs
  | .tuple ps, v => ∃ a xs, v = .ref a ∧ SqT K H a xs ∧ IsDs K H ps xs
  | .dict _, _ => False
def IsDs (K : PySem.W.Frag) (H : Hp) : List PyData → List V → Prop
  | [], xs => xs = []
  | p :: ps, xs => ∃ y ys, xs = y :: ys ∧ IsD K H p y ∧ IsDs K H ps ys
end
section
variable {X : Cx} {pins : List (Addr × Obj)} {σ : St} {H : Hp} {s : Shared}
mutual
theorem IsD.reads (I : Inv X pins σ H s) : ∀ (p : PyData) (v : V) (u : Value), IsD X.K H p v → RelV v u → ∃ as, Reads s.heap u p as
  | .none, v, u, h, r => by
    simp only [IsD] at h; subst h; cases r; exact ⟨_, .none⟩
  | .bool b, v, u, h, r => by
    simp only [IsD] at h; subst h; cases r; exact ⟨_, .bool b⟩
  | .int i, v, u, h, r => by
    simp only [IsD] at h; subst h; obtain ⟨t, rfl⟩ := r; exact ⟨_, .int i t⟩
  | .str x, v, u, h, r => by
    simp only [IsD] at h; subst h; obtain ⟨t, rfl⟩ := r; exact ⟨_, .str x t⟩
  | .list ps, v, u, h, r => by
    simp only [IsD] at h
    obtain ⟨a, xs, rfl, hq, hs⟩ := h
    cases r
    obtain ⟨its, rv, ⟨o, n, e, c, _, d⟩, _⟩ := I.list hq
    obtain ⟨as, q⟩ := IsDs.reads I ps xs its hs rv
    exact ⟨_, .list e c d (by simpa using q)⟩
  | .tuple ps, v, u, h, r => by
    simp only [IsD] at h
    obtain ⟨a, xs, rfl, hq, hs⟩ := h
    cases r
    obtain ⟨its, rv, ⟨o, e, c, n, d⟩, _⟩ := I.tuple hq
    obtain ⟨as, q⟩ := IsDs.reads I ps xs its hs rv
    exact ⟨_, .tuple e c d (by simpa using q)⟩
  | .dict _, v, u, h, r => by simp only [IsD] at h
theorem IsDs.reads (I : Inv X pins σ H s) : ∀ (ps : List PyData) (xs : List V) (us : List Value), IsDs X.K H ps xs → Vals xs us → ∃ as, ReadsAll s.heap us ps as
  | [], xs, us, h, r => by
    simp only [IsDs] at h; subst h; cases r; exact ⟨_, .nil⟩
  | p :: ps, xs, us, h, r => by
    simp only [IsDs] at h
    obtain ⟨y, ys, rfl, h1, h2⟩ := h
    cases r with
    | cons r1 r2 =>
      obtain ⟨as, q1⟩ := IsD.reads I p y _ h1 r1
      obtain ⟨bs, q2⟩ := IsDs.reads I ps ys _ h2 r2
      exact ⟨_, .cons q1 q2⟩
end
end
theorem Same.tup {K : PySem.W.Frag} {H H' : Hp} {a : Addr} {xs : List V} (e : Same H H') (h : SqT K H a xs) : SqT K H' a xs := by
  rcases h with (h | ⟨o, h⟩) | h
  · exact .inl (.inl (e _ _ h))
  · exact .inl (.inr ⟨o, e _ _ h⟩)
  · exact .inr h
theorem same_new {H : Hp} {p : Addr} (h : H p = none) (o : HO) : Same H (upd H p o) := fun b u q => by
  rw [upd_ne (ne_of_none q h)]; exact q
mutual
theorem IsD.mono {K : PySem.W.Frag} {H H' : Hp} (e : Same H H') : ∀ (p : PyData) (v : V), IsD K H p v → IsD K H' p v
  | .none, v, h => by simp only [IsD] at h ⊢; exact h
  | .bool b, v, h => by simp only [IsD] at h ⊢; exact h
  | .int i, v, h => by simp only [IsD] at h ⊢; exact h
  | .str x, v, h => by simp only [IsD] at h ⊢; exact h
  | .list ps, v, h => by
    simp only [IsD] at h ⊢
    obtain ⟨a, xs, e1, hq, hs⟩ := h
    exact ⟨a, xs, e1, e.seq hq, IsDs.mono e ps xs hs⟩
  | .tuple ps, v, h => by
    simp only [IsD] at h ⊢
    obtain ⟨a, xs, e1, hq, hs⟩ := h
    exact ⟨a, xs, e1, Same.tup e hq, IsDs.mono e ps xs hs⟩
  | .dict _, v, h => by simp only [IsD] at h
theorem IsDs.mono {K : PySem.W.Frag} {H H' : Hp} (e : Same H H') : ∀ (ps : List PyData) (xs : List V), IsDs K H ps xs → IsDs K H' ps xs
  | [], xs, h => by simp only [IsDs] at h ⊢; exact h
  | p :: ps, xs, h => by
    simp only [IsDs] at h ⊢
    obtain ⟨y, ys, e1, h1, h2⟩ := h
    exact ⟨y, ys, e1, IsD.mono e p y h1, IsDs.mono e ps ys h2⟩
end
/-- a tuple of ints -/
def Tp (K : PySem.W.Frag) (H : Hp) (v : V) (ns : List Int) : Prop := ∃ a, v = .ref a ∧ SqT K H a (ns.map V.int)
theorem Tp.mono {K : PySem.W.Frag} {H H' : Hp} {v : V} {ns : List Int} (h : Tp K H v ns) (e : Same H H') : Tp K H' v ns := by
  obtain ⟨a, rfl, q⟩ := h
  exact ⟨a, rfl, Same.tup e q⟩
theorem isDs_ints {K : PySem.W.Frag} {H : Hp} : ∀ ns : List Int, IsDs K H (ns.map PyData.int) (ns.map V.int)
  | [] => by simp [IsDs]
  | n :: ns => by
    simp only [List.map_cons, IsDs]
    exact ⟨_, _, rfl, by simp only [IsD], isDs_ints ns⟩
theorem Tp.isD {K : PySem.W.Frag} {H : Hp} {v : V} {ns : List Int} (h : Tp K H v ns) : IsD K H (.tuple (ns.map PyData.int)) v := by
  obtain ⟨a, rfl, q⟩ := h
  simp only [IsD]
  exact ⟨a, _, rfl, q, isDs_ints ns⟩
theorem eqv_ints : ∀ ns ms : List Int, PyData.eqvAll (ns.map PyData.int) (ms.map PyData.int) = decide (ns = ms)
  | [], [] => by simp [PyData.eqvAll]
  | [], _ :: _ => by simp [PyData.eqvAll]
  | _ :: _, [] => by simp [PyData.eqvAll]
  | n :: ns, m :: ms => by
    simp only [List.map_cons, PyData.eqvAll, PyData.eqv, eqv_ints ns ms, List.cons.injEq]
    by_cases h1 : n = m
    · by_cases h2 : ns = ms <;> simp [h1, h2]
    · simp [h1]
theorem lay_ints : ∀ ns : List Int, PyData.canLayAll0 (ns.map PyData.int) = true
  | [] => by simp [PyData.canLayAll0]
  | _ :: ns => by simp [PyData.canLayAll0, PyData.canLay0, lay_ints ns]
theorem dep_ints : ∀ ns : List Int, PyData.depthAll (ns.map PyData.int) = 0
  | [] => by simp [PyData.depthAll]
  | _ :: ns => by simp [PyData.depthAll, PyData.depth, dep_ints ns]
theorem shaped_ints (ns : List Int) : SeqAt.shaped (.tuple (ns.map PyData.int)) = true := by
  unfold SeqAt.shaped
  simp only [PyData.canLay0, PyData.depth, lay_ints, dep_ints]
  decide
section
variable {X : Cx}
def rEqD (K : PySem.W.Frag) (neg : Bool) : R2 := fun x y H Q => ∃ p q, IsD K H p x ∧ IsD K H q y ∧ SeqAt.shaped p = true ∧ SeqAt.shaped q = true ∧ Q (.bl (if neg then !PyData.eqv p q else PyData.eqv p q)) H
theorem op_eqD (hu : X.A.units + 64 < cLine) : OpR X (compareOp .Eq) (rEqD X.K false) := by
  intro pins s σ H x y v u Q I rx ry h
  obtain ⟨p, q, hp, hq, sp, sq, h⟩ := h
  obtain ⟨as, ra⟩ := hp.reads I p x v rx
  obtain ⟨bs, rb⟩ := hq.reads I q y u ry
  exact eq_dataH ra rb sp sq hu ⟨.bl (PyData.eqv p q), H, I, rfl, by simpa using h⟩
theorem op_neD (hu : X.A.units + 64 < cLine) : OpR X (compareOp .NotEq) (rEqD X.K true) := by
  intro pins s σ H x y v u Q I rx ry h
  obtain ⟨p, q, hp, hq, sp, sq, h⟩ := h
  obtain ⟨as, ra⟩ := hp.reads I p x v rx
  obtain ⟨bs, rb⟩ := hq.reads I q y u ry
  exact ne_dataH ra rb sp sq hu ⟨.bl (!PyData.eqv p q), H, I, rfl, by simpa using h⟩
/-- two tuples of ints compared -/
def rEqT (K : PySem.W.Frag) (neg : Bool) : R2 := fun x y H Q => ∃ ns ms, Tp K H x ns ∧ Tp K H y ms ∧ Q (.bl (if neg then !decide (ns = ms) else decide (ns = ms))) H
theorem rEqT.toD {K : PySem.W.Frag} {neg : Bool} {x y : V} {H : Hp} {Q : VK} (h : rEqT K neg x y H Q) : rEqD K neg x y H Q := by
  obtain ⟨ns, ms, h1, h2, q⟩ := h
  refine ⟨_, _, h1.isD, h2.isD, shaped_ints ns, shaped_ints ms, ?_⟩
  simp only [PyData.eqv, eqv_ints]
  exact q
theorem op_eqT (hu : X.A.units + 64 < cLine) : OpR X (compareOp .Eq) (rEqT X.K false) :=
  fun pins s σ H x y v u Q I rx ry h => op_eqD hu pins s σ H x y v u Q I rx ry h.toD
theorem op_neT (hu : X.A.units + 64 < cLine) : OpR X (compareOp .NotEq) (rEqT X.K true) :=
  fun pins s σ H x y v u Q I rx ry h => op_neD hu pins s σ H x y v u Q I rx ry h.toD
/-- x in a list of data -/
def rInD (K : PySem.W.Frag) (neg : Bool) : R2 := fun x y H Q => ∃ p ps, IsD K H p x ∧ IsD K H (.list ps) y ∧ SeqAt.shaped p = true ∧ SeqAt.shaped (.list ps) = true ∧ Q (.bl (if neg then !(ps.any fun z => PyData.eqv z p) else ps.any fun z => PyData.eqv z p)) H
theorem room_in {A : Around} {p : PyData} {ps : List PyData} (hu : A.units + 80 < cLine) (hp : SeqAt.shaped p = true) : A.units + 1 + min (PyData.depthAll ps) p.depth < cLine := by
  have := SeqAt.depth_of_shaped hp
  have h2 : min (PyData.depthAll ps) p.depth ≤ p.depth := Nat.min_le_right _ _
  omega
theorem op_inD (hu : X.A.units + 80 < cLine) : OpR X (compareOp .In) (rInD X.K false) := by
  intro pins s σ H x y v u Q I rx ry h
  obtain ⟨p, ps, hp, hq, sp, sq, h⟩ := h
  obtain ⟨as, ra⟩ := hp.reads I p x v rx
  obtain ⟨bs, rb⟩ := hq.reads I _ y u ry
  exact SeqAt.in_list_reads rb ra (by simpa [PyData.canLay0] using SeqAt.canLay_of_shaped sq) (SeqAt.canLay_of_shaped sp) (room_in hu sp) ⟨.bl _, H, I, rfl, by simpa using h⟩
theorem op_notInD (hu : X.A.units + 80 < cLine) : OpR X (compareOp .NotIn) (rInD X.K true) := by
  intro pins s σ H x y v u Q I rx ry h
  obtain ⟨p, ps, hp, hq, sp, sq, h⟩ := h
  obtain ⟨as, ra⟩ := hp.reads I p x v rx
  obtain ⟨bs, rb⟩ := hq.reads I _ y u ry
  exact SeqAt.notIn_list_reads rb ra (by simpa [PyData.canLay0] using SeqAt.canLay_of_shaped sq) (SeqAt.canLay_of_shaped sp) (room_in hu sp) ⟨.bl _, H, I, rfl, by simpa using h⟩
end
end L3
namespace L3
open PySem PySem.Spec PyProof.Rows L2

/-! ### a list comprehension with one clause -/
def clOf (cells : List (Str × Addr)) : List (Str × NameKind) → List (Str × Addr) → List (Str × Addr)
  | [], cs => cs
  | (n, k) :: r, cs => clOf cells r (if k == .free then (n, (cells.lookup n).getD 0) :: cs else cs)
theorem closure_eq {scope : Scope} {env : Env} (h : ∀ y ∈ scope.names, y.2 = .free → ∃ c, env.cells.lookup y.1 = some c) :
    closureFor scope env = pure (clOf env.cells scope.names []) := by
  unfold closureFor
  have go : ∀ (names : List (Str × NameKind)) (cs : List (Str × Addr)), (∀ y ∈ names, y.2 = .free → ∃ c, env.cells.lookup y.1 = some c) →
      (forIn names cs fun (x : Str × NameKind) (r : List (Str × Addr)) => match x with
        | (name, kind) => if kind == .free then do
            let c ← cellOf env name
            pure (ForInStep.yield ((name, c) :: r))
          else pure (ForInStep.yield r) : Sem (List (Str × Addr))) = pure (clOf env.cells names cs) := by
    intro names
    induction names with
    | nil => intro cs _; rfl
    | cons y r ih =>
      intro cs hy
      obtain ⟨n, k⟩ := y
      rw [List.forIn_cons]
      by_cases hk : k = .free
      · subst hk
        obtain ⟨c, hc⟩ := hy (n, .free) List.mem_cons_self rfl
        have e1 : cellOf env n = pure c := by unfold cellOf; rw [hc]
        simp only [beq_self_eq_true, if_true, e1]
        have e2 := ih ((n, c) :: cs) fun z hz => hy z (List.mem_cons_of_mem _ hz)
        have e3 : clOf env.cells ((n, .free) :: r) cs = clOf env.cells r ((n, c) :: cs) := by
          simp only [clOf, beq_self_eq_true, if_true]
          have hc' : env.cells.lookup n = some c := hc
          rw [hc']; rfl
        rw [e3, ← e2]
        rfl
      · have hb : (k == NameKind.free) = false := by simpa using hk
        simp only [hb]
        have e2 := ih cs fun z hz => hy z (List.mem_cons_of_mem _ hz)
        have e3 : clOf env.cells ((n, k) :: r) cs = clOf env.cells r cs := by simp [clOf, hb]
        rw [e3, ← e2]
        rfl
  have e := go scope.names [] h
  show (forIn scope.names [] _ >>= fun cs => pure cs) = _
  rw [e]
  rfl
theorem clOf_sub {cells : List (Str × Addr)} : ∀ (names : List (Str × NameKind)) (cs : List (Str × Addr)), (∀ y ∈ names, y.2 = .free → ∃ c, cells.lookup y.1 = some c) →
    (∀ y c, cs.lookup y = some c → cells.lookup y = some c) → ∀ y c, (clOf cells names cs).lookup y = some c → cells.lookup y = some c
  | [], cs, _, h, y, c, e => h y c e
  | (n, k) :: r, cs, hf, h, y, c, e => by
    simp only [clOf] at e
    refine clOf_sub r _ (fun z hz => hf z (List.mem_cons_of_mem _ hz)) ?_ y c e
    intro z d hz
    by_cases hk : k = .free
    · subst hk
      simp only [beq_self_eq_true, if_true, List.lookup_cons] at hz
      obtain ⟨c', hc'⟩ := hf (n, .free) List.mem_cons_self rfl
      have hc' : cells.lookup n = some c' := hc'
      cases hzn : z == n with
      | true =>
        have ez : z = n := eq_of_beq hzn
        rw [hzn] at hz
        simp only [hc', Option.getD_some, Option.some.injEq] at hz
        rw [ez, hc', hz]
      | false =>
        rw [hzn] at hz
        exact h z d hz
    · have hb : (k == NameKind.free) = false := by simpa using hk
      simp only [hb, Bool.false_eq_true, if_false] at hz
      exact h z d hz
theorem clOf_keep {cells : List (Str × Addr)} {y : Str} : ∀ (names : List (Str × NameKind)) (cs : List (Str × Addr)), (∃ c, cs.lookup y = some c) → ∃ c, (clOf cells names cs).lookup y = some c
  | [], cs, h => h
  | (n, k) :: r, cs, h => by
    simp only [clOf]
    refine clOf_keep r _ ?_
    split
    · simp only [List.lookup_cons]
      cases y == n with
      | true => exact ⟨_, rfl⟩
      | false => exact h
    · exact h
theorem clOf_has {cells : List (Str × Addr)} {y : Str} : ∀ (names : List (Str × NameKind)) (cs : List (Str × Addr)), (y, NameKind.free) ∈ names → ∃ c, (clOf cells names cs).lookup y = some c
  | [], _, h => by cases h
  | (n, k) :: r, cs, h => by
    simp only [clOf]
    rcases List.mem_cons.mp h with e | h
    · cases e
      refine clOf_keep r _ ?_
      simp
    · exact clOf_has r _ h

structure CompScope (sc scope : Scope) (x : Str) (cn : List Str) : Prop where
  kind : scope.kind = .function
  nocell : ∀ y ∈ scope.names, y.2 ≠ .cell
  tgt : scope.names.lookup x = some .local
  names : ∀ y ∈ scope.names, y.2 = .local → scope.names.lookup y.1 = some .local
  fr : ∀ y ∈ scope.names, y.2 = .free → sc.names.lookup y.1 = some .cell ∨ sc.names.lookup y.1 = some .free
  nd : (x :: cn).Nodup
  cap : ∀ y ∈ cn, (y, NameKind.free) ∈ scope.names ∧ scope.names.lookup y = some .free

theorem lookup_mem_kind {y : Str} {k : NameKind} : ∀ {names : List (Str × NameKind)}, names.lookup y = some k → (y, k) ∈ names
  | [], h => by simp at h
  | (n, j) :: r, h => by
    simp only [List.lookup_cons] at h
    cases hy : y == n with
    | true =>
      rw [hy] at h
      have e : y = n := eq_of_beq hy
      cases h
      rw [e]; exact List.mem_cons_self
    | false =>
      rw [hy] at h
      exact List.mem_cons_of_mem _ (lookup_mem_kind h)
theorem lookup_relabel {env : Env} : ∀ {names : List (Str × NameKind)} {x : Str} {k : NameKind}, names.lookup x = some k →
    (names.map fun (n, k) => if (k == NameKind.free && env.scope.kind == .function && env.kindOf n == some .cell) then (n, NameKind.cell) else (n, k)).lookup x =
      some (if (k == NameKind.free && env.scope.kind == .function && env.kindOf x == some .cell) then NameKind.cell else k)
  | [], _, _, h => by simp at h
  | (n, j) :: r, x, k, h => by
    have ih := @lookup_relabel env r x k
    rw [List.map_cons]
    show List.lookup x ((if (j == NameKind.free && env.scope.kind == .function && env.kindOf n == some .cell) = true then (n, NameKind.cell) else (n, j)) :: _) = _
    cases hx : x == n with
    | true =>
      have e : x = n := eq_of_beq hx
      subst e
      simp only [List.lookup_cons, hx] at h
      cases h
      by_cases hc : (j == NameKind.free && env.scope.kind == .function && env.kindOf x == some .cell) = true
      · rw [if_pos hc, if_pos hc]; simp
      · rw [if_neg hc, if_neg hc]; simp
    | false =>
      simp only [List.lookup_cons, hx] at h
      by_cases hc : (j == NameKind.free && env.scope.kind == .function && env.kindOf n == some .cell) = true
      · rw [if_pos hc]; simp only [List.lookup_cons, hx]; exact ih h
      · rw [if_neg hc]; simp only [List.lookup_cons, hx]; exact ih h
/-- what a relabelled name was -/
theorem relabel_inv {env : Env} : ∀ {names : List (Str × NameKind)} {x : Str} {k : NameKind},
    (names.map fun (n, k) => if (k == NameKind.free && env.scope.kind == .function && env.kindOf n == some .cell) then (n, NameKind.cell) else (n, k)).lookup x = some k →
      ∃ j, names.lookup x = some j ∧ (k = j ∨ j = .free)
  | [], _, _, h => by simp at h
  | (n, j) :: r, x, k, h => by
    have ih := @relabel_inv env r x k
    rw [List.map_cons] at h
    dsimp only at h
    by_cases hc : (j == NameKind.free && env.scope.kind == .function && env.kindOf n == some .cell) = true
    · have hj : j = .free := by
        simp only [Bool.and_eq_true] at hc
        exact eq_of_beq hc.1.1
      rw [if_pos hc] at h
      cases hx : x == n with
      | true => exact ⟨j, by simp [List.lookup_cons, hx], .inr hj⟩
      | false =>
        simp only [List.lookup_cons, hx] at h
        obtain ⟨i, e, q⟩ := ih h
        exact ⟨i, by simp only [List.lookup_cons, hx]; exact e, q⟩
    · rw [if_neg hc] at h
      cases hx : x == n with
      | true =>
        simp only [List.lookup_cons, hx] at h
        exact ⟨j, by simp [List.lookup_cons, hx], .inl (Option.some.inj h).symm⟩
      | false =>
        simp only [List.lookup_cons, hx] at h
        obtain ⟨i, e, q⟩ := ih h
        exact ⟨i, by simp only [List.lookup_cons, hx]; exact e, q⟩

theorem caps_len {N cn : List Str} {caps : List Nat} (h : caps.map (fun i => N[i]?) = cn.map some) : caps.length = cn.length := by
  have := congrArg List.length h
  simpa using this
theorem caps_at {N cn : List Str} {caps : List Nat} (h : caps.map (fun i => N[i]?) = cn.map some) : ∀ j : Nat, ∀ y, cn[j]? = some y → ∃ i, caps[j]? = some i ∧ N[i]? = some y := fun j y e => by
  have q := congrArg (fun l => l[j]?) h
  simp only [List.getElem?_map, e, Option.map_some] at q
  cases c : caps[j]? with
  | none => rw [c] at q; cases q
  | some i =>
    rw [c] at q
    simp only [Option.map_some, Option.some.injEq] at q
    exact ⟨i, rfl, q⟩
/-- the block's context -/
def cxComp (X : Cx) (scope : Scope) (cl : List (Str × Addr)) (C : Addr) (N : List Str) (s₀ : Shared) (H₀ : Hp) (ex : List Addr) : Cx where
  prog := X.prog
  w := X.w
  K := X.K
  mg := X.mg
  base := X.base
  A := X.A
  N := N
  s₀ := s₀
  H₀ := H₀
  env := compEnvC scope cl C X.env
  outer := X.stack
  stack := X.stack
  ex := ex
  fn := fun _ => false
  calm := X.calm
  pn := []
  xe := fun _ _ => False
/-- the tests of the clause -/
def PQ (X : Cx) (ifs : List Expr) (t : TT) : Prop :=
  ∀ (pins : List (Addr × Obj)) (s : Shared) (σ : St) (H : Hp) (Q : Bool → Hp → Prop), Inv X pins σ H s → t σ H Q →
    wpAny (model X.prog X.w) X.A (forIn ifs true fun c r => if r = true then do let ok ← isTrue c X.env (eval c X.env); pure (ForInStep.yield ok) else pure (ForInStep.yield r)) (TP X pins σ Q) X.xe s
def tYes : TT := fun _ H Q => Q true H
theorem pq_nil {X : Cx} : PQ X [] tYes := fun _ _ _ H _ I h => wpAny_tests_nil ⟨H, I, h⟩
theorem pq_one {X : Cx} {c : Expr} {t : TT} (h : PT X c t) : PQ X [c] t := fun pins s σ H Q I q => wpAny_tests_one (h pins s σ H Q I q)
/-- the names' values in the block: the target, then what is captured -/
def capσ (caps : List Nat) (σ : St) : St := caps.map fun i => (σ[i]?).join
/-- the reading: W by the turn, a measure, what is gathered, the heap -/
def tComp (caps : List Nat) (wi : TI) (tt : TT) (te : TE) : TE := fun σ H Q => wi σ H fun J H1 => ∃ W : Nat → Nat → List V → Hp → Prop, (∃ m, W 0 m [] H1) ∧ ∀ i m acc H, W i m acc H →
  (J.stop i H ∧ acc.length ≤ sizeLine ∧ ∀ p, H p = none → Q (.ref p) (upd H p (.lst acc))) ∨
  (J.go i H ∧ acc.length ≤ sizeLine ∧ ∀ v H', J.yld i H v H' → tt (some v :: capσ caps σ) H' fun b H2 =>
    if b = true then te (some v :: capσ caps σ) H2 fun y H3 => ∃ m', m' < m ∧ W (i + 1) m' (acc ++ [y]) H3 else ∃ m', m' < m ∧ W (i + 1) m' acc H2)

section
variable {X : Cx} {pins : List (Addr × Obj)} {σ : St} {H2 : Hp} {s2 : Shared}

/-- the address of the block's names: nobody else's -/
structure CFree (X : Cx) (pins : List (Addr × Obj)) (C : Addr) (H : Hp) : Prop where
  no : H C = none
  ne : C ≠ X.env.locals
  up : X.s₀.heap.objs.size ≤ C
  cells : ∀ x c, X.env.cells.lookup x = some c → c ≠ C
  pin : ∀ p ∈ X.pn ++ pins, p.1 ≠ C

/-- the state behind the block -/
theorem comp_back {scope : Scope} {cl : List (Str × Addr)} {N : List Str} {fp : List Addr} {D C : Addr} {s3 s' : Shared} {pl : List (Addr × Obj)} {σ' : St} {H' : Hp} {acc : List V} {its : List Value} {n : Nat}
    (I : Inv X pins σ H2 s2) (hf : ∀ b ∈ fp, FpOk X pins H2 b) (hD : D = s2.heap.objs.size) (hC : C = s2.heap.objs.size + 1)
    (h3 : s3 = { s2 with heap := s2.heap.push { cls := .type "list", data := .seq (([] : List Value).toArray) } })
    (J : Inv (cxComp X scope cl C N s3 H2 (D :: fp)) pl σ' H' s') (nD : H' D = none) (oD : s'.heap.get? D = some { cls := .type "list", data := .seq its.toArray n }) (rv : Vals acc its) (hz : acc.length ≤ sizeLine) :
    Inv X pins σ (upd H' D (.lst acc)) s' ∧ CFree X pins C (upd H' D (.lst acc)) := by
  have lt2 : ∀ b o, s2.heap.get? b = some o → b < D := fun b o e => by rw [hD]; exact Heap.lt_size e
  have push : ∀ b o, s2.heap.get? b = some o → s3.heap.get? b = some o := fun b o e => by rw [h3]; exact Heap.get?_push_of_some _ e
  have nH2 : ∀ b, D ≤ b → H2 b = none := fun b hb => I.hok.fresh (by rw [← hD]; exact hb)
  have hnD : ∀ b o, H2 b = some o → b ≠ D := fun b o e z => by rw [z, nH2 D (Nat.le_refl _)] at e; cases e
  have nex : ∀ b, b < D → b ∉ fp → b ∉ (cxComp X scope cl C N s3 H2 (D :: fp)).ex := fun b hb hf' hm => by
    rcases List.mem_cons.mp hm with z | z
    · exact absurd hb (by rw [z]; exact Nat.lt_irrefl _)
    · exact hf' z
  have fs_eq : (cxComp X scope cl C N s3 H2 (D :: fp)).fs = frs X.stack := rfl
  have un : Un (frs X.stack) fp H2 (upd H' D (.lst acc)) s2.heap s'.heap := by
    refine ⟨fun b o e n hb hx => ?_, fun b o e n hb hx => ?_, fun b o e n hx => ?_, fun b o e hx => ?_, fun b xs e => ?_, fun b o u e => ?_, fun b ps e => ?_⟩
    · exact J.base.keep b o (push b o e) n hb (nex b (lt2 b o e) hx)
    · exact J.base.slot b o (push b o e) n hb (nex b (lt2 b o e) hx)
    · rw [upd_ne (Nat.ne_of_lt (lt2 b o e))]
      exact J.base.free b o (push b o e) n (nex b (lt2 b o e) hx)
    · exact J.base.there b o (push b o e) (nex b (lt2 b o e) hx)
    · rw [upd_ne (hnD b _ e)]; exact J.base.tups b xs e
    · rw [upd_ne (hnD b _ e)]; exact J.base.frzs b o u e
    · obtain ⟨more, q⟩ := J.base.tbls b ps e
      exact ⟨more, by rw [upd_ne (hnD b _ e)]; exact q⟩
  have hok : HOk X.prog X.w (upd H' D (.lst acc)) s'.heap := fun b o e => by
    by_cases hb : b = D
    · subst hb
      rw [upd_same] at e; cases e
      exact ⟨hz, its, n, rv, oD⟩
    · rw [upd_ne hb] at e
      exact (J.hok b o e).stay (fun _ _ _ q => q) (fun c q => by rw [upd_ne (ne_of_none q nD)]; exact q) fun c xs q => by rw [upd_ne (ne_of_none q nD)]; exact q
  have os : s'.os = s2.os := by
    have e : s'.os = s3.os := J.os
    rw [e, h3]
  refine ⟨I.call' (ch := fp) os un hok J.bare fun b hb => ?_, ?_⟩
  · obtain ⟨f0, f1, f2, f3, f4, f5⟩ := hf b hb
    exact ⟨f3, f1, f4, f5⟩
  · have hCD : C ≠ D := by rw [hC, hD]; exact Nat.succ_ne_self _
    refine ⟨by rw [upd_ne hCD]; exact J.free, ?_, ?_, fun x c e z => ?_, fun p hp z => ?_⟩
    · rw [hC]; exact Nat.ne_of_gt (Nat.lt_succ_of_lt I.lt)
    · rw [hC]; exact Nat.le_succ_of_le I.sz
    · obtain ⟨v, q⟩ := I.cell x c e
      have := q.lt
      rw [z, hC] at this; exact absurd (Nat.lt_of_succ_lt this) (Nat.lt_irrefl _)
    · have := Heap.lt_size (I.pin p hp).1
      rw [z, hC] at this; exact absurd (Nat.lt_of_succ_lt this) (Nat.lt_irrefl _)

/-- the block runs -/
theorem comp_run {elt iter : Expr} {x : Str} {px pos : Pos} {ifs : List Expr} {scope : Scope} {cl : List (Str × Addr)} {caps : List Nat} {cn : List Str} {te : TE} {tt : TT} {it : Addr} {fp : List Addr} {tn : Nat → Heap → Prop} {J : It}
    {W : Nat → Nat → List V → Hp → Prop} {m0 : Nat} {Qe : V → Hp → Prop} {E : Value → Shared → Prop} {R : Value → Addr → Result → Shared → Prop}
    (S : CompScope X.env.scope scope x cn) (hcl : cl = clOf X.env.cells scope.names []) (hcap : ∀ j : Nat, ∀ y, cn[j]? = some y → ∃ i, caps[j]? = some i ∧ X.N[i]? = some y) (hlen : caps.length = cn.length)
    (hc : X.calm = true) (I2 : Inv X pins σ H2 s2) (T : Turn X.prog X.w X.K (.Name x px) J fp it tn) (st2 : tn 0 s2.heap) (f2 : ∀ b ∈ fp, FpOk X pins H2 b)
    (w0 : W 0 m0 [] H2) (turn : ∀ i m acc H, W i m acc H →
      (J.stop i H ∧ acc.length ≤ sizeLine ∧ ∀ p, H p = none → Qe (.ref p) (upd H p (.lst acc))) ∨
      (J.go i H ∧ acc.length ≤ sizeLine ∧ ∀ v H', J.yld i H v H' → tt (some v :: capσ caps σ) H' fun b H2 =>
        if b = true then te (some v :: capσ caps σ) H2 fun y H3 => ∃ m', m' < m ∧ W (i + 1) m' (acc ++ [y]) H3 else ∃ m', m' < m ∧ W (i + 1) m' acc H2))
    (he : ∀ C s₀ H₀ ex, PE (cxComp X scope cl C (x :: cn) s₀ H₀ ex) elt te) (ht : ∀ C s₀ H₀ ex, PQ (cxComp X scope cl C (x :: cn) s₀ H₀ ex) ifs tt)
    (hR : ∀ D C s' H', Inv X pins σ H' s' → (∃ m, s'.heap.Ns C m) → CFree X pins C H' → Qe (.ref D) H' → R (.ref D) C (.ok .next) s') :
    wpAny (model X.prog X.w) X.A (newList []) (fun acc s3 => wpAny (model X.prog X.w) X.A (newFunctionEnv scope X.env.globals cl [] X.env.qual none .none (some X.env)) (fun cenv s4 =>
      codeAny (model X.prog X.w) X.A (.compStart (.ListComp elt [⟨.Name x px, iter, ifs, 0⟩] scope pos) 0 (.ref it) acc { cenv with scope := relabel scope X.env }) (R acc cenv.locals) s4) E s3) E s2 := by
  refine wpAny_newList (items := []) (wpAny_newFunctionEnv S.nocell (by intro y hy; simp at hy) (fun h4 hns hsb => ?_) S.kind)
  have hhas : ∀ y ∈ scope.names, y.2 = .free → ∃ c, X.env.cells.lookup y.1 = some c := fun y hy hk => I2.ok.has y.1 (S.fr y hy hk)
  have csub : ∀ y c, cl.lookup y = some c → X.env.cells.lookup y = some c := fun y c e => by
    rw [hcl] at e
    exact clOf_sub scope.names [] hhas (fun _ _ z => by simp at z) y c e
  -- names for the places
  generalize hD : s2.heap.objs.size = D at *
  obtain ⟨s3, h3⟩ : ∃ s3 : Shared, s3 = { s2 with heap := s2.heap.push { cls := .type "list", data := .seq (([] : List Value).toArray) } } := ⟨_, rfl⟩
  have hs3 : ({ s2 with heap := s2.heap.push { cls := .type "list", data := .seq (([] : List Value).toArray) } } : Shared) = s3 := h3.symm
  have hC : (s2.heap.push { cls := .type "list", data := .seq (([] : List Value).toArray) }).objs.size = D + 1 := by rw [Heap.size_push, hD]
  rw [hC] at hns hsb
  show codeAny (model X.prog X.w) X.A (.compStart (.ListComp elt [⟨.Name x px, iter, ifs, 0⟩] scope pos) 0 (.ref it) (.ref D)
    { newEnv scope (s2.heap.push { cls := .type "list", data := .seq (([] : List Value).toArray) }).objs.size X.env.globals cl X.env.qual none .none (some X.env) _ with scope := relabel scope X.env })
    (R (.ref D) (s2.heap.push { cls := .type "list", data := .seq (([] : List Value).toArray) }).objs.size) _
  rw [hC]
  have fresh : ∀ b, D ≤ b → H2 b = none := fun b hb => I2.hok.fresh (by rw [hD]; exact hb)
  have lt2 : ∀ b o, s2.heap.get? b = some o → b < D := fun b o e => by rw [← hD]; exact Heap.lt_size e
  have fpD : ∀ b ∈ fp, b < D := fun b hb => by
    obtain ⟨o, e, _⟩ := T.obj 0 _ st2 b hb
    exact lt2 b o e
  have kp : ∀ b o, s2.heap.get? b = some o → h4.get? b = some o := fun b o e =>
    (hsb.2 b (Nat.ne_of_lt (Nat.lt_succ_of_lt (lt2 b o e)))).trans (Heap.get?_push_of_some _ (Heap.get?_push_of_some _ e))
  have oD4 : h4.get? D = some { cls := .type "list", data := .seq (([] : List Value).toArray) 0 } := by
    refine (hsb.2 D (Nat.ne_of_lt (Nat.lt_succ_self _))).trans (Heap.get?_push_of_some _ ?_)
    rw [← hD]; exact Heap.get?_push_size _ rfl
  have stkNe : ∀ b ∈ frs X.stack, b < D := fun b hb => by
    rcases List.mem_cons.mp (I2.stkSub b hb) with e | hb
    · rw [e, ← hD]; exact I2.lt
    · obtain ⟨_, o, ho, _⟩ := I2.ok.funs.mem hb
      rw [← hD]; exact Nat.lt_of_lt_of_le (Heap.lt_size ho) I2.sz
  -- the block's context
  have ok' : (cxComp X scope cl (D + 1) (x :: cn) s3 H2 (D :: fp)).Ok := by
    refine ⟨I2.ok.mod, S.kind, I2.ok.glob, I2.ok.blt, ?_, fun y z c e1 e2 => I2.ok.inj y z c (csub y c e1) (csub z c e2), fun y hy => ?_, fun y c hf => (nomatch hf), I2.ok.hd, I2.ok.frames, .inl rfl, fun b hb => ?_, fun b o e => ?_, ?_, fun b o e hb => ?_, fun b hb hfs => ?_, ?_, I2.stkFree⟩
    · show s3.heap.objs.size ≤ D + 1
      rw [h3]; show (s2.heap.push _).objs.size ≤ _; rw [hC]; exact Nat.le_refl _
    · have hy' : (relabel scope X.env).names.lookup y = some .cell ∨ (relabel scope X.env).names.lookup y = some .free := hy
      have : ∃ j, scope.names.lookup y = some j ∧ j = NameKind.free := by
        rcases hy' with z | z
        · obtain ⟨j, e, q⟩ := relabel_inv z
          rcases q with q | q
          · exact absurd q.symm (S.nocell (y, j) (lookup_mem_kind e))
          · exact ⟨j, e, q⟩
        · obtain ⟨j, e, q⟩ := relabel_inv z
          rcases q with q | q
          · exact ⟨j, e, q.symm⟩
          · exact ⟨j, e, q⟩
      obtain ⟨j, e, rfl⟩ := this
      show ∃ c, cl.lookup y = some c
      rw [hcl]; exact clOf_has _ _ (lookup_mem_kind e)
    · rcases List.mem_cons.mp hb with z | z
      · subst z
        refine ⟨Nat.ne_of_lt (Nat.lt_succ_self _), fun y c e q => ?_⟩
        obtain ⟨v, ce⟩ := I2.cell y c (csub y c e)
        have := ce.lt; rw [q, hD] at this; exact Nat.lt_irrefl _ this
      · refine ⟨Nat.ne_of_lt (Nat.lt_succ_of_lt (fpD b z)), fun y c e q => ?_⟩
        exact (f2 b z).2.2.2.2.1 y c (csub y c e) q
    · obtain ⟨q1, q2⟩ := I2.bs b o e
      exact ⟨by rw [h3]; exact Heap.get?_push_of_some _ q1, q2⟩
    · show X.base.objs.size ≤ s3.heap.objs.size
      rw [h3]; show _ ≤ (s2.heap.push _).objs.size; rw [hC]
      exact Nat.le_succ_of_le (by rw [← hD]; exact Nat.le_trans I2.ok.bsz I2.sz)
    · rcases List.mem_cons.mp hb with z | z
      · have := lt2 b o (I2.bs b o e).1
        rw [z] at this; exact Nat.lt_irrefl _ this
      · rcases (f2 b z).2.2.2.1 with q | q
        · exact I2.ok.noex b o e q
        · exact absurd (Nat.lt_of_lt_of_le (Nat.lt_of_lt_of_le (Heap.lt_size e) I2.ok.bsz) q) (Nat.lt_irrefl _)
    · rcases List.mem_cons.mp hb with z | z
      · have := stkNe b hfs; rw [z] at this; exact Nat.lt_irrefl _ this
      · have hfs' : b ∈ frs X.stack := hfs
        rcases List.mem_cons.mp (I2.stkSub b hfs') with q | q
        · exact (f2 b z).2.1 q
        · exact (f2 b z).2.2.1 q
    · show s3.heap.FunFrames X.base X.stack
      have all : ∀ (l : List Env), s2.heap.FunFrames X.base l → s3.heap.FunFrames X.base l := by
        intro l
        induction l with
        | nil => intro _; trivial
        | cons env r ih =>
          intro hl
          obtain ⟨hk, ⟨L, o, hf, hn, ho, hd⟩, hr⟩ := hl
          exact ⟨hk, ⟨L, o, hf, hn, by rw [h3]; exact Heap.get?_push_of_some _ ho, hd⟩, ih hr⟩
      exact all _ I2.stack
  -- the captured names
  have cap4 : ∀ (j : Nat) (y : Str) (v : V), cn[j]? = some y → (capσ caps σ)[j]? = some (some v) → ∃ u c, RelV v u ∧ cl.lookup y = some c ∧ h4.IsCell c (some u) := fun j y v e1 e2 => by
    obtain ⟨i, hi, hN⟩ := hcap j y e1
    have e3 : σ[i]? = some (some v) := by
      unfold capσ at e2
      rw [List.getElem?_map, hi] at e2
      simp only [Option.map_some, Option.some.injEq] at e2
      cases q : σ[i]? with
      | none => rw [q] at e2; cases e2
      | some o => rw [q] at e2; cases o with
        | none => cases e2
        | some w => simp at e2; subst e2; rfl
    obtain ⟨m, hn, hl⟩ := I2.loc
    obtain ⟨hmem, hlk⟩ := S.cap y (List.mem_of_getElem? e1)
    have hk := S.fr (y, .free) hmem rfl
    have hk' : X.env.kindOf y = some .cell ∨ X.env.kindOf y = some .free := hk
    obtain ⟨u, r, l⟩ := hl i y v hN e3 (by rcases hk with z | z; exact .inr (.inl z); exact .inr (.inr z))
    rcases l with ⟨k, _⟩ | ⟨_, c, e, z⟩
    · rcases hk' with q | q <;> rw [q] at k <;> cases k
    · obtain ⟨c', hc'⟩ : ∃ c', cl.lookup y = some c' := by rw [hcl]; exact clOf_has _ _ hmem
      have := csub y c' hc'
      rw [e] at this; cases this
      obtain ⟨o, ho, hd⟩ := z
      exact ⟨u, c, r, hc', o, kp c o ho, hd⟩
  have cells4 : ∀ y c, cl.lookup y = some c → ∃ v, h4.IsCell c v := fun y c e => by
    obtain ⟨v, o, ho, hd⟩ := I2.cell y c (csub y c e)
    exact ⟨v, o, kp c o ho, hd⟩
  obtain ⟨s4, hs4⟩ : ∃ s4 : Shared, s4 = { s2 with heap := h4, toks := s2.toks + ([] : List (Str × Value)).length } := ⟨_, rfl⟩
  have J0 : Inv (cxComp X scope cl (D + 1) (x :: cn) s3 H2 (D :: fp)) [] (none :: capσ caps σ) H2 s4 := by
    have b3 : ∀ b o, s3.heap.get? b = some o → h4.get? b = some o := fun b o e => by
      rw [h3] at e
      have hb : b < D + 1 := by rw [← hC]; exact Heap.lt_size e
      exact (hsb.2 b (Nat.ne_of_lt hb)).trans (Heap.get?_push_of_some _ e)
    refine ⟨ok', ?_, ?_, ?_, ⟨_, (by rw [hs4]; exact hns), fun j y v e1 e2 e3 => ?_⟩, fun y c e => (by rw [hs4]; exact cells4 y c e), fresh _ (Nat.le_succ _), fun y c e => I2.freeC y c (csub y c e), fun p hp => (nomatch hp), ?_, ?_⟩
    · rw [hs4]; show s2.os = s3.os; rw [h3]
    · rw [hs4]; exact I2.bare
    · rw [hs4]; exact Un.kept b3
    · cases j with
      | zero => simp at e2
      | succ j =>
        have e1' : cn[j]? = some y := by simpa [cxComp] using e1
        have e2' : (capσ caps σ)[j]? = some (some v) := by simpa using e2
        obtain ⟨u, c, r, ec, ic⟩ := cap4 j y v e1' e2'
        refine ⟨u, r, .inr ⟨?_, c, ec, by rw [hs4]; exact ic⟩⟩
        have q := lookup_relabel (env := X.env) (S.cap y (List.mem_of_getElem? e1')).2
        show (relabel scope X.env).names.lookup y = _ ∨ (relabel scope X.env).names.lookup y = _
        unfold relabel
        rw [q]
        split
        · exact .inl rfl
        · exact .inr rfl
    · rw [hs4]; exact I2.hok.kept kp
    · show (none :: capσ caps σ).length = (x :: cn).length
      simp [capσ, hlen]
  -- what the iterator asks
  have fpk : ∀ {H' : Hp} {n : Nat} {its : List Value}, (∀ b ∈ fp, H' b = none) → ∀ b ∈ fp, FpOk (cxComp X scope cl (D + 1) (x :: cn) s3 H2 (D :: fp)) [(D, ({ cls := .type "list", data := .seq its.toArray n } : Obj))] H' b := fun {H' n its} hn b hb => by
    refine ⟨hn b hb, (ok'.exf b (List.mem_cons_of_mem _ hb)).1, ok'.exfs b (List.mem_cons_of_mem _ hb), .inl (List.mem_cons_of_mem _ hb), (ok'.exf b (List.mem_cons_of_mem _ hb)).2, fun p hp => ?_⟩
    have e : p = (D, ({ cls := .type "list", data := .seq its.toArray n } : Obj)) := by simpa [cxComp] using hp
    subst e
    exact Ne.symm (Nat.ne_of_lt (fpD b hb))
  have pinD : ∀ {σ' : St} {H' : Hp} {s' : Shared} {n : Nat} {its : List Value}, Inv (cxComp X scope cl (D + 1) (x :: cn) s3 H2 (D :: fp)) [] σ' H' s' → H' D = none → s'.heap.get? D = some { cls := .type "list", data := .seq its.toArray n } →
      Inv (cxComp X scope cl (D + 1) (x :: cn) s3 H2 (D :: fp)) [(D, ({ cls := .type "list", data := .seq its.toArray n } : Obj))] σ' H' s' := fun {σ' H' s' n its} J hn hd => by
    refine J.pins_of fun p hp => ?_
    have e : p = (D, ({ cls := .type "list", data := .seq its.toArray n } : Obj)) := by simpa using hp
    subst e
    exact ⟨hd, hn, (ok'.exf D List.mem_cons_self).1, ok'.exfs D List.mem_cons_self, fun v z => by cases z⟩
  have locX : Loc (cxComp X scope cl (D + 1) (x :: cn) s3 H2 (D :: fp)).env.scope x := .inl (lookup_relabel_local S.tgt)
  -- the loop
  have loop : ∀ s', s' = s4 → codeAny (model X.prog X.w) X.A (.compLoop (.ListComp elt [⟨.Name x px, iter, ifs, 0⟩] scope pos) 0 (.ref it) (.ref D) (compEnvC scope cl (D + 1) X.env)) (R (.ref D) (D + 1)) s' := by
    rintro s' rfl
    refine codeAny_compLoop_tests (fun k s' => ∃ i acc its n o H', Inv (cxComp X scope cl (D + 1) (x :: cn) s3 H2 (D :: fp)) [] (o :: capσ caps σ) H' s' ∧ tn i s'.heap ∧ (∀ b ∈ fp, H' b = none) ∧ H' D = none ∧
      s'.heap.get? D = some { cls := .type "list", data := .seq its.toArray n } ∧ Vals acc its ∧ W i k acc H') ?_ m0
      ⟨0, [], [], 0, none, H2, J0, (by rw [hs4]; exact T.keep 0 _ _ st2 fun b _ o e => kp b o e), fun b hb => (f2 b hb).1, fresh D (Nat.le_refl _), (by rw [hs4]; exact oD4), .nil, w0⟩
    rintro k s5 ⟨i, acc, its, n, o, H5, J5, st5, fn5, nD5, oD5, rv5, w5⟩
    have J5' := pinD J5 nD5 oD5
    have nov : ∀ {α : Type} {t : Sem α} {Q : α → Shared → Prop} {E' : Value → Shared → Prop} {s : Shared}, wpAny (model X.prog X.w) X.A t Q (fun _ _ => False) s → wpAny (model X.prog X.w) X.A t Q E' s :=
      fun h => wpAny_mono h (fun _ _ q => q) fun _ _ q => q.elim
    rcases turn i k acc H5 w5 with ⟨stop, hz, fin⟩ | ⟨go, hz, step⟩
    · refine nov (thn (T.done (cxComp X scope cl (D + 1) (x :: cn) s3 H2 (D :: fp)) rfl rfl rfl hc i _ s5 _ H5 _ J5' (fpk fn5) st5 stop) fun r s6 ⟨hr, J6⟩ => ?_)
      subst hr
      have oD6 := (J6.pin _ (List.mem_append_right _ List.mem_cons_self)).1
      obtain ⟨I6, cf⟩ := comp_back I2 f2 hD.symm (by rw [hD]) h3 J6 nD5 oD6 rv5 hz
      obtain ⟨m, hm, _⟩ := J6.loc
      exact hR D (D + 1) s6 _ I6 ⟨m, hm⟩ cf (fin D nD5)
    · refine nov (thn (T.item (cxComp X scope cl (D + 1) (x :: cn) s3 H2 (D :: fp)) rfl rfl rfl hc i _ s5 _ H5 _ J5' (fpk fn5) st5 go) fun r s6 ⟨u, hr, h6⟩ => ?_)
      subst hr
      show wpAny _ _ (assign (.Name x px) (compEnvC scope cl (D + 1) X.env) u) _ _ s6
      have h6' : wpAny (model X.prog X.w) X.A (letOwnedTupleGo (.Name x px) (.ref it) u >>= fun _ => assign (.Name x px) (compEnvC scope cl (D + 1) X.env) u) (fun _ s₂ =>
          wpAny (model X.prog X.w) X.A (forIn ifs true fun c r => if r = true then do let ok ← isTrue c (compEnvC scope cl (D + 1) X.env) (eval c (compEnvC scope cl (D + 1) X.env)); pure (ForInStep.yield ok) else pure (ForInStep.yield r)) (fun ok s₃ =>
            if ok = true then wpAny (model X.prog X.w) X.A (eval elt (compEnvC scope cl (D + 1) X.env)) (fun y s₄ =>
              wpAny (model X.prog X.w) X.A (call (.builtin "list.append") [.ref D, y]) (fun _ s₅ => ∃ m, m < k ∧ ∃ i acc its n o H', Inv (cxComp X scope cl (D + 1) (x :: cn) s3 H2 (D :: fp)) [] (o :: capσ caps σ) H' s₅ ∧ tn i s₅.heap ∧ (∀ b ∈ fp, H' b = none) ∧ H' D = none ∧
                s₅.heap.get? D = some { cls := .type "list", data := .seq its.toArray n } ∧ Vals acc its ∧ W i m acc H') (fun _ _ => False) s₄) (fun _ _ => False) s₃
            else ∃ m, m < k ∧ ∃ i acc its n o H', Inv (cxComp X scope cl (D + 1) (x :: cn) s3 H2 (D :: fp)) [] (o :: capσ caps σ) H' s₃ ∧ tn i s₃.heap ∧ (∀ b ∈ fp, H' b = none) ∧ H' D = none ∧
                s₃.heap.get? D = some { cls := .type "list", data := .seq its.toArray n } ∧ Vals acc its ∧ W i m acc H') (fun _ _ => False) s₂) (fun _ _ => False) s6 := by
        refine wpAny_bind (thn h6 fun _ s7 ⟨v, H7, J7, r7, y7, st7, fn7⟩ => ?_)
        have J7' := J7.pinned (fpk fn7) (T.obj _ _ st7)
        have pg := pg_name (X := cxComp X scope cl (D + 1) (x :: cn) s3 H2 (D :: fp)) (i := 0) (pos := px) S.nd rfl locX (.inr (lookup_relabel_local S.tgt))
        refine thn (pg _ s7 _ H7 v u (fun σ8 H8 => σ8 = some v :: capσ caps σ ∧ H8 = H7) J7' r7 ⟨rfl, rfl⟩) fun _ s8 ⟨σ8, H8, J8, e8, e8'⟩ => ?_
        subst e8 e8'
        refine thn (ht (D + 1) s3 H2 (D :: fp) _ s8 _ H8 _ J8 (step v H8 y7)) fun b s9 ⟨H9, J9, q9⟩ => ?_
        -- what stays of the iterator and of the list
        have pins9 : ∀ {σ' : St} {H' : Hp} {s' : Shared}, Inv (cxComp X scope cl (D + 1) (x :: cn) s3 H2 (D :: fp)) ([(D, ({ cls := .type "list", data := .seq its.toArray n } : Obj))] ++ pinsAt fp s7.heap) σ' H' s' →
            tn (i + 1) s'.heap ∧ (∀ b ∈ fp, H' b = none) ∧ H' D = none ∧ s'.heap.get? D = some { cls := .type "list", data := .seq its.toArray n } := fun {σ' H' s'} JJ => by
          refine ⟨T.keep _ _ _ st7 fun b hb o e => (JJ.pin (b, o) (List.mem_append_right _ (List.mem_append_right _ (mem_pinsAt hb e)))).1, fun b hb => ?_, ?_, ?_⟩
          · obtain ⟨o, e, _⟩ := T.obj _ _ st7 b hb
            exact (JJ.pin (b, o) (List.mem_append_right _ (List.mem_append_right _ (mem_pinsAt hb e)))).2.1
          · exact (JJ.pin (D, _) (List.mem_append_right _ (List.mem_append_left _ List.mem_cons_self))).2.1
          · exact (JJ.pin (D, _) (List.mem_append_right _ (List.mem_append_left _ List.mem_cons_self))).1
        have strip : ∀ {σ' : St} {H' : Hp} {s' : Shared} {pl : List (Addr × Obj)}, Inv (cxComp X scope cl (D + 1) (x :: cn) s3 H2 (D :: fp)) pl σ' H' s' → Inv (cxComp X scope cl (D + 1) (x :: cn) s3 H2 (D :: fp)) [] σ' H' s' := fun JJ => JJ.pins_of fun p hp => (nomatch hp)
        cases b with
        | false =>
          rw [if_neg Bool.false_ne_true] at q9
          rw [if_neg Bool.false_ne_true]
          obtain ⟨m', hm, w9⟩ := q9
          obtain ⟨a1, a2, a3, a4⟩ := pins9 J9
          exact ⟨m', hm, i + 1, acc, its, n, some v, H9, strip J9, a1, a2, a3, a4, rv5, w9⟩
        | true =>
          rw [if_pos rfl] at q9
          rw [if_pos rfl]
          refine thn (he (D + 1) s3 H2 (D :: fp) _ s9 _ H9 _ J9 q9) fun uy s10 ⟨y, H10, J10, r10, m', hm, w10⟩ => ?_
          obtain ⟨a1, a2, a3, a4⟩ := pins9 J10
          have lenI : its.toArray.size ≤ sizeLine := by rw [List.size_toArray, ← rv5.length]; exact hz
          refine wpAny_list_append_plain ⟨n, a4⟩ (fun h' pl sb => ?_) lenI
          obtain ⟨n', e'⟩ := pl
          have J11 : Inv (cxComp X scope cl (D + 1) (x :: cn) s3 H2 (D :: fp)) [] (some v :: capσ caps σ) H10 { s10 with heap := h', toks := s10.toks } :=
            (strip J10).turned (fun b o hb e => (sb.2 b hb).trans e) a3 (ok'.exf D List.mem_cons_self).1 (.inl List.mem_cons_self) (ok'.exf D List.mem_cons_self).2 fun p hp => (nomatch hp)
          refine ⟨m', hm, i + 1, acc ++ [y], its ++ [uy], n', some v, H10, J11, ?_, a2, a3, ?_, rv5.append (.cons r10 .nil), w10⟩
          · exact T.keep _ _ _ a1 fun b hb o e => (sb.2 b (Nat.ne_of_lt (fpD b hb))).trans e
          · rw [show (its ++ [uy]).toArray = its.toArray.push uy by simp]; exact e'
      refine wpAny_mono h6' (fun _ s7 q7 => ?_) fun _ _ f => f.elim
      refine nov (thn q7 fun ok s8 q8 => ?_)
      cases ok with
      | false => exact q8
      | true =>
        rw [if_pos rfl] at q8 ⊢
        exact nov (thn q8 fun y s9 q9 => nov q9)
  refine codeAny_compStart_list (loop _ hs4.symm) (T.self X.A 0 _ _ _ ?_ (loop _ hs4.symm))
  exact T.keep 0 _ _ st2 fun b _ o e => kp b o e

variable {elt iter : Expr} {x : Str} {px pos : Pos} {ifs : List Expr} {scope : Scope} {cn : List Str} {wi : TI} {te : TE} {tt : TT}
theorem pe_comp (caps : List Nat) {sc : Scope} (hsc : X.env.scope = sc) (S : CompScope sc scope x cn) (hcap : caps.map (fun i => X.N[i]?) = cn.map some) (hc : X.calm = true)
    (hi : PI X (.Name x px) iter wi) (ht : ∀ cl C s₀ H₀ ex, PQ (cxComp X scope cl C (x :: cn) s₀ H₀ ex) ifs tt) (he : ∀ cl C s₀ H₀ ex, PE (cxComp X scope cl C (x :: cn) s₀ H₀ ex) elt te)
    (hs : ∀ v, foldedSetIterable iter X.env v = pure v := by intro _; rfl) :
    PE X (.ListComp elt [⟨.Name x px, iter, ifs, 0⟩] scope pos) (tComp caps wi tt te) := by
  subst hsc
  intro pins s σ H Q I h
  have hhas : ∀ y ∈ scope.names, y.2 = .free → ∃ c, X.env.cells.lookup y.1 = some c := fun y hy hk => I.ok.has y.1 (S.fr y hy hk)
  rw [eval_ListComp]
  refine wpAny_comprehension_free (use := none) rfl hs (closure_eq hhas) S.kind S.names (thn (hi pins s σ H _ I h) fun xv s1 h1 => thn h1 fun itv s2 h2 => ?_)
  obtain ⟨it, fp, tn, J, H2, rfl, I2, T, st2, f2, W, ⟨m0, w0⟩, turn⟩ := h2
  refine comp_run (R := fun acc C => compPost (model X.prog X.w) X.A X.xe none (EP X pins σ Q) acc C) S rfl (caps_at hcap) (caps_len hcap) hc I2 T st2 f2 w0 turn (he _) (ht _) ?_
  intro D C s' H' I' hm cf q
  obtain ⟨m, hm⟩ := hm
  refine ⟨m, hm, fun h' sb => ⟨.ref D, H', ?_, rfl, q⟩⟩
  exact I'.turned (t' := s'.toks) (fun b o hb e => (sb.2 b hb).trans e) cf.no cf.ne (.inr cf.up) cf.cells cf.pin
/-- y = [.. for x in ..] -/
theorem ps_setcomp (caps : List Nat) {sc : Scope} {i : Nat} {y : Str} {py spos : Pos} (hsc : X.env.scope = sc) (S : CompScope sc scope x cn) (hcap : caps.map (fun i => X.N[i]?) = cn.map some) (hc : X.calm = true)
    (hN : X.N.Nodup) (hi' : X.N[i]? = some y) (hy : Loc X.env.scope y) (hsw : swapsWith (.ListComp elt [⟨.Name x px, iter, ifs, 0⟩] scope pos) (some (.Name y py)) spos.line X.env = pure true)
    (hi : PI X (.Name x px) iter wi) (ht : ∀ cl C s₀ H₀ ex, PQ (cxComp X scope cl C (x :: cn) s₀ H₀ ex) ifs tt) (he : ∀ cl C s₀ H₀ ex, PE (cxComp X scope cl C (x :: cn) s₀ H₀ ex) elt te)
    (hs : ∀ v, foldedSetIterable iter X.env v = pure v := by intro _; rfl) (hf : X.fn y = true ∨ X.env.scope.names.lookup y = some .local := by first | exact .inl rfl | exact .inr rfl | assumption) :
    PS X (.Assign [.Name y py] (.ListComp elt [⟨.Name x px, iter, ifs, 0⟩] scope pos) spos) (tAsg (tComp caps wi tt te) (gName i)) := by
  subst hsc
  intro pins s σ H D I h
  have hhas : ∀ y ∈ scope.names, y.2 = .free → ∃ c, X.env.cells.lookup y.1 = some c := fun y hy hk => I.ok.has y.1 (S.fr y hy hk)
  rw [exec_Assign_Name_used _ _ _ _ hsw]
  refine wpAny_bind (wpAny_standAt (wpAny_bind ?_))
  show wpAny _ X.A (do let _ ← comprehension (.ListComp elt [⟨.Name x px, iter, ifs, 0⟩] scope pos) scope X.env _ (newList []) false (eval iter X.env) (some (assign (.Name y py) X.env))) _ _ s
  refine wpAny_bind (wpAny_mono (wpAny_comprehension_free (use := some (assign (.Name y py) X.env)) (Q := fun _ s' => SP X pins D .next s') rfl hs (closure_eq hhas) S.kind S.names (thn (hi pins s σ H _ I h) fun xv s1 h1 => thn h1 fun itv s2 h2 => ?_))
    (fun _ s' hq => wpAny_pure (wpAny_pure hq)) fun _ _ e => e)
  obtain ⟨it, fp, tn, J, H2, rfl, I2, T, st2, f2, W, ⟨m0, w0⟩, turn⟩ := h2
  refine comp_run (R := fun acc C => compPost (model X.prog X.w) X.A X.xe (some (assign (.Name y py) X.env)) (fun _ s' => SP X pins D .next s') acc C) (Qe := fun v H1 => gName i v σ H1 D.nx) S rfl (caps_at hcap) (caps_len hcap) hc I2 T st2 f2 w0 turn (he _) (ht _) ?_
  intro L C s' H' I' hm cf q
  obtain ⟨m, hm⟩ := hm
  show wpAny _ _ (assign (.Name y py) X.env (.ref L)) _ _ s'
  refine wpAny_assign_Name (store_ok2 I' hN hi' hy (v := .ref L) (u := .ref L) rfl (fun s'' I'' hb => ?_) hf)
  obtain ⟨a, sb, ha⟩ := hb
  have neA : C ≠ a := by
    rcases ha with z | z
    · rw [z]; exact cf.ne
    · exact Ne.symm (cf.cells _ _ z)
  refine ⟨m, hm.sameBut sb neA, fun h' sb' => ⟨_, H', ?_, q⟩⟩
  exact I''.turned (t' := s''.toks) (fun b o hb e => (sb'.2 b hb).trans e) cf.no cf.ne (.inr cf.up) cf.cells cf.pin
end
end L3
namespace L3
open PySem PySem.Spec PyProof.Rows L2

/-! ### a def that may be called by its name -/
structure Cal (P : Program) (w : World) (K : PySem.W.Frag) (mg : Str → Option Value) (base : Heap) (k : Nat) (x : Str) (ps : List Str) (sp : Sp) : Prop where
  ex : ∃ (f : Addr) (fd : FuncData), FnOk P w K mg base CX0 k f fd ps sp ∧ Binds K fd ps [] ∧ PySem.W.keepIn K (.ref f) = true ∧ mg x = some (.ref f)
theorem Cal.mono {P : Program} {w : World} {K : PySem.W.Frag} {mg : Str → Option Value} {base : Heap} {j k : Nat} {x : Str} {ps : List Str} {sp : Sp} (c : Cal P w K mg base j x ps sp) (h : j ≤ k) : Cal P w K mg base k x ps sp := by
  obtain ⟨f, fd, F, b, kp, m⟩ := c.ex
  exact ⟨f, fd, F.mono h, b, kp, m⟩
theorem Cal.imp {P : Program} {w : World} {K : PySem.W.Frag} {mg : Str → Option Value} {base : Heap} {k : Nat} {x : Str} {ps : List Str} {sp sp' : Sp} (c : Cal P w K mg base k x ps sp)
    (h : ∀ vs H Q E, sp' vs H Q E → sp vs H Q E) : Cal P w K mg base k x ps sp' := by
  obtain ⟨f, fd, F, b, kp, m⟩ := c.ex
  exact ⟨f, fd, F.imp h, b, kp, m⟩
section
variable {X : Cx} {k : Nat} {x : Str} {ps : List Str} {sp : Sp} {e : Expr} {es : List Expr} {t : TA} {p pos : Pos}
theorem pe_callC (C : Cal X.prog X.w X.K X.mg X.base k x ps sp) (hr : Room k X.A) (ha : PA X (e :: es) t) (hg : Gl X x := by rfl) (hdb : (x == ("__debug__" : Str)) = false := by decide)
    (he : starEach (e :: es) X.env = (false, eval e X.env) :: starEach es X.env := by rfl) (hpl : (backTo pos (starEach es X.env)).any (·.1) = false := by rfl) :
    PE X (.Call (.Name x p) (e :: es) [] pos) (tCall sp [] E0 t) := by
  obtain ⟨f, fd, F, b, kp, m⟩ := C.ex
  exact pe_call F hr hg m kp b .nil pass0 ha hdb he hpl
end
section
variable {P : Program} {w : World} {K : PySem.W.Frag} {mg : Str → Option Value} {base : Heap}
/-- a def of the text keeps its promise -/
theorem Fun.cal {x qual : Str} {st : Stmt} {f : Addr} {fd : FuncData} {N ps : List Str} {k : Nat} {sp : Sp} (F : Fun K x qual st f fd) (hm : mg x = some (.ref f)) (hb : Binds K fd ps []) (S : FnScope N ps (defScope st)) (len : ∀ vs H Q E, sp vs H Q E → vs.length = ps.length)
    (hbody : ∀ (cdv : Value) (A : Around) (outer : List Env) (s : Shared) (H : Hp) (vs : List V) (Q : VK) (E : XK), Room k (A.deeper (envOfC qual (defScope st) s.heap.objs.size f cdv)) → sp vs H Q E →
      ∃ t, PSs (cxOf CX0 P w K mg base N qual (defScope st) f cdv A outer s H E).nox (defBody st) t ∧ t { nx := fun _ H' => Q .non H', rt := Q } (start N vs) H) : Cal P w K mg base (k + 1) x ps sp :=
  ⟨f, fd, F.ok S len hbody, hb, F.kp, hm⟩
/-- a def as the top has made it -/
structure Def (K : PySem.W.Frag) (mg : Str → Option Value) (x : Str) (st : Stmt) (ps : List Str) : Prop where
  ex : ∃ (f : Addr) (fd : FuncData), Fun K x x st f fd ∧ mg x = some (.ref f) ∧ Binds K fd ps []
theorem Def.cal {x : Str} {st : Stmt} {N ps : List Str} {k : Nat} {sp : Sp} (F : Def K mg x st ps) (S : FnScope N ps (defScope st)) (len : ∀ vs H Q E, sp vs H Q E → vs.length = ps.length)
    (hbody : ∀ (f : Addr) (cdv : Value) (A : Around) (outer : List Env) (s : Shared) (H : Hp) (vs : List V) (Q : VK) (E : XK), Room k (A.deeper (envOfC x (defScope st) s.heap.objs.size f cdv)) → sp vs H Q E →
      ∃ t, PSs (cxOf CX0 P w K mg base N x (defScope st) f cdv A outer s H E).nox (defBody st) t ∧ t { nx := fun _ H' => Q .non H', rt := Q } (start N vs) H) : Cal P w K mg base (k + 1) x ps sp := by
  obtain ⟨f, fd, F, hm, hb⟩ := F.ex
  exact Fun.cal F hm hb S len (hbody f)
end
theorem def_mk {K : PySem.W.Frag} {h : Heap} {mg : Str → Option Value} {x : Str} {st : Stmt} {ps : List Str} {f : Addr} {oc : Value} {od an : Option Addr} {osl : Array (Option Value)} {kV doc pm cdv ct : Value} (X : K.In h) (G : h.Ns mainGlobals mg)
    (a : PySem.W.nsIn K mainGlobals x = some (some (.ref f))) (l : K.lookup f = some ⟨oc, od, .func (PySem.W.fnOf x x (defArgs st) (defBody st) (defScope st) .none kV doc pm an cdv ct), osl⟩) (c : PySem.W.codeIn K cdv x = true) (k : PySem.W.keepIn K (.ref f) = true)
    (hb : ∀ (kV doc pm : Value) (an : Option Addr) (cdv ct : Value) (us : List Value), us.length = ps.length → bindArgs (PySem.W.fnOf x x (defArgs st) (defBody st) (defScope st) .none kV doc pm an cdv ct) ⟨us, []⟩ = pure (ps.zip us)) : Def K mg x st ps :=
  ⟨f, _, fun_mk l c k, PySem.W.mg_of X G a, (fun_mk l c k).binds hb⟩
/-- a tuple of ints that the top has made -/
theorem tupK {K : PySem.W.Frag} {f : Addr} {od : Option Addr} {osl : Array (Option Value)} {its : Array Value} {n : Nat} {xs : List V} (l : K.lookup f = some ⟨.type "tuple", od, .seq its n, osl⟩) (z : its.size ≤ sizeLine) (r : Vals xs its.toList) (H : Hp) : SqT K H f xs :=
  .inr ⟨_, its, n, l, rfl, rfl, z, r⟩
/-- what the built-in names stand for: none is hidden -/
structure Blt (mg : Str → Option Value) : Prop where
  abs : mg "abs" = none
  len : mg "len" = none
  tuple : mg "tuple" = none
  list : mg "list" = none
  range : mg "range" = none
  isinstance : mg "isinstance" = none
  bool : mg "bool" = none
  int : mg "int" = none
  all : mg "all" = none
  set : mg "set" = none
  zip : mg "zip" = none
  str : mg "str" = none
  sorted : mg "sorted" = none

/-! ### built-in names -/
theorem bt_abs : bootBuiltins "abs" = some (.builtin "abs") := by decide +kernel
theorem bt_len : bootBuiltins "len" = some (.builtin "len") := by decide +kernel
theorem bt_all : bootBuiltins "all" = some (.builtin "all") := by decide +kernel
theorem bt_isinstance : bootBuiltins "isinstance" = some (.builtin "isinstance") := by decide +kernel
theorem bt_tuple : bootBuiltins "tuple" = some (.type "tuple") := by decide +kernel
theorem bt_list : bootBuiltins "list" = some (.type "list") := by decide +kernel
theorem bt_bool : bootBuiltins "bool" = some (.type "bool") := by decide +kernel
theorem bt_int : bootBuiltins "int" = some (.type "int") := by decide +kernel
theorem bt_str : bootBuiltins "str" = some (.type "str") := by decide +kernel
theorem bt_set : bootBuiltins "set" = some (.type "set") := by decide +kernel
theorem bt_zip : bootBuiltins "zip" = some (.type "zip") := by decide +kernel
theorem bt_range : bootBuiltins "range" = some (.type "range") := by decide +kernel
theorem bt_sorted : bootBuiltins "sorted" = some (.builtin "sorted") := by decide +kernel

/-! ### isinstance, is -/
section
variable {X : Cx}
/-- the class of a value -/
inductive TyV (K : PySem.W.Frag) (H : Hp) : V → Value → Prop where
  | non : TyV K H .non (.type "NoneType")
  | bl (x : Bool) : TyV K H (.bl x) (.type "bool")
  | int (i : Int) : TyV K H (.int i) (.type "int")
  | str (x : Str) : TyV K H (.str x) (.type "str")
  | lst {a : Addr} {xs : List V} (e : SqL K H a xs) : TyV K H (.ref a) (.type "list")
  | tup {a : Addr} {xs : List V} (e : SqT K H a xs) : TyV K H (.ref a) (.type "tuple")
def rInst (K : PySem.W.Frag) : List V → Hp → VK → Prop := fun xs H Q => ∃ x n t b, xs = [x, .ty n] ∧ TyV K H x t ∧ PySem.W.kitOne K t (.type n) = some b ∧ Q (.bl b) H
theorem call_isinst : CallR X (.builtin "isinstance") (rInst X.K) := by
  intro pins s σ H xs us Q I rv h
  obtain ⟨x, n, t, b, rfl, ty, e, q⟩ := h
  obtain ⟨u, c, rfl, rx, rc⟩ := vals2 rv
  cases (show c = Value.type n from rc)
  have fin : ∀ tk, EP X pins σ Q (.bool b) { s with toks := tk } := fun tk => ⟨.bl b, H, I.tok tk, rfl, q⟩
  cases ty with
  | non => cases (show u = Value.none from rx); exact PySem.W.kia_one PySem.W.kitx_none I.kIn True.intro e (fun z => nomatch z) fin
  | bl y => cases (show u = Value.bool y from rx); exact PySem.W.kia_one PySem.W.kitx_bool I.kIn True.intro e (fun z => nomatch z) fin
  | int i => obtain ⟨t, q⟩ := (show ∃ t, u = Value.int i t from rx); cases q; exact PySem.W.kia_one PySem.W.kitx_int I.kIn True.intro e (fun z => nomatch z) fin
  | str y => obtain ⟨t, q⟩ := (show ∃ t, u = Value.str y t from rx); cases q; exact PySem.W.kia_one PySem.W.kitx_str I.kIn True.intro e (fun z => nomatch z) fin
  | @lst a xs ea =>
    cases (show u = Value.ref a from rx)
    obtain ⟨its, _, ⟨o, n, h1, h2, _⟩, _⟩ := I.list ea
    exact PySem.W.kia_one PySem.W.kitx_list I.kIn ⟨o, h1, h2⟩ e (fun z => nomatch z) fin
  | @tup a xs ea =>
    cases (show u = Value.ref a from rx)
    obtain ⟨its, _, ⟨o, h1, h2, _⟩, _⟩ := I.tuple ea
    exact PySem.W.kia_one PySem.W.kitx_tuple I.kIn ⟨o, h1, h2⟩ e (fun z => nomatch z) fin
end

theorem cxOf_K {CX : CXT} {P : Program} {w : World} {K : PySem.W.Frag} {mg : Str → Option Value} {base : Heap} {N : List Str} {qual : Str} {scope : Scope} {f : Addr} {cd : Value} {A : Around} {outer : List Env} {s : Shared} {H : Hp} {E : XK} :
    (cxOf CX P w K mg base N qual scope f cd A outer s H E).K = K := rfl

theorem scal_int (i j : Int) : scal (.int i) (.int j) = true := rfl
theorem scal_bl (i j : Bool) : scal (.bl i) (.bl j) = true := rfl
theorem scal_str (i j : Str) : scal (.str i) (.str j) = true := rfl
/-- an item of a tuple of ints, of a list of ints -/
def rIxTI (K : PySem.W.Frag) : R2 := fun x y H Q => ∃ ns i n, y = .int i ∧ Tp K H x ns ∧ atI ns i = some n ∧ Q (.int n) H
def Lp (K : PySem.W.Frag) (H : Hp) (v : V) (ns : List Int) : Prop := ∃ a, v = .ref a ∧ SqL K H a (ns.map V.int)
def rIxLI (K : PySem.W.Frag) : R2 := fun x y H Q => ∃ ns i n, y = .int i ∧ Lp K H x ns ∧ atI ns i = some n ∧ Q (.int n) H
theorem atI_map {α β : Type} {f : α → β} {xs : List α} {i : Int} {x : α} (h : atI xs i = some x) : atI (xs.map f) i = some (f x) := by
  unfold atI at h ⊢
  rw [List.length_map]
  cases e : ixN xs.length i with
  | none => rw [e] at h; cases h
  | some j =>
    rw [e] at h
    simp only [Option.bind_some] at h ⊢
    rw [List.getElem?_map, h]; rfl
section
variable {X : Cx}
theorem ixr_imp {r r' : R2} (h : IxR X r) (k : ∀ x y H Q, r' x y H Q → r x y H Q) : IxR X r' := by
  intro value slice pins s σ H x y v u Q I rx ry q hs
  exact h value slice pins s σ H x y v u Q I rx ry (k x y H Q q) hs
theorem ix_tupI : IxR X (rIxTI X.K) := ixr_imp ix_tup fun x y H Q h => by
  obtain ⟨ns, i, n, rfl, ⟨a, rfl, hq⟩, ha, q⟩ := h
  exact ⟨a, _, i, _, rfl, rfl, hq, atI_map ha, q⟩
theorem ix_lstI : IxR X (rIxLI X.K) := ixr_imp ix_list fun x y H Q h => by
  obtain ⟨ns, i, n, rfl, ⟨a, rfl, hq⟩, ha, q⟩ := h
  exact ⟨a, _, i, _, rfl, rfl, hq, atI_map ha, q⟩
end
/-- the same where the written part is named (inside a comprehension) -/
theorem ixK_lstI {X : Cx} (K : PySem.W.Frag) (h : X.K = K) : IxR X (rIxLI K) := h ▸ ix_lstI
theorem ixK_tupI {X : Cx} (K : PySem.W.Frag) (h : X.K = K) : IxR X (rIxTI K) := h ▸ ix_tupI
theorem ixK_list {X : Cx} (K : PySem.W.Frag) (h : X.K = K) : IxR X (rIxL K) := h ▸ ix_list
theorem callK_isinst {X : Cx} (K : PySem.W.Frag) (h : X.K = K) : CallR X (.builtin "isinstance") (rInst K) := h ▸ call_isinst
theorem opK_eqT {X : Cx} (K : PySem.W.Frag) (h : X.K = K) (hu : X.A.units + 64 < cLine) : OpR X (compareOp .Eq) (rEqT K false) := h ▸ op_eqT hu
theorem opK_neT {X : Cx} (K : PySem.W.Frag) (h : X.K = K) (hu : X.A.units + 64 < cLine) : OpR X (compareOp .NotEq) (rEqT K true) := h ▸ op_neT hu
theorem opK_inD {X : Cx} (K : PySem.W.Frag) (h : X.K = K) (hu : X.A.units + 80 < cLine) : OpR X (compareOp .In) (rInD K false) := h ▸ op_inD hu
theorem opK_notInD {X : Cx} (K : PySem.W.Frag) (h : X.K = K) (hu : X.A.units + 80 < cLine) : OpR X (compareOp .NotIn) (rInD K true) := h ▸ op_notInD hu
theorem Lp.of {K : PySem.W.Frag} {H : Hp} {p : Addr} {ns : List Int} : Lp K (upd H p (.lst (ns.map V.int))) (.ref p) ns := ⟨p, rfl, SqL.of upd_same⟩
theorem Tp.of {K : PySem.W.Frag} {H : Hp} {p : Addr} {ns : List Int} : Tp K (upd H p (.tup (ns.map V.int))) (.ref p) ns := ⟨p, rfl, SqT.of upd_same⟩

/-! ### cutting a reading -/
section
variable {t u tb : TS} {c : TT} {g : TG} {D : Ends} {σ : L2.St} {H : Hp}
/-- behind t the word I holds; u starts from it -/
theorem seq_by (I : L2.St → Hp → Prop) (h1 : ∀ k : L2.St → Hp → Prop, (∀ σ' H', I σ' H' → k σ' H') → t { D with nx := k } σ H) (h2 : ∀ σ' H', I σ' H' → u D σ' H') : tSeq t u D σ H := h1 (u D) h2
theorem seq_det {σ1 : L2.St} {H1 : Hp} (h1 : ∀ k : L2.St → Hp → Prop, k σ1 H1 → t { D with nx := k } σ H) (h2 : u D σ1 H1) : tSeq t u D σ H := h1 (u D) h2
theorem while_of (W : Nat → L2.St → Hp → Prop) (m0 : Nat) (h0 : W m0 σ H)
    (hs : ∀ W' : Nat → L2.St → Hp → Prop, (∀ m σ H, W m σ H → W' m σ H) → ∀ n σ H, W n σ H →
      c σ H fun b H1 => if b = true then ∃ N : L2.St → Hp → Prop, (∀ σ' H', N σ' H' → ∃ m', m' < n ∧ W' m' σ' H') ∧ tb { D with nx := N, ct := N, bk := D.nx } σ H1 else D.nx σ H1) : tWhile c tb D σ H :=
  ⟨W, ⟨m0, h0⟩, hs W fun _ _ _ h => h⟩
theorem forL {K : PySem.W.Frag} {a : Addr} {xs : List V} (Pv : Nat → L2.St → Hp → Prop) (h0 : Pv 0 σ H) (hl : ∀ i σ H, i ≤ xs.length → Pv i σ H → SqL K H a xs)
    (hs : ∀ Pv' : Nat → L2.St → Hp → Prop, (∀ i σ H, Pv i σ H → Pv' i σ H) → ∀ i x σ H, xs[i]? = some x → Pv i σ H → g x σ H fun σ2 H2 => tb { D with nx := Pv' (i + 1), ct := Pv' (i + 1), bk := D.nx } σ2 H2) (hd : ∀ σ H, Pv xs.length σ H → D.nx σ H) :
    ∃ W : Nat → Nat → L2.St → Hp → Prop, (∃ m, W 0 m σ H) ∧ ∀ i m σ H, W i m σ H →
      ((Itl K a).stop i H ∧ D.nx σ H) ∨ ((Itl K a).go i H ∧ ∃ N : L2.St → Hp → Prop, (∀ σ' H', N σ' H' → ∃ m', m' < m ∧ W (i + 1) m' σ' H') ∧ ∀ x H', (Itl K a).yld i H x H' → g x σ H' fun σ2 H2 => tb { D with nx := N, ct := N, bk := D.nx } σ2 H2) :=
  for_list Pv h0 hl (hs Pv fun _ _ _ h => h) hd
theorem forT {K : PySem.W.Frag} {a : Addr} {xs : List V} (Pv : Nat → L2.St → Hp → Prop) (h0 : Pv 0 σ H) (hl : ∀ i σ H, i ≤ xs.length → Pv i σ H → SqT K H a xs)
    (hs : ∀ Pv' : Nat → L2.St → Hp → Prop, (∀ i σ H, Pv i σ H → Pv' i σ H) → ∀ i x σ H, xs[i]? = some x → Pv i σ H → g x σ H fun σ2 H2 => tb { D with nx := Pv' (i + 1), ct := Pv' (i + 1), bk := D.nx } σ2 H2) (hd : ∀ σ H, Pv xs.length σ H → D.nx σ H) :
    ∃ W : Nat → Nat → L2.St → Hp → Prop, (∃ m, W 0 m σ H) ∧ ∀ i m σ H, W i m σ H →
      ((Itt K a).stop i H ∧ D.nx σ H) ∨ ((Itt K a).go i H ∧ ∃ N : L2.St → Hp → Prop, (∀ σ' H', N σ' H' → ∃ m', m' < m ∧ W (i + 1) m' σ' H') ∧ ∀ x H', (Itt K a).yld i H x H' → g x σ H' fun σ2 H2 => tb { D with nx := N, ct := N, bk := D.nx } σ2 H2) :=
  for_tup Pv h0 hl (hs Pv fun _ _ _ h => h) hd
theorem forR {lo : Int} {n : Nat} (Pv : Nat → L2.St → Hp → Prop) (h0 : Pv 0 σ H)
    (hs : ∀ Pv' : Nat → L2.St → Hp → Prop, (∀ i σ H, Pv i σ H → Pv' i σ H) → ∀ i σ H, i < n → Pv i σ H → g (.int (lo + i)) σ H fun σ2 H2 => tb { D with nx := Pv' (i + 1), ct := Pv' (i + 1), bk := D.nx } σ2 H2) (hd : ∀ σ H, Pv n σ H → D.nx σ H) :
    ∃ W : Nat → Nat → L2.St → Hp → Prop, (∃ m, W 0 m σ H) ∧ ∀ i m σ H, W i m σ H →
      ((Itr lo n).stop i H ∧ D.nx σ H) ∨ ((Itr lo n).go i H ∧ ∃ N : L2.St → Hp → Prop, (∀ σ' H', N σ' H' → ∃ m', m' < m ∧ W (i + 1) m' σ' H') ∧ ∀ x H', (Itr lo n).yld i H x H' → g x σ H' fun σ2 H2 => tb { D with nx := N, ct := N, bk := D.nx } σ2 H2) :=
  for_range Pv h0 (hs Pv fun _ _ _ h => h) hd
/-- a comprehension over a list that it leaves as it is: Pv by the turn, what is gathered, the heap -/
theorem compL {K : PySem.W.Frag} {a : Addr} {xs : List V} {tt : TT} {te : TE} {Q : VK} {τ : L2.St} (Pv : Nat → List V → Hp → Prop) (h0 : Pv 0 [] H) (hl : ∀ i acc H, i ≤ xs.length → Pv i acc H → SqL K H a xs ∧ acc.length ≤ sizeLine)
    (hs : ∀ i x acc H, xs[i]? = some x → Pv i acc H → ∀ R : List V → Hp → Prop, (∀ acc' H', Pv (i + 1) acc' H' → R acc' H') → tt (some x :: τ) H fun b H2 => if b = true then te (some x :: τ) H2 fun y H3 => R (acc ++ [y]) H3 else R acc H2)
    (hd : ∀ acc H p, Pv xs.length acc H → H p = none → Q (.ref p) (upd H p (.lst acc))) :
    ∃ W : Nat → Nat → List V → Hp → Prop, (∃ m, W 0 m [] H) ∧ ∀ i m acc H, W i m acc H →
      ((Itl K a).stop i H ∧ acc.length ≤ sizeLine ∧ ∀ p, H p = none → Q (.ref p) (upd H p (.lst acc))) ∨
      ((Itl K a).go i H ∧ acc.length ≤ sizeLine ∧ ∀ v H', (Itl K a).yld i H v H' → tt (some v :: τ) H' fun b H2 =>
        if b = true then te (some v :: τ) H2 fun y H3 => ∃ m', m' < m ∧ W (i + 1) m' (acc ++ [y]) H3 else ∃ m', m' < m ∧ W (i + 1) m' acc H2) := by
  refine ⟨fun i m acc H => m = xs.length - i ∧ i ≤ xs.length ∧ Pv i acc H, ⟨xs.length, by simp, Nat.zero_le _, h0⟩, ?_⟩
  rintro i m acc H ⟨rfl, hi, p⟩
  obtain ⟨q, z⟩ := hl i acc H hi p
  by_cases hlt : i < xs.length
  · refine .inr ⟨⟨xs, xs[i], q, by simp [hlt]⟩, z, fun v H' y => ?_⟩
    obtain ⟨e, y⟩ := y
    subst e
    exact hs i v acc _ (y xs q) p (fun acc' H' => ∃ m', m' < xs.length - i ∧ m' = xs.length - (i + 1) ∧ i + 1 ≤ xs.length ∧ Pv (i + 1) acc' H') fun acc' H' r => ⟨_, by omega, rfl, hlt, r⟩
  · have e : i = xs.length := by omega
    subst e
    exact .inl ⟨⟨xs, q, Nat.le_refl _⟩, z, fun p' hp => hd acc H p' p hp⟩
theorem compT {K : PySem.W.Frag} {a : Addr} {xs : List V} {tt : TT} {te : TE} {Q : VK} {τ : L2.St} (Pv : Nat → List V → Hp → Prop) (h0 : Pv 0 [] H) (hl : ∀ i acc H, i ≤ xs.length → Pv i acc H → SqT K H a xs ∧ acc.length ≤ sizeLine)
    (hs : ∀ i x acc H, xs[i]? = some x → Pv i acc H → ∀ R : List V → Hp → Prop, (∀ acc' H', Pv (i + 1) acc' H' → R acc' H') → tt (some x :: τ) H fun b H2 => if b = true then te (some x :: τ) H2 fun y H3 => R (acc ++ [y]) H3 else R acc H2)
    (hd : ∀ acc H p, Pv xs.length acc H → H p = none → Q (.ref p) (upd H p (.lst acc))) :
    ∃ W : Nat → Nat → List V → Hp → Prop, (∃ m, W 0 m [] H) ∧ ∀ i m acc H, W i m acc H →
      ((Itt K a).stop i H ∧ acc.length ≤ sizeLine ∧ ∀ p, H p = none → Q (.ref p) (upd H p (.lst acc))) ∨
      ((Itt K a).go i H ∧ acc.length ≤ sizeLine ∧ ∀ v H', (Itt K a).yld i H v H' → tt (some v :: τ) H' fun b H2 =>
        if b = true then te (some v :: τ) H2 fun y H3 => ∃ m', m' < m ∧ W (i + 1) m' (acc ++ [y]) H3 else ∃ m', m' < m ∧ W (i + 1) m' acc H2) := by
  refine ⟨fun i m acc H => m = xs.length - i ∧ i ≤ xs.length ∧ Pv i acc H, ⟨xs.length, by simp, Nat.zero_le _, h0⟩, ?_⟩
  rintro i m acc H ⟨rfl, hi, p⟩
  obtain ⟨q, z⟩ := hl i acc H hi p
  by_cases hlt : i < xs.length
  · refine .inr ⟨⟨xs, xs[i], q, by simp [hlt]⟩, z, fun v H' y => ?_⟩
    obtain ⟨e, y⟩ := y
    subst e
    exact hs i v acc _ (y xs q) p (fun acc' H' => ∃ m', m' < xs.length - i ∧ m' = xs.length - (i + 1) ∧ i + 1 ≤ xs.length ∧ Pv (i + 1) acc' H') fun acc' H' r => ⟨_, by omega, rfl, hlt, r⟩
  · have e : i = xs.length := by omega
    subst e
    exact .inl ⟨⟨xs, q, Nat.le_refl _⟩, z, fun p' hp => hd acc H p' p hp⟩
theorem tcompT {K : PySem.W.Frag} {j : Nat} {a : Addr} {xs : List V} {caps : List Nat} {tt : TT} {te : TE} {Q : VK} (hj : σ[j]? = some (some (.ref a))) (hq : SqT K H a xs) (Pv : Nat → List V → Hp → Prop) (h0 : Pv 0 [] H) (hl : ∀ i acc H, i ≤ xs.length → Pv i acc H → SqT K H a xs ∧ acc.length ≤ sizeLine)
    (hs : ∀ i x acc H, xs[i]? = some x → Pv i acc H → ∀ R : List V → Hp → Prop, (∀ acc' H', Pv (i + 1) acc' H' → R acc' H') → tt (some x :: capσ caps σ) H fun b H2 => if b = true then te (some x :: capσ caps σ) H2 fun y H3 => R (acc ++ [y]) H3 else R acc H2)
    (hd : ∀ acc H p, Pv xs.length acc H → H p = none → Q (.ref p) (upd H p (.lst acc))) : tComp caps (iTup K (tVar j)) tt te σ H Q :=
  ⟨_, hj, a, rfl, ⟨_, hq⟩, compT (Q := Q) (τ := capσ caps σ) Pv h0 hl hs hd⟩
theorem tcompL {K : PySem.W.Frag} {j : Nat} {a : Addr} {xs : List V} {caps : List Nat} {tt : TT} {te : TE} {Q : VK} (hj : σ[j]? = some (some (.ref a))) (hq : SqL K H a xs) (Pv : Nat → List V → Hp → Prop) (h0 : Pv 0 [] H) (hl : ∀ i acc H, i ≤ xs.length → Pv i acc H → SqL K H a xs ∧ acc.length ≤ sizeLine)
    (hs : ∀ i x acc H, xs[i]? = some x → Pv i acc H → ∀ R : List V → Hp → Prop, (∀ acc' H', Pv (i + 1) acc' H' → R acc' H') → tt (some x :: capσ caps σ) H fun b H2 => if b = true then te (some x :: capσ caps σ) H2 fun y H3 => R (acc ++ [y]) H3 else R acc H2)
    (hd : ∀ acc H p, Pv xs.length acc H → H p = none → Q (.ref p) (upd H p (.lst acc))) : tComp caps (iList K (tVar j)) tt te σ H Q :=
  ⟨_, hj, a, rfl, ⟨_, hq⟩, compL (Q := Q) (τ := capσ caps σ) Pv h0 hl hs hd⟩
end
end L3
namespace Cs
open PySem PySem.Spec PyProof.Rows L2 L3 Mx

/-! ### places in written lists -/
theorem at0 {α : Type} (x : α) (r : List α) : atI (x :: r) 0 = some x := by
  unfold atI ixN
  rw [if_pos (by decide), if_pos (by simp only [List.length_cons]; omega)]; rfl
theorem at1 {α : Type} (x y : α) (r : List α) : atI (x :: y :: r) 1 = some y := by
  unfold atI ixN
  rw [if_pos (by decide), if_pos (by simp only [List.length_cons]; omega)]; rfl
theorem at2 {α : Type} (x y z : α) (r : List α) : atI (x :: y :: z :: r) 2 = some z := by
  unfold atI ixN
  rw [if_pos (by decide), if_pos (by simp only [List.length_cons]; omega)]; rfl
theorem at3 {α : Type} (x y z u : α) (r : List α) : atI (x :: y :: z :: u :: r) 3 = some u := by
  unfold atI ixN
  rw [if_pos (by decide), if_pos (by simp only [List.length_cons]; omega)]; rfl
/-- a place that is bounded: what stands there is one of the items -/
theorem at_any {α : Type} (xs : List α) {i : Int} (h0 : 0 ≤ i) (h1 : i < xs.length) : ∃ v, atI xs i = some v ∧ v ∈ xs := by
  unfold atI ixN
  rw [if_pos h0, if_pos h1]
  have h : i.toNat < xs.length := by omega
  exact ⟨xs[i.toNat], by simp [h], List.getElem_mem h⟩
theorem ix_any {n : Nat} {i : Int} (h0 : 0 ≤ i) (h1 : i < n) : ixN n i = some i.toNat := by
  unfold ixN
  rw [if_pos h0, if_pos h1]

/-! ### heaps -/
/-- the script -/
def Scr (K : PySem.W.Frag) (H : Hp) (a : Addr) (ns : List Int) : Prop := (∃ o, H a = some (.frz o (.lst (ns.map V.int)))) ∨ ∀ H', SqL K H' a (ns.map V.int)
theorem Scr.seq {K : PySem.W.Frag} {H : Hp} {a : Addr} {ns : List Int} (h : Scr K H a ns) : SqL K H a (ns.map V.int) := by
  rcases h with ⟨o, h⟩ | h
  · exact .inl (.inr ⟨o, h⟩)
  · exact h H
theorem Scr.mono {K : PySem.W.Frag} {H H' : Hp} {a : Addr} {ns : List Int} (h : Scr K H a ns) (e : Same H H') : Scr K H' a ns := by
  rcases h with ⟨o, h⟩ | h
  · exact .inl ⟨o, e _ _ h⟩
  · exact .inr h
theorem Scr.upd {K : PySem.W.Frag} {H : Hp} {a b : Addr} {ns : List Int} {ys : List V} {u : HO} (h : Scr K H a ns) (e : H b = some (.lst ys)) : Scr K (L2.upd H b u) a ns := by
  rcases h with ⟨o, h⟩ | h
  · exact .inl ⟨o, by rw [upd_ne (ne_of h e (by intro z; cases z))]; exact h⟩
  · exact .inr h
theorem SqT.upd {K : PySem.W.Frag} {H : Hp} {a b : Addr} {xs ys : List V} {o : HO} (h : SqT K H a xs) (e : H b = some (.lst ys)) : SqT K (upd H b o) a xs := by
  rcases h with (h | ⟨ob, h⟩) | h
  · exact .inl (.inl (by rw [upd_ne (ne_of h e (by intro z; cases z))]; exact h))
  · exact .inl (.inr ⟨ob, by rw [upd_ne (ne_of h e (by intro z; cases z))]; exact h⟩)
  · exact .inr h
theorem Tp.upd {K : PySem.W.Frag} {H : Hp} {b : Addr} {v : V} {ns : List Int} {ys : List V} {o : HO} (h : Tp K H v ns) (e : H b = some (.lst ys)) : Tp K (upd H b o) v ns := by
  obtain ⟨a, rfl, q⟩ := h
  exact ⟨a, rfl, SqT.upd q e⟩
theorem Only.scr {K : PySem.W.Frag} {H : Hp} {a : Addr} {ns : List Int} (h : SqL K H a (ns.map V.int)) (o : Only H) : Scr K H a ns := by
  rcases h with (q | ⟨ob, q⟩) | q
  · rcases o a with z | ⟨_, _, z⟩ <;> rw [z] at q <;> cases q
  · exact .inl ⟨ob, q⟩
  · exact .inr fun _ => .inr q

/-! ### what the defs answer -/
def pl (p : Int × Int) : List Int := [p.1, p.2]
def cl (m : Ch) : List Int := [m.a, m.b, m.c, m.d]
def BdP (k : Nat) (x y : Int) : Prop := Bd k x ∧ Bd k y
def BdC (k : Nat) (m : Ch) : Prop := Bd k m.a ∧ Bd k m.b ∧ Bd k m.c ∧ Bd k m.d
/-- a new tuple of ints comes back, all else stays -/
def Out (K : PySem.W.Frag) (H : Hp) (ns : List Int) (Q : VK) : Prop := ∀ v H', Same H H' → Tp K H' v ns → Q v H'
/-- a bool comes back, all else stays -/
def OutB (H : Hp) (b : Bool) (Q : VK) : Prop := ∀ H', Same H H' → Q (.bl b) H'
def spGcd : Sp := fun vs H Q _ => ∃ a b : Int, vs = [.int a, .int b] ∧ Q (.int (Int.gcd a b : Int)) H
def spLowP (K : PySem.W.Frag) : Sp := fun vs H Q _ => ∃ x y : Int, vs = [.int x, .int y] ∧ Bd 4000 x ∧ Bd 4000 y ∧ Out K H (pl (npt x y)) Q
def spIsP (K : PySem.W.Frag) : Sp := fun vs H Q _ => ∃ (v : V) (x y : Int), vs = [v] ∧ Tp K H v [x, y] ∧ Bd 4000 x ∧ Bd 4000 y ∧ OutB H (decide (GoodP x y)) Q
def spLowC (K : PySem.W.Frag) : Sp := fun vs H Q _ => ∃ (v : V) (m : Ch), vs = [v] ∧ Tp K H v (cl m) ∧ m.det ≠ 0 ∧ BdC 4000 m ∧ Out K H (cl (nch m)) Q
def spIsC (K : PySem.W.Frag) : Sp := fun vs H Q _ => ∃ (v : V) (m : Ch), vs = [v] ∧ Tp K H v (cl m) ∧ BdC 4000 m ∧ OutB H (decide (GoodC m)) Q
def cellN (ns : List Int) (k : Int) : Int := ns.getD k.toNat 0
def spCell (K : PySem.W.Frag) : Sp := fun vs H Q _ => ∃ (a : Addr) (ns : List Int) (k : Int), vs = [.ref a, .int k] ∧ SqL K H a (ns.map V.int) ∧ 0 ≤ k ∧ Q (.int (cellN ns k)) H
def spNext (K : PySem.W.Frag) : Sp := fun vs H Q _ => ∃ (a b : Addr) (ns : List Int) (k : Int), vs = [.ref a, .ref b] ∧ Scr K H a ns ∧ H b = some (.lst [.int k]) ∧ 0 ≤ k ∧ Q (.int (cellN ns k)) (upd H b (.lst [.int (k + 1)]))
/-- _law_point: two numbers, not both nought -/
def spLawP (K : PySem.W.Frag) : Sp := fun vs H Q _ => ∃ x y : Int, vs = [.int x, .int y] ∧ (x ≠ 0 ∨ y ≠ 0) ∧ Bd 4000 x ∧ Bd 4000 y ∧ Out K H (pl (npt x y)) Q
def stir (c : Int) : Int := ((c + 7919) % 2147483647 * ((c + 7919) % 2147483647) + 48271 * ((c + 7919) % 2147483647) + 12345) % 2147483629
def spStir : Sp := fun vs H Q _ => ∃ c : Int, vs = [.int c] ∧ Q (.int (stir c)) H
/-! ### folds -/
def gI (xs : List Int) : Int := xs.foldl (fun g n => (Int.gcd g n : Int)) 0
theorem gI_step {xs : List Int} {i : Nat} {n : Int} (h : xs[i]? = some n) : gI (xs.take (i + 1)) = (Int.gcd (gI (xs.take i)) n : Int) := by
  unfold gI
  rw [List.take_add_one, h, List.foldl_append]
  rfl
theorem map_at {α β : Type} {f : α → β} {xs : List α} {i : Nat} {y : β} (h : (xs.map f)[i]? = some y) : ∃ x, xs[i]? = some x ∧ f x = y := by
  rw [List.getElem?_map] at h
  cases e : xs[i]? with
  | none => rw [e] at h; cases h
  | some x => rw [e] at h; exact ⟨x, rfl, Option.some.inj h⟩
theorem BdC.gcd {k : Nat} {m : Ch} (h : BdC k m) : Bd k (g4 m) := by
  obtain ⟨h1, h2, h3, h4⟩ := h
  exact Bd.gcd (Bd.gcd (Bd.gcd (Bd.gcd (Bd.lit (by simpa using Nat.two_pow_pos k)) h1) h2) h3) h4
theorem cl_inj {m n : Ch} : cl m = cl n ↔ m = n := by
  cases m; cases n
  simp [cl]
theorem pl_inj {p q : Int × Int} : pl p = pl q ↔ p = q := by
  obtain ⟨a, b⟩ := p
  obtain ⟨c, d⟩ := q
  simp [pl]
theorem cell_at {ns : List Int} {k : Int} (h0 : 0 ≤ k) (h : k < (ns.length : Int)) : atI ns k = some (cellN ns k) := by
  unfold atI ixN cellN
  rw [if_pos h0, if_pos h]
  have hk : k.toNat < ns.length := by omega
  simp [List.getD, hk]
theorem cell_no {ns : List Int} {k : Int} (h : (ns.length : Int) ≤ k) : cellN ns k = 0 := by
  unfold cellN
  rw [List.getD, List.getElem?_eq_none (by omega)]; rfl
/-! ### the drawn points -/
def wideOf (k : Int) : Int := if k = 0 then 4 else if k = 1 then 9 else if k = 2 then 100 else 1000
theorem wide_at {k : Int} (h0 : 0 ≤ k) (h1 : k < 4) : atI [4, 9, 100, 1000] k = some (wideOf k) := by
  have : k = 0 ∨ k = 1 ∨ k = 2 ∨ k = 3 := by omega
  rcases this with rfl | rfl | rfl | rfl <;> rfl
theorem wide_pos (k : Int) : 4 ≤ wideOf k ∧ wideOf k ≤ 1000 := by
  unfold wideOf
  split
  · decide
  · split
    · decide
    · split <;> decide
def rawp (c : Int) : Int × Int :=
  if c % 2 = 0 then (if c / 2 % 40 = 7 then (1, 0) else (c / 80 % 201 - 100, 1 + c / 16080 % 60))
  else if stir c / 7 % 9 = 1 then (1, 0)
  else (stir (stir c) / 7 % (2 * wideOf (stir c / 63 % 4) + 1) - wideOf (stir c / 63 % 4), 1 + stir (stir (stir c)) / 7 % wideOf (stir c / 63 % 4))
def dp (c : Int) : Int × Int := npt (rawp c).1 (rawp c).2
theorem rawp_ok (c : Int) : ((rawp c).1 ≠ 0 ∨ (rawp c).2 ≠ 0) ∧ (rawp c).1.natAbs ≤ 1000 ∧ (rawp c).2.natAbs ≤ 1000 := by
  unfold rawp
  split
  · split
    · decide
    · have h1 := Int.emod_nonneg (c / 80) (b := 201) (by decide)
      have h2 := Int.emod_lt_of_pos (c / 80) (b := 201) (by decide)
      have h3 := Int.emod_nonneg (c / 16080) (b := 60) (by decide)
      have h4 := Int.emod_lt_of_pos (c / 16080) (b := 60) (by decide)
      refine ⟨.inr ?_, ?_, ?_⟩ <;> dsimp only <;> omega
  · split
    · decide
    · obtain ⟨w1, w2⟩ := wide_pos (stir c / 63 % 4)
      generalize wideOf (stir c / 63 % 4) = w at *
      have h1 := Int.emod_nonneg (stir (stir c) / 7) (b := 2 * w + 1) (by omega)
      have h2 := Int.emod_lt_of_pos (stir (stir c) / 7) (b := 2 * w + 1) (by omega)
      have h3 := Int.emod_nonneg (stir (stir (stir c)) / 7) (b := w) (by omega)
      have h4 := Int.emod_lt_of_pos (stir (stir (stir c)) / 7) (b := w) (by omega)
      refine ⟨.inr ?_, ?_, ?_⟩ <;> dsimp only <;> omega
theorem dp_good (c : Int) : GoodP (dp c).1 (dp c).2 := (npt_spec (rawp_ok c).1).choose_spec.2.2.2
theorem dp_bd (c : Int) : Bd 10 (dp c).1 ∧ Bd 10 (dp c).2 := by
  obtain ⟨h, h1, h2⟩ := rawp_ok c
  obtain ⟨l1, l2⟩ := npt_le h
  exact ⟨Bd.lit (Nat.lt_of_le_of_lt (Nat.le_trans l1 h1) (by decide)), Bd.lit (Nat.lt_of_le_of_lt (Nat.le_trans l2 h2) (by decide))⟩
def spDrawn (K : PySem.W.Frag) : Sp := fun vs H Q _ => ∃ c : Int, vs = [.int c] ∧ Out K H (pl (dp c)) Q
theorem Out.npt {K : PySem.W.Frag} {H : Hp} {Q : VK} {x y c : Int} (q : Out K H (pl (dp c)) Q) (e : rawp c = (x, y)) : Out K H (pl (npt x y)) Q := by
  unfold dp at q
  rw [e] at q
  exact q
theorem Out.from {K : PySem.W.Frag} {H H' : Hp} {Q : VK} {ns : List Int} (q : Out K H ns Q) (g : Same H H') : Out K H' ns Q := fun v H'' g' t => q v H'' (g.trans g') t

/-! ### the drawn changes -/
def spPlain (K : PySem.W.Frag) : Sp := fun vs H Q _ => ∃ (a : Addr) (m : Ch), vs = [.ref a] ∧ SqL K H a ((cl m).map V.int) ∧ m.det ≠ 0 ∧ BdC 4000 m ∧ Out K H (cl (nch m)) Q
theorem first_filter {a b c d : Int} (h : a ≠ 0 ∨ (a = 0 ∧ b ≠ 0)) : atI ([a, b, c, d].filter fun n => decide (n ≠ 0)) 0 = some (if a ≠ 0 then a else b) := by
  rcases h with h | ⟨h, h'⟩
  · rw [if_pos h, List.filter_cons_of_pos (by simpa using h)]
    exact at0 _ _
  · rw [if_neg (by simpa using h), List.filter_cons_of_neg (by simpa using h), List.filter_cons_of_pos (by simpa using h')]
    exact at0 _ _
def spLawAfter (K : PySem.W.Frag) : Sp := fun vs H Q _ => ∃ (v u : V) (m n : Ch), vs = [v, u] ∧ Tp K H v (cl m) ∧ Tp K H u (cl n) ∧ m.det ≠ 0 ∧ n.det ≠ 0 ∧ BdC 1900 m ∧ BdC 1900 n ∧ Out K H (cl (nch (mul m n))) Q
def spLawBack (K : PySem.W.Frag) : Sp := fun vs H Q _ => ∃ (v : V) (m : Ch), vs = [v] ∧ Tp K H v (cl m) ∧ m.det ≠ 0 ∧ BdC 1900 m ∧ Out K H (cl (nch (adj m))) Q
def spTurning (K : PySem.W.Frag) : Sp := fun vs H Q _ => ∃ c : Int, vs = [.int c] ∧ ∀ v H' m, Same H H' → Tp K H' v (cl m) → m.det ≠ 0 → BdC 2 m → Q v H'
theorem BdC.mono {j k : Nat} {m : Ch} (h : BdC j m) (l : j ≤ k) : BdC k m := ⟨h.1.mono l, h.2.1.mono l, h.2.2.1.mono l, h.2.2.2.mono l⟩
theorem BdC.mul {j k : Nat} {m n : Ch} (h : BdC j m) (h' : BdC k n) : BdC (k + j + 1) (mul m n) := by
  obtain ⟨a, b, c, d⟩ := h
  obtain ⟨a', b', c', d'⟩ := h'
  exact ⟨(a'.mul a).add (b'.mul c), (a'.mul b).add (b'.mul d), (c'.mul a).add (d'.mul c), (c'.mul b).add (d'.mul d)⟩
theorem BdC.adj {k : Nat} {m : Ch} (h : BdC k m) : BdC k (adj m) := ⟨h.2.2.2, h.2.1.neg, h.2.2.1.neg, h.1⟩
theorem BdC.nch {k : Nat} {m : Ch} (h : BdC k m) (hd : m.det ≠ 0) : BdC k (nch m) := by
  obtain ⟨l1, l2, l3, l4⟩ := nch_le hd
  exact ⟨h.1.of_le l1, h.2.1.of_le l2, h.2.2.1.of_le l3, h.2.2.2.of_le l4⟩
/-! ### lists that are changed -/
theorem same_upd {B H : Hp} {l : Addr} {o : HO} (g : Same B H) (n : B l = none) : Same B (upd H l o) := fun b u e => by
  rw [upd_ne (ne_of_none e n)]
  exact g b u e
theorem list4 {ns : List Int} (h : ns.length = 4) : ∃ m, ns = cl m := by
  match ns, h with
  | [a, b, c, d], _ => exact ⟨⟨a, b, c, d⟩, rfl⟩
theorem set_cl {k : Nat} {m : Ch} (h : BdC k m) {j : Nat} (hj : j < 4) {n : Int} (hn : Bd k n) : ∃ m', ((cl m).map V.int).set j (.int n) = (cl m').map V.int ∧ BdC k m' := by
  obtain ⟨h1, h2, h3, h4⟩ := h
  match j, hj with
  | 0, _ => exact ⟨⟨n, m.b, m.c, m.d⟩, rfl, hn, h2, h3, h4⟩
  | 1, _ => exact ⟨⟨m.a, n, m.c, m.d⟩, rfl, h1, hn, h3, h4⟩
  | 2, _ => exact ⟨⟨m.a, m.b, n, m.d⟩, rfl, h1, h2, hn, h4⟩
  | 3, _ => exact ⟨⟨m.a, m.b, m.c, n⟩, rfl, h1, h2, h3, hn⟩
theorem BdC.of_all {k : Nat} {m : Ch} (h : ∀ n ∈ cl m, Bd k n) : BdC k m := ⟨h _ (by simp [cl]), h _ (by simp [cl]), h _ (by simp [cl]), h _ (by simp [cl])⟩
theorem BdC.all {k : Nat} {m : Ch} (h : BdC k m) : ∀ n ∈ cl m, Bd k n := fun n hn => by
  simp only [cl, List.mem_cons, List.not_mem_nil, or_false] at hn
  obtain ⟨h1, h2, h3, h4⟩ := h
  rcases hn with rfl | rfl | rfl | rfl <;> assumption
def spLawChange (K : PySem.W.Frag) : Sp := fun vs H Q _ => ∃ (a b : Addr) (ns : List Int) (k : Int), vs = [.ref a, .ref b] ∧ Scr K H a ns ∧ H b = some (.lst [.int k]) ∧ 0 ≤ k ∧
  ∀ v H' m, Same (upd H b (.lst [.int (k + 1)])) H' → Tp K H' v (cl m) → GoodC m → BdC 24 m → Q v H'
def spSpoilt (K : PySem.W.Frag) : Sp := fun vs H Q _ => ∃ (v : V) (ns : List Int) (way cell : Int), vs = [v, .int way, .int cell] ∧ Tp K H v ns ∧ ns ≠ [] ∧ ns.length ≤ 4 ∧ (∀ n ∈ ns, Bd 40 n) ∧
  ∀ v' H' ms, Same H H' → Tp K H' v' ms → ms.length = ns.length → (∀ n ∈ ms, Bd 80 n) → Q v' H'
def spGoodP (K : PySem.W.Frag) : Sp := fun vs H Q _ => ∃ (v : V) (x y : Int), vs = [v] ∧ Tp K H v [x, y] ∧ Q (.bl (decide (GoodP x y))) H
def spGoodC (K : PySem.W.Frag) : Sp := fun vs H Q _ => ∃ (v : V) (m : Ch), vs = [v] ∧ Tp K H v (cl m) ∧ BdC 4000 m ∧ OutB H (decide (GoodC m)) Q
def spLaw (K : PySem.W.Frag) : Sp := fun vs H Q _ => ∃ (a : Addr) (ns : List Int), vs = [.ref a] ∧ Scr K H a ns ∧ ∀ H', Q (.bl true) H'
theorem at_back {α : Type} (xs : List α) (h : 0 < xs.length) : ∃ v, atI xs (-1) = some v ∧ v ∈ xs := by
  unfold atI ixN
  rw [if_neg (by decide), if_pos (by omega)]
  have h2 : ((-1 : Int) + xs.length).toNat < xs.length := by omega
  exact ⟨xs[((-1 : Int) + xs.length).toNat], by simp [h2], List.getElem_mem h2⟩
theorem ix_back {n : Nat} (h : 0 < n) : ixN n (-1) = some (n - 1) := by
  unfold ixN
  rw [if_neg (by decide), if_pos (by omega)]
  congr 1
  omega
/-- the state of _law_spoilt -/
def SpS (H : Hp) (a : Addr) (way c t far : Int) (L k : Nat) (σ : L2.St) (H' : Hp) : Prop :=
  ∃ (l : Addr) (ms : List Int), H l = none ∧ Same H H' ∧ H' l = some (.lst (ms.map V.int)) ∧ ms.length = L ∧ (∀ n ∈ ms, Bd k n) ∧ σ = [some (.ref a), some (.int way), some (.int c), some (.ref l), some (.int t), some (.int far)]
theorem SpS.mono {H : Hp} {a : Addr} {way c t far : Int} {L j k : Nat} {σ : L2.St} {H' : Hp} (h : SpS H a way c t far L j σ H') (l : j ≤ k) : SpS H a way c t far L k σ H' := by
  obtain ⟨p, ms, h1, h2, h3, h4, h5, h6⟩ := h
  exact ⟨p, ms, h1, h2, h3, h4, fun n hn => (h5 n hn).mono l, h6⟩
theorem set_bd {k : Nat} {ms : List Int} {j : Nat} {v : Int} (h : ∀ n ∈ ms, Bd k n) (hv : Bd k v) : ∀ n ∈ ms.set j v, Bd k n := fun n hn => by
  rcases List.mem_or_eq_of_mem_set hn with h' | rfl
  · exact h n h'
  · exact hv
theorem list2 {ns : List Int} (h : ns.length = 2) : ∃ x y, ns = [x, y] := by
  match ns, h with
  | [a, b], _ => exact ⟨a, b, rfl⟩
theorem kit_bool {K : PySem.W.Frag} : PySem.W.kitOne K (.type "bool") (.type "bool") = some true := rfl
theorem far_mk {K : PySem.W.Frag} {h : Heap} {mg : Str → Option Value} {f : Addr} {od : Option Addr} {osl : Array (Option Value)} {n : Nat} {t1 t2 : Tok} (X : K.In h) (G : h.Ns mainGlobals mg)
    (a : PySem.W.nsIn K mainGlobals "FAR" = some (some (.ref f))) (l : K.lookup f = some ⟨.type "tuple", od, .seq #[.int 1 t1, .int 0 t2] n, osl⟩) :
    ∃ aF, (mg "FAR" = some (.ref aF) ∧ RelV (.ref aF) (Value.ref aF)) ∧ ∀ H, SqT K H aF [.int 1, .int 0] :=
  ⟨f, ⟨PySem.W.mg_of X G a, rfl⟩, tupK l (by show 2 ≤ sizeLine; decide) (.cons ⟨_, rfl⟩ (.cons ⟨_, rfl⟩ .nil))⟩
end Cs
namespace L3
open PySem PySem.Spec PyProof.Rows L2
section
variable {X : Cx}
/-! ### is True, all, in -/
def rIsB (neg : Bool) : R2 := fun x y H Q => ∃ i j, x = .bl i ∧ y = .bl j ∧ Q (.bl (if neg then i != j else i == j)) H
theorem op_isB : OpR X (compareOp .Is) (rIsB false) := by
  intro pins s σ H x y v u Q I rx ry h
  obtain ⟨i, j, rfl, rfl, q⟩ := h
  cases rx
  cases ry
  exact is_bool ⟨.bl (i == j), H, I, rfl, by simpa using q⟩
theorem op_isnotB : OpR X (compareOp .IsNot) (rIsB true) := by
  intro pins s σ H x y v u Q I rx ry h
  obtain ⟨i, j, rfl, rfl, q⟩ := h
  cases rx
  cases ry
  exact isnot_bool ⟨.bl (i != j), H, I, rfl, by simpa using q⟩
theorem vals_bools : ∀ {bs : List Bool} {us : List Value}, Vals (bs.map V.bl) us → us = bs.map Value.bool
  | [], _, r => by cases r; rfl
  | b :: bs, _, r => by
    cases r with
    | cons r1 r2 =>
      cases (show _ = Value.bool b from r1)
      rw [vals_bools r2]; rfl
theorem range_allB (bs : List Bool) : ((List.range bs.length).all fun i => (bs[i]?).getD true) = bs.all id := by
  rw [Bool.eq_iff_iff]
  simp only [List.all_eq_true, List.mem_range, id]
  constructor
  · intro h b hb
    obtain ⟨i, hi, e⟩ := List.mem_iff_getElem.mp hb
    have := h i hi
    rw [List.getElem?_eq_getElem hi] at this
    simpa [e] using this
  · intro h i hi
    rw [List.getElem?_eq_getElem hi]
    exact h _ (List.getElem_mem hi)
def rAllB (K : PySem.W.Frag) : List V → Hp → VK → Prop := fun xs H Q => ∃ (p : Addr) (bs : List Bool), xs = [.ref p] ∧ SqL K H p (bs.map V.bl) ∧ Q (.bl (bs.all id)) H
theorem call_allB (hc : X.calm = true) : CallR X (.builtin "all") (rAllB X.K) := by
  intro pins s σ H xs us Q I rv h
  obtain ⟨p, bs, rfl, hq, q⟩ := h
  obtain ⟨u, rfl, ru⟩ := vals1 rv
  cases (show u = Value.ref p from ru)
  obtain ⟨its, rvs, pl, _⟩ := I.list hq
  have e := vals_bools rvs
  subst e
  have hl := pl.isList
  have hlt : p < s.heap.objs.size := pl.lt
  refine call_all_walk (wpAny_pyIter_list hl ?_)
  refine ⟨s.heap.objs.size, [s.heap.objs.size, p], [s.heap.objs.size], (bs.map Value.bool).toArray.size, _, _, fun i => (bs[i]?).getD true, rfl, Walks.list (A := X.A.in1) (I.ok.hd hc) _ p (Nat.ne_of_lt hlt) (bs.map Value.bool).toArray,
    ⟨⟨_, Heap.get?_push_size _ rfl, rfl, rfl⟩, hl.push _⟩, fun i v s' Q' E' hP hQ => ?_, fun h' tk hk => ?_⟩
  · have hP' : ((bs.map Value.bool).toArray)[i]? = some v := by simpa using hP
    simp only [List.getElem?_toArray, List.getElem?_map] at hP'
    cases eb : bs[i]? with
    | none => rw [eb] at hP'; cases hP'
    | some b =>
      rw [eb] at hP'
      have ev : Value.bool b = v := by simpa using hP'
      subst ev
      simp only [eb, Option.getD_some] at hQ
      exact wpAny_truthy_bool hQ
  · have e : ((List.range (bs.map Value.bool).toArray.size).all fun i => (bs[i]?).getD true) = bs.all id := by
      rw [List.size_toArray, List.length_map]; exact range_allB bs
    rw [e]
    refine ⟨.bl (bs.all id), H, ?_, rfl, q⟩
    refine I.kept (t' := tk) fun b o e => hk b o (fun hm => ?_) (Heap.get?_push_of_some _ e)
    rw [List.mem_singleton.mp hm] at e
    exact Nat.lt_irrefl _ (Heap.lt_size e)
end
/-- a loop over a list that an expression makes -/
theorem for_src {K : PySem.W.Frag} {tl : TE} {g : TG} {tb : TS} {D : Ends} {σ : L2.St} {H : Hp} (R : V → Hp → Prop) (h1 : ∀ k : VK, (∀ x H1, R x H1 → k x H1) → tl σ H k)
    (h2 : ∀ x H1, R x H1 → ∃ a, x = .ref a ∧ (∃ xs, SqL K H1 a xs) ∧ ∃ W : Nat → Nat → L2.St → Hp → Prop, (∃ m, W 0 m σ H1) ∧ ∀ i m σ H, W i m σ H →
      ((Itl K a).stop i H ∧ D.nx σ H) ∨ ((Itl K a).go i H ∧ ∃ N : L2.St → Hp → Prop, (∀ σ' H', N σ' H' → ∃ m', m' < m ∧ W (i + 1) m' σ' H') ∧ ∀ x H', (Itl K a).yld i H x H' → g x σ H' fun σ2 H2 => tb { D with nx := N, ct := N, bk := D.nx } σ2 H2)) :
    tFor (iList K tl) g tb D σ H := h1 _ h2
/-! ### lists of tuples of ints -/
/-- the values vs are tuples of ints, item by item -/
def Tps (K : PySem.W.Frag) (H : Hp) (vs : List V) (xs : List (List Int)) : Prop := Paired (fun v ns => Tp K H v ns) vs xs
theorem Tps.mono {K : PySem.W.Frag} {H H' : Hp} (g : Same H H') : ∀ {vs : List V} {xs : List (List Int)}, Tps K H vs xs → Tps K H' vs xs
  | _, _, .nil => .nil
  | _, _, .cons h t => .cons (h.mono g) (Tps.mono g t)
theorem Tps.snoc {K : PySem.W.Frag} {H : Hp} {vs : List V} {xs : List (List Int)} {v : V} {ns : List Int} (h : Tps K H vs xs) (t : Tp K H v ns) : Tps K H (vs ++ [v]) (xs ++ [ns]) := Paired.snoc h t
theorem Tps.append {K : PySem.W.Frag} {H : Hp} : ∀ {vs ws : List V} {xs ys : List (List Int)}, Tps K H vs xs → Tps K H ws ys → Tps K H (vs ++ ws) (xs ++ ys)
  | _, _, _, _, .nil, h => h
  | _, _, _, _, .cons a t, h => .cons a (Tps.append t h)
theorem Tps.length {K : PySem.W.Frag} {H : Hp} {vs : List V} {xs : List (List Int)} (h : Tps K H vs xs) : vs.length = xs.length := Paired.length h
theorem Tps.at {K : PySem.W.Frag} {H : Hp} : ∀ {vs : List V} {xs : List (List Int)} {i : Nat} {v : V}, Tps K H vs xs → vs[i]? = some v → ∃ ns, xs[i]? = some ns ∧ Tp K H v ns
  | _, _, _, _, .nil, e => by simp at e
  | _, _, 0, _, .cons h _, e => by simp at e; subst e; exact ⟨_, rfl, h⟩
  | _, _, i + 1, _, .cons _ t, e => by simpa using Tps.at (i := i) t (by simpa using e)
theorem Tps.isDs {K : PySem.W.Frag} {H : Hp} : ∀ {vs : List V} {xs : List (List Int)}, Tps K H vs xs → IsDs K H (xs.map fun ns => PyData.tuple (ns.map PyData.int)) vs
  | _, _, .nil => by simp [IsDs]
  | _, _, .cons h t => by
    simp only [List.map_cons, IsDs]
    exact ⟨_, _, rfl, h.isD, Tps.isDs t⟩
theorem lay_tups : ∀ xs : List (List Int), PyData.canLayAll0 (xs.map fun ns => PyData.tuple (ns.map PyData.int)) = true
  | [] => by simp [PyData.canLayAll0]
  | x :: xs => by simp [PyData.canLayAll0, PyData.canLay0, lay_ints, lay_tups xs]
theorem dep_tups : ∀ xs : List (List Int), PyData.depthAll (xs.map fun ns => PyData.tuple (ns.map PyData.int)) ≤ 1
  | [] => by simp [PyData.depthAll]
  | x :: xs => by
    have := dep_tups xs
    simp only [List.map_cons, PyData.depthAll, PyData.depth, dep_ints]
    omega
theorem shaped_tups (xs : List (List Int)) : SeqAt.shaped (.list (xs.map fun ns => PyData.tuple (ns.map PyData.int))) = true := by
  unfold SeqAt.shaped
  have h := dep_tups xs
  rw [Bool.and_eq_true]
  refine ⟨by simp only [PyData.canLay0, lay_tups], decide_eq_true ?_⟩
  simp only [PyData.depth]
  omega
theorem any_tups (ns : List Int) : ∀ xs : List (List Int), ((xs.map fun ns => PyData.tuple (ns.map PyData.int)).any fun z => PyData.eqv z (.tuple (ns.map PyData.int))) = decide (ns ∈ xs)
  | [] => by simp
  | x :: xs => by
    rw [List.map_cons, List.any_cons, any_tups ns xs]
    simp only [PyData.eqv, eqv_ints]
    by_cases h : x = ns
    · simp [h]
    · have h' : ¬ ns = x := fun e => h e.symm
      by_cases h2 : ns ∈ xs <;> simp [h, h', h2]
/-- a tuple of ints in a list of such -/
def rInT (K : PySem.W.Frag) (neg : Bool) : R2 := fun x y H Q => ∃ ns l vs xs, y = .ref l ∧ Tp K H x ns ∧ SqL K H l vs ∧ Tps K H vs xs ∧ Q (.bl (if neg then !decide (ns ∈ xs) else decide (ns ∈ xs))) H
theorem rInT.toD {K : PySem.W.Frag} {neg : Bool} {x y : V} {H : Hp} {Q : VK} (h : rInT K neg x y H Q) : rInD K neg x y H Q := by
  obtain ⟨ns, l, vs, xs, rfl, hx, hq, ht, q⟩ := h
  refine ⟨_, _, hx.isD, (by simp only [IsD]; exact ⟨l, vs, rfl, hq, ht.isDs⟩ : IsD K H (.list (xs.map fun ns => PyData.tuple (ns.map PyData.int))) (.ref l)), shaped_ints ns, shaped_tups xs, ?_⟩
  rw [any_tups]
  exact q
theorem op_inT {X : Cx} (hu : X.A.units + 80 < cLine) : OpR X (compareOp .In) (rInT X.K false) :=
  fun pins s σ H x y v u Q I rx ry h => op_inD hu pins s σ H x y v u Q I rx ry h.toD
theorem op_notInT {X : Cx} (hu : X.A.units + 80 < cLine) : OpR X (compareOp .NotIn) (rInT X.K true) :=
  fun pins s σ H x y v u Q I rx ry h => op_notInD hu pins s σ H x y v u Q I rx ry h.toD
theorem opK_inT {X : Cx} (K : PySem.W.Frag) (h : X.K = K) (hu : X.A.units + 80 < cLine) : OpR X (compareOp .In) (rInT K false) := h ▸ op_inT hu
theorem opK_notInT {X : Cx} (K : PySem.W.Frag) (h : X.K = K) (hu : X.A.units + 80 < cLine) : OpR X (compareOp .NotIn) (rInT K true) := h ▸ op_notInT hu
end L3
namespace Cs
open PySem PySem.Spec PyProof.Rows L2 L3 Mx
theorem kit_int {K : PySem.W.Frag} : PySem.W.kitOne K (.type "int") (.type "int") = some true := rfl
theorem kit_tuple {K : PySem.W.Frag} : PySem.W.kitOne K (.type "tuple") (.type "tuple") = some true := rfl
theorem kit_int_bool {K : PySem.W.Frag} : PySem.W.kitOne K (.type "int") (.type "bool") = some false := by
  first | rfl | decide | (unfold PySem.W.kitOne PySem.W.kitCls; rfl)
/-- none of few points, drawn further on -/
theorem drawn_on (L : List (Int × Int)) (h : L.length ≤ 200) (c : Int) : ∃ j : Nat, dp (c + j) ∉ L := by
  obtain ⟨t, ht⟩ : ∃ t : Int, t = (c.natAbs : Int) + 1 := ⟨_, rfl⟩
  have base : ∀ r : Nat, r < 201 → dp (80 * (201 * t + r) + 2) = npt ((r : Int) - 100) (1 + t % 60) := fun r hr => by
    unfold dp
    have e1 : (80 * (201 * t + r) + 2) % 2 = 0 := by omega
    have e2 : (80 * (201 * t + r) + 2) / 2 % 40 = 1 := by omega
    have e3 : (80 * (201 * t + r) + 2) / 80 % 201 = r := by omega
    have e4 : (80 * (201 * t + r) + 2) / 16080 = t := by omega
    have e : rawp (80 * (201 * t + r) + 2) = ((r : Int) - 100, 1 + t % 60) := by
      unfold rawp
      rw [if_pos e1, e2, if_neg (by decide), e3, e4]
    rw [e]
  have hb : 1 + t % 60 ≠ 0 := by omega
  obtain ⟨r, hr, hm⟩ := pigeon L 201 (fun r => dp (80 * (201 * t + r) + 2)) (fun i j hi hj e => by
    rw [base i hi, base j hj] at e
    have := npt_inj hb e
    omega) (by omega)
  refine ⟨(80 * (201 * t + r) + 2 - c).toNat, ?_⟩
  have e : c + ((80 * (201 * t + (r : Int)) + 2 - c).toNat : Int) = 80 * (201 * t + r) + 2 := by omega
  rw [e]
  exact hm
theorem same_swap {H H1 : Hp} {b : Addr} {o o' : HO} (g : Same (upd H b o) H1) : Same (upd H b o') (upd H1 b o') := fun c u e => by
  by_cases h : c = b
  · subst h
    rw [upd_same] at e ⊢; exact e
  · rw [upd_ne h] at e ⊢
    exact g c u (by rw [upd_ne h]; exact e)
theorem Tps.upd {K : PySem.W.Frag} {H : Hp} {b : Addr} {ys : List V} {o : HO} (e : H b = some (.lst ys)) : ∀ {vs : List V} {xs : List (List Int)}, Tps K H vs xs → Tps K (L2.upd H b o) vs xs
  | _, _, .nil => .nil
  | _, _, .cons h t => .cons (Tp.upd h e) (Tps.upd e t)
/-! ### promises -/
def GoodPt (p : Int × Int) : Prop := GoodP p.1 p.2
def BdPt (k : Nat) (p : Int × Int) : Prop := Bd k p.1 ∧ Bd k p.2
theorem BdPt.mono {j k : Nat} {p : Int × Int} (h : BdPt j p) (l : j ≤ k) : BdPt k p := ⟨h.1.mono l, h.2.mono l⟩
def spCheckP (K : PySem.W.Frag) : Sp := fun vs H Q _ => ∃ (v : V) (p : Int × Int), vs = [v] ∧ Tp K H v (pl p) ∧ BdPt 4000 p ∧ GoodPt p ∧ ∀ H', Same H H' → Q .non H'
def spCheckC (K : PySem.W.Frag) : Sp := fun vs H Q _ => ∃ (v : V) (m : Ch), vs = [v] ∧ Tp K H v (cl m) ∧ BdC 4000 m ∧ GoodC m ∧ ∀ H', Same H H' → Q .non H'
def spMoved (K : PySem.W.Frag) : Sp := fun vs H Q _ => ∃ (v u : V) (m : Ch) (p : Int × Int), vs = [v, u] ∧ Tp K H v (cl m) ∧ Tp K H u (pl p) ∧ GoodC m ∧ GoodPt p ∧ BdC 1900 m ∧ BdPt 1900 p ∧ Out K H (pl (mv m p)) Q
def spLawMoved (K : PySem.W.Frag) : Sp := fun vs H Q _ => ∃ (v u : V) (m : Ch) (p : Int × Int), vs = [v, u] ∧ Tp K H v (cl m) ∧ Tp K H u (pl p) ∧ m.det ≠ 0 ∧ GoodPt p ∧ BdC 1900 m ∧ BdPt 1900 p ∧ Out K H (pl (mv m p)) Q
def spBack (K : PySem.W.Frag) : Sp := fun vs H Q _ => ∃ (v : V) (m : Ch), vs = [v] ∧ Tp K H v (cl m) ∧ GoodC m ∧ BdC 1900 m ∧ Out K H (cl (nch (adj m))) Q
def spIsTup (K : PySem.W.Frag) : Sp := fun vs H Q _ => ∃ (v : V) (ns : List Int) (n : Int), vs = [v, .int n] ∧ Tp K H v ns ∧ ns.length ≤ 100 ∧ OutB H (decide ((ns.length : Int) = n)) Q
def spSome (K : PySem.W.Frag) : Sp := fun vs H Q _ => ∃ (a b : Addr) (ns : List Int) (k n : Int), vs = [.ref a, .ref b, .int n] ∧ Scr K H a ns ∧ H b = some (.lst [.int k]) ∧ 0 ≤ k ∧ 0 ≤ n ∧ n ≤ 100 ∧
  ∀ (l : Addr) (ws : List V) (ps : List (Int × Int)) (H' : Hp), Same (upd H b (.lst [.int (k + n)])) H' → H l = none → H' l = some (.lst ws) → Tps K H' ws (ps.map pl) → ps.Nodup → (ps.length : Int) = n → (∀ p ∈ ps, GoodPt p ∧ BdPt 10 p) → Q (.ref l) H'
theorem pl_mem {p : Int × Int} {ps : List (Int × Int)} : pl p ∈ ps.map pl ↔ p ∈ ps := by
  rw [List.mem_map]
  constructor
  · rintro ⟨q, hq, e⟩
    rw [pl_inj] at e
    rw [← e]; exact hq
  · intro h; exact ⟨p, h, rfl⟩
theorem BdPt.mv {j k : Nat} {m : Ch} {p : Int × Int} (hm : BdC j m) (hp : BdPt k p) (hd : m.det ≠ 0) (hg : GoodPt p) : BdPt (j + k + 1) (mv m p) := by
  obtain ⟨l1, l2⟩ := npt_le (lin_ne hd (GoodP.ne hg))
  exact ⟨((hm.1.mul hp.1).add (hm.2.1.mul hp.2)).of_le l1, ((hm.2.2.1.mul hp.1).add (hm.2.2.2.mul hp.2)).of_le l2⟩
def spJoined (K : PySem.W.Frag) : Sp := fun vs H Q _ => ∃ (v u : V) (m n : Ch), vs = [v, u] ∧ Tp K H v (cl m) ∧ Tp K H u (cl n) ∧ BdC 50000 m ∧ BdC 50000 n ∧ Out K H (cl (mul m n)) Q
def spAfter (K : PySem.W.Frag) : Sp := fun vs H Q _ => ∃ (v u : V) (m n : Ch), vs = [v, u] ∧ Tp K H v (cl m) ∧ Tp K H u (cl n) ∧ GoodC m ∧ GoodC n ∧ BdC 1900 m ∧ BdC 1900 n ∧ Out K H (cl (nch (mul m n))) Q
theorem BdC.mpow {k : Nat} {s : Ch} (h : BdC k s) : ∀ n, BdC ((k + 1) * n + 2) (mpow s n)
  | 0 => BdC.mono (j := 2) (show BdC 2 one4 from ⟨by decide, by decide, by decide, by decide⟩) (by omega)
  | n + 1 => ((BdC.mpow h n).mul h).mono (by rw [Nat.mul_succ]; omega)
def spPower (K : PySem.W.Frag) : Sp := fun vs H Q _ => ∃ (v : V) (m : Ch) (t : Int) (kb : Nat), vs = [v, .int t] ∧ Tp K H v (cl m) ∧ GoodC m ∧ BdC kb m ∧ kb ≤ 1900 ∧ (kb + 1) * t.natAbs + 2 ≤ 4000 ∧ -60 ≤ t ∧ t ≤ 60 ∧ Out K H (cl (pw m t)) Q
theorem int_mk {K : PySem.W.Frag} {h : Heap} {mg : Str → Option Value} {x : Str} {i : Int} {t : Tok} (X : K.In h) (G : h.Ns mainGlobals mg) (a : PySem.W.nsIn K mainGlobals x = some (some (.int i t))) : ∃ u, mg x = some u ∧ RelV (.int i) u :=
  ⟨_, PySem.W.mg_of X G a, ⟨_, rfl⟩⟩
theorem still_mk {K : PySem.W.Frag} {h : Heap} {mg : Str → Option Value} {f : Addr} {od : Option Addr} {osl : Array (Option Value)} {n : Nat} {t1 t2 t3 t4 : Tok} (X : K.In h) (G : h.Ns mainGlobals mg)
    (a : PySem.W.nsIn K mainGlobals "STILL" = some (some (.ref f))) (l : K.lookup f = some ⟨.type "tuple", od, .seq #[.int 1 t1, .int 0 t2, .int 0 t3, .int 1 t4] n, osl⟩) :
    ∃ aS, (mg "STILL" = some (.ref aS) ∧ RelV (.ref aS) (Value.ref aS)) ∧ ∀ H, SqT K H aS [.int 1, .int 0, .int 0, .int 1] :=
  ⟨f, ⟨PySem.W.mg_of X G a, rfl⟩, tupK l (by show 4 ≤ sizeLine; decide) (.cons ⟨_, rfl⟩ (.cons ⟨_, rfl⟩ (.cons ⟨_, rfl⟩ (.cons ⟨_, rfl⟩ .nil))))⟩
end Cs
namespace Stb
open PySem PySem.SetTable

/-! ### sorted arrays and the place below which a number falls -/
def Rise (xs : Array Nat) : Prop := ∀ a b u v : Nat, a < b → xs[a]? = some u → xs[b]? = some v → u < v
theorem below_go {xs : Array Nat} {j : Nat} (hr : Rise xs) : ∀ (fuel lo hi : Nat), hi - lo ≤ fuel → lo ≤ hi → hi ≤ xs.size →
    (∀ a v, a < lo → xs[a]? = some v → v < j) → (∀ a v, hi ≤ a → xs[a]? = some v → j ≤ v) →
    below.go xs j fuel lo hi ≤ xs.size ∧ (∀ a v, a < below.go xs j fuel lo hi → xs[a]? = some v → v < j) ∧ (∀ a v, below.go xs j fuel lo hi ≤ a → xs[a]? = some v → j ≤ v)
  | 0, lo, hi, hf, hl, hs, h1, h2 => by
    have e : lo = hi := by omega
    subst e
    exact ⟨hs, h1, h2⟩
  | fuel + 1, lo, hi, hf, hl, hs, h1, h2 => by
    unfold below.go
    by_cases hlt : lo < hi
    · rw [if_pos hlt]
      have hm : (lo + hi) / 2 < xs.size := by omega
      have eg : xs[(lo + hi) / 2]? = some xs[(lo + hi) / 2] := Array.getElem?_eq_getElem hm
      have ed : xs.getD ((lo + hi) / 2) j = xs[(lo + hi) / 2] := by simp [hm]
      by_cases hc : xs.getD ((lo + hi) / 2) j < j
      · simp only [hc, if_true]
        refine below_go hr fuel _ _ (by omega) (by omega) hs (fun a v ha e => ?_) h2
        by_cases ha' : a = (lo + hi) / 2
        · subst ha'
          rw [eg] at e; cases e
          rw [ed] at hc; exact hc
        · have := hr a _ v _ (show a < (lo + hi) / 2 by omega) e eg
          omega
      · simp only [hc, if_false]
        refine below_go hr fuel _ _ (by omega) (by omega) (by omega) h1 (fun a v ha e => ?_)
        rw [ed] at hc
        by_cases ha' : a = (lo + hi) / 2
        · subst ha'
          rw [eg] at e; cases e
          omega
        · have := hr _ a _ v (show (lo + hi) / 2 < a by omega) eg e
          omega
    · rw [if_neg hlt]
      have e : lo = hi := by omega
      subst e
      exact ⟨hs, h1, h2⟩
theorem below_spec {xs : Array Nat} (hr : Rise xs) (j : Nat) : below xs j ≤ xs.size ∧ (∀ a v, a < below xs j → xs[a]? = some v → v < j) ∧ (∀ a v, below xs j ≤ a → xs[a]? = some v → j ≤ v) :=
  below_go hr xs.size 0 xs.size (by omega) (Nat.zero_le _) (Nat.le_refl _) (fun a v h => absurd h (Nat.not_lt_zero _)) fun a v h e => by
    rw [Array.getElem?_eq_none h] at e; cases e
theorem below_at {xs : Array Nat} (hr : Rise xs) {i j : Nat} (h : xs[i]? = some j) : below xs j = i := by
  obtain ⟨h0, h1, h2⟩ := below_spec hr j
  rcases Nat.lt_trichotomy (below xs j) i with c | c | c
  · have hb : below xs j < xs.size := by
      have : i < xs.size := by
        rcases Nat.lt_or_ge i xs.size with z | z
        · exact z
        · rw [Array.getElem?_eq_none z] at h; cases h
      omega
    have e := Array.getElem?_eq_getElem hb
    have l1 := h2 _ _ (Nat.le_refl _) e
    have l2 := hr _ _ _ _ c e h
    omega
  · exact c
  · have := h1 _ _ c h
    omega
theorem insertAt_get {α : Type} (xs : Array α) {p : Nat} (hp : p ≤ xs.size) (x : α) (i : Nat) : (insertAt xs p x)[i]? = if i < p then xs[i]? else if i = p then some x else xs[i - 1]? := by
  have hl : (insertAt xs p x).toList = xs.toList.take p ++ x :: xs.toList.drop p := by
    simp [insertAt, List.extract_eq_take_drop, List.take_of_length_le]
  rw [← Array.getElem?_toList, hl]
  have lp : (xs.toList.take p).length = p := by simp; omega
  by_cases h1 : i < p
  · rw [if_pos h1, List.getElem?_append_left (by omega), List.getElem?_take_of_lt h1, Array.getElem?_toList]
  · rw [if_neg h1, List.getElem?_append_right (by omega), lp]
    by_cases h2 : i = p
    · subst h2; simp
    · rw [if_neg h2]
      obtain ⟨k, rfl⟩ : ∃ k, i = p + k + 1 := ⟨i - p - 1, by omega⟩
      have e1 : p + k + 1 - p = k + 1 := by omega
      rw [e1, List.getElem?_cons_succ, List.getElem?_drop, Array.getElem?_toList]
      rfl
theorem insertAt_size {α : Type} (xs : Array α) {p : Nat} (hp : p ≤ xs.size) (x : α) : (insertAt xs p x).size = xs.size + 1 := by
  simp [insertAt]; omega
theorem insert_rise {xs : Array Nat} (hr : Rise xs) {j : Nat} (hj : ∀ a : Nat, xs[a]? ≠ some j) : Rise (insertAt xs (below xs j) j) := by
  obtain ⟨h0, h1, h2⟩ := below_spec hr j
  have h3 : ∀ a v, below xs j ≤ a → xs[a]? = some v → j < v := fun a v ha e => by
    have := h2 a v ha e
    have : v ≠ j := fun z => hj a (by rw [e, z])
    omega
  intro a b u v hab ea eb
  rw [insertAt_get _ h0] at ea eb
  by_cases ca : a < below xs j
  · rw [if_pos ca] at ea
    by_cases cb : b < below xs j
    · rw [if_pos cb] at eb
      exact hr _ _ _ _ hab ea eb
    · rw [if_neg cb] at eb
      have l1 := h1 _ _ ca ea
      by_cases cb' : b = below xs j
      · rw [if_pos cb'] at eb; cases eb; exact l1
      · rw [if_neg cb'] at eb
        have := h3 _ _ (by omega) eb
        omega
  · rw [if_neg ca] at ea
    have cb : ¬ b < below xs j := by omega
    rw [if_neg cb] at eb
    have cb' : ¬ b = below xs j := by omega
    rw [if_neg cb'] at eb
    by_cases ca' : a = below xs j
    · rw [if_pos ca'] at ea; cases ea
      exact h3 _ _ (by omega) eb
    · rw [if_neg ca'] at ea
      exact hr (a - 1) (b - 1) _ _ (by omega) ea eb

/-! ### the slots -/
structure Tb (t : SetTable) : Prop where
  rise : Rise t.place
  nod : t.dummies = #[]
  low : ∀ i j : Nat, t.place[i]? = some j → j ≤ t.mask
theorem slot_live {t : SetTable} (T : Tb t) {i j : Nat} : t.slot j = .live i ↔ t.place[i]? = some j := by
  unfold slot
  constructor
  · intro h
    by_cases c : t.place[below t.place j]? == some j
    · simp only [c, if_true] at h
      cases h
      exact eq_of_beq c
    · simp only [c] at h
      rw [if_neg (by simp), T.nod] at h
      simp [has] at h
  · intro h
    have e := below_at T.rise h
    rw [e]
    simp [h]
theorem slot_empty {t : SetTable} (T : Tb t) {j : Nat} : t.slot j = .empty ↔ ∀ i : Nat, t.place[i]? ≠ some j := by
  constructor
  · intro h i e
    rw [(slot_live T).mpr e] at h
    cases h
  · intro h
    unfold slot
    rw [if_neg (by simpa using h _), T.nod]
    simp [has]
theorem slot_two {t : SetTable} (T : Tb t) (j : Nat) : t.slot j = .empty ∨ ∃ i, t.slot j = .live i := by
  by_cases h : ∃ i : Nat, t.place[i]? = some j
  · obtain ⟨i, h⟩ := h
    exact .inr ⟨i, (slot_live T).mpr h⟩
  · exact .inl ((slot_empty T).mpr fun i e => h ⟨i, e⟩)
/-- few are in, so a slot is free -/
theorem some_free {t : SetTable} (T : Tb t) (h : t.place.size ≤ t.mask) : ∃ j, j ≤ t.mask ∧ t.slot j = .empty := by
  refine Classical.byContradiction fun hn => ?_
  have all : ∀ j, j ≤ t.mask → ∃ i : Nat, t.place[i]? = some j := fun j hj => by
    refine Classical.byContradiction fun hi => hn ⟨j, hj, (slot_empty T).mpr fun i e => hi ⟨i, e⟩⟩
  -- the i-th place is at least i, so mask + 1 places
  have mem : ∀ j, j ≤ t.mask → j ∈ t.place.toList := fun j hj => by
    obtain ⟨i, e⟩ := all j hj
    rw [← Array.getElem?_toList] at e
    exact List.mem_of_getElem? e
  have sub : List.Subset (List.range (t.mask + 1)) t.place.toList := fun j hj => mem j (by have := List.mem_range.mp hj; omega)
  have := (List.nodup_range (n := t.mask + 1)).length_le_of_subset sub
  simp at this
  omega

/-! ### the probe's stands -/
def adv (m : Nat) (q : Probe) : Probe := if q.more > 0 then ⟨q.j + 1, q.more - 1, q.i, q.perturb, q.dummy⟩ else ⟨(leap m q.i q.perturb).1, runEnd m (leap m q.i q.perturb).1 - (leap m q.i q.perturb).1, (leap m q.i q.perturb).1, (leap m q.i q.perturb).2, q.dummy⟩
def stand (m : Nat) (p : Probe) : Nat → Probe
  | 0 => p
  | n + 1 => adv m (stand m p n)
theorem stand_adv (t : SetTable) (p : Probe) (n : Nat) : t.advance (stand t.mask p n) = stand t.mask p (n + 1) := by
  show _ = adv _ _
  unfold advance adv
  split <;> rfl
def start (m : Nat) (h : Int) : Probe := { j := bits h % (m + 1), more := runEnd m (bits h % (m + 1)) - bits h % (m + 1), i := bits h % (m + 1), perturb := bits h, dummy := none }
theorem start_eq (t : SetTable) (h : Int) : t.probeStart h = start t.mask h := rfl
def at_ (m : Nat) (h : Int) (n : Nat) : Nat := (stand m (start m h) n).j
theorem stand_dummy (m : Nat) (p : Probe) (hp : p.dummy = none) : ∀ n, (stand m p n).dummy = none
  | 0 => hp
  | n + 1 => by
    have := stand_dummy m p hp n
    show (adv m _).dummy = none
    unfold adv
    split <;> exact this
/-- the runs -/
def runs (m : Nat) (h : Int) : Nat → Nat × Nat
  | 0 => (bits h % (m + 1), bits h)
  | k + 1 => leap m (runs m h k).1 (runs m h k).2
theorem runs_pert (m : Nat) (h : Int) : ∀ k, (runs m h k).2 = bits h / 32 ^ k
  | 0 => by simp [runs]
  | k + 1 => by
    show (runs m h k).2 / 32 = _
    rw [runs_pert m h k, Nat.div_div_eq_div_mul, Nat.pow_succ]
theorem runEnd_ge (m i : Nat) : i ≤ runEnd m i ∧ runEnd m i ≤ i + 9 := by unfold runEnd; split <;> omega
theorem within {m : Nat} {p : Probe} {n k : Nat} (h : k ≤ (stand m p n).more) : (stand m p (n + k)).j = (stand m p n).j + k ∧ (stand m p (n + k)).more = (stand m p n).more - k ∧ (stand m p (n + k)).i = (stand m p n).i ∧ (stand m p (n + k)).perturb = (stand m p n).perturb := by
  induction k with
  | zero => exact ⟨rfl, rfl, rfl, rfl⟩
  | succ k ih =>
    obtain ⟨a, b, c, d⟩ := ih (by omega)
    have e : stand m p (n + (k + 1)) = adv m (stand m p (n + k)) := rfl
    generalize stand m p (n + k) = q at *
    rw [e]
    unfold adv
    rw [if_pos (by omega)]
    exact ⟨by show q.j + 1 = _; omega, by show q.more - 1 = _; omega, c, d⟩
/-- at the head of each run -/
theorem heads (m : Nat) (h : Int) : ∀ k, ∃ n, n ≤ 10 * k ∧ k ≤ n ∧ (stand m (start m h) n).j = (runs m h k).1 ∧ (stand m (start m h) n).i = (runs m h k).1 ∧ (stand m (start m h) n).perturb = (runs m h k).2 ∧ (stand m (start m h) n).more = runEnd m (runs m h k).1 - (runs m h k).1
  | 0 => ⟨0, by omega, by omega, rfl, rfl, rfl, rfl⟩
  | k + 1 => by
    obtain ⟨n, hn, hk, e1, e2, e3, e4⟩ := heads m h k
    obtain ⟨g1, g2⟩ := runEnd_ge m (runs m h k).1
    obtain ⟨a, b, c, d⟩ := within (m := m) (p := start m h) (n := n) (k := (stand m (start m h) n).more) (Nat.le_refl _)
    refine ⟨n + (stand m (start m h) n).more + 1, by omega, by omega, ?_⟩
    rw [stand, adv, if_neg (by omega), c, d, e2, e3]
    exact ⟨rfl, rfl, rfl, rfl⟩
theorem bits_lt (h : Int) : bits h < 2 ^ 64 := by
  unfold bits
  have h1 := Int.emod_lt_of_pos h (b := 2 ^ 64) (by decide)
  have h0 := Int.emod_nonneg h (b := 2 ^ 64) (by decide)
  omega
theorem runs_lt (m : Nat) (h : Int) : ∀ k, (runs m h k).1 < m + 1
  | 0 => Nat.mod_lt _ (by omega)
  | k + 1 => Nat.mod_lt _ (by omega)
def lcg (m i : Nat) : Nat → Nat
  | 0 => i
  | k + 1 => (lcg m i k * 5 + 1) % (m + 1)
theorem runs_late (m : Nat) (h : Int) : ∀ k, (runs m h (13 + k)).1 = lcg m (runs m h 13).1 k
  | 0 => rfl
  | k + 1 => by
    show (leap m (runs m h (13 + k)).1 (runs m h (13 + k)).2).1 = _
    have hp : (runs m h (13 + k)).2 / 32 = 0 := by
      rw [runs_pert, Nat.div_div_eq_div_mul]
      apply Nat.div_eq_of_lt
      refine Nat.lt_of_lt_of_le (bits_lt h) ?_
      have e : 32 ^ (13 + k) * 32 = 32 ^ 13 * (32 ^ k * 32) := by rw [Nat.pow_add, Nat.mul_assoc]
      rw [e]
      have : 1 ≤ 32 ^ k := Nat.one_le_pow _ _ (by decide)
      calc 2 ^ 64 ≤ 32 ^ 13 * 1 := by decide
        _ ≤ 32 ^ 13 * (32 ^ k * 32) := Nat.mul_le_mul_left _ (by omega)
    unfold leap
    rw [hp, runs_late m h k]
    rfl
/-- the sizes that few things need -/
def Msk (m : Nat) : Prop := m = 7 ∨ m = 31
theorem lcg_all {m : Nat} (hm : Msk m) : ∀ i, i < m + 1 → ∀ j, j < m + 1 → ∃ k, k < m + 1 ∧ lcg m i k = j := by
  rcases hm with rfl | rfl
  · decide +kernel
  · decide +kernel
theorem runs_all {m : Nat} (hm : Msk m) (h : Int) {j : Nat} (hj : j ≤ m) : ∃ k, k ≤ m + 13 ∧ (runs m h k).1 = j := by
  obtain ⟨k, hk, e⟩ := lcg_all hm (runs m h 13).1 (runs_lt m h 13) j (by omega)
  exact ⟨13 + k, by omega, by rw [runs_late, e]⟩
theorem at_all {m : Nat} (hm : Msk m) (h : Int) {j : Nat} (hj : j ≤ m) : ∃ n, n < 10 * turns m ∧ at_ m h n = j := by
  obtain ⟨k, hk, e⟩ := runs_all hm h hj
  obtain ⟨n, hn, _, e1, _⟩ := heads m h k
  exact ⟨n, by unfold turns; omega, by unfold at_; rw [e1, e]⟩
/-- the first free slot on the way -/
theorem first_free {t : SetTable} (T : Tb t) (hm : Msk t.mask) (hs : t.place.size ≤ t.mask) (h : Int) : ∃ N, N < 10 * turns t.mask ∧ t.slot (at_ t.mask h N) = .empty ∧ ∀ k, k < N → ∃ i, t.slot (at_ t.mask h k) = .live i := by
  obtain ⟨j, hj, e⟩ := some_free T hs
  obtain ⟨n, hn, en⟩ := at_all hm h hj
  have : ∀ n, t.slot (at_ t.mask h n) = .empty → ∃ N, N ≤ n ∧ t.slot (at_ t.mask h N) = .empty ∧ ∀ k, k < N → ∃ i, t.slot (at_ t.mask h k) = .live i := by
    intro n
    induction n using Nat.strongRecOn with
    | ind n ih =>
      intro e
      by_cases hx : ∃ k, k < n ∧ t.slot (at_ t.mask h k) = .empty
      · obtain ⟨k, hk, ek⟩ := hx
        obtain ⟨N, a, b, c⟩ := ih k hk ek
        exact ⟨N, by omega, b, c⟩
      · refine ⟨n, Nat.le_refl _, e, fun k hk => ?_⟩
        rcases slot_two T (at_ t.mask h k) with z | z
        · exact absurd ⟨k, hk, z⟩ hx
        · exact z
  obtain ⟨N, a, b, c⟩ := this n (by rw [en]; exact e)
  exact ⟨N, by omega, b, c⟩
/-- one look: to the next of that hash, or to the free slot -/
theorem look {t : SetTable} {hashAt : Nat → Int} {h : Int} {N : Nat} (he : t.slot (at_ t.mask h N) = .empty) (hl : ∀ k, k < N → ∃ i, t.slot (at_ t.mask h k) = .live i) :
    ∀ (fuel n : Nat), n ≤ N → N - n < fuel →
      (∃ m i, n ≤ m ∧ m < N ∧ t.slot (at_ t.mask h m) = .live i ∧ hashAt i = h ∧ (∀ k, n ≤ k → k < m → ∀ i, t.slot (at_ t.mask h k) = .live i → hashAt i ≠ h) ∧
        probe.go t hashAt h fuel (stand t.mask (start t.mask h) n) = some (.candidate (at_ t.mask h m) i (stand t.mask (start t.mask h) (m + 1)))) ∨
      ((∀ k, n ≤ k → k < N → ∀ i, t.slot (at_ t.mask h k) = .live i → hashAt i ≠ h) ∧ probe.go t hashAt h fuel (stand t.mask (start t.mask h) n) = some (.empty (at_ t.mask h N) none))
  | 0, n, hn, hf => absurd hf (Nat.not_lt_zero _)
  | fuel + 1, n, hn, hf => by
    unfold probe.go
    by_cases e : n = N
    · subst e
      right
      refine ⟨fun k h1 h2 => absurd h1 (by omega), ?_⟩
      have he' : t.slot (stand t.mask (start t.mask h) n).j = .empty := he
      rw [he']
      dsimp only
      rw [stand_dummy _ _ rfl]
      rfl
    · obtain ⟨i, hi⟩ := hl n (by omega)
      have hi' : t.slot (stand t.mask (start t.mask h) n).j = .live i := hi
      rw [hi']
      dsimp only
      by_cases c : hashAt i = h
      · left
        refine ⟨n, i, Nat.le_refl _, by omega, hi, c, fun k h1 h2 => absurd h1 (by omega), ?_⟩
        rw [if_pos (by simpa using c), stand_adv]
        rfl
      · rw [if_neg (by simpa using c), stand_adv]
        rcases look he hl fuel (n + 1) (by omega) (by omega) with ⟨m, i', a1, a2, a3, a4, a5, a6⟩ | ⟨a1, a2⟩
        · left
          refine ⟨m, i', by omega, a2, a3, a4, fun k h1 h2 => ?_, a6⟩
          by_cases z : k = n
          · subst z
            intro i2 e2
            rw [hi] at e2; cases e2
            exact c
          · exact a5 k (by omega) h2
        · right
          refine ⟨fun k h1 h2 => ?_, a2⟩
          by_cases z : k = n
          · subst z
            intro i2 e2
            rw [hi] at e2; cases e2
            exact c
          · exact a1 k (by omega) h2
end Stb
namespace Stb
open PySem PySem.SetTable

/-- each thing is come to from its hash, by slots that are taken -/
structure Good (t : SetTable) (hs : Array Int) : Prop extends Tb t where
  msk : Msk t.mask
  siz : t.place.size = hs.size
  few : hs.size ≤ t.mask
  come : ∀ (i : Nat) (h : Int), hs[i]? = some h → ∃ n, t.slot (at_ t.mask h n) = .live i ∧ ∀ k, k < n → ∃ i', t.slot (at_ t.mask h k) = .live i'
theorem good_fresh (f m : Nat) (led : Bool) : Good (SetTable.fresh f m led) #[] where
  rise := fun a b u v _ e => by simp [SetTable.fresh] at e
  nod := rfl
  low := fun i j e => by simp [SetTable.fresh] at e
  msk := .inl rfl
  siz := rfl
  few := Nat.zero_le _
  come := fun i h e => by simp at e
theorem put_eq {t : SetTable} (T : Tb t) (j : Nat) : t.put j = ({ t with place := insertAt t.place (below t.place j) j }, below t.place j) := by
  unfold put
  have e : has t.dummies j = false := by rw [T.nod]; simp [has]
  rw [e]
  rfl
theorem good_put {t : SetTable} {hs : Array Int} (G : Good t hs) {h : Int} {N : Nat} (he : t.slot (at_ t.mask h N) = .empty) (hl : ∀ k, k < N → ∃ i, t.slot (at_ t.mask h k) = .live i) (hj : at_ t.mask h N ≤ t.mask) (hf : hs.size + 1 ≤ t.mask) :
    Good (t.put (at_ t.mask h N)).1 (insertAt hs (below t.place (at_ t.mask h N)) h) := by
  obtain ⟨b0, b1, b2⟩ := below_spec G.rise (at_ t.mask h N)
  have hno := (slot_empty G.toTb).mp he
  rw [put_eq G.toTb]
  generalize hp : below t.place (at_ t.mask h N) = p at *
  have hp2 : p ≤ hs.size := by rw [← G.siz]; exact b0
  have T' : Tb { t with place := insertAt t.place p (at_ t.mask h N) } := by
    refine ⟨by rw [← hp]; exact insert_rise G.rise hno, G.nod, fun i j e => ?_⟩
    have e : (insertAt t.place p (at_ t.mask h N))[i]? = some j := e
    rw [insertAt_get _ b0] at e
    by_cases c : i < p
    · rw [if_pos c] at e; exact G.low _ _ e
    · rw [if_neg c] at e
      by_cases c' : i = p
      · rw [if_pos c'] at e; cases e; exact hj
      · rw [if_neg c'] at e; exact G.low _ _ e
  have up : ∀ {i j : Nat}, t.slot j = .live i → SetTable.slot { t with place := insertAt t.place p (at_ t.mask h N) } j = .live (if i < p then i else i + 1) := fun {i j} e => by
    rw [slot_live T']
    rw [slot_live G.toTb] at e
    show (insertAt t.place p (at_ t.mask h N))[_]? = some j
    rw [insertAt_get _ b0]
    by_cases c : i < p
    · rw [if_pos c, if_pos c]; exact e
    · rw [if_neg c, if_neg (by omega), if_neg (by omega)]; exact e
  refine ⟨T', G.msk, ?_, ?_, fun i h' e => ?_⟩
  · show (insertAt t.place p (at_ t.mask h N)).size = _
    rw [insertAt_size _ b0, insertAt_size _ hp2, G.siz]
  · rw [insertAt_size _ hp2]; exact hf
  · rw [insertAt_get _ hp2] at e
    have old : ∀ i0, hs[i0]? = some h' → (if i0 < p then i0 else i0 + 1) = i → ∃ n, SetTable.slot { t with place := insertAt t.place p (at_ t.mask h N) } (at_ t.mask h' n) = .live i ∧ ∀ k, k < n → ∃ i', SetTable.slot { t with place := insertAt t.place p (at_ t.mask h N) } (at_ t.mask h' k) = .live i' := fun i0 e0 ei => by
      obtain ⟨n, a, b⟩ := G.come i0 h' e0
      exact ⟨n, by rw [up a, ei], fun k hk => by obtain ⟨i', z⟩ := b k hk; exact ⟨_, up z⟩⟩
    by_cases c : i < p
    · rw [if_pos c] at e
      exact old i e (by rw [if_pos c])
    · rw [if_neg c] at e
      by_cases c' : i = p
      · rw [if_pos c'] at e; cases e
        refine ⟨N, ?_, fun k hk => by obtain ⟨i', z⟩ := hl k hk; exact ⟨_, up z⟩⟩
        rw [slot_live T']
        show (insertAt t.place p (at_ t.mask h N))[i]? = some _
        rw [insertAt_get _ b0, if_neg c, if_pos c']
      · rw [if_neg c'] at e
        exact old (i - 1) e (by rw [if_neg (by omega)]; omega)

/-! ### laid anew -/
def Free (owner : Array (Option Nat)) (j : Nat) : Prop := (owner.getD j (some 0)).isNone = true
/-- what the walk over the runs finds -/
theorem free_spec {m : Nat} {h : Int} {owner : Array (Option Nat)} : ∀ (fuel k n0 : Nat), (stand m (start m h) n0).j = (runs m h k).1 → (stand m (start m h) n0).i = (runs m h k).1 → (stand m (start m h) n0).perturb = (runs m h k).2 →
    (stand m (start m h) n0).more = runEnd m (runs m h k).1 - (runs m h k).1 →
    (∀ j, layClean.free m owner fuel (runs m h k).1 (runs m h k).2 = some j → ∃ n, n0 ≤ n ∧ at_ m h n = j ∧ Free owner j ∧ ∀ n', n0 ≤ n' → n' < n → ¬ Free owner (at_ m h n')) ∧
    (layClean.free m owner fuel (runs m h k).1 (runs m h k).2 = none → ∀ k', k' < fuel → ¬ Free owner (runs m h (k + k')).1)
  | 0, k, n0, e1, e2, e3, e4 => by
    refine ⟨fun j e => ?_, fun _ k' hk => absurd hk (Nat.not_lt_zero _)⟩
    simp [layClean.free] at e
  | fuel + 1, k, n0, e1, e2, e3, e4 => by
    obtain ⟨g1, g2⟩ := runEnd_ge m (runs m h k).1
    have wi : ∀ d, d ≤ runEnd m (runs m h k).1 - (runs m h k).1 → at_ m h (n0 + d) = (runs m h k).1 + d := fun d hd => by
      obtain ⟨a, _⟩ := within (m := m) (p := start m h) (n := n0) (k := d) (by omega)
      unfold at_; rw [a, e1]
    unfold layClean.free
    cases hf : (List.range (runEnd m (runs m h k).1 + 1 - (runs m h k).1)).find? fun d => (owner.getD ((runs m h k).1 + d) (some 0)).isNone with
    | some d =>
      dsimp only
      rw [List.find?_range_eq_some] at hf
      obtain ⟨f1, f2, f3⟩ := hf
      have f2' := List.mem_range.mp f2
      refine ⟨fun j e => ?_, fun e => by cases e⟩
      cases e
      refine ⟨n0 + d, by omega, wi d (by omega), f1, fun n' h1 h2 z => ?_⟩
      have h3 := f3 (n' - n0) (by omega)
      have h4 := wi (n' - n0) (by omega)
      have e5 : n0 + (n' - n0) = n' := by omega
      rw [e5] at h4
      rw [h4] at z
      unfold Free at z
      rw [z] at h3
      simp at h3
    | none =>
      dsimp only
      rw [List.find?_eq_none] at hf
      have none_in : ∀ d, d ≤ runEnd m (runs m h k).1 - (runs m h k).1 → ¬ Free owner ((runs m h k).1 + d) := fun d hd => hf d (List.mem_range.mpr (by omega))
      obtain ⟨a, b, c, d⟩ := within (m := m) (p := start m h) (n := n0) (k := (stand m (start m h) n0).more) (Nat.le_refl _)
      have hd : ∀ z, stand m (start m h) (n0 + (stand m (start m h) n0).more + 1) = z → z.j = (runs m h (k + 1)).1 ∧ z.i = (runs m h (k + 1)).1 ∧ z.perturb = (runs m h (k + 1)).2 ∧ z.more = runEnd m (runs m h (k + 1)).1 - (runs m h (k + 1)).1 := fun z ez => by
        rw [← ez, stand, adv, if_neg (by omega), c, d, e2, e3]
        exact ⟨rfl, rfl, rfl, rfl⟩
      obtain ⟨d1, d2, d3, d4⟩ := hd _ rfl
      obtain ⟨r1, r2⟩ := free_spec (owner := owner) fuel (k + 1) (n0 + (stand m (start m h) n0).more + 1) d1 d2 d3 d4
      refine ⟨fun j e => ?_, fun e k' hk => ?_⟩
      · obtain ⟨n, q1, q2, q3, q4⟩ := r1 j e
        refine ⟨n, by omega, q2, q3, fun n' h1 h2 => ?_⟩
        by_cases z : n' ≤ n0 + (stand m (start m h) n0).more
        · have h4 := wi (n' - n0) (by omega)
          have e5 : n0 + (n' - n0) = n' := by omega
          rw [e5] at h4
          rw [h4]
          exact none_in _ (by omega)
        · exact q4 n' (by omega) h2
      · cases k' with
        | zero => exact none_in 0 (Nat.zero_le _)
        | succ k' =>
          have := r2 e k' (by omega)
          have e5 : k + 1 + k' = k + (k' + 1) := by omega
          rw [e5] at this; exact this

structure Own (m : Nat) (hs : Array Int) (k : Nat) (owner : Array (Option Nat)) : Prop where
  siz : owner.size = m + 1
  come : ∀ (i : Nat) (h : Int), i < k → hs[i]? = some h → ∃ n, owner[at_ m h n]? = some (some i) ∧ ∀ n', n' < n → ∃ i', owner[at_ m h n']? = some (some i')
  lt : ∀ (j i : Nat), owner[j]? = some (some i) → i < k
  inj : ∀ (j j' i : Nat), owner[j]? = some (some i) → owner[j']? = some (some i) → j = j'
theorem free_iff {owner : Array (Option Nat)} {j : Nat} : Free owner j ↔ owner[j]? = some none := by
  unfold Free
  by_cases h : j < owner.size
  · rw [Array.getElem?_eq_getElem h]
    simp [h]
  · rw [Array.getElem?_eq_none (by omega)]
    simp [h]
theorem not_free {m : Nat} {hs : Array Int} {k : Nat} {owner : Array (Option Nat)} (O : Own m hs k owner) {j : Nat} (hj : j ≤ m) (h : ¬ Free owner j) : ∃ i, owner[j]? = some (some i) := by
  have hlt : j < owner.size := by rw [O.siz]; omega
  rw [free_iff, Array.getElem?_eq_getElem hlt] at h
  rw [Array.getElem?_eq_getElem hlt]
  cases e : owner[j] with
  | none => rw [e] at h; exact absurd rfl h
  | some i => exact ⟨i, rfl⟩
open Classical in
theorem own_free {m : Nat} {hs : Array Int} {k : Nat} {owner : Array (Option Nat)} (O : Own m hs k owner) (hk : k ≤ m) : ∃ j, j ≤ m ∧ Free owner j := by
  refine Classical.byContradiction fun hn => ?_
  have all : ∀ j, j ≤ m → ∃ i, owner[j]? = some (some i) := fun j hj => not_free O hj fun z => hn ⟨j, hj, z⟩
  let s : Nat → Nat := fun i => if h : ∃ j : Nat, owner[j]? = some (some i) then h.choose else 0
  have sub : List.Subset (List.range (m + 1)) ((List.range k).map s) := fun j hj => by
    obtain ⟨i, e⟩ := all j (by have := List.mem_range.mp hj; omega)
    refine List.mem_map.mpr ⟨i, List.mem_range.mpr (O.lt j i e), ?_⟩
    have hx : ∃ j : Nat, owner[j]? = some (some i) := ⟨j, e⟩
    show (if h : ∃ j : Nat, owner[j]? = some (some i) then h.choose else 0) = j
    rw [dif_pos hx]
    exact O.inj _ _ i hx.choose_spec e
  have := (List.nodup_range (n := m + 1)).length_le_of_subset sub
  simp at this
  omega
theorem at_low {m : Nat} (h : Int) : ∀ n, (stand m (start m h) n).j + (stand m (start m h) n).more ≤ m
  | 0 => by
    have h1 : bits h % (m + 1) < m + 1 := Nat.mod_lt _ (by omega)
    show bits h % (m + 1) + (runEnd m (bits h % (m + 1)) - bits h % (m + 1)) ≤ m
    unfold runEnd; split <;> omega
  | n + 1 => by
    have ih := at_low (m := m) h n
    rw [stand]
    generalize stand m (start m h) n = q at *
    unfold adv
    split
    · show q.j + 1 + (q.more - 1) ≤ m
      omega
    · have h1 : (leap m q.i q.perturb).1 < m + 1 := Nat.mod_lt _ (by omega)
      show (leap m q.i q.perturb).1 + (runEnd m (leap m q.i q.perturb).1 - (leap m q.i q.perturb).1) ≤ m
      unfold runEnd; split <;> omega
theorem at_le (m : Nat) (h : Int) (n : Nat) : at_ m h n ≤ m := by have := at_low (m := m) h n; unfold at_; omega
/-- one more is laid -/
theorem own_step {m : Nat} {hs : Array Int} {k : Nat} {owner : Array (Option Nat)} (hm : Msk m) (O : Own m hs k owner) (hk : k ≤ m) {h : Int} (hh : hs[k]? = some h) :
    ∃ j, layClean.free m owner (turns m) (bits h % (m + 1)) (bits h) = some j ∧ Own m hs (k + 1) (owner.setIfInBounds j (some k)) := by
  obtain ⟨r1, r2⟩ := free_spec (m := m) (h := h) (owner := owner) (turns m) 0 0 rfl rfl rfl rfl
  cases e : layClean.free m owner (turns m) (runs m h 0).1 (runs m h 0).2 with
  | none =>
    exfalso
    obtain ⟨j, hj, fj⟩ := own_free O hk
    obtain ⟨k', hk', ek⟩ := runs_all hm h hj
    refine r2 e k' (by unfold turns; omega) ?_
    rw [Nat.zero_add, ek]; exact fj
  | some j =>
    refine ⟨j, e, ?_⟩
    obtain ⟨n, _, en, fj, before⟩ := r1 j e
    have ej := free_iff.mp fj
    have jlt : j < owner.size := by
      rcases Nat.lt_or_ge j owner.size with z | z
      · exact z
      · rw [Array.getElem?_eq_none z] at ej; cases ej
    have get : ∀ j' : Nat, (owner.setIfInBounds j (some k))[j']? = if j' = j then some (some k) else owner[j']? := fun j' => by
      by_cases c : j' = j
      · subst c; rw [if_pos rfl]; simp [jlt]
      · rw [if_neg c]
        rw [Array.getElem?_setIfInBounds_ne (fun z => c z.symm)]
    have keep : ∀ {j' i : Nat}, owner[j']? = some (some i) → (owner.setIfInBounds j (some k))[j']? = some (some i) := fun {j' i} e' => by
      rw [get, if_neg (fun z => by rw [z, ej] at e'; cases e')]; exact e'
    refine ⟨by rw [Array.size_setIfInBounds]; exact O.siz, fun i h' hi hih => ?_, fun j' i e' => ?_, fun j1 j2 i e1 e2 => ?_⟩
    · by_cases c : i = k
      · subst c
        rw [hh] at hih; cases hih
        refine ⟨n, by rw [get, if_pos en], fun n' hn' => ?_⟩
        obtain ⟨i', z⟩ := not_free O (at_le m h n') (before n' (Nat.zero_le _) hn')
        exact ⟨i', keep z⟩
      · obtain ⟨n1, a, b⟩ := O.come i h' (by omega) hih
        exact ⟨n1, keep a, fun n' hn' => by obtain ⟨i', z⟩ := b n' hn'; exact ⟨i', keep z⟩⟩
    · rw [get] at e'
      by_cases c : j' = j
      · rw [if_pos c] at e'; cases e'; omega
      · rw [if_neg c] at e'
        have := O.lt j' i e'
        omega
    · rw [get] at e1 e2
      by_cases c1 : j1 = j
      · rw [if_pos c1] at e1; cases e1
        by_cases c2 : j2 = j
        · omega
        · rw [if_neg c2] at e2
          have := O.lt j2 k e2
          omega
      · rw [if_neg c1] at e1
        by_cases c2 : j2 = j
        · rw [if_pos c2] at e2; cases e2
          have := O.lt j1 k e1
          omega
        · rw [if_neg c2] at e2
          exact O.inj j1 j2 i e1 e2
theorem own_start (m : Nat) (hs : Array Int) : Own m hs 0 (Array.replicate (m + 1) none) where
  siz := by simp
  come := fun i h hi => absurd hi (Nat.not_lt_zero _)
  lt := fun j i e => by
    rw [Array.getElem?_replicate] at e
    split at e <;> cases e
  inj := fun j j' i e => by
    rw [Array.getElem?_replicate] at e
    split at e <;> cases e
theorem own_fold {m : Nat} {hs : Array Int} (hm : Msk m) (hk : hs.size ≤ m) : ∃ owner, layClean m hs = some owner ∧ Own m hs hs.size owner := by
  have go : ∀ (l : List Int) (k : Nat) (owner : Array (Option Nat)), k ≤ hs.size → hs.toList.drop k = l → Own m hs k owner → ∃ owner', l.foldl (fun acc h => do
      let (owner, k) ← acc
      let j ← layClean.free m owner (turns m) (bits h % (m + 1)) (bits h)
      pure (owner.setIfInBounds j (some k), k + 1)) (some (owner, k)) = some (owner', hs.size) ∧ Own m hs hs.size owner' := by
    intro l
    induction l with
    | nil =>
      intro k owner hle hl O
      have hkk : hs.size ≤ k := by
        have := List.drop_eq_nil_iff.mp hl
        simpa using this
      obtain rfl : k = hs.size := by omega
      exact ⟨owner, rfl, O⟩
    | cons h l ih =>
      intro k owner hle hl O
      have hk' : hs[k]? = some h := by
        have := congrArg (fun x => x[0]?) hl
        simp only [List.getElem?_drop, Nat.add_zero, List.getElem?_cons_zero] at this
        rw [Array.getElem?_toList] at this
        exact this
      have hlt : k < hs.size := by
        rcases Nat.lt_or_ge k hs.size with z | z
        · exact z
        · rw [Array.getElem?_eq_none z] at hk'; cases hk'
      obtain ⟨j, ej, O'⟩ := own_step hm O (by omega) hk'
      have hl' : hs.toList.drop (k + 1) = l := by
        rw [← List.drop_drop, hl]; rfl
      obtain ⟨owner', e, O2⟩ := ih (k + 1) _ hlt hl' O'
      refine ⟨owner', ?_, O2⟩
      rw [List.foldl_cons]
      simp only [Option.bind_eq_bind, Option.bind_some, ej, Option.pure_def]
      exact e
  obtain ⟨owner', e, O⟩ := go hs.toList 0 _ (Nat.zero_le _) rfl (own_start m hs)
  refine ⟨owner', ?_, O⟩
  unfold layClean
  rw [← Array.foldl_toList, e]
  rfl
/-- the places and their things, by rising places -/
theorem good_laid {t : SetTable} {hs : Array Int} {m : Nat} (hm : Msk m) (hk : hs.size ≤ m) (f mv : Nat) (led plain : Bool) :
    ∃ (t' : SetTable) (order : Array Nat), SetTable.laid m f mv led plain hs = some (t', order) ∧ t'.mask = m ∧ t'.plain = plain ∧ t'.led = led ∧ t'.moves = mv ∧ order.toList.Perm (List.range hs.size) ∧ Good t' (order.map fun i => hs.getD i 0) := by
  obtain ⟨owner, e, O⟩ := own_fold hm hk
  obtain ⟨live, hlive⟩ : ∃ live : List (Nat × Nat), live = (List.range (m + 1)).filterMap fun j => (owner.getD j none).map (j, ·) := ⟨_, rfl⟩
  have mem : ∀ j i : Nat, (j, i) ∈ live ↔ owner[j]? = some (some i) := fun j i => by
    rw [hlive, List.mem_filterMap]
    constructor
    · rintro ⟨j', hj', ej⟩
      have hlt : j' < owner.size := by rw [O.siz]; exact List.mem_range.mp hj'
      have eg : owner.getD j' none = owner[j'] := by simp [hlt]
      rw [eg] at ej
      cases ec : owner[j'] with
      | none => rw [ec] at ej; cases ej
      | some i' =>
        rw [ec] at ej
        simp only [Option.map_some, Option.some.injEq, Prod.mk.injEq] at ej
        obtain ⟨rfl, rfl⟩ := ej
        rw [Array.getElem?_eq_getElem hlt, ec]
    · intro ej
      have hlt : j < owner.size := by
        rcases Nat.lt_or_ge j owner.size with z | z
        · exact z
        · rw [Array.getElem?_eq_none z] at ej; cases ej
      refine ⟨j, List.mem_range.mpr (by rw [← O.siz]; exact hlt), ?_⟩
      rw [Array.getElem?_eq_getElem hlt] at ej
      have eg : owner.getD j none = owner[j] := by simp [hlt]
      rw [eg, Option.some.inj ej]; rfl
  have pw : live.Pairwise (fun x y => x.1 < y.1) := by
    rw [hlive]
    refine List.Pairwise.filterMap _ (fun a a' h b hb b' hb' => ?_) (List.pairwise_lt_range (n := m + 1))
    have e1 : b.1 = a := by
      cases hq : owner.getD a none with
      | none => rw [hq] at hb; cases hb
      | some z => rw [hq] at hb; cases hb; rfl
    have e2 : b'.1 = a' := by
      cases hq : owner.getD a' none with
      | none => rw [hq] at hb'; cases hb'
      | some z => rw [hq] at hb'; cases hb'; rfl
    rw [e1, e2]; exact h
  have pos : ∀ {r : Nat} {x : Nat × Nat}, live[r]? = some x → owner[x.1]? = some (some x.2) := fun {r x} ex => (mem x.1 x.2).mp (List.mem_of_getElem? ex)
  have nd : (live.map (·.2)).Nodup := by
    rw [List.Nodup, List.pairwise_map]
    refine List.Pairwise.imp_of_mem (fun {a b} ha hb hab z => ?_) pw
    have h1 := (mem a.1 a.2).mp ha
    have h2 := (mem b.1 b.2).mp hb
    rw [← z] at h2
    have := O.inj _ _ _ h1 h2
    omega
  have perm : (live.map (·.2)).Perm (List.range hs.size) := by
    rw [List.perm_ext_iff_of_nodup nd List.nodup_range]
    intro i
    rw [List.mem_map, List.mem_range]
    constructor
    · rintro ⟨x, hx, rfl⟩
      exact O.lt _ _ ((mem x.1 x.2).mp hx)
    · intro hi
      obtain ⟨n, a, _⟩ := O.come i hs[i] hi (Array.getElem?_eq_getElem hi)
      exact ⟨(_, i), (mem _ _).mpr a, rfl⟩
  have hlen : live.length = hs.size := by
    have := perm.length_eq
    simpa using this
  refine ⟨{ mask := m, place := (live.map (·.1)).toArray, dummies := #[], finger := f, led := led, moves := mv, plain := plain }, (live.map (·.2)).toArray, ?_, rfl, rfl, rfl, rfl, by simpa using perm, ?_⟩
  · unfold SetTable.laid
    rw [e]
    simp only [Option.bind_eq_bind, Option.bind_some, Option.pure_def, ← hlive]
  have plc : ∀ (r j : Nat), ((live.map (·.1)).toArray)[r]? = some j → ∃ i, live[r]? = some (j, i) := fun r j ej => by
    rw [List.getElem?_toArray, List.getElem?_map] at ej
    cases ec : live[r]? with
    | none => rw [ec] at ej; cases ej
    | some x =>
      rw [ec] at ej
      obtain ⟨j', i'⟩ := x
      cases ej
      exact ⟨i', rfl⟩
  have T : Tb { mask := m, place := (live.map (·.1)).toArray, dummies := #[], finger := f, led := led, moves := mv, plain := plain } := by
    refine ⟨fun a b u v hab ea eb => ?_, rfl, fun i j ej => ?_⟩
    · obtain ⟨i1, h1⟩ := plc a u ea
      obtain ⟨i2, h2⟩ := plc b v eb
      obtain ⟨la, ga⟩ := List.getElem?_eq_some_iff.mp h1
      obtain ⟨lb, gb⟩ := List.getElem?_eq_some_iff.mp h2
      have := List.pairwise_iff_getElem.mp pw a b la lb hab
      rw [ga, gb] at this
      exact this
    · obtain ⟨i1, h1⟩ := plc i j ej
      have h2 := pos h1
      have hlt : j < owner.size := by
        rcases Nat.lt_or_ge j owner.size with z | z
        · exact z
        · rw [Array.getElem?_eq_none z] at h2; cases h2
      rw [O.siz] at hlt
      show j ≤ m
      omega
  have lv : ∀ {j i : Nat}, owner[j]? = some (some i) → ∃ r, live[r]? = some (j, i) ∧ SetTable.slot { mask := m, place := (live.map (·.1)).toArray, dummies := #[], finger := f, led := led, moves := mv, plain := plain } j = .live r := fun {j i} ej => by
    obtain ⟨r, hr⟩ := List.mem_iff_getElem?.mp ((mem j i).mpr ej)
    refine ⟨r, hr, (slot_live T).mpr ?_⟩
    show ((live.map (·.1)).toArray)[r]? = some j
    rw [List.getElem?_toArray, List.getElem?_map, hr]; rfl
  refine ⟨T, hm, by simp, ?_, fun r h er => ?_⟩
  · show _ ≤ m
    simp [hlen, hk]
  · have er' : (live.map (·.2))[r]?.map (fun i => hs.getD i 0) = some h := by
      simpa using er
    rw [List.getElem?_map] at er'
    cases ec : live[r]? with
    | none => rw [ec] at er'; cases er'
    | some x =>
      rw [ec] at er'
      obtain ⟨j0, i⟩ := x
      have hh : hs.getD i 0 = h := by simpa using er'
      have hi : i < hs.size := O.lt _ _ (pos ec)
      have ei : hs[i]? = some h := by
        rw [Array.getElem?_eq_getElem hi]
        have : hs.getD i 0 = hs[i] := by simp [hi]
        rw [← this, hh]
      obtain ⟨n, a, b⟩ := O.come i h hi ei
      obtain ⟨r', hr', hs'⟩ := lv a
      have e0 : at_ m h n = j0 := O.inj _ _ i a (pos ec)
      have err : r' = r := by
        -- the same pair stands once
        obtain ⟨l1, g1⟩ := List.getElem?_eq_some_iff.mp hr'
        obtain ⟨l2, g2⟩ := List.getElem?_eq_some_iff.mp ec
        rcases Nat.lt_trichotomy r' r with z | z | z
        · have := List.pairwise_iff_getElem.mp pw r' r l1 l2 z
          rw [g1, g2, e0] at this
          exact absurd this (Nat.lt_irrefl _)
        · exact z
        · have := List.pairwise_iff_getElem.mp pw r r' l2 l1 z
          rw [g1, g2, e0] at this
          exact absurd this (Nat.lt_irrefl _)
      refine ⟨n, by rw [← err]; exact hs', fun k hk' => ?_⟩
      obtain ⟨i', z⟩ := b k hk'
      obtain ⟨r2, _, h2⟩ := lv z
      exact ⟨r2, h2⟩
end Stb
namespace Stb
open PySem PySem.SetTable
section
variable {prog : Program} {w : World} {A : Around} {E : Value → Shared → Prop} {s : Shared}

abbrev TK (prog : Program) (w : World) (h : Heap) (k : List Int) (b : Addr) : Prop := IsTupleKey (intKind prog w) h k b
abbrev TH (prog : Program) (w : World) (k : List Int) : Int := tupleKeyHash (intKind prog w) k

theorem items_int : ∀ {k : List Int} {vs : List Value}, ItemsAre (intKind prog w) k vs → ∀ v ∈ vs, ∃ n t, v = .int n t
  | _, _, .nil, v, hv => by simp at hv
  | _, _, .cons (k := n) (v := u) h1 h2, v, hv => by
    rcases List.mem_cons.mp hv with rfl | z
    · cases v <;> first | exact ⟨_, _, rfl⟩ | (simp [intKind, Value.isInt] at h1)
    · exact items_int h2 v z

/-- nothing of a class statement in it -/
theorem plain_tuple {k : List Int} {b : Addr} {Q : Bool → Shared → Prop} (hk : TK prog w s.heap k b) (h : Q false s) : wpAny (model prog w) A (ofAClassStatement 8 (.ref b)) Q E s := by
  have hT := hk.typeIs
  obtain ⟨o, items, n, ho, _, hd, hi⟩ := hk
  have hv := items_int hi
  unfold ofAClassStatement
  refine wpAny_bind (wpAny_typeOf hT ?_)
  dsimp only
  have e1 : ("tuple" == "tuple") = true := by decide
  simp only [e1, if_true]
  refine wpAny_bind (wpAny_pure ?_)
  simp only [Bool.not_true, Bool.false_eq_true, if_false]
  refine wpAny_bind (wpAny_seqItems ho hd ?_)
  dsimp only
  refine wpAny_bind ?_
  rw [← Array.forIn_toList]
  refine wpAny_forIn_list _ (fun rest r s' => r.1 = none ∧ s' = s ∧ ∀ v ∈ rest, ∃ n t, v = Value.int n t) _ ?_ ?_ _ _ ⟨rfl, rfl, hv⟩
  · rintro v rest r s' ⟨hr, rfl, hall⟩
    obtain ⟨n, t, rfl⟩ := hall v List.mem_cons_self
    have e : ofAClassStatement 7 (.int n t) = pure false := by unfold ofAClassStatement; rfl
    rw [e]
    refine wpAny_bind (wpAny_pure ?_)
    simp only [Bool.false_eq_true, if_false]
    exact wpAny_pure ⟨rfl, rfl, fun u hu => hall u (List.mem_cons_of_mem _ hu)⟩
  · rintro ⟨r1, r2⟩ s' ⟨hr, rfl, _⟩
    simp only at hr
    subst hr
    exact wpAny_pure h
theorem unseen {k : List Int} {b : Addr} {stored : List Value} {Q : Bool → Shared → Prop} (hk : TK prog w s.heap k b) (hs : ∀ y ∈ stored, ∃ k' b', y = .ref b' ∧ TK prog w s.heap k' b') (h : Q false s) : wpAny (model prog w) A (searchCouldBeSeen (.ref b) stored) Q E s := by
  unfold searchCouldBeSeen
  refine wpAny_bind ?_
  refine wpAny_forIn_list _ (fun rest r s' => r.1 = none ∧ s' = s ∧ ∀ y ∈ rest, ∃ k' b', y = Value.ref b' ∧ TK prog w s.heap k' b') _ ?_ ?_ _ _ ⟨rfl, rfl, hs⟩
  · rintro v rest r s' ⟨hr, rfl, hall⟩
    obtain ⟨k', b', rfl, hk'⟩ := hall v List.mem_cons_self
    have next : ∀ y ∈ rest, ∃ k' b', y = Value.ref b' ∧ TK prog w s'.heap k' b' := fun u hu => hall u (List.mem_cons_of_mem _ hu)
    dsimp only
    by_cases c : ((b == b') || (carriedByValue (.ref b) && carriedByValue (.ref b'))) = true
    · simp only [c, if_true]
      exact wpAny_pure ⟨rfl, rfl, next⟩
    · simp only [c]
      refine wpAny_bind (wpAny_eqIsQuiet_tuple hk ?_)
      simp only [Bool.not_true, Bool.false_eq_true, if_false]
      refine wpAny_bind (wpAny_eqIsQuiet_tuple hk' ?_)
      simp only [Bool.not_true, Bool.false_eq_true, if_false]
      refine wpAny_bind (plain_tuple hk ?_)
      simp only [Bool.false_eq_true, if_false]
      refine wpAny_bind (plain_tuple hk' ?_)
      simp only [Bool.false_eq_true, if_false]
      exact wpAny_pure ⟨rfl, rfl, next⟩
  · rintro ⟨r1, r2⟩ s' ⟨hr, rfl, _⟩
    simp only at hr
    subst hr
    exact wpAny_pure h
/-- a tuple of ints has its hash by its value -/
theorem byValue {k : List Int} {b : Addr} {Q : Bool → Shared → Prop} (hk : TK prog w s.heap k b) (h : Q true s) : wpAny (model prog w) A (hashByValue 8 (.ref b)) Q E s := by
  have hT := hk.typeIs
  obtain ⟨o, items, n, ho, _, hd, hi⟩ := hk
  have hv := items_int hi
  unfold hashByValue
  refine wpAny_bind (wpAny_specialOf hT F.slot_tuple_hash.lookup ?_)
  dsimp only
  refine wpAny_bind (wpAny_seqItems ho hd ?_)
  dsimp only [Option.getD_some]
  refine wpAny_bind ?_
  rw [← Array.forIn_toList]
  refine wpAny_forIn_list _ (fun rest r s' => r.1 = none ∧ s' = s ∧ ∀ v ∈ rest, ∃ n t, v = Value.int n t) _ ?_ ?_ _ _ ⟨rfl, rfl, hv⟩
  · rintro v rest r s' ⟨hr, rfl, hall⟩
    obtain ⟨n, t, rfl⟩ := hall v List.mem_cons_self
    have e : hashByValue 7 (.int n t) = pure true := by unfold hashByValue; rfl
    rw [e]
    refine wpAny_bind (wpAny_pure ?_)
    simp only [Bool.not_true, Bool.false_eq_true, if_false]
    exact wpAny_pure ⟨rfl, rfl, fun u hu => hall u (List.mem_cons_of_mem _ hu)⟩
  · rintro ⟨r1, r2⟩ s' ⟨hr, rfl, _⟩
    simp only at hr
    subst hr
    exact wpAny_pure h

/-- the things in the set are tuples of ints, with their hashes -/
def Ents (prog : Program) (w : World) (h : Heap) (es : Array (Int × Value)) : Prop := ∀ (i : Nat) e, es[i]? = some e → ∃ k b, e.2 = .ref b ∧ TK prog w h k b ∧ e.1 = TH prog w k
def In (prog : Program) (w : World) (h : Heap) (es : Array (Int × Value)) (k : List Int) : Prop := ∃ (i : Nat) (e : Int × Value) (b : Addr), es[i]? = some e ∧ e.2 = .ref b ∧ TK prog w h k b
theorem hash_at {es : Array (Int × Value)} {i : Nat} {h : Int} : (es.map (·.1))[i]? = some h ↔ ∃ v, es[i]? = some (h, v) := by
  rw [Array.getElem?_map]
  cases es[i]? with
  | none => simp
  | some e => obtain ⟨a, b⟩ := e; simp

theorem search {a b : Addr} {o : Obj} {es : Array (Int × Value)} {ep : Nat} {t : SetTable} {k : List Int} {Q : SetFound → Shared → Prop} (hu : A.units < cLine) (ho : s.heap.get? a = some o) (hd : o.data = .set es ep t)
    (G : Good t (es.map (·.1))) (en : Ents prog w s.heap es) (hk : TK prog w s.heap k b) {N : Nat} (hN : N < 10 * turns t.mask) (he : t.slot (at_ t.mask (TH prog w k) N) = .empty) (hl : ∀ m, m < N → ∃ i, t.slot (at_ t.mask (TH prog w k) m) = .live i)
    (q1 : In prog w s.heap es k → Q (.there none) s) (q2 : ¬ In prog w s.heap es k → Q (.free (at_ t.mask (TH prog w k) N) false) s) :
    ∀ (fuel n : Nat) (st : Option Probe), st.getD (t.probeStart (TH prog w k)) = stand t.mask (start t.mask (TH prog w k)) n → n ≤ N → N - n < fuel →
      (∀ m, m < n → ∀ i e b', t.slot (at_ t.mask (TH prog w k) m) = .live i → es[i]? = some e → e.2 = .ref b' → ¬ TK prog w s.heap k b') →
      wpAny (model prog w) A (setSearchFrom a (.ref b) (TH prog w k) true fuel st) Q E s
  | 0, n, st, _, _, hf, _ => absurd hf (Nat.not_lt_zero _)
  | fuel + 1, n, st, hst, hn, hf, hb => by
    have fits : t.fits es.size = true := by
      have h1 := G.siz
      have h2 := G.few
      simp only [Array.size_map] at h1 h2
      simp only [SetTable.fits, SetTable.fill, G.nod, Bool.and_eq_true, beq_iff_eq, decide_eq_true_eq]
      refine ⟨h1, ?_⟩
      simp; omega
    have nogw : t.gaveWay = false := by
      unfold SetTable.gaveWay
      rcases G.msk with e | e <;> rw [e] <;> rfl
    unfold setSearchFrom
    refine wpAny_bind (wpAny_setState_of ho hd fits ?_)
    dsimp only
    rw [nogw]
    simp only [Bool.false_eq_true, if_false]
    rw [hst]
    unfold SetTable.probe
    rcases look (t := t) (hashAt := fun i => (es[i]?.map (·.1)).getD 0) he hl (10 * turns t.mask) n hn (by omega) with ⟨m, i, a1, a2, a3, a4, a5, a6⟩ | ⟨a1, a2⟩
    · obtain ⟨e, ee⟩ : ∃ e, es[i]? = some e := by
        have h1 := (slot_live G.toTb).mp a3
        have h2 : i < es.size := by
          have h3 := G.siz
          simp only [Array.size_map] at h3
          rw [← h3]
          exact (Array.getElem?_eq_some_iff.mp h1).1
        exact ⟨_, Array.getElem?_eq_getElem h2⟩
      obtain ⟨k', b', e2, hk', e1⟩ := en i e ee
      obtain ⟨eh, ev⟩ := e
      simp only at e1 e2
      subst e2
      erw [a6]
      dsimp only
      have later : wpAny (model prog w) A (setSearchFrom a (.ref b) (TH prog w k) true fuel (some (stand t.mask (start t.mask (TH prog w k)) (m + 1)))) Q E s ∨ k' = k := by
        by_cases c : k' = k
        · exact .inr c
        · refine .inl (search hu ho hd G en hk hN he hl q1 q2 fuel (m + 1) _ rfl (by omega) (by omega) fun m' hm' i' e' b2 z1 z2 z3 z4 => ?_)
          by_cases c1 : m' < n
          · exact hb m' c1 i' e' b2 z1 z2 z3 z4
          · obtain ⟨k5, b5, e5, hk5, e6⟩ := en i' e' z2
            rw [z3] at e5; cases e5
            have ek := hk5.inj z4
            subst ek
            by_cases c2 : m' = m
            · subst c2
              rw [a3] at z1; cases z1
              rw [ee] at z2; cases z2
              cases z3
              exact c (hk'.inj z4)
            · refine a5 m' (by omega) (by omega) i' z1 ?_
              simp only [z2, Option.map_some, Option.getD_some]
              exact e6
      have body : wpAny (model prog w) A (holding [Value.ref b'] (eqBool (.ref b') (.ref b))) (fun (q : Bool) s' => s' = s ∧ q = decide (k' = k)) E s := wpAny_holding (wpAny_eqBool_tuple hu hk' hk ⟨rfl, rfl⟩)
      have same : t.sameMemory t.moves t.mask = some true := by unfold SetTable.sameMemory; simp
      have stored : ∀ y ∈ ((es.filter fun x => x.1 == TH prog w k).toList.map fun x => x.2), ∃ k' b', y = Value.ref b' ∧ TK prog w s.heap k' b' := fun y hy => by
        obtain ⟨x, hx, rfl⟩ := List.mem_map.mp hy
        have hx' : x ∈ es := by
          have := Array.mem_toList_iff.mp hx
          exact (Array.mem_filter.mp this).1
        obtain ⟨i2, h2, e2⟩ := Array.mem_iff_getElem.mp hx'
        obtain ⟨k2, b2, q1, q2, _⟩ := en i2 x (by rw [Array.getElem?_eq_getElem h2, e2])
        exact ⟨k2, b2, q1, q2⟩
      rw [ee]
      dsimp only
      cases hled : t.led with
      | true =>
        simp only [Bool.not_true, Bool.false_eq_true, if_false]
        refine wpAny_bind (wpAny_mono body (fun q s' ⟨es', eq⟩ => ?_) fun _ _ z => z)
        subst es' eq
        refine wpAny_bind (wpAny_setState_of ho hd fits ?_)
        dsimp only
        by_cases c : k' = k
        · subst c
          simp only [decide_true, Bool.and_self, if_true]
          exact wpAny_pure (q1 ⟨i, _, b', ee, rfl, hk'⟩)
        · rw [decide_eq_false c]
          simp only [Bool.and_false, Bool.false_eq_true, if_false, same, if_true, a3, ee]
          refine wpAny_bind (wpAny_isSame_ref_self ?_)
          refine wpAny_bind (wpAny_pure ?_)
          simp only [if_true]
          exact later.resolve_right c
      | false =>
        simp only [Bool.not_false, if_true]
        refine wpAny_bind (unseen hk stored ?_)
        simp only [Bool.false_eq_true, if_false]
        refine wpAny_bind (wpAny_mono body (fun q s' ⟨es', eq⟩ => ?_) fun _ _ z => z)
        subst es' eq
        refine wpAny_bind (wpAny_setState_of ho hd fits ?_)
        dsimp only
        by_cases c : k' = k
        · subst c
          simp only [decide_true, Bool.and_self, if_true]
          exact wpAny_pure (q1 ⟨i, _, b', ee, rfl, hk'⟩)
        · rw [decide_eq_false c]
          simp only [Bool.and_false, Bool.false_eq_true, if_false, same, if_true, a3, ee]
          refine wpAny_bind (wpAny_isSame_ref_self ?_)
          refine wpAny_bind (wpAny_pure ?_)
          simp only [if_true]
          exact later.resolve_right c
    · have fin : ¬ In prog w s.heap es k := by
        rintro ⟨i, e, b', ei, eb, hk2⟩
        obtain ⟨k3, b3, e3, hk3, e4⟩ := en i e ei
        rw [eb] at e3; cases e3
        have ek : k3 = k := hk3.inj hk2
        subst ek
        obtain ⟨n', z1, z2⟩ := G.come i (TH prog w k3) (hash_at.mpr ⟨e.2, by rw [← e4]; exact ei⟩)
        have hn' : n' < N := by
          rcases Nat.lt_trichotomy n' N with c | c | c
          · exact c
          · rw [c, he] at z1; cases z1
          · obtain ⟨i', z⟩ := z2 N c
            rw [he] at z; cases z
        by_cases c : n' < n
        · exact hb n' c i e b' z1 ei eb hk2
        · refine a1 n' (by omega) hn' i z1 ?_
          simp only [ei, Option.map_some, Option.getD_some]
          exact e4
      erw [a2]
      dsimp only
      exact wpAny_pure (q2 fin)
end
end Stb
namespace Stb
open PySem PySem.SetTable
section
variable {prog : Program} {w : World} {A : Around} {E : Value → Shared → Prop} {s : Shared}

/-- a set of tuples of ints: just those of ks, each once -/
def SetT (prog : Program) (w : World) (h : Heap) (a : Addr) (ks : List (List Int)) : Prop :=
  ∃ o es ep t, h.get? a = some o ∧ o.ExactSet ∧ o.data = .set es ep t ∧ Good t (es.map (·.1)) ∧ Ents prog w h es ∧ (∀ k, In prog w h es k ↔ k ∈ ks) ∧ es.size = ks.length ∧ (t.mask = 7 → es.size ≤ 4)
theorem TK.stay {h h' : Heap} {k : List Int} {a b : Addr} {o : Obj} {es : Array (Int × Value)} {ep : Nat} {t : SetTable} (x : TK prog w h k b) (ho : h.get? a = some o) (hd : o.data = .set es ep t) (hs : Heap.SameBut a h h') : TK prog w h' k b := by
  obtain ⟨o', items, n, ho', hc, hd', hi⟩ := x
  have hne : b ≠ a := by
    rintro rfl
    rw [ho] at ho'; cases ho'
    rw [hd] at hd'; cases hd'
  exact ⟨o', items, n, (hs.2 b hne).trans ho', hc, hd', hi⟩
theorem TK.gone {h h' : Heap} {k : List Int} {a b : Addr} {o : Obj} {es : Array (Int × Value)} {ep : Nat} {t : SetTable} (x : TK prog w h' k b) (ho : h'.get? a = some o) (hd : o.data = .set es ep t) (hs : Heap.SameBut a h h') : TK prog w h k b := by
  obtain ⟨o', items, n, ho', hc, hd', hi⟩ := x
  have hne : b ≠ a := by
    rintro rfl
    rw [ho] at ho'; cases ho'
    rw [hd] at hd'; cases hd'
  exact ⟨o', items, n, (hs.2 b hne).symm.trans ho', hc, hd', hi⟩
theorem fits_good {t : SetTable} {es : Array (Int × Value)} (G : Good t (es.map (·.1))) : t.fits es.size = true := by
  have h1 := G.siz
  have h2 := G.few
  simp only [Array.size_map] at h1 h2
  simp only [SetTable.fits, SetTable.fill, G.nod, Bool.and_eq_true, beq_iff_eq, decide_eq_true_eq]
  refine ⟨h1, ?_⟩
  simp; omega
theorem map_insertAt {α β : Type} (f : α → β) (xs : Array α) (p : Nat) (x : α) : (insertAt xs p x).map f = insertAt (xs.map f) p (f x) := by
  simp [insertAt]
theorem pick {α : Type} [Inhabited α] (es : Array α) : ∀ l : List Nat, (∀ i ∈ l, i < es.size) → l.filterMap (fun i => es[i]?) = l.map fun i => es.getD i default
  | [], _ => rfl
  | i :: l, h => by
    have hi := h i List.mem_cons_self
    have e : es[i]? = some (es.getD i default) := by rw [Array.getElem?_eq_getElem hi]; simp [hi]
    rw [List.filterMap_cons, e, List.map_cons, pick es l fun j hj => h j (List.mem_cons_of_mem _ hj)]
/-- where few have been, room for many more -/
theorem above_few {n : Nat} (h5 : 5 ≤ n) (h7 : n ≤ 7) : SetTable.sizeAbove (SetTable.grown n) = 32 := by
  have : n = 5 ∨ n = 6 ∨ n = 7 := by omega
  rcases this with rfl | rfl | rfl <;> decide
theorem relay {a : Addr} {o : Obj} {es : Array (Int × Value)} {ep : Nat} {t : SetTable} {ks : List (List Int)} {Q : Unit → Shared → Prop} (ho : s.heap.get? a = some o) (hex : o.ExactSet) (hd : o.data = .set es ep t) (G : Good t (es.map (·.1)))
    (en : Ents prog w s.heap es) (hin : ∀ k, In prog w s.heap es k ↔ k ∈ ks) (hsz : es.size = ks.length) (h5 : 5 ≤ es.size) (h7 : es.size ≤ 7)
    (q : ∀ h', Heap.SameBut a s.heap h' → SetT prog w h' a ks → Q () { s with heap := h' }) :
    wpAny (model prog w) A (setRelay a (SetTable.grown es.size)) Q E s := by
  unfold setRelay
  refine wpAny_bind (wpAny_setState_of ho hd (fits_good G) ?_)
  dsimp only
  rw [above_few h5 h7, if_neg (by rw [sizeLine_eq]; omega)]
  have hsm : (es.map (·.1)).size ≤ 31 := by rw [Array.size_map]; omega
  obtain ⟨t', order, el, m1, m2, m3, m4, perm, G'⟩ := good_laid (t := t) (hs := es.map (·.1)) (m := 31) (.inr rfl) hsm t.finger (t.movedTo 31) t.led t.plain
  rw [Array.size_map] at perm
  have hlt : ∀ i ∈ order.toList, i < es.size := fun i hi => List.mem_range.mp (perm.mem_iff.mp hi)
  obtain ⟨es', hes⟩ : ∃ es' : Array (Int × Value), es' = order.filterMap (es[·]?) := ⟨_, rfl⟩
  have hl : es'.toList = order.toList.map fun i => es.getD i default := by
    rw [hes, Array.toList_filterMap]
    exact pick es _ hlt
  have hes_size : es'.size = es.size := by
    rw [← Array.length_toList, hl, List.length_map, perm.length_eq, List.length_range]
  have rel : t.relaid (es.map (·.1)) (SetTable.grown es.size) = some (t', order) := by
    unfold SetTable.relaid
    rw [above_few h5 h7]
    exact el
  rw [rel]
  refine wpAny_bind ?_
  show wpAny (model prog w) A (do
    let es₂ := order.filterMap (es[·]?)
    if es₂.size != es.size then unsupported "internal:set-table-lost-an-element"
    pure (es₂, t')) _ E s
  rw [← hes]
  dsimp only
  rw [hes_size]
  simp only [bne_self_eq_false, Bool.false_eq_true, if_false]
  refine wpAny_bind (wpAny_pure (wpAny_pure ?_))
  dsimp only
  refine wpAny_storeSet_of ho hd ?_ (by rw [hes_size, sizeLine_eq]; omega)
  have hg : (s.heap.update a (Obj.putSet es' t')).get? a = some { o with data := .set es' (ep + 1) t' } := by
    have := Heap.get?_update_self (Obj.putSet es' t') ho (by rw [putSet_of es' t' hd]; rfl)
    rw [putSet_of es' t' hd] at this; exact this
  have sb := Heap.SameBut.update s.heap a (Obj.putSet es' t')
  have at' : ∀ (r : Nat) e, es'[r]? = some e → ∃ i : Nat, es[i]? = some e := fun r e er => by
    rw [← Array.getElem?_toList, hl, List.getElem?_map] at er
    cases eo : order.toList[r]? with
    | none => rw [eo] at er; cases er
    | some i =>
      rw [eo] at er
      have hi := hlt i (List.mem_of_getElem? eo)
      refine ⟨i, ?_⟩
      rw [Array.getElem?_eq_getElem hi]
      have : es.getD i default = es[i] := by simp [hi]
      rw [← this]; exact er
  have of' : ∀ (i : Nat) e, es[i]? = some e → ∃ r : Nat, es'[r]? = some e := fun i e ei => by
    have hi : i < es.size := (Array.getElem?_eq_some_iff.mp ei).1
    have hm : i ∈ order.toList := perm.mem_iff.mpr (List.mem_range.mpr hi)
    obtain ⟨r, hr⟩ := List.mem_iff_getElem?.mp hm
    refine ⟨r, ?_⟩
    rw [← Array.getElem?_toList, hl, List.getElem?_map, hr]
    rw [Array.getElem?_eq_getElem hi] at ei
    have : es.getD i default = es[i] := by simp [hi]
    rw [Option.map_some, this]; exact ei
  refine q _ sb ⟨_, es', ep + 1, t', hg, hex, rfl, ?_, fun r e er => ?_, fun k => ?_, by rw [hes_size, hsz], fun z => by omega⟩
  · have e : es'.map (·.1) = order.map fun i => (es.map (·.1)).getD i 0 := by
      apply Array.toList_inj.mp
      rw [Array.toList_map, hl, Array.toList_map, List.map_map]
      refine List.map_congr_left fun i hi => ?_
      have h2 := hlt i hi
      simp [h2]
    rw [e]; exact G'
  · obtain ⟨i, ei⟩ := at' r e er
    obtain ⟨k, b, x1, x2, x3⟩ := en i e ei
    exact ⟨k, b, x1, TK.stay x2 ho hd sb, x3⟩
  · rw [← hin k]
    constructor
    · rintro ⟨r, e, b, er, eb, hk⟩
      obtain ⟨i, ei⟩ := at' r e er
      exact ⟨i, e, b, ei, eb, TK.gone hk hg rfl sb⟩
    · rintro ⟨i, e, b, ei, eb, hk⟩
      obtain ⟨r, er⟩ := of' i e ei
      exact ⟨r, e, b, er, eb, TK.stay hk ho hd sb⟩

theorem add {a b : Addr} {k : List Int} {ks : List (List Int)} {Q : Bool → Shared → Prop} (hu : A.units < cLine) (hS : SetT prog w s.heap a ks) (hk : TK prog w s.heap k b) (hf : ks.length ≤ 17)
    (q : ∀ h', Heap.SameBut a s.heap h' → SetT prog w h' a (if k ∈ ks then ks else ks ++ [k]) → Q (decide (k ∉ ks)) { s with heap := h' }) :
    wpAny (model prog w) A (setAddHashed a (.ref b) (TH prog w k)) Q E s := by
  obtain ⟨o, es, ep, t, ho, hex, hd, G, en, hin, hsz, h4⟩ := id hS
  have fits := fits_good G
  have hplace : t.place.size = es.size := by have := G.siz; simpa using this
  have hmask : es.size + 1 ≤ t.mask := by
    rcases G.msk with e | e
    · have := h4 e; omega
    · omega
  obtain ⟨N, hN, he, hl⟩ := first_free G.toTb G.msk (by omega) (TH prog w k)
  unfold setAddHashed setAddHashedIn
  refine wpAny_holding (wpAny_bind (wpAny_setState_of ho hd fits ?_))
  dsimp only
  have nb : byScan (.ref b) es = false := by simp [byScan, Value.scannable]
  rw [nb]
  simp only [Bool.false_eq_true, if_false]
  refine wpAny_bind ?_
  unfold setSearch
  have hN' : N - 0 < 100000 := by
    have : 10 * turns t.mask ≤ 460 := by
      unfold turns
      rcases G.msk with e | e <;> omega
    omega
  refine search hu ho hd G en hk hN he hl (fun yes => ?_) (fun no => ?_) 100000 0 none (by rfl) (Nat.zero_le _) hN' (fun m hm => absurd hm (Nat.not_lt_zero _))
  · have hm : k ∈ ks := (hin k).mp yes
    dsimp only
    refine wpAny_pure ?_
    have e : s = { s with heap := s.heap } := by cases s; rfl
    have := q s.heap (Heap.SameBut.refl a s.heap) (by rw [if_pos hm]; exact hS)
    rw [decide_eq_false (by simpa using hm)] at this
    rw [e]; exact this
  · have hm : k ∉ ks := fun z => no ((hin k).mpr z)
    dsimp only
    refine wpAny_bind (wpAny_setState_of ho hd fits ?_)
    dsimp only
    have hP := put_eq G.toTb (at_ t.mask (TH prog w k) N)
    have Gp := good_put G he hl (at_le _ _ _) (by rw [Array.size_map]; exact hmask)
    generalize hput : t.put (at_ t.mask (TH prog w k) N) = pp at *
    obtain ⟨t1, p⟩ := pp
    simp only at Gp hP ⊢
    have hp : p = below t.place (at_ t.mask (TH prog w k) N) := by cases hP; rfl
    have ht1 : t1.mask = t.mask := by cases hP; rfl
    have hpl : p ≤ es.size := by
      rw [hp, ← hplace]
      exact (below_spec G.rise _).1
    rw [← hp] at Gp
    obtain ⟨es1, hes1⟩ : ∃ es1, es1 = SetTable.insertAt es p (TH prog w k, Value.ref b) := ⟨_, rfl⟩
    have hsize1 : es1.size = es.size + 1 := by rw [hes1, insertAt_size _ hpl]
    have Ge : Good t1 (es1.map (·.1)) := by rw [hes1, map_insertAt]; exact Gp
    rw [← hes1]
    suffices tail : wpAny (model prog w) A (do
        storeSet a es1 t1
        if (!false && t1.tooFull) = true then do
            setRelay a (SetTable.grown (es.size + 1))
            pure true
          else pure true) Q E s by
      split
      · refine wpAny_bind (byValue hk ?_)
        simp only [if_true]
        exact tail
      · refine wpAny_bind (wpAny_pure ?_)
        simp only [if_true]
        exact tail
    refine wpAny_bind (wpAny_storeSet_of ho hd ?_ (by rw [hsize1, sizeLine_eq]; omega))
    have hg : (s.heap.update a (Obj.putSet es1 t1)).get? a = some { o with data := .set es1 (ep + 1) t1 } := by
      have := Heap.get?_update_self (Obj.putSet es1 t1) ho (by rw [putSet_of es1 t1 hd]; rfl)
      rw [putSet_of es1 t1 hd] at this; exact this
    have sb := Heap.SameBut.update s.heap a (Obj.putSet es1 t1)
    have get1 : ∀ i : Nat, es1[i]? = if i < p then es[i]? else if i = p then some (TH prog w k, Value.ref b) else es[i - 1]? := fun i => by rw [hes1]; exact insertAt_get _ hpl _ i
    have en1 : Ents prog w (s.heap.update a (Obj.putSet es1 t1)) es1 := fun i e ei => by
      have old : ∀ i0 : Nat, es[i0]? = some e → ∃ k b, e.2 = .ref b ∧ TK prog w (s.heap.update a (Obj.putSet es1 t1)) k b ∧ e.1 = TH prog w k := fun i0 e0 => by
        obtain ⟨k', b', x1, x2, x3⟩ := en i0 e e0
        exact ⟨k', b', x1, TK.stay x2 ho hd sb, x3⟩
      rw [get1] at ei
      by_cases c : i < p
      · rw [if_pos c] at ei; exact old _ ei
      · rw [if_neg c] at ei
        by_cases c' : i = p
        · rw [if_pos c'] at ei; cases ei
          exact ⟨k, b, rfl, TK.stay hk ho hd sb, rfl⟩
        · rw [if_neg c'] at ei; exact old _ ei
    have in1 : ∀ k', In prog w (s.heap.update a (Obj.putSet es1 t1)) es1 k' ↔ k' ∈ ks ++ [k] := fun k' => by
      rw [List.mem_append, List.mem_singleton, ← hin k']
      constructor
      · rintro ⟨i, e, b', ei, eb, hk'⟩
        have hk0 := TK.gone hk' hg rfl sb
        rw [get1] at ei
        by_cases c : i < p
        · rw [if_pos c] at ei; exact .inl ⟨_, e, b', ei, eb, hk0⟩
        · rw [if_neg c] at ei
          by_cases c' : i = p
          · rw [if_pos c'] at ei; cases ei
            cases eb
            exact .inr (hk0.inj hk)
          · rw [if_neg c'] at ei; exact .inl ⟨_, e, b', ei, eb, hk0⟩
      · rintro (⟨i, e, b', ei, eb, hk'⟩ | rfl)
        · refine ⟨if i < p then i else i + 1, e, b', ?_, eb, TK.stay hk' ho hd sb⟩
          rw [get1]
          by_cases c : i < p
          · rw [if_pos c, if_pos c]; exact ei
          · rw [if_neg c, if_neg (by omega), if_neg (by omega)]; exact ei
        · refine ⟨p, (TH prog w k', Value.ref b), b, ?_, rfl, TK.stay hk ho hd sb⟩
          rw [get1, if_neg (Nat.lt_irrefl _), if_pos rfl]
    have q' : ∀ h', Heap.SameBut a s.heap h' → SetT prog w h' a (ks ++ [k]) → Q true { s with heap := h' } := fun h' x y => by
      have := q h' x (by rw [if_neg hm]; exact y)
      rw [decide_eq_true (by simpa using hm)] at this
      exact this
    have hsz1 : es1.size = (ks ++ [k]).length := by rw [hsize1, hsz]; simp
    by_cases full : t1.tooFull = true
    · have h57 : 5 ≤ es1.size ∧ es1.size ≤ 7 := by
        have h1 : t1.fill = es1.size := by
          have := Ge.siz
          simp only [Array.size_map] at this
          unfold SetTable.fill; rw [Ge.nod, this]; rfl
        unfold SetTable.tooFull at full
        rw [h1] at full
        simp only [ge_iff_le, decide_eq_true_eq] at full
        rcases Ge.msk with e | e
        · rw [e] at full
          have := h4 (by rw [← ht1]; exact e)
          omega
        · rw [e] at full
          rw [hsz1] at full
          simp at full
          omega
      simp only [full, Bool.not_false, Bool.and_self, if_true]
      have eg : SetTable.grown (es.size + 1) = SetTable.grown es1.size := by rw [hsize1]
      rw [eg]
      refine wpAny_bind (relay (s := { s with heap := s.heap.update a (Obj.putSet es1 t1) }) (ks := ks ++ [k]) hg hex rfl Ge en1 in1 hsz1 h57.1 h57.2 fun h' sb' S' => ?_)
      exact wpAny_pure (q' h' (sb.trans sb') S')
    · have full' : t1.tooFull = false := by simpa using full
      simp only [full', Bool.not_false, Bool.and_false, Bool.false_eq_true, if_false]
      refine wpAny_bind (wpAny_pure (wpAny_pure (q' _ sb ⟨_, es1, ep + 1, t1, hg, hex, rfl, Ge, en1, in1, hsz1, fun z => ?_⟩)))
      have h1 : t1.fill = es1.size := by
        have := Ge.siz
        simp only [Array.size_map] at this
        unfold SetTable.fill; rw [Ge.nod, this]; rfl
      unfold SetTable.tooFull at full'
      rw [h1, z] at full'
      simp only [ge_iff_le, decide_eq_false_iff_not] at full'
      omega
end
end Stb
namespace Stb
open PySem PySem.Spec PySem.SetTable
section
variable {prog : Program} {w : World} {A : Around} {E : Value → Shared → Prop} {s : Shared}

theorem SetT.move {h h' : Heap} {a : Addr} {ks : List (List Int)} (hS : SetT prog w h a ks) (hk : ∀ b o, o.cls = .type "tuple" ∨ o.cls = .type "set" → h.get? b = some o → h'.get? b = some o) : SetT prog w h' a ks := by
  obtain ⟨o, es, ep, t, ho, hex, hd, G, en, hin, hsz, h4⟩ := hS
  have up : ∀ {k b}, TK prog w h k b → TK prog w h' k b := fun {k b} x => by
    obtain ⟨o', items, n, ho', hc, hd', hi⟩ := x
    exact ⟨o', items, n, hk b o' (.inl hc) ho', hc, hd', hi⟩
  refine ⟨o, es, ep, t, hk a o (.inr hex.1) ho, hex, hd, G, fun i e ei => ?_, fun k => ?_, hsz, h4⟩
  · obtain ⟨k, b, x1, x2, x3⟩ := en i e ei
    exact ⟨k, b, x1, up x2, x3⟩
  · rw [← hin k]
    constructor
    · rintro ⟨i, e, b, ei, eb, hk'⟩
      obtain ⟨k2, b2, x1, x2, x3⟩ := en i e ei
      rw [eb] at x1; cases x1
      have := (up x2).inj hk'
      subst this
      exact ⟨i, e, b, ei, eb, x2⟩
    · rintro ⟨i, e, b, ei, eb, hk'⟩
      exact ⟨i, e, b, ei, eb, up hk'⟩
/-- each once, as they come -/
def put1 (ks : List (List Int)) (k : List Int) : List (List Int) := if k ∈ ks then ks else ks ++ [k]
def uniq (ks : List (List Int)) : List (List Int) := ks.foldl put1 []
theorem uniq_step {ks : List (List Int)} {i : Nat} {k : List Int} (h : ks[i]? = some k) : uniq (ks.take (i + 1)) = put1 (uniq (ks.take i)) k := by
  unfold uniq
  rw [List.take_add_one, h, List.foldl_append]
  rfl
theorem put1_len (ks : List (List Int)) (k : List Int) : (put1 ks k).length ≤ ks.length + 1 := by
  unfold put1; split
  · omega
  · simp
theorem fold_len : ∀ (ks acc : List (List Int)), (ks.foldl put1 acc).length ≤ acc.length + ks.length
  | [], acc => by simp
  | k :: ks, acc => by
    have h1 := fold_len ks (put1 acc k)
    have h2 := put1_len acc k
    rw [List.foldl_cons, List.length_cons]
    omega
theorem uniq_len (ks : List (List Int)) : (uniq ks).length ≤ ks.length := by have := fold_len ks []; simpa [uniq] using this
theorem put1_mem {ks : List (List Int)} {k x : List Int} : x ∈ put1 ks k ↔ x ∈ ks ∨ x = k := by
  unfold put1
  split
  · rename_i h
    exact ⟨.inl, fun z => z.elim id fun e => by rw [e]; exact h⟩
  · simp
theorem fold_mem : ∀ (ks acc : List (List Int)) (x : List Int), x ∈ ks.foldl put1 acc ↔ x ∈ acc ∨ x ∈ ks
  | [], acc, x => by simp
  | k :: ks, acc, x => by
    rw [List.foldl_cons, fold_mem ks, put1_mem, List.mem_cons]
    constructor
    · rintro ((h | h) | h)
      · exact .inl h
      · exact .inr (.inl h)
      · exact .inr (.inr h)
    · rintro (h | h | h)
      · exact .inl (.inl h)
      · exact .inl (.inr h)
      · exact .inr h
/-- as many as are put in, just where no two are alike -/
theorem fold_nodup : ∀ (ks acc : List (List Int)), ((ks.foldl put1 acc).length = acc.length + ks.length ↔ ks.Nodup ∧ ∀ x ∈ ks, x ∉ acc)
  | [], acc => by simp
  | k :: ks, acc => by
    rw [List.foldl_cons, List.length_cons]
    by_cases h : k ∈ acc
    · have e : put1 acc k = acc := by unfold put1; rw [if_pos h]
      have := fold_len ks acc
      rw [e]
      constructor
      · intro z; omega
      · rintro ⟨_, z⟩
        exact absurd h (z k List.mem_cons_self)
    · have e : put1 acc k = acc ++ [k] := by unfold put1; rw [if_neg h]
      have ih := fold_nodup ks (acc ++ [k])
      rw [List.length_append, List.length_singleton] at ih
      rw [e, show acc.length + (ks.length + 1) = acc.length + 1 + ks.length by omega, ih, List.nodup_cons]
      constructor
      · rintro ⟨n, a⟩
        refine ⟨⟨fun z => ?_, n⟩, fun x hx => ?_⟩
        · exact a k z (List.mem_append_right _ (List.mem_singleton.mpr rfl))
        · rcases List.mem_cons.mp hx with rfl | z
          · exact h
          · exact fun y => a x z (List.mem_append_left _ y)
      · rintro ⟨⟨a, n⟩, b⟩
        refine ⟨n, fun x hx z => ?_⟩
        rcases List.mem_append.mp z with y | y
        · exact b x (List.mem_cons_of_mem _ hx) y
        · have e := List.mem_singleton.mp y
          rw [e] at hx; exact a hx
theorem uniq_all {ks : List (List Int)} : (uniq ks).length = ks.length ↔ ks.Nodup := by
  have := fold_nodup ks []
  simpa [uniq] using this

/-- the items of a list are tuples of ints -/
def Tuples (prog : Program) (w : World) (h : Heap) (items : Array Value) (ks : List (List Int)) : Prop := items.size = ks.length ∧ ∀ (i : Nat) v, items[i]? = some v → ∃ b k, v = .ref b ∧ ks[i]? = some k ∧ TK prog w h k b

theorem upd_loop {R : Result → Shared → Prop} {l S I : Addr} {items : Array Value} {ks : List (List Int)} (hh : A.in1.handled = none) (hu : A.in1.units < cLine) (hlI : l ≠ I) (hSI : S ≠ I) (hSl : S ≠ l) (hsm : items.size ≤ 17) :
    ∀ (d i : Nat) (s : Shared), items.size - i = d → i ≤ items.size → s.heap.IsListIter I l i ∧ s.heap.IsList l items → SetT prog w s.heap S (uniq (ks.take i)) → Tuples prog w s.heap items ks →
      (∀ s', Moved [S, I] (fun a b => b = a) s s' → SetT prog w s'.heap S (uniq ks) → R (.ok (.ret .none)) s') → codeAny (model prog w) A (.builtin "set.update.loop" ⟨[.ref S, .ref I], []⟩) R s := by
  have W := (Walks.list (prog := prog) (w := w) hh I l hlI items).toS
  have tup_move : ∀ {h h' : Heap}, Tuples prog w h items ks → (∀ b o, o.cls = .type "tuple" → h.get? b = some o → h'.get? b = some o) → Tuples prog w h' items ks := fun {h h'} x k => by
    refine ⟨x.1, fun i v e => ?_⟩
    obtain ⟨b, k', e1, e2, o', its, n, ho', hc, hd', hi⟩ := x.2 i v e
    exact ⟨b, k', e1, e2, o', its, n, k b o' hc ho', hc, hd', hi⟩
  have notI : ∀ {h : Heap} {i : Nat} {b : Addr} {o : Obj}, h.IsListIter I l i → h.get? b = some o → o.cls = .type "tuple" ∨ o.cls = .type "set" → b ∉ [I] := fun {h i b o} st e hc hm => by
    have hb : b = I := by simpa using hm
    subst hb
    obtain ⟨o', e', c', _⟩ := st
    rw [e] at e'; cases e'
    rw [c'] at hc
    rcases hc with z | z <;> simp at z
  intro d
  induction d with
  | zero =>
    intro i s hd hi st hS hT hR
    obtain rfl : i = items.size := by omega
    refine codeAny_builtin PyProof.Rows.F.entry_set_update_loop ?_
    rw [Around.under_plainId PyProof.Rows.F.plain_set_update_loop _]
    show wpAny _ A.in1 (pyNext (.ref I) >>= _) _ _ s
    refine wpAny_bind (W.done s _ _ st fun s' mv => ?_)
    have hS' := hS.move fun b o hc e => mv.heap b o (notI st.1 e hc) e
    rw [List.take_of_length_le (by rw [hT.1]; exact Nat.le_refl _)] at hS'
    exact wpAny_pure (hR s' (mv.mono fun b hb => List.mem_cons_of_mem _ hb) hS')
  | succ d ih =>
    intro i s hd hi st hS hT hR
    have hlt : i < items.size := by omega
    refine codeAny_builtin PyProof.Rows.F.entry_set_update_loop ?_
    rw [Around.under_plainId PyProof.Rows.F.plain_set_update_loop _]
    show wpAny _ A.in1 (pyNext (.ref I) >>= _) _ _ s
    refine wpAny_bind (W.item i s _ _ hlt st fun v s' hP st' mv => ?_)
    obtain ⟨b, k, rfl, ek, tk⟩ := hT.2 i v hP
    have hS' := hS.move fun b o hc e => mv.heap b o (notI st.1 e hc) e
    have hT' := tup_move hT fun b o hc e => mv.heap b o (notI st.1 e (.inl hc)) e
    obtain ⟨b2, k2, e2, ek2, tk'⟩ := hT'.2 i _ hP
    cases e2
    rw [ek] at ek2; cases ek2
    show wpAny _ A.in1 (holding [Value.ref b] (setAdd S (.ref b)) >>= _) _ _ s'
    unfold setAdd
    refine wpAny_bind (wpAny_holding (wpAny_holding (wpAny_bind (wpAny_pyHash_tuple (knd := intKind prog w) hu tk' ?_))))
    have few : (uniq (ks.take i)).length ≤ 17 := by
      have h1 := uniq_len (ks.take i)
      rw [List.length_take] at h1
      omega
    refine add (s := { s' with toks := s'.toks + (k.length + 1) }) hu hS' tk' few fun h' sb S2 => ?_
    have S3 : SetT prog w h' S (uniq (ks.take (i + 1))) := by rw [uniq_step ek]; exact S2
    have others : ∀ b o, b ≠ S → s'.heap.get? b = some o → h'.get? b = some o := fun b o hb e => (sb.2 b hb).trans e
    have setS : ∃ oS, s'.heap.get? S = some oS ∧ oS.cls = .type "set" := by
      obtain ⟨oS, _, _, _, e, hex, _⟩ := hS'
      exact ⟨oS, e, hex.1⟩
    refine wpAny_pure ⟨plainId_quiet PyProof.Rows.F.plain_set_update_loop _, ih (i + 1) _ (by omega) hlt (W.frame _ s' _ _ st' (Nat.le_add_right _ _) fun b hb o e => ?_) S3 (tup_move hT' fun b o hc e => others b o (fun z => ?_) e) fun s'' mv2 S4 => ?_⟩
    · refine others b o (fun z => ?_) e
      subst z
      rcases List.mem_cons.mp hb with z | z
      · exact hSI z
      · exact hSl (by simpa using z)
    · subst z
      obtain ⟨oS, eS, cS⟩ := setS
      rw [e] at eS; cases eS
      rw [hc] at cS; simp at cS
    · refine hR s'' (Moved.trans (fun a b c h1 h2 => h2.trans h1) ((mv.mono fun b hb => List.mem_cons_of_mem _ hb).then_heap (Nat.le_add_right _ _) fun b o hb e => ?_) mv2) S4
      exact others b o (fun z => hb (by rw [z]; exact List.mem_cons_self)) e
end
end Stb
namespace Stb
open PySem PySem.Spec PySem.SetTable
section
variable {prog : Program} {w : World} {A : Around} {E : Value → Shared → Prop} {s : Shared}
/-- a set just made -/
abbrev bare (led : Bool) : Obj := { cls := .type "set", dict := none, data := .set #[] 0 (.fresh 0 0 led) }
theorem setT_bare {h : Heap} {a : Addr} {led : Bool} (e : h.get? a = some (bare led)) : SetT prog w h a [] :=
  ⟨_, #[], 0, _, e, ⟨rfl, rfl, rfl⟩, rfl, by simpa using good_fresh 0 0 led, fun i e h => by simp at h, fun k => ⟨fun ⟨i, e, b, h, _⟩ => by simp at h, fun h => by simp at h⟩, rfl, fun _ => Nat.zero_le _⟩
/-- set.__init__ of a list of tuples -/
theorem init_T {P : Fin → Shared → Prop} {l : Addr} {led : Bool} {items : Array Value} {ks : List (List Int)} (hh : A.handled = none) (hu : A.units + 8 < cLine) (hl : s.heap.IsList l items) (hT : Tuples prog w s.heap items ks) (hsm : items.size ≤ 17)
    (h : ∀ h' tk, SetT prog w h' s.heap.objs.size (uniq ks) → (∀ b o, b < s.heap.objs.size → s.heap.get? b = some o → h'.get? b = some o) → P (.done (.ret .none)) { s with heap := h', toks := tk }) :
    wpAny (model prog w) A.in1.in1 (Builtin.«set.__init__» ⟨[.ref s.heap.objs.size, .ref l], []⟩) P E { s with heap := s.heap.push (bare led) } := by
  obtain ⟨ol, hol, hcl, nl, hdl⟩ := id hl
  obtain ⟨ocls, odict, odata, oslots⟩ := ol
  simp only at hcl hdl
  subst hcl hdl
  have at_l : (s.heap.push (bare led)).get? l = some ⟨.type "list", odict, .seq items nl, oslots⟩ := Heap.get?_push_of_some _ hol
  have at_S : (s.heap.push (bare led)).get? s.heap.objs.size = some (bare led) := Heap.get?_push_size _ rfl
  have sub1 := F.sub_list_set
  have sub2 := F.sub_list_frozenset
  have nod : (Value.type "list" == Value.type "dict") = false := by decide
  have lst : (s.heap.push (bare led)).IsList l items := hl.push _
  have lt_l : l < s.heap.objs.size := Heap.lt_size hol
  unfold Builtin.«set.__init__» noKeywords Builtin.Frozenset.updateFrom
  generalize hPI : pyIter = PI
  wp_walk
  subst hPI
  refine wpAny_pyIter_list lst ?_
  refine wpAny_bind (wpAny_runValue ?_)
  have hsz : (s.heap.push (bare led)).objs.size = s.heap.objs.size + 1 := Heap.size_push ..
  have ne_lI : l ≠ (s.heap.push (bare led)).objs.size := by rw [hsz]; exact Nat.ne_of_lt (Nat.lt_succ_of_lt lt_l)
  have ne_SI : s.heap.objs.size ≠ (s.heap.push (bare led)).objs.size := by rw [hsz]; exact Nat.ne_of_lt (Nat.lt_succ_self _)
  have keep2 : ∀ {x : Obj} {b : Addr} {o : Obj}, s.heap.get? b = some o → ((s.heap.push (bare led)).push x).get? b = some o := fun e => Heap.get?_push_of_some _ (Heap.get?_push_of_some _ e)
  refine upd_loop (ks := ks) (by simp [hh]) (by show A.units + 1 + 1 + 1 < cLine; omega) ne_lI ne_SI (Nat.ne_of_gt lt_l) hsm (items.size - 0) 0 _ rfl (Nat.zero_le _) ⟨⟨_, Heap.get?_push_size _ rfl, rfl, rfl⟩, lst.push _⟩ ?_ ?_ ?_
  · exact setT_bare (Heap.get?_push_of_some _ at_S)
  · refine ⟨hT.1, fun i v e => ?_⟩
    obtain ⟨b, k, e1, e2, o', its, n, ho', hc, hd', hi⟩ := hT.2 i v e
    exact ⟨b, k, e1, e2, o', its, n, keep2 ho', hc, hd', hi⟩
  · intro s' mv S'
    obtain ⟨h', g', d', tk', os'⟩ := s'
    have eg : g' = s.gens := mv.gens
    have ed : d' = s.drawn := mv.drawn
    have eo : os' = s.os := mv.os
    subst eg ed eo
    refine wpAny_pure (wpAny_pure ?_)
    refine h h' tk' S' fun b o hb e => mv.heap b o (fun hm => ?_) (keep2 e)
    rcases List.mem_cons.mp hm with z | z
    · exact Nat.ne_of_lt hb z
    · have z' : b = (s.heap.push (bare led)).objs.size := by simpa using z
      rw [hsz] at z'
      omega
/-- set(l), l a list of tuples of ints -/
theorem call_T {Q : Value → Shared → Prop} {l : Addr} {items : Array Value} {ks : List (List Int)} (hh : A.handled = none) (hu : A.units + 8 < cLine) (hl : s.heap.IsList l items) (hT : Tuples prog w s.heap items ks) (hsm : items.size ≤ 17)
    (h : ∀ h' tk, SetT prog w h' s.heap.objs.size (uniq ks) → (∀ b o, b < s.heap.objs.size → s.heap.get? b = some o → h'.get? b = some o) → Q (.ref s.heap.objs.size) { s with heap := h', toks := tk }) :
    wpAny (model prog w) A (call (.type "set") [.ref l]) Q E s := by
  obtain ⟨c, tl, hmro⟩ := F.called_set.mro
  have made := F.called_set.made
  have sub := F.called_set.sub
  have h1 := F.called_set.notType
  have h2 := F.called_set.canCreate
  have h3 := F.typeCall_set_1 (.ref l)
  refine wpAny_call (codeAny_of_tree (?_ : wpAny _ _ (callAny (.type "set") _) _ _ _))
  refine wpAny_pure ⟨Code.quiet_builtin _ (by decide +kernel), codeAny_builtin F.entry_type_call ?_⟩
  rw [Around.under_plain (weight_type_call_type "set" [.ref l] []) rfl]
  repeat (any_goals (first | assumption | wp_step))
  refine codeAny_mono (code_set_new_1 (.ref l) (E := E) (Q₁ := fun v s₁ => ∃ led : Bool, v = .ref s.heap.objs.size ∧ s₁ = { s with heap := s.heap.push (bare led) }) fun led => ⟨led, rfl, rfl⟩) fun r s₁ hr => ?_
  cases r with
  | error e => exact hr
  | ok fl =>
    cases fl with
    | ret obj =>
      obtain ⟨led, rfl, rfl⟩ := hr
      have at_S : (s.heap.push (bare led)).get? s.heap.objs.size = some (bare led) := Heap.get?_push_size _ rfl
      have ty : Shared.TypeIs { s with heap := s.heap.push (bare led) } (.ref s.heap.objs.size) "set" := ⟨_, at_S, rfl⟩
      have g1 := F.called_set.init.lookup
      have g2 := F.called_set.init.bind (.ref s.heap.objs.size)
      repeat (any_goals (first | assumption | wp_step))
      refine codeAny_mono (codeAny_call_builtin (R := wants (fun r s₂ => r = .none ∧ ∃ h' tk, s₂ = { s with heap := h', toks := tk } ∧ SetT prog w h' s.heap.objs.size (uniq ks) ∧
          (∀ b o, b < s.heap.objs.size → s.heap.get? b = some o → h'.get? b = some o)) E) F.called_set.init.plain F.entry_set_init (check_set_init_1 ty ?_)) fun r₂ s₂ hr₂ => ?_
      · exact init_T hh hu hl hT hsm fun h' tk S' k' => ⟨rfl, h', tk, rfl, S', k'⟩
      · cases r₂ with
        | error e => exact hr₂
        | ok fl₂ =>
          cases fl₂ with
          | ret r =>
            obtain ⟨rfl, h', tk, rfl, S', k'⟩ := hr₂
            repeat (any_goals (first | assumption | wp_step))
            exact h _ _ S' k'
          | _ => exact hr₂.elim
    | _ => exact hr.elim
end
end Stb
namespace Stb
open PySem PySem.Spec PySem.SetTable
section
variable {prog : Program} {w : World} {A : Around} {E : Value → Shared → Prop} {s : Shared}
theorem upd_loopT {R : Result → Shared → Prop} {l S I : Addr} {items : Array Value} {ks : List (List Int)} (hh : A.in1.handled = none) (hu : A.in1.units < cLine) (hlI : l ≠ I) (hSI : S ≠ I) (hSl : S ≠ l) (hsm : items.size ≤ 17) :
    ∀ (d i : Nat) (s : Shared), items.size - i = d → i ≤ items.size → s.heap.IsTupleIter I l i ∧ s.heap.IsTuple l items → SetT prog w s.heap S (uniq (ks.take i)) → Tuples prog w s.heap items ks →
      (∀ s', Moved [S, I] (fun a b => b = a) s s' → SetT prog w s'.heap S (uniq ks) → R (.ok (.ret .none)) s') → codeAny (model prog w) A (.builtin "set.update.loop" ⟨[.ref S, .ref I], []⟩) R s := by
  have W := (Walks.tuple (prog := prog) (w := w) hh I l hlI items).toS
  have tup_move : ∀ {h h' : Heap}, Tuples prog w h items ks → (∀ b o, o.cls = .type "tuple" → h.get? b = some o → h'.get? b = some o) → Tuples prog w h' items ks := fun {h h'} x k => by
    refine ⟨x.1, fun i v e => ?_⟩
    obtain ⟨b, k', e1, e2, o', its, n, ho', hc, hd', hi⟩ := x.2 i v e
    exact ⟨b, k', e1, e2, o', its, n, k b o' hc ho', hc, hd', hi⟩
  have notI : ∀ {h : Heap} {i : Nat} {b : Addr} {o : Obj}, h.IsTupleIter I l i → h.get? b = some o → o.cls = .type "tuple" ∨ o.cls = .type "set" → b ∉ [I] := fun {h i b o} st e hc hm => by
    have hb : b = I := by simpa using hm
    subst hb
    obtain ⟨o', e', c', _⟩ := st
    rw [e] at e'; cases e'
    rw [c'] at hc
    rcases hc with z | z <;> simp at z
  intro d
  induction d with
  | zero =>
    intro i s hd hi st hS hT hR
    obtain rfl : i = items.size := by omega
    refine codeAny_builtin PyProof.Rows.F.entry_set_update_loop ?_
    rw [Around.under_plainId PyProof.Rows.F.plain_set_update_loop _]
    show wpAny _ A.in1 (pyNext (.ref I) >>= _) _ _ s
    refine wpAny_bind (W.done s _ _ st fun s' mv => ?_)
    have hS' := hS.move fun b o hc e => mv.heap b o (notI st.1 e hc) e
    rw [List.take_of_length_le (by rw [hT.1]; exact Nat.le_refl _)] at hS'
    exact wpAny_pure (hR s' (mv.mono fun b hb => List.mem_cons_of_mem _ hb) hS')
  | succ d ih =>
    intro i s hd hi st hS hT hR
    have hlt : i < items.size := by omega
    refine codeAny_builtin PyProof.Rows.F.entry_set_update_loop ?_
    rw [Around.under_plainId PyProof.Rows.F.plain_set_update_loop _]
    show wpAny _ A.in1 (pyNext (.ref I) >>= _) _ _ s
    refine wpAny_bind (W.item i s _ _ hlt st fun v s' hP st' mv => ?_)
    obtain ⟨b, k, rfl, ek, tk⟩ := hT.2 i v hP
    have hS' := hS.move fun b o hc e => mv.heap b o (notI st.1 e hc) e
    have hT' := tup_move hT fun b o hc e => mv.heap b o (notI st.1 e (.inl hc)) e
    obtain ⟨b2, k2, e2, ek2, tk'⟩ := hT'.2 i _ hP
    cases e2
    rw [ek] at ek2; cases ek2
    show wpAny _ A.in1 (holding [Value.ref b] (setAdd S (.ref b)) >>= _) _ _ s'
    unfold setAdd
    refine wpAny_bind (wpAny_holding (wpAny_holding (wpAny_bind (wpAny_pyHash_tuple (knd := intKind prog w) hu tk' ?_))))
    have few : (uniq (ks.take i)).length ≤ 17 := by
      have h1 := uniq_len (ks.take i)
      rw [List.length_take] at h1
      omega
    refine add (s := { s' with toks := s'.toks + (k.length + 1) }) hu hS' tk' few fun h' sb S2 => ?_
    have S3 : SetT prog w h' S (uniq (ks.take (i + 1))) := by rw [uniq_step ek]; exact S2
    have others : ∀ b o, b ≠ S → s'.heap.get? b = some o → h'.get? b = some o := fun b o hb e => (sb.2 b hb).trans e
    have setS : ∃ oS, s'.heap.get? S = some oS ∧ oS.cls = .type "set" := by
      obtain ⟨oS, _, _, _, e, hex, _⟩ := hS'
      exact ⟨oS, e, hex.1⟩
    refine wpAny_pure ⟨plainId_quiet PyProof.Rows.F.plain_set_update_loop _, ih (i + 1) _ (by omega) hlt (W.frame _ s' _ _ st' (Nat.le_add_right _ _) fun b hb o e => ?_) S3 (tup_move hT' fun b o hc e => others b o (fun z => ?_) e) fun s'' mv2 S4 => ?_⟩
    · refine others b o (fun z => ?_) e
      subst z
      rcases List.mem_cons.mp hb with z | z
      · exact hSI z
      · exact hSl (by simpa using z)
    · subst z
      obtain ⟨oS, eS, cS⟩ := setS
      rw [e] at eS; cases eS
      rw [hc] at cS; simp at cS
    · refine hR s'' (Moved.trans (fun a b c h1 h2 => h2.trans h1) ((mv.mono fun b hb => List.mem_cons_of_mem _ hb).then_heap (Nat.le_add_right _ _) fun b o hb e => ?_) mv2) S4
      exact others b o (fun z => hb (by rw [z]; exact List.mem_cons_self)) e
/-- set.__init__ of a tuple of tuples -/
theorem init_TT {P : Fin → Shared → Prop} {l : Addr} {led : Bool} {items : Array Value} {ks : List (List Int)} (hh : A.handled = none) (hu : A.units + 8 < cLine) (hl : s.heap.IsTuple l items) (hT : Tuples prog w s.heap items ks) (hsm : items.size ≤ 17)
    (h : ∀ h' tk, SetT prog w h' s.heap.objs.size (uniq ks) → (∀ b o, b < s.heap.objs.size → s.heap.get? b = some o → h'.get? b = some o) → P (.done (.ret .none)) { s with heap := h', toks := tk }) :
    wpAny (model prog w) A.in1.in1 (Builtin.«set.__init__» ⟨[.ref s.heap.objs.size, .ref l], []⟩) P E { s with heap := s.heap.push (bare led) } := by
  obtain ⟨ol, hol, hcl, nl, hdl⟩ := id hl
  obtain ⟨ocls, odict, odata, oslots⟩ := ol
  simp only at hcl hdl
  subst hcl hdl
  have at_l : (s.heap.push (bare led)).get? l = some ⟨.type "tuple", odict, .seq items nl, oslots⟩ := Heap.get?_push_of_some _ hol
  have at_S : (s.heap.push (bare led)).get? s.heap.objs.size = some (bare led) := Heap.get?_push_size _ rfl
  have sub1 := F.sub_tuple_set
  have sub2 := F.sub_tuple_frozenset
  have nod : (Value.type "tuple" == Value.type "dict") = false := by decide
  have lst : (s.heap.push (bare led)).IsTuple l items := hl.push _
  have lt_l : l < s.heap.objs.size := Heap.lt_size hol
  unfold Builtin.«set.__init__» noKeywords Builtin.Frozenset.updateFrom
  generalize hPI : pyIter = PI
  wp_walk
  subst hPI
  refine wpAny_pyIter_tuple lst ?_
  refine wpAny_bind (wpAny_runValue ?_)
  have hsz : (s.heap.push (bare led)).objs.size = s.heap.objs.size + 1 := Heap.size_push ..
  have ne_lI : l ≠ (s.heap.push (bare led)).objs.size := by rw [hsz]; exact Nat.ne_of_lt (Nat.lt_succ_of_lt lt_l)
  have ne_SI : s.heap.objs.size ≠ (s.heap.push (bare led)).objs.size := by rw [hsz]; exact Nat.ne_of_lt (Nat.lt_succ_self _)
  have keep2 : ∀ {x : Obj} {b : Addr} {o : Obj}, s.heap.get? b = some o → ((s.heap.push (bare led)).push x).get? b = some o := fun e => Heap.get?_push_of_some _ (Heap.get?_push_of_some _ e)
  refine upd_loopT (ks := ks) (by simp [hh]) (by show A.units + 1 + 1 + 1 < cLine; omega) ne_lI ne_SI (Nat.ne_of_gt lt_l) hsm (items.size - 0) 0 _ rfl (Nat.zero_le _) ⟨⟨_, Heap.get?_push_size _ rfl, rfl, rfl⟩, lst.push _⟩ ?_ ?_ ?_
  · exact setT_bare (Heap.get?_push_of_some _ at_S)
  · refine ⟨hT.1, fun i v e => ?_⟩
    obtain ⟨b, k, e1, e2, o', its, n, ho', hc, hd', hi⟩ := hT.2 i v e
    exact ⟨b, k, e1, e2, o', its, n, keep2 ho', hc, hd', hi⟩
  · intro s' mv S'
    obtain ⟨h', g', d', tk', os'⟩ := s'
    have eg : g' = s.gens := mv.gens
    have ed : d' = s.drawn := mv.drawn
    have eo : os' = s.os := mv.os
    subst eg ed eo
    refine wpAny_pure (wpAny_pure ?_)
    refine h h' tk' S' fun b o hb e => mv.heap b o (fun hm => ?_) (keep2 e)
    rcases List.mem_cons.mp hm with z | z
    · exact Nat.ne_of_lt hb z
    · have z' : b = (s.heap.push (bare led)).objs.size := by simpa using z
      rw [hsz] at z'
      omega
/-- set(l), l a tuple of tuples of ints -/
theorem call_TT {Q : Value → Shared → Prop} {l : Addr} {items : Array Value} {ks : List (List Int)} (hh : A.handled = none) (hu : A.units + 8 < cLine) (hl : s.heap.IsTuple l items) (hT : Tuples prog w s.heap items ks) (hsm : items.size ≤ 17)
    (h : ∀ h' tk, SetT prog w h' s.heap.objs.size (uniq ks) → (∀ b o, b < s.heap.objs.size → s.heap.get? b = some o → h'.get? b = some o) → Q (.ref s.heap.objs.size) { s with heap := h', toks := tk }) :
    wpAny (model prog w) A (call (.type "set") [.ref l]) Q E s := by
  obtain ⟨c, tl, hmro⟩ := F.called_set.mro
  have made := F.called_set.made
  have sub := F.called_set.sub
  have h1 := F.called_set.notType
  have h2 := F.called_set.canCreate
  have h3 := F.typeCall_set_1 (.ref l)
  refine wpAny_call (codeAny_of_tree (?_ : wpAny _ _ (callAny (.type "set") _) _ _ _))
  refine wpAny_pure ⟨Code.quiet_builtin _ (by decide +kernel), codeAny_builtin F.entry_type_call ?_⟩
  rw [Around.under_plain (weight_type_call_type "set" [.ref l] []) rfl]
  repeat (any_goals (first | assumption | wp_step))
  refine codeAny_mono (code_set_new_1 (.ref l) (E := E) (Q₁ := fun v s₁ => ∃ led : Bool, v = .ref s.heap.objs.size ∧ s₁ = { s with heap := s.heap.push (bare led) }) fun led => ⟨led, rfl, rfl⟩) fun r s₁ hr => ?_
  cases r with
  | error e => exact hr
  | ok fl =>
    cases fl with
    | ret obj =>
      obtain ⟨led, rfl, rfl⟩ := hr
      have at_S : (s.heap.push (bare led)).get? s.heap.objs.size = some (bare led) := Heap.get?_push_size _ rfl
      have ty : Shared.TypeIs { s with heap := s.heap.push (bare led) } (.ref s.heap.objs.size) "set" := ⟨_, at_S, rfl⟩
      have g1 := F.called_set.init.lookup
      have g2 := F.called_set.init.bind (.ref s.heap.objs.size)
      repeat (any_goals (first | assumption | wp_step))
      refine codeAny_mono (codeAny_call_builtin (R := wants (fun r s₂ => r = .none ∧ ∃ h' tk, s₂ = { s with heap := h', toks := tk } ∧ SetT prog w h' s.heap.objs.size (uniq ks) ∧
          (∀ b o, b < s.heap.objs.size → s.heap.get? b = some o → h'.get? b = some o)) E) F.called_set.init.plain F.entry_set_init (check_set_init_1 ty ?_)) fun r₂ s₂ hr₂ => ?_
      · exact init_TT hh hu hl hT hsm fun h' tk S' k' => ⟨rfl, h', tk, rfl, S', k'⟩
      · cases r₂ with
        | error e => exact hr₂
        | ok fl₂ =>
          cases fl₂ with
          | ret r =>
            obtain ⟨rfl, h', tk, rfl, S', k'⟩ := hr₂
            repeat (any_goals (first | assumption | wp_step))
            exact h _ _ S' k'
          | _ => exact hr₂.elim
    | _ => exact hr.elim
end
end Stb
namespace L3
open PySem PySem.Spec PyProof.Rows L2
/-! ### several records of ours have turned; a tuple is new -/
section
variable {X : Cx} {pins : List (Addr × Obj)} {σ : L2.St} {H : Hp} {s : Shared}
theorem Inv.turnL {h' : Heap} {t' : Nat} {ch : List Addr} (I : Inv X pins σ H s) (hch : ∀ b ∈ ch, FpOk X pins H b) (k : ∀ b o, b ∉ ch → s.heap.get? b = some o → h'.get? b = some o) : Inv X pins σ H { s with heap := h', toks := t' } := by
  have nch : ∀ b u, H b = some u → b ∉ ch := fun b u e z => by rw [(hch b z).1] at e; cases e
  refine I.step (g' := s.gens) (d' := s.drawn) (ch := ch) (fun b hb => ?_) (fun b o _ _ hc e _ => k b o hc e) (fun b o _ _ hc e _ => ⟨o.slots, k b o hc e⟩) (fun _ _ _ _ n => n)
    (fun b o hc e => ⟨o, k b o hc e⟩) (fun _ _ e => e) (fun _ _ _ e => e) (fun b ps e => ⟨#[], by rw [e]; simp⟩) (fun m hm => ?_) (fun b u e => ?_) I.bare
  · obtain ⟨_, f1, _, f3, f4, f5⟩ := hch b hb
    exact ⟨f3, f1, f4, f5⟩
  · obtain ⟨o, es, ep, ho, r⟩ := hm
    exact ⟨o, es, ep, k _ o (fun z => (hch _ z).2.1 rfl) ho, r⟩
  · refine (I.hok b u e).stay (fun c v hc q => k c v ?_ q) (fun _ q => q) fun _ _ q => q
    rcases hc with z | z
    · rw [z]; exact nch b u e
    · exact nch c _ z
theorem Inv.turnT {h' : Heap} {t' : Nat} {ch : List Addr} {T : Addr} {xs : List V} {us : List Value} (I : Inv X pins σ H s) (hch : ∀ b ∈ ch, FpOk X pins H b) (k : ∀ b o, b ∉ ch → s.heap.get? b = some o → h'.get? b = some o)
    (hT : s.heap.objs.size ≤ T) (ht : h'.IsTuple T us.toArray) (rv : Vals xs us) (hz : xs.length ≤ sizeLine) : Inv X pins σ (upd H T (.tup xs)) { s with heap := h', toks := t' } := by
  have nch : ∀ b u, H b = some u → b ∉ ch := fun b u e z => by rw [(hch b z).1] at e; cases e
  have hn : H T = none := I.hok.fresh hT
  have neT : ∀ b o, s.heap.get? b = some o → b ≠ T := fun b o e => Nat.ne_of_lt (Nat.lt_of_lt_of_le (Heap.lt_size e) hT)
  refine I.step (g' := s.gens) (d' := s.drawn) (ch := ch) (fun b hb => ?_) (fun b o _ _ hc e _ => k b o hc e) (fun b o _ _ hc e _ => ⟨o.slots, k b o hc e⟩) (fun b o _ e n => by rw [upd_ne (neT b o e)]; exact n)
    (fun b o hc e => ⟨o, k b o hc e⟩) (fun b _ e => by rw [upd_ne (ne_of_none e hn)]; exact e) (fun b _ _ e => by rw [upd_ne (ne_of_none e hn)]; exact e) (fun b ps e => ⟨#[], by rw [upd_ne (ne_of_none e hn), e]; simp⟩) (fun m hm => ?_) (fun b u e => ?_) I.bare
  · obtain ⟨_, f1, _, f3, f4, f5⟩ := hch b hb
    exact ⟨f3, f1, f4, f5⟩
  · obtain ⟨o, es, ep, ho, r⟩ := hm
    exact ⟨o, es, ep, k _ o (fun z => (hch _ z).2.1 rfl) ho, r⟩
  · by_cases hb : b = T
    · subst hb
      rw [upd_same] at e; cases e
      exact ⟨hz, us, rv, ht⟩
    · rw [upd_ne hb] at e
      refine (I.hok b u e).stay (fun c v hc q => k c v ?_ q) (fun c q => by rw [upd_ne (ne_of_none q hn)]; exact q) fun c xs q => by rw [upd_ne (ne_of_none q hn)]; exact q
      rcases hc with z | z
      · rw [z]; exact nch b u e
      · exact nch c _ z
end
/-! ### zip of two lists, walked with two targets -/
def Itz (K : PySem.W.Frag) (l1 l2 : Addr) : It :=
  ⟨fun i H => ∃ xs ys x y, SqL K H l1 xs ∧ SqL K H l2 ys ∧ xs[i]? = some x ∧ ys[i]? = some y,
   fun i H v H' => ∃ T x y, v = .ref T ∧ H T = none ∧ H' = upd H T (.tup [x, y]) ∧ ∀ xs ys, SqL K H l1 xs → SqL K H l2 ys → xs[i]? = some x ∧ ys[i]? = some y,
   fun i H => ∃ xs ys, SqL K H l1 xs ∧ SqL K H l2 ys ∧ (xs.length ≤ i ∨ ys.length ≤ i)⟩
theorem turn_zip {P : Program} {w : World} {K : PySem.W.Frag} {elts : List Expr} {kt : Nat} {pt : Pos} (z TI TO i1 i2 l1 l2 : Addr) (D : ZipApart z TI TO i1 i2 l1 l2) :
    Turn P w K (.Tuple elts kt pt) (Itz K l1 l2) [z, TI, TO, i1, i2] z (fun i h => IsZip h z TI TO .none ∧ IsPair h TI (.ref i1) (.ref i2) ∧ (∃ a b, IsPair h TO a b) ∧ h.IsListIter i1 l1 i ∧ h.IsListIter i2 l2 i) where
  mem := by simp
  obj := fun i h st b hb => by
    obtain ⟨hz, hTI, ⟨a, c, hTO⟩, ⟨o1, e1, _, d1⟩, ⟨o2, e2, _, d2⟩⟩ := st
    simp only [List.mem_cons, List.not_mem_nil, or_false] at hb
    rcases hb with rfl | rfl | rfl | rfl | rfl
    · exact ⟨_, hz, fun v q => by cases q⟩
    · exact ⟨_, hTI, fun v q => by cases q⟩
    · exact ⟨_, hTO, fun v q => by cases q⟩
    · exact ⟨o1, e1, fun v q => by rw [d1] at q; cases q⟩
    · exact ⟨o2, e2, fun v q => by rw [d2] at q; cases q⟩
  keep := fun i h h' st k => by
    obtain ⟨hz, hTI, ⟨a, c, hTO⟩, h1, h2⟩ := st
    exact ⟨k z (by simp) _ hz, k TI (by simp) _ hTI, ⟨a, c, k TO (by simp) _ hTO⟩, h1.at fun o e => k i1 (by simp) o e, h2.at fun o e => k i2 (by simp) o e⟩
  item := by
    intro X hP hw hK hc i pins s σ H E I hf st hg
    subst hP hw hK
    obtain ⟨xs, ys, x, y, q1, q2, hx, hy⟩ := hg
    obtain ⟨its1, rv1, p1, _⟩ := I.list q1
    obtain ⟨its2, rv2, p2, _⟩ := I.list q2
    obtain ⟨u1, hu1, ru1⟩ := rv1.get hx
    obtain ⟨u2, hu2, ru2⟩ := rv2.get hy
    obtain ⟨hz, hTI, ⟨a, c, hTO⟩, h1, h2⟩ := st
    have hsz : s.heap.objs.size ≤ s.heap.objs.size := Nat.le_refl _
    have hn : H s.heap.objs.size = none := I.hok.fresh hsz
    have lt : ∀ {c o}, s.heap.get? c = some o → c ≠ s.heap.objs.size := fun e => Nat.ne_of_lt (Heap.lt_size e)
    refine wpAny_pyNext_zip_item D hz hTI hTO h1 h2 p1.isList p2.isList (x := u1) (y := u2) (by simpa using hu1) (by simpa using hu2) fun h' a1 a2 a3 a4 a5 a6 hk => ?_
    refine ⟨_, rfl, wpAny_letOwnedTupleGo_zip (s := { s with heap := h' }) a1 fun h'' b1 b2 => ?_⟩
    have Tz : s.heap.objs.size ≠ z := (lt hz).symm
    have keep2 : ∀ b o, b ∉ [z, TI, TO, i1, i2] → s.heap.get? b = some o → h''.get? b = some o := fun b o hb e => by
      simp only [List.mem_cons, List.not_mem_nil, or_false, not_or] at hb
      obtain ⟨n1, n2, n3, n4, n5⟩ := hb
      exact (b2.2 b n1).trans (hk b o n1 n3 n4 n5 e)
    have tup : h''.IsTuple s.heap.objs.size [u1, u2].toArray := ⟨_, (b2.2 _ Tz).trans a5, rfl, _, rfl⟩
    have I2 : Inv X pins σ (upd H s.heap.objs.size (.tup [x, y])) { s with heap := h'' } := Inv.turnT (t' := s.toks) I hf keep2 hsz tup (.cons ru1 (.cons ru2 .nil)) (by show 2 ≤ sizeLine; decide)
    refine ⟨.ref s.heap.objs.size, _, I2, rfl, ⟨_, x, y, rfl, hn, rfl, fun xs' ys' z1 z2 => ?_⟩, ⟨b1, ?_, ⟨_, _, (b2.2 _ D.TOz).trans a2⟩, ?_, ?_⟩, fun b hb => ?_⟩
    · rw [I.list_inj z1 q1, I.list_inj z2 q2]; exact ⟨hx, hy⟩
    · exact (b2.2 _ D.TIz).trans (hk _ _ D.TIz D.TITO D.TIi1 D.TIi2 hTI)
    · exact a3.at fun o e => (b2.2 _ D.i1z).trans e
    · exact a4.at fun o e => (b2.2 _ D.i2z).trans e
    · have hb0 := (hf b hb).1
      have : ∃ o, s.heap.get? b = some o := by
        simp only [List.mem_cons, List.not_mem_nil, or_false] at hb
        rcases hb with rfl | rfl | rfl | rfl | rfl
        · exact ⟨_, hz⟩
        · exact ⟨_, hTI⟩
        · exact ⟨_, hTO⟩
        · obtain ⟨o, e, _⟩ := h1; exact ⟨o, e⟩
        · obtain ⟨o, e, _⟩ := h2; exact ⟨o, e⟩
      obtain ⟨o, e⟩ := this
      rw [upd_ne (lt e)]; exact hb0
  done := by
    intro X hP hw hK hc i pins s σ H E I hf st hg
    subst hP hw hK
    obtain ⟨xs, ys, q1, q2, hx⟩ := hg
    obtain ⟨its1, rv1, p1, _⟩ := I.list q1
    obtain ⟨its2, rv2, p2, _⟩ := I.list q2
    obtain ⟨hz, hTI, ⟨a, c, hTO⟩, h1, h2⟩ := st
    have e1 := rv1.length
    have e2 := rv2.length
    refine wpAny_pyNext_zip_end (I.ok.hd hc) D hz hTI hTO h1 h2 p1.isList p2.isList ?_ fun h' hk => ⟨rfl, ?_⟩
    · rcases hx with z | z
      · left; simp; omega
      · right; simp; omega
    · refine Inv.turnL (t' := s.toks) I hf fun b o hb e => ?_
      simp only [List.mem_cons, List.not_mem_nil, or_false, not_or] at hb
      obtain ⟨n1, n2, n3, n4, n5⟩ := hb
      exact hk b o n1 n3 n4 n5 e
  self := fun _ _ _ _ _ st h => wpAny_pyIter_zip st.1 h
def iZip (K : PySem.W.Frag) (ta : TA) : TI := fun σ H R => ta σ H fun vs H1 => ∃ l1 l2 xs ys, vs = [.ref l1, .ref l2] ∧ SqL K H1 l1 xs ∧ SqL K H1 l2 ys ∧ R (Itz K l1 l2) H1
section
variable {X : Cx}
theorem pi_zip {a b : Expr} {ta : TA} {p pos : Pos} {elts : List Expr} {kt : Nat} {pt : Pos} (hg : Gl X "zip") (hm : X.mg "zip" = none) (ha : PA X [a, b] ta) (hs : starEach [a, b] X.env = [(false, eval a X.env), (false, eval b X.env)] := by rfl) (hs2 : starEach [b] X.env = [(false, eval b X.env)] := by rfl) :
    PI X (.Tuple elts kt pt) (.Call (.Name "zip" p) [a, b] [] pos) (iZip X.K ta) := by
  intro pins s σ H R I h
  refine Call_ (ld_blt I hg hm bt_zip (PyProof.Rows.callWith_type1 (thn (ha pos pins s σ H _ I h) fun us s1 ⟨vs, H1, I1, r1, q1⟩ => ?_) (by rw [hs, hs2]) (by rw [hs2]; rfl)))
  obtain ⟨l1, l2, xs, ys, rfl, s1q, s2q, q⟩ := q1
  obtain ⟨u1, u2, rfl, ru1, ru2⟩ := vals2 r1
  cases (show u1 = Value.ref l1 from ru1)
  cases (show u2 = Value.ref l2 from ru2)
  obtain ⟨its1, rv1, p1, _⟩ := I1.list s1q
  obtain ⟨its2, rv2, p2, _⟩ := I1.list s2q
  refine call_zip_2 p1.isList p2.isList fun h' hz hTI hTO hi1 hi2 hsz hk => ?_
  refine wpAny_pyIter_zip (s := { s1 with heap := h' }) hz ?_
  have I2 : Inv X pins σ H1 { s1 with heap := h' } := I1.kept (t' := s1.toks) hk
  refine ⟨_, [s1.heap.objs.size + 4, s1.heap.objs.size + 2, s1.heap.objs.size + 3, s1.heap.objs.size, s1.heap.objs.size + 1], _, _, H1, rfl, I2, turn_zip _ _ _ _ _ l1 l2 (zipApart_new p1.lt p2.lt), ⟨hz, hTI, ⟨_, _, hTO⟩, hi1, hi2⟩, fun b hb => ?_, q⟩
  have hle : s1.heap.objs.size ≤ b := by
    simp only [List.mem_cons, List.not_mem_nil, or_false] at hb
    rcases hb with rfl | rfl | rfl | rfl | rfl <;> omega
  exact I1.fpOk hle (I1.hok.fresh hle)
end
theorem forZ {K : PySem.W.Frag} {l1 l2 : Addr} {xs ys : List V} {g : TG} {tb : TS} {D : Ends} {σ : L2.St} {H : Hp} (Pv : Nat → L2.St → Hp → Prop) (h0 : Pv 0 σ H) (he : xs.length = ys.length) (hl : ∀ i σ H, i ≤ xs.length → Pv i σ H → SqL K H l1 xs ∧ SqL K H l2 ys)
    (hs : ∀ Pv' : Nat → L2.St → Hp → Prop, (∀ i σ H, Pv i σ H → Pv' i σ H) → ∀ i x y σ H T, xs[i]? = some x → ys[i]? = some y → Pv i σ H → H T = none → g (.ref T) σ (upd H T (.tup [x, y])) fun σ2 H2 => tb { D with nx := Pv' (i + 1), ct := Pv' (i + 1), bk := D.nx } σ2 H2) (hd : ∀ σ H, Pv xs.length σ H → D.nx σ H) :
    ∃ W : Nat → Nat → L2.St → Hp → Prop, (∃ m, W 0 m σ H) ∧ ∀ i m σ H, W i m σ H →
      ((Itz K l1 l2).stop i H ∧ D.nx σ H) ∨ ((Itz K l1 l2).go i H ∧ ∃ N : L2.St → Hp → Prop, (∀ σ' H', N σ' H' → ∃ m', m' < m ∧ W (i + 1) m' σ' H') ∧ ∀ x H', (Itz K l1 l2).yld i H x H' → g x σ H' fun σ2 H2 => tb { D with nx := N, ct := N, bk := D.nx } σ2 H2) := by
  refine ⟨fun i m σ H => m = xs.length - i ∧ i ≤ xs.length ∧ Pv i σ H, ⟨xs.length, by simp, Nat.zero_le _, h0⟩, ?_⟩
  rintro i m σ H ⟨rfl, hi, p⟩
  obtain ⟨q1, q2⟩ := hl i σ H hi p
  by_cases hlt : i < xs.length
  · have hlt2 : i < ys.length := by omega
    refine .inr ⟨⟨xs, ys, xs[i], ys[i], q1, q2, by simp [hlt], by simp [hlt2]⟩, Pv (i + 1), fun σ' H' p' => ⟨xs.length - (i + 1), by omega, rfl, hlt, p'⟩, fun v H' y => ?_⟩
    obtain ⟨T, x, y, rfl, hn, rfl, hxy⟩ := y
    obtain ⟨e1, e2⟩ := hxy xs ys q1 q2
    exact hs Pv (fun _ _ _ h => h) i x y σ H T e1 e2 p hn
  · have e : i = xs.length := by omega
    subst e
    exact .inl ⟨⟨xs, ys, q1, q2, .inl (Nat.le_refl _)⟩, hd σ H p⟩

/-! ### len(set(..)) of a list of tuples of ints -/
section
variable {X : Cx} {pins : List (Addr × Obj)} {σ : L2.St} {H : Hp} {s : Shared}
theorem ints_items {prog : Program} {w : World} : ∀ {ns : List Int} {us : List Value}, Vals (ns.map V.int) us → ItemsAre (intKind prog w) ns us
  | [], _, r => by cases r; exact .nil
  | n :: ns, _, r => by
    cases r with
    | cons r1 r2 =>
      obtain ⟨t, rfl⟩ := (show ∃ t, _ = Value.int n t from r1)
      exact .cons (intKind_is _ _ _ _) (ints_items r2)
theorem Tp.key {v : V} {u : Value} {ns : List Int} (I : Inv X pins σ H s) (h : Tp X.K H v ns) (r : RelV v u) : ∃ b, u = .ref b ∧ Stb.TK X.prog X.w s.heap ns b := by
  obtain ⟨a, rfl, q⟩ := h
  cases (show u = Value.ref a from r)
  obtain ⟨its, rv, ⟨o, e, c, n, d⟩, _⟩ := I.tuple q
  exact ⟨a, rfl, o, its.toArray, n, e, c, d, by simpa using ints_items rv⟩
theorem Tps.keys (I : Inv X pins σ H s) {vs : List V} {us : List Value} {xs : List (List Int)} (h : Tps X.K H vs xs) (r : Vals vs us) : Stb.Tuples X.prog X.w s.heap us.toArray xs := by
  refine ⟨by rw [List.size_toArray, ← r.length, h.length], fun i v e => ?_⟩
  have e' : us[i]? = some v := by simpa using e
  obtain ⟨x, hx⟩ : ∃ x, vs[i]? = some x := by
    have : i < vs.length := by rw [r.length]; exact (List.getElem?_eq_some_iff.mp e').1
    exact ⟨_, List.getElem?_eq_getElem this⟩
  obtain ⟨u, hu, ru⟩ := r.get hx
  rw [e'] at hu; cases hu
  obtain ⟨ns, en, t⟩ := h.at hx
  obtain ⟨b, rfl, k⟩ := Tp.key I t ru
  exact ⟨b, ns, rfl, en, k⟩
def tLenSet (K : PySem.W.Frag) (te : TE) : TE := fun σ H Q => te σ H fun x H1 => ∃ l vs xs, x = .ref l ∧ (SqL K H1 l vs ∨ SqT K H1 l vs) ∧ Tps K H1 vs xs ∧ xs.length ≤ 17 ∧ Q (.int ((Stb.uniq xs).length : Int)) H1
theorem pe_lenSet {e : Expr} {te : TE} {p p' pos pos' : Pos} (hu : X.A.units + 64 < cLine) (hc : X.calm = true) (hg1 : Gl X "len") (hm1 : X.mg "len" = none) (hg2 : Gl X "set") (hm2 : X.mg "set" = none) (he : PE X e te)
    (s1 : starEach [Expr.Call (.Name "set" p') [e] [] pos'] X.env = [(false, eval (.Call (.Name "set" p') [e] [] pos') X.env)] := by rfl) (s2 : starEach [e] X.env = [(false, eval e X.env)] := by rfl) :
    PE X (.Call (.Name "len" p) [.Call (.Name "set" p') [e] [] pos'] [] pos) (tLenSet X.K te) := by
  intro pins s σ H Q I h
  have inner : wpAny (model X.prog X.w) X.A (eval (.Call (.Name "set" p') [e] [] pos') X.env) (fun u s' => ∃ S ks H1, u = .ref S ∧ Inv X pins σ H1 s' ∧ Stb.SetT X.prog X.w s'.heap S ks ∧ ks.length ≤ 17 ∧ Q (.int (ks.length : Int)) H1) X.xe s := by
    refine wpAny_Call_Name_kw (ld_blt I hg2 hm2 bt_set ?_ (by decide) (by decide))
    have pa : PA X [e] (tCons te tNil) := pa_cons he pa_nil s2
    refine PyProof.Rows.callWith_type1 (thn (pa pos' pins s σ H (fun vs H1 => match vs with
        | [x] => ∃ l ws xs, x = .ref l ∧ (SqL X.K H1 l ws ∨ SqT X.K H1 l ws) ∧ Tps X.K H1 ws xs ∧ xs.length ≤ 17 ∧ Q (.int ((Stb.uniq xs).length : Int)) H1
        | _ => False) I h) fun us s1' ⟨vs, H1, I1, r1, z⟩ => ?_) s2 rfl
    match vs, r1, z with
    | [x], r1, ⟨l, ws, xs, ev, hq, ht, hn, q⟩ =>
      obtain ⟨u, rfl, ru⟩ := vals1 r1
      subst ev
      cases (show u = Value.ref l from ru)
      rcases hq with hq | hq
      · obtain ⟨its, rv, pl, _⟩ := I1.list hq
        have hT := Tps.keys I1 ht rv
        refine Stb.call_T (I1.ok.hd hc) (by omega) pl.isList hT (by rw [hT.1]; exact hn) fun h' tk S' k' => ?_
        exact ⟨_, _, H1, rfl, I1.kept fun b o e => k' b o (Heap.lt_size e) e, S', Nat.le_trans (Stb.uniq_len xs) hn, q⟩
      · obtain ⟨its, rv, pt, _⟩ := I1.tuple hq
        have hT := Tps.keys I1 ht rv
        refine Stb.call_TT (I1.ok.hd hc) (by omega) pt hT (by rw [hT.1]; exact hn) fun h' tk S' k' => ?_
        exact ⟨_, _, H1, rfl, I1.kept fun b o e => k' b o (Heap.lt_size e) e, S', Nat.le_trans (Stb.uniq_len xs) hn, q⟩
  refine wpAny_Call_Name_kw (ld_blt I hg1 hm1 bt_len ?_ (by decide) (by decide))
  refine PyProof.Rows.callWith_builtin1 ?_ s1 rfl
  rw [s1]
  show wpAny _ _ (spliced ((false, eval (.Call (.Name "set" p') [e] [] pos') X.env) :: backTo pos [])) _ _ s
  refine Calls.spliced_cons (thn inner fun u s' ⟨S, ks, H1, eu, I1, hS, hn, q⟩ => Calls.spliced_nil ?_)
  subst eu
  obtain ⟨o, es, ep, t, ho, hex, hd, G, _, _, hsz, _⟩ := hS
  refine call_len_set ho hex hd (Stb.fits_good G) (by omega) ⟨.int (ks.length : Int), H1, I1.tok _, ⟨_, by rw [hsz]⟩, q⟩
end
end L3
namespace L3
open PySem PySem.Spec PyProof.Rows L2
/-! ### lists of tuples of ints compared -/
def dT (ns : List Int) : PyData := .tuple (ns.map PyData.int)
theorem eqv_tups : ∀ xs ys : List (List Int), PyData.eqvAll (xs.map dT) (ys.map dT) = decide (xs = ys)
  | [], [] => by simp [PyData.eqvAll]
  | [], _ :: _ => by simp [PyData.eqvAll]
  | _ :: _, [] => by simp [PyData.eqvAll]
  | x :: xs, y :: ys => by
    simp only [List.map_cons, PyData.eqvAll, dT, PyData.eqv, eqv_ints, List.cons.injEq]
    have ih := eqv_tups xs ys
    rw [ih]
    by_cases h1 : x = y
    · by_cases h2 : xs = ys <;> simp [h1, h2]
    · simp [h1]
/-- a list of tuples of ints -/
def Lts (K : PySem.W.Frag) (H : Hp) (v : V) (xs : List (List Int)) : Prop := ∃ l vs, v = .ref l ∧ SqL K H l vs ∧ Tps K H vs xs
theorem Lts.isD {K : PySem.W.Frag} {H : Hp} {v : V} {xs : List (List Int)} (h : Lts K H v xs) : IsD K H (.list (xs.map dT)) v := by
  obtain ⟨l, vs, rfl, hq, ht⟩ := h
  simp only [IsD]
  exact ⟨l, vs, rfl, hq, ht.isDs⟩
theorem Lts.mono {K : PySem.W.Frag} {H H' : Hp} {v : V} {xs : List (List Int)} (h : Lts K H v xs) (g : Same H H') : Lts K H' v xs := by
  obtain ⟨l, vs, rfl, hq, ht⟩ := h
  exact ⟨l, vs, rfl, g.seq hq, ht.mono g⟩
def rEqLT (K : PySem.W.Frag) (neg : Bool) : R2 := fun x y H Q => ∃ xs ys, Lts K H x xs ∧ Lts K H y ys ∧ Q (.bl (if neg then !decide (xs = ys) else decide (xs = ys))) H
theorem rEqLT.toD {K : PySem.W.Frag} {neg : Bool} {x y : V} {H : Hp} {Q : VK} (h : rEqLT K neg x y H Q) : rEqD K neg x y H Q := by
  obtain ⟨xs, ys, h1, h2, q⟩ := h
  refine ⟨_, _, h1.isD, h2.isD, shaped_tups xs, shaped_tups ys, ?_⟩
  simp only [PyData.eqv, eqv_tups]
  exact q
theorem op_eqLT {X : Cx} (hu : X.A.units + 64 < cLine) : OpR X (compareOp .Eq) (rEqLT X.K false) :=
  fun pins s σ H x y v u Q I rx ry h => op_eqD hu pins s σ H x y v u Q I rx ry h.toD
theorem op_neLT {X : Cx} (hu : X.A.units + 64 < cLine) : OpR X (compareOp .NotEq) (rEqLT X.K true) :=
  fun pins s σ H x y v u Q I rx ry h => op_neD hu pins s σ H x y v u Q I rx ry h.toD
/-- two lists of lists of tuples, the same -/
def dL (xs : List (List Int)) : PyData := .list (xs.map dT)
theorem lay_lists : ∀ zs : List (List (List Int)), PyData.canLayAll0 (zs.map dL) = true
  | [] => by simp [PyData.canLayAll0]
  | z :: zs => by
    have := lay_tups z
    simp only [List.map_cons, PyData.canLayAll0, dL, PyData.canLay0, Bool.and_eq_true]
    exact ⟨this, lay_lists zs⟩
theorem dep_lists : ∀ zs : List (List (List Int)), PyData.depthAll (zs.map dL) ≤ 2
  | [] => by simp [PyData.depthAll]
  | z :: zs => by
    have h1 := dep_lists zs
    have h2 := dep_tups z
    simp only [List.map_cons, PyData.depthAll, dL, PyData.depth] at *
    unfold dT
    omega
theorem shaped_lists (zs : List (List (List Int))) : SeqAt.shaped (.list (zs.map dL)) = true := by
  unfold SeqAt.shaped
  have h := dep_lists zs
  rw [Bool.and_eq_true]
  refine ⟨by simp only [PyData.canLay0, lay_lists], decide_eq_true ?_⟩
  simp only [PyData.depth]
  omega
theorem eqv_lists : ∀ zs ys : List (List (List Int)), PyData.eqvAll (zs.map dL) (ys.map dL) = decide (zs = ys)
  | [], [] => by simp [PyData.eqvAll]
  | [], _ :: _ => by simp [PyData.eqvAll]
  | _ :: _, [] => by simp [PyData.eqvAll]
  | x :: xs, y :: ys => by
    simp only [List.map_cons, PyData.eqvAll, dL, PyData.eqv, eqv_tups, List.cons.injEq]
    have ih := eqv_lists xs ys
    rw [ih]
    by_cases h1 : x = y
    · by_cases h2 : xs = ys <;> simp [h1, h2]
    · simp [h1]
/-- a list of two lists of tuples -/
theorem two_isD {K : PySem.W.Frag} {H : Hp} {l : Addr} {u v : V} {xs ys : List (List Int)} (hq : SqL K H l [u, v]) (hu : Lts K H u xs) (hv : Lts K H v ys) : IsD K H (.list ([xs, ys].map dL)) (.ref l) := by
  simp only [IsD, List.map_cons, List.map_nil]
  refine ⟨l, _, rfl, hq, ?_⟩
  simp only [IsDs]
  exact ⟨u, _, rfl, hu.isD, v, _, rfl, hv.isD, rfl⟩
end L3
namespace Cs
open PySem PySem.Spec PyProof.Rows L2 L3 Mx
theorem Lts.upd {K : PySem.W.Frag} {H : Hp} {b : Addr} {v : V} {xs : List (List Int)} {ys : List V} {o : HO} (e : H b = some (.lst ys)) (h : Lts K H v xs) (hv : v ≠ .ref b) : Lts K (L2.upd H b o) v xs := by
  obtain ⟨l, vs, rfl, hq, ht⟩ := h
  have hne : l ≠ b := fun z => hv (by rw [z])
  refine ⟨l, vs, rfl, ?_, Tps.upd e ht⟩
  rcases hq with (h | ⟨ob, h⟩) | h
  · exact .inl (.inl (by rw [upd_ne hne]; exact h))
  · exact .inl (.inr ⟨ob, by rw [upd_ne hne]; exact h⟩)
  · exact .inr h
/-! ### told_by -/
def spGap (K : PySem.W.Frag) : Sp := fun vs H Q _ => ∃ (v u : V) (x y : Int × Int), vs = [v, u] ∧ Tp K H v (pl x) ∧ Tp K H u (pl y) ∧ BdPt 1900 x ∧ BdPt 1900 y ∧ Q (.int (gap x y)) H
def Unlike3 (p q r : Int × Int) : Prop := GoodPt p ∧ GoodPt q ∧ GoodPt r ∧ p ≠ q ∧ p ≠ r ∧ q ≠ r
def spBase (K : PySem.W.Frag) : Sp := fun vs H Q _ => ∃ (u v w : V) (p q r : Int × Int), vs = [u, v, w] ∧ Tp K H u (pl p) ∧ Tp K H v (pl q) ∧ Tp K H w (pl r) ∧ Unlike3 p q r ∧ BdPt 400 p ∧ BdPt 400 q ∧ BdPt 400 r ∧ Out K H (cl (nch (base3 p q r))) Q
theorem Unlike3.det {p q r : Int × Int} (h : Unlike3 p q r) : (base3 p q r).det ≠ 0 := base_ne h.1 h.2.1 h.2.2.1 h.2.2.2.1 h.2.2.2.2.1 h.2.2.2.2.2
theorem Bd.gap {k : Nat} {x y : Int × Int} (hx : BdPt k x) (hy : BdPt k y) : Bd (k + k + 1) (gap x y) := (hx.1.mul hy.2).sub (hx.2.mul hy.1)
theorem BdC.base {k : Nat} {p q r : Int × Int} (hp : BdPt k p) (hq : BdPt k q) (hr : BdPt k r) : BdC (k + (k + k + 1)) (base3 p q r) :=
  ⟨hq.2.mul (Bd.gap hr hp), hq.1.neg.mul (Bd.gap hr hp), hp.2.mul (Bd.gap hr hq), hp.1.neg.mul (Bd.gap hr hq)⟩
/-- a list or a tuple of tuples of ints -/
def Sts (K : PySem.W.Frag) (H : Hp) (v : V) (xs : List (List Int)) : Prop := ∃ l vs, v = .ref l ∧ (SqL K H l vs ∨ SqT K H l vs) ∧ Tps K H vs xs
theorem Lts.sts {K : PySem.W.Frag} {H : Hp} {v : V} {xs : List (List Int)} (h : Lts K H v xs) : Sts K H v xs := by
  obtain ⟨l, vs, e, hq, ht⟩ := h
  exact ⟨l, vs, e, .inl hq, ht⟩
def spUnlike (K : PySem.W.Frag) : Sp := fun vs H Q _ => ∃ (v : V) (ps : List (Int × Int)), vs = [v] ∧ Sts K H v (ps.map pl) ∧ ps.length ≤ 17 ∧ Q (.bl (decide ps.Nodup)) H
theorem nodup_pl {ps : List (Int × Int)} : (ps.map pl).Nodup ↔ ps.Nodup := by
  rw [List.Nodup, List.pairwise_map]
  constructor
  · exact List.Pairwise.imp fun h z => h (by rw [z])
  · exact List.Pairwise.imp fun h z => h (pl_inj.mp z)
def GoodL (ps : List (Int × Int)) : Prop := ∀ p ∈ ps, GoodPt p ∧ BdPt 200 p
/-- a list of tuples of ints that is tracked -/
def Ltr (K : PySem.W.Frag) (H : Hp) (v : V) (xs : List (List Int)) : Prop := ∃ l vs, v = .ref l ∧ H l = some (.lst vs) ∧ Tps K H vs xs
theorem Ltr.lts {K : PySem.W.Frag} {H : Hp} {v : V} {xs : List (List Int)} (h : Ltr K H v xs) : Lts K H v xs := by
  obtain ⟨l, vs, rfl, hq, ht⟩ := h
  exact ⟨l, vs, rfl, SqL.of hq, ht⟩
theorem Ltr.mono {K : PySem.W.Frag} {H H' : Hp} {v : V} {xs : List (List Int)} (h : Ltr K H v xs) (g : Same H H') : Ltr K H' v xs := by
  obtain ⟨l, vs, rfl, hq, ht⟩ := h
  exact ⟨l, vs, rfl, g _ _ hq, ht.mono g⟩
/-- points and goals by which a change is told -/
def TellB (K : PySem.W.Frag) (H : Hp) (v u : V) (ps gs : List (Int × Int)) : Prop := Ltr K H v (ps.map pl) ∧ Ltr K H u (gs.map pl) ∧ GoodL ps ∧ GoodL gs ∧ ps.length = gs.length ∧ 3 ≤ ps.length ∧ ps.length ≤ 8 ∧ ps.Nodup ∧ gs.Nodup
theorem TellB.mono {K : PySem.W.Frag} {H H' : Hp} {v u : V} {ps gs : List (Int × Int)} (h : TellB K H v u ps gs) (g : Same H H') : TellB K H' v u ps gs := ⟨h.1.mono g, h.2.1.mono g, h.2.2⟩
def spCheckTold (K : PySem.W.Frag) : Sp := fun vs H Q _ => ∃ (v u : V) (ps gs : List (Int × Int)), vs = [v, u] ∧ TellB K H v u ps gs ∧ ∀ H', Same H H' → Q .non H'
def toldL : List (Int × Int) → List (Int × Int) → Option Ch
  | p :: q :: r :: ps, p' :: q' :: r' :: gs => if (p :: q :: r :: ps).map (mv (told3 p q r p' q' r')) = p' :: q' :: r' :: gs then some (told3 p q r p' q' r') else none
  | _, _ => none
theorem toldL_cons (p q r p' q' r' : Int × Int) (ps gs : List (Int × Int)) : toldL (p :: q :: r :: ps) (p' :: q' :: r' :: gs) = if (p :: q :: r :: ps).map (mv (told3 p q r p' q' r')) = p' :: q' :: r' :: gs then some (told3 p q r p' q' r') else none := rfl
/-- a change or None -/
def IsO (K : PySem.W.Frag) (H : Hp) (v : V) : Option Ch → Prop
  | none => v = .non
  | some m => Tp K H v (cl m)
theorem IsO.mono {K : PySem.W.Frag} {H H' : Hp} {v : V} {o : Option Ch} (h : IsO K H v o) (g : Same H H') : IsO K H' v o := by
  cases o with
  | none => exact h
  | some m => exact Tp.mono h g
def spTold (K : PySem.W.Frag) : Sp := fun vs H Q _ => ∃ (v u : V) (ps gs : List (Int × Int)), vs = [v, u] ∧ TellB K H v u ps gs ∧ ∀ w H', Same H H' → IsO K H' w (toldL ps gs) → Q w H'
def spLeads (K : PySem.W.Frag) : Sp := fun vs H Q _ => ∃ (v u w : V) (m : Ch) (ps gs : List (Int × Int)), vs = [v, u, w] ∧ Tp K H v (cl m) ∧ GoodC m ∧ BdC 1900 m ∧ Lts K H u (ps.map pl) ∧ Lts K H w (gs.map pl) ∧ (∀ p ∈ ps, GoodPt p ∧ BdPt 200 p) ∧ ps.length ≤ 100 ∧ OutB H (decide (ps.map (mv m) = gs)) Q
theorem list3 {ps : List (Int × Int)} (h : 3 ≤ ps.length) : ∃ p q r ps', ps = p :: q :: r :: ps' := by
  match ps, h with
  | p :: q :: r :: ps', _ => exact ⟨p, q, r, ps', rfl⟩
theorem unlike_of {p q r : Int × Int} {ps : List (Int × Int)} (hg : GoodL (p :: q :: r :: ps)) (hn : (p :: q :: r :: ps).Nodup) : Unlike3 p q r := by
  simp only [List.nodup_cons, List.mem_cons, not_or] at hn
  exact ⟨(hg p (by simp)).1, (hg q (by simp)).1, (hg r (by simp)).1, hn.1.1, hn.1.2.1, hn.2.1.1⟩
theorem Unlike3.good {p q r p' q' r' : Int × Int} (h : Unlike3 p q r) (h' : Unlike3 p' q' r') : GoodC (told3 p q r p' q' r') :=
  told_good h.1 h.2.1 h.2.2.1 h.2.2.2.1 h.2.2.2.2.1 h.2.2.2.2.2 h'.1 h'.2.1 h'.2.2.1 h'.2.2.2.1 h'.2.2.2.2.1 h'.2.2.2.2.2
theorem Unlike3.leads {p q r p' q' r' : Int × Int} (h : Unlike3 p q r) (h' : Unlike3 p' q' r') : mv (told3 p q r p' q' r') p = p' ∧ mv (told3 p q r p' q' r') q = q' ∧ mv (told3 p q r p' q' r') r = r' :=
  told_leads h.1 h.2.1 h.2.2.1 h.2.2.2.1 h.2.2.2.2.1 h.2.2.2.2.2 h'.1 h'.2.1 h'.2.2.1 h'.2.2.2.1 h'.2.2.2.2.1 h'.2.2.2.2.2
theorem Unlike3.only {p q r p' q' r' : Int × Int} (h : Unlike3 p q r) (h' : Unlike3 p' q' r') {m : Ch} (gm : GoodC m) (e1 : mv m p = p') (e2 : mv m q = q') (e3 : mv m r = r') : told3 p q r p' q' r' = m :=
  told_only h.1 h.2.1 h.2.2.1 h.2.2.2.1 h.2.2.2.2.1 h.2.2.2.2.2 h'.1 h'.2.1 h'.2.2.1 h'.2.2.2.1 h'.2.2.2.2.1 h'.2.2.2.2.2 gm e1 e2 e3
theorem BdC.told {k : Nat} {p q r p' q' r' : Int × Int} (h : Unlike3 p q r) (h' : Unlike3 p' q' r') (hp : BdPt k p) (hq : BdPt k q) (hr : BdPt k r) (hp' : BdPt k p') (hq' : BdPt k q') (hr' : BdPt k r') :
    BdC (k + (k + k + 1) + (k + (k + k + 1)) + 1) (told3 p q r p' q' r') := by
  have b1 := (BdC.base hp hq hr).nch h.det
  have b2 := (BdC.base hp' hq' hr').nch h'.det
  have d1 := (nch_goodC h.det).det
  have d2 := (nch_goodC h'.det).det
  have d3 : (Mx.adj (Mx.nch (base3 p' q' r'))).det ≠ 0 := by rw [det_adj]; exact d2
  exact (b1.mul (b2.adj.nch d3)).nch (mul_ne d1 (nch_goodC d3).det)
theorem tps3 {K : PySem.W.Frag} {H : Hp} {ws : List V} {a b c : List Int} {xs : List (List Int)} (h : Tps K H ws (a :: b :: c :: xs)) : ∃ w1 w2 w3 ws', ws = w1 :: w2 :: w3 :: ws' ∧ Tp K H w1 a ∧ Tp K H w2 b ∧ Tp K H w3 c ∧ Tps K H ws' xs := by
  cases h with
  | cons h1 h =>
    cases h with
    | cons h2 h =>
      cases h with
      | cons h3 h => exact ⟨_, _, _, _, rfl, h1, h2, h3, h⟩
/-- the points moved, one by one: a new list -/
theorem map_step {ps : List (Int × Int)} {f : Int × Int → Int × Int} {i : Nat} {p : Int × Int} (h : ps[i]? = some p) : ((ps.take (i + 1)).map f).map pl = ((ps.take i).map f).map pl ++ [pl (f p)] := by
  rw [List.take_add_one, h]
  simp
theorem Ltr.upd {K : PySem.W.Frag} {H : Hp} {b l : Addr} {xs : List (List Int)} {ys : List V} {o : HO} (e : H b = some (.lst ys)) (hne : l ≠ b) (h : Ltr K H (.ref l) xs) : Ltr K (L2.upd H b o) (.ref l) xs := by
  obtain ⟨l', vs, el, hq, ht⟩ := h
  cases el
  exact ⟨l, vs, rfl, by rw [upd_ne hne]; exact hq, Tps.upd e ht⟩
/-- k06: the script, the spot, the change, the points and the goals -/
structure G6 (K : PySem.W.Frag) (H : Hp) (a b l l2 : Addr) (u : V) (ns : List Int) (m : Ch) (ps gs : List (Int × Int)) : Prop where
  scr : Scr K H a ns
  spot : ∃ kk, 0 ≤ kk ∧ H b = some (.lst [.int kk])
  tu : Tp K H u (cl m)
  hp : Ltr K H (.ref l) (ps.map pl)
  hg : Ltr K H (.ref l2) (gs.map pl)
  lb : l ≠ b
  l2b : l2 ≠ b
  ll : l ≠ l2
theorem G6.mono {K : PySem.W.Frag} {H H' : Hp} {a b l l2 : Addr} {u : V} {ns : List Int} {m : Ch} {ps gs : List (Int × Int)} (h : G6 K H a b l l2 u ns m ps gs) (g : Same H H') : G6 K H' a b l l2 u ns m ps gs := by
  obtain ⟨kk, k0, e⟩ := h.spot
  exact ⟨h.scr.mono g, ⟨kk, k0, g _ _ e⟩, h.tu.mono g, h.hp.mono g, h.hg.mono g, h.lb, h.l2b, h.ll⟩
/-- the spot further on -/
theorem G6.on {K : PySem.W.Frag} {H : Hp} {a b l l2 : Addr} {u : V} {ns : List Int} {m : Ch} {ps gs : List (Int × Int)} (h : G6 K H a b l l2 u ns m ps gs) {j : Int} (hj : 0 ≤ j) : G6 K (L2.upd H b (.lst [.int j])) a b l l2 u ns m ps gs := by
  obtain ⟨kk, k0, e⟩ := h.spot
  exact ⟨h.scr.upd e, ⟨j, hj, upd_same⟩, Tp.upd h.tu e, Ltr.upd e h.lb h.hp, Ltr.upd e h.l2b h.hg, h.lb, h.l2b, h.ll⟩
theorem set_nodup {α : Type} {xs : List α} (hn : xs.Nodup) {i : Nat} {x : α} (hx : x ∉ xs) : (xs.set i x).Nodup := by
  induction xs generalizing i with
  | nil => simp
  | cons y ys ih =>
    rw [List.nodup_cons] at hn
    simp only [List.mem_cons, not_or] at hx
    cases i with
    | zero =>
      rw [List.set_cons_zero, List.nodup_cons]
      exact ⟨hx.2, hn.2⟩
    | succ i =>
      rw [List.set_cons_succ, List.nodup_cons]
      refine ⟨fun z => ?_, ih hn.2 hx.2⟩
      rcases List.mem_or_eq_of_mem_set z with z | z
      · exact hn.1 z
      · exact hx.1 z.symm
theorem map_nodup {ps : List (Int × Int)} {m : Ch} (d : m.det ≠ 0) (hg : ∀ p ∈ ps, GoodPt p) (hn : ps.Nodup) : (ps.map (mv m)).Nodup := by
  rw [List.Nodup, List.pairwise_map]
  refine List.Pairwise.imp_of_mem (fun {a b} ha hb hab z => hab ?_) hn
  exact mv_inj d (hg a ha) (hg b hb) z
theorem Tps.set {K : PySem.W.Frag} {H : Hp} : ∀ {vs : List V} {xs : List (List Int)} {i : Nat} {v : V} {ns : List Int}, Tps K H vs xs → Tp K H v ns → Tps K H (vs.set i v) (xs.set i ns)
  | _, _, _, _, _, .nil, _ => .nil
  | _, _, 0, _, _, .cons _ t, h => .cons h t
  | _, _, i + 1, _, _, .cons h0 t, h => .cons h0 (Tps.set t h)
theorem Tps.take {K : PySem.W.Frag} {H : Hp} : ∀ {vs : List V} {xs : List (List Int)} (n : Nat), Tps K H vs xs → Tps K H (vs.take n) (xs.take n)
  | _, _, 0, _ => by simp only [List.take_zero]; exact .nil
  | _, _, n + 1, .nil => .nil
  | _, _, n + 1, .cons h t => .cons h (Tps.take n t)
theorem cut3 {xs : List V} (h : 3 ≤ xs.length) : cutV xs none (some 3) = xs.take 3 := by
  unfold cutV
  have e1 : HT.sIx xs.length 0 none = 0 := HT.sIx_none _ _
  have e2 : HT.sIx xs.length xs.length (some 3) = 3 := by
    simp [HT.sIx]; omega
  rw [e1, e2]; simp
end Cs
namespace L3
open PySem PySem.Spec PyProof.Rows L2
/-- (a, b, ..) = a list of that length -/
def gTupL (K : PySem.W.Frag) (n : Nat) (t : TGs) : TG := fun v σ H Q => ∃ a xs, v = .ref a ∧ SqL K H a xs ∧ xs.length = n ∧ t xs σ H Q
theorem pg_tupL {X : Cx} {pos : Pos} {es : List Expr} {k : Nat} {t : TGs} {n : Nat} (hc : X.calm = true) (h : PGs X es t)
    (hn : (assignEach es X.env).length = n := by rfl) (hst : (assignEach es X.env).findIdx? (·.1) = none := by rfl) : PG X (.Tuple es k pos) (gTupL X.K n t) := by
  intro pins s σ H v u Q I r hw
  obtain ⟨a, xs, e1, hq, hl, hw⟩ := hw
  subst e1
  cases r
  obtain ⟨its, rv, hp, hz⟩ := I.list hq
  rw [assign_Tuple]
  refine wpAny_bind (wpAny_standAt ?_)
  unfold unpack
  rw [show (assignEach es X.env).length = its.toArray.size by simp [hn, ← hl, rv.length], hst]
  refine wpAny_bind (wpAny_holding (PySem.W.kun_itemsOf (I.ok.hd hc) hp.isList fun h' hx => ?_))
  have I1 : Inv X pins σ H { s with heap := h' } := I.kept (t' := s.toks) fun b o e => hx b o (Nat.ne_of_lt (Heap.lt_size e)) e
  exact h pins _ σ H xs _ Q I1 (by simpa using rv) hw
/-- a loop over a tuple that an expression makes -/
theorem for_srcT {K : PySem.W.Frag} {tl : TE} {g : TG} {tb : TS} {D : Ends} {σ : L2.St} {H : Hp} (R : V → Hp → Prop) (h1 : ∀ k : VK, (∀ x H1, R x H1 → k x H1) → tl σ H k)
    (h2 : ∀ x H1, R x H1 → ∃ a, x = .ref a ∧ (∃ xs, SqT K H1 a xs) ∧ ∃ W : Nat → Nat → L2.St → Hp → Prop, (∃ m, W 0 m σ H1) ∧ ∀ i m σ H, W i m σ H →
      ((Itt K a).stop i H ∧ D.nx σ H) ∨ ((Itt K a).go i H ∧ ∃ N : L2.St → Hp → Prop, (∀ σ' H', N σ' H' → ∃ m', m' < m ∧ W (i + 1) m' σ' H') ∧ ∀ x H', (Itt K a).yld i H x H' → g x σ H' fun σ2 H2 => tb { D with nx := N, ct := N, bk := D.nx } σ2 H2)) :
    tFor (iTup K tl) g tb D σ H := h1 _ h2
end L3
namespace Cs
open PySem PySem.Spec PyProof.Rows L2 L3 Mx
theorem Unlike3.un3 {p q r : Int × Int} (h : Unlike3 p q r) : Un3 p q r := ⟨h.1, h.2.1, h.2.2.1, h.2.2.2.1, h.2.2.2.2.1, h.2.2.2.2.2⟩
theorem un3_unlike {p q r : Int × Int} (h : Un3 p q r) : Unlike3 p q r := ⟨h.gp, h.gq, h.gr, h.pq, h.pr, h.qr⟩
/-- three unlike points and one more -/
structure F4 (K : PySem.W.Frag) (H : Hp) (u v w t : V) (p q r x : Int × Int) : Prop where
  tp : Tp K H u (pl p)
  tq : Tp K H v (pl q)
  tr : Tp K H w (pl r)
  tx : Tp K H t (pl x)
  un : Un3 p q r
  gx : GoodPt x
  bp : BdPt 400 p
  bq : BdPt 400 q
  br : BdPt 400 r
  bx : BdPt 1900 x
theorem F4.mono {K : PySem.W.Frag} {H H' : Hp} {u v w t : V} {p q r x : Int × Int} (h : F4 K H u v w t p q r x) (g : Same H H') : F4 K H' u v w t p q r x :=
  ⟨h.tp.mono g, h.tq.mono g, h.tr.mono g, h.tx.mono g, h.un, h.gx, h.bp, h.bq, h.br, h.bx⟩
theorem F4.all {K : PySem.W.Frag} {H : Hp} {u v w t : V} {p q r x : Int × Int} (h : F4 K H u v w t p q r x) : ∀ y ∈ [p, q, r, x], GoodPt y ∧ BdPt 4000 y := fun y hy => by
  simp only [List.mem_cons, List.not_mem_nil, or_false] at hy
  rcases hy with rfl | rfl | rfl | rfl
  · exact ⟨h.un.gp, h.bp.mono (by decide)⟩
  · exact ⟨h.un.gq, h.bq.mono (by decide)⟩
  · exact ⟨h.un.gr, h.br.mono (by decide)⟩
  · exact ⟨h.gx, h.bx.mono (by decide)⟩
theorem F4.tps {K : PySem.W.Frag} {H : Hp} {u v w t : V} {p q r x : Int × Int} (h : F4 K H u v w t p q r x) : Tps K H [u, v, w, t] ([p, q, r, x].map pl) := .cons h.tp (.cons h.tq (.cons h.tr (.cons h.tx .nil)))
theorem F4.nd {K : PySem.W.Frag} {H : Hp} {u v w t : V} {p q r x : Int × Int} (h : F4 K H u v w t p q r x) : [p, q, r].Nodup := by
  simp only [List.nodup_cons, List.mem_cons, List.not_mem_nil, or_false, not_or, not_false_eq_true, List.nodup_nil, and_true]
  exact ⟨⟨h.un.pq, h.un.pr⟩, h.un.qr⟩
def spCheckThree (K : PySem.W.Frag) : Sp := fun vs H Q _ => ∃ (u v w t : V) (p q r x : Int × Int), vs = [u, v, w, t] ∧ F4 K H u v w t p q r x ∧ ∀ H', Same H H' → Q .non H'
def spCross (K : PySem.W.Frag) : Sp := fun vs H Q _ => ∃ (u v w t : V) (p q r x : Int × Int), vs = [u, v, w, t] ∧ F4 K H u v w t p q r x ∧ Out K H (pl (cr p q r x)) Q
def spFourth (K : PySem.W.Frag) : Sp := fun vs H Q _ => ∃ (u v w t : V) (p q r x : Int × Int), vs = [u, v, w, t] ∧ F4 K H u v w t p q r x ∧ Out K H (pl (fo p q r x)) Q
theorem bd_base {k : Nat} {p q r : Int × Int} (h : Un3 p q r) (hp : BdPt k p) (hq : BdPt k q) (hr : BdPt k r) : BdC (k + (k + k + 1)) (nch (base3 p q r)) := (BdC.base hp hq hr).nch h.det
theorem bd_cr {k j : Nat} {p q r x : Int × Int} (h : Un3 p q r) (gx : GoodPt x) (hp : BdPt k p) (hq : BdPt k q) (hr : BdPt k r) (hx : BdPt j x) : BdPt (k + (k + k + 1) + j + 1) (cr p q r x) :=
  BdPt.mv (bd_base h hp hq hr) hx (nch_goodC h.det).det gx
theorem det_fo {p q r : Int × Int} (h : Un3 p q r) : (adj (nch (base3 p q r))).det ≠ 0 := by rw [det_adj]; exact (nch_goodC h.det).det
theorem bd_fo {k j : Nat} {p q r x : Int × Int} (h : Un3 p q r) (gx : GoodPt x) (hp : BdPt k p) (hq : BdPt k q) (hr : BdPt k r) (hx : BdPt j x) : BdPt (k + (k + k + 1) + j + 1) (fo p q r x) :=
  BdPt.mv ((bd_base h hp hq hr).adj.nch (det_fo h)) hx (nch_goodC (det_fo h)).det gx
/-- four points drawn -/
structure D4 (K : PySem.W.Frag) (H : Hp) (u v w t : V) (p q r x : Int × Int) : Prop where
  tp : Tp K H u (pl p)
  tq : Tp K H v (pl q)
  tr : Tp K H w (pl r)
  tx : Tp K H t (pl x)
  un : Un4 p q r x
  bp : BdPt 10 p
  bq : BdPt 10 q
  br : BdPt 10 r
  bx : BdPt 10 x
theorem D4.mono {K : PySem.W.Frag} {H H' : Hp} {u v w t : V} {p q r x : Int × Int} (h : D4 K H u v w t p q r x) (g : Same H H') : D4 K H' u v w t p q r x :=
  ⟨h.tp.mono g, h.tq.mono g, h.tr.mono g, h.tx.mono g, h.un, h.bp, h.bq, h.br, h.bx⟩
theorem D4.f4 {K : PySem.W.Frag} {H : Hp} {u v w t : V} {p q r x : Int × Int} (h : D4 K H u v w t p q r x) : F4 K H u v w t p q r x :=
  ⟨h.tp, h.tq, h.tr, h.tx, h.un.toUn3, h.un.gx, h.bp.mono (by decide), h.bq.mono (by decide), h.br.mono (by decide), h.bx.mono (by decide)⟩
theorem un4_of {p q r x : Int × Int} (hg : ∀ y ∈ [p, q, r, x], GoodPt y) (hn : [p, q, r, x].Nodup) : Un4 p q r x := by
  simp only [List.nodup_cons, List.mem_cons, List.not_mem_nil, or_false, not_or] at hn
  exact ⟨⟨hg p (by simp), hg q (by simp), hg r (by simp), hn.1.1, hn.1.2.1, hn.2.1.1⟩, hg x (by simp), fun e => hn.1.2.2 e.symm, fun e => hn.2.1.2 e.symm, fun e => hn.2.2.1 e.symm⟩
theorem drawn4 {K : PySem.W.Frag} {H : Hp} {ws : List V} {ps : List (Int × Int)} (ht : Tps K H ws (ps.map pl)) (nd : ps.Nodup) (hl : (ps.length : Int) = 4) (hg : ∀ p ∈ ps, GoodPt p ∧ BdPt 10 p) :
    ∃ u v w t p q r x, ws = [u, v, w, t] ∧ ps = [p, q, r, x] ∧ D4 K H u v w t p q r x := by
  have hl' : ps.length = 4 := by omega
  match ps, hl' with
  | [p, q, r, x], _ =>
    cases ht with
    | cons t1 ht =>
      cases ht with
      | cons t2 ht =>
        cases ht with
        | cons t3 ht =>
          cases ht with
          | cons t4 ht =>
            cases ht
            exact ⟨_, _, _, _, p, q, r, x, rfl, rfl, t1, t2, t3, t4, un4_of (fun y hy => (hg y hy).1) nd, (hg p (by simp)).2, (hg q (by simp)).2, (hg r (by simp)).2, (hg x (by simp)).2⟩
theorem drawn3 {K : PySem.W.Frag} {H : Hp} {ws : List V} {ps : List (Int × Int)} (ht : Tps K H ws (ps.map pl)) (nd : ps.Nodup) (hl : (ps.length : Int) = 3) (hg : ∀ p ∈ ps, GoodPt p ∧ BdPt 10 p) :
    ∃ u v w p q r, ws = [u, v, w] ∧ ps = [p, q, r] ∧ Tp K H u (pl p) ∧ Tp K H v (pl q) ∧ Tp K H w (pl r) ∧ Un3 p q r ∧ BdPt 10 p ∧ BdPt 10 q ∧ BdPt 10 r := by
  have hl' : ps.length = 3 := by omega
  match ps, hl' with
  | [p, q, r], _ =>
    cases ht with
    | cons t1 ht =>
      cases ht with
      | cons t2 ht =>
        cases ht with
        | cons t3 ht =>
          cases ht
          simp only [List.nodup_cons, List.mem_cons, List.not_mem_nil, or_false, not_or] at nd
          exact ⟨_, _, _, p, q, r, rfl, rfl, t1, t2, t3, ⟨(hg p (by simp)).1, (hg q (by simp)).1, (hg r (by simp)).1, nd.1.1, nd.1.2, nd.2.1⟩, (hg p (by simp)).2, (hg q (by simp)).2, (hg r (by simp)).2⟩
theorem drawn2 {K : PySem.W.Frag} {H : Hp} {ws : List V} {ps : List (Int × Int)} (ht : Tps K H ws (ps.map pl)) (nd : ps.Nodup) (hl : (ps.length : Int) = 2) (hg : ∀ p ∈ ps, GoodPt p ∧ BdPt 10 p) :
    ∃ u v p q, ws = [u, v] ∧ ps = [p, q] ∧ Tp K H u (pl p) ∧ Tp K H v (pl q) ∧ GoodPt p ∧ GoodPt q ∧ p ≠ q ∧ BdPt 10 p ∧ BdPt 10 q := by
  have hl' : ps.length = 2 := by omega
  match ps, hl' with
  | [p, q], _ =>
    cases ht with
    | cons t1 ht =>
      cases ht with
      | cons t2 ht =>
        cases ht
        simp only [List.nodup_cons, List.mem_cons, List.not_mem_nil, or_false, not_or] at nd
        exact ⟨_, _, p, q, rfl, rfl, t1, t2, (hg p (by simp)).1, (hg q (by simp)).1, nd.1, (hg p (by simp)).2, (hg q (by simp)).2⟩
/-- a list of three tuples, just made -/
theorem lts3 {K : PySem.W.Frag} {H : Hp} {l : Addr} {u v w : V} {a b c : List Int} (e : H l = some (.lst [u, v, w])) (h1 : Tp K H u a) (h2 : Tp K H v b) (h3 : Tp K H w c) : Lts K H (.ref l) [a, b, c] :=
  ⟨l, _, rfl, SqL.of e, .cons h1 (.cons h2 (.cons h3 .nil))⟩
end Cs
namespace Cs
open PySem PySem.Spec PyProof.Rows L2 L3 Mx
theorem f4_of {K : PySem.W.Frag} {H : Hp} {u v w t : V} {p q r x : Int × Int} {j : Nat} (tp : Tp K H u (pl p)) (tq : Tp K H v (pl q)) (tr : Tp K H w (pl r)) (tx : Tp K H t (pl x)) (un : Un3 p q r) (gx : GoodPt x) (bp : BdPt 10 p) (bq : BdPt 10 q) (br : BdPt 10 r) (bx : BdPt j x) (hj : j ≤ 1900) : F4 K H u v w t p q r x :=
  ⟨tp, tq, tr, tx, un, gx, bp.mono (by decide), bq.mono (by decide), br.mono (by decide), bx.mono hj⟩
theorem toldL3 {p q r p' q' r' : Int × Int} (h : Un3 p q r) (h' : Un3 p' q' r') : toldL [p, q, r] [p', q', r'] = some (told3 p q r p' q' r') := by
  obtain ⟨l1, l2, l3⟩ := (un3_unlike h).leads (un3_unlike h')
  rw [toldL_cons, if_pos]
  simp only [List.map_cons, List.map_nil, l1, l2, l3]
theorem toldL4 {p q r x p' q' r' x' : Int × Int} (h : Un3 p q r) (h' : Un3 p' q' r') : toldL [p, q, r, x] [p', q', r', x'] = if mv (told3 p q r p' q' r') x = x' then some (told3 p q r p' q' r') else none := by
  obtain ⟨l1, l2, l3⟩ := (un3_unlike h).leads (un3_unlike h')
  rw [toldL_cons]
  simp only [List.map_cons, List.map_nil, l1, l2, l3, List.cons.injEq, true_and, and_true]
theorem goodL_of {ps : List (Int × Int)} (h : ∀ p ∈ ps, GoodPt p ∧ BdPt 10 p) : GoodL ps := fun p hp => ⟨(h p hp).1, (h p hp).2.mono (by decide)⟩
end Cs
namespace Cs
open PySem PySem.Spec PyProof.Rows L2 L3 Mx
theorem nd3 {p q r : Int × Int} (h : Un3 p q r) : [p, q, r].Nodup := by
  simp only [List.nodup_cons, List.mem_cons, List.not_mem_nil, or_false, not_or, not_false_eq_true, List.nodup_nil, and_true]
  exact ⟨⟨h.pq, h.pr⟩, h.qr⟩
theorem nd4 {p q r x : Int × Int} (h : Un4 p q r x) : [p, q, r, x].Nodup := by
  simp only [List.nodup_cons, List.mem_cons, List.not_mem_nil, or_false, not_or, not_false_eq_true, List.nodup_nil, and_true]
  exact ⟨⟨h.pq, h.pr, h.xp.symm⟩, ⟨h.qr, h.xq.symm⟩, h.xr.symm⟩
theorem goodL3 {p q r : Int × Int} {j : Nat} (h : Un3 p q r) (hj : j ≤ 200) (bp : BdPt j p) (bq : BdPt j q) (br : BdPt j r) : GoodL [p, q, r] := fun y hy => by
  simp only [List.mem_cons, List.not_mem_nil, or_false] at hy
  rcases hy with rfl | rfl | rfl
  · exact ⟨h.gp, bp.mono hj⟩
  · exact ⟨h.gq, bq.mono hj⟩
  · exact ⟨h.gr, br.mono hj⟩
theorem goodL4 {p q r x : Int × Int} {j : Nat} (h : Un4 p q r x) (hj : j ≤ 200) (bp : BdPt j p) (bq : BdPt j q) (br : BdPt j r) (bx : BdPt j x) : GoodL [p, q, r, x] := fun y hy => by
  simp only [List.mem_cons, List.not_mem_nil, or_false] at hy
  rcases hy with rfl | rfl | rfl | rfl
  · exact ⟨h.gp, bp.mono hj⟩
  · exact ⟨h.gq, bq.mono hj⟩
  · exact ⟨h.gr, br.mono hj⟩
  · exact ⟨h.gx, bx.mono hj⟩
end Cs

namespace Lw
open PySem PySem.Spec PyProof.Rows L2 L3 Mx Cs
local macro_rules | `(tactic| walk_at "rd") => `(tactic| simp only [tSeq, tNext, tAsg, gName, tVar, tC, tCB, tCons, tNil, tOp, tUn, rI, rI0, rU, tRet, tIfS, tTest, tTup, tLst, tCall, tNot, tAnd, tOr, tIf, tDrop, tAndV, tOrV, tNotV, tNever, rIsB, rAllB, rInT, Bool.not_true, Bool.not_false, tB, tYes, rEq, rNe, scal_int, scal_bl, scal_str, rIxTI, rIxLI, rEqT, rEqLT, rIxL, tLenSet, gTupL, rIxT, V.str.injEq, tSl, tPart, tNoPart, rSlL, cxOf_K, rSetL, gSub, gTup, gCons, gNil, rReverse, rAppend, tBM, tBM0, rCat, List.map_cons, CDiv, cDiv, cMul, CPow, List.getElem?_cons_zero, List.getElem?_cons_succ, List.set_cons_zero, List.set_cons_succ, List.cons_append, List.nil_append, List.append_nil, Option.some.injEq, V.int.injEq, V.ref.injEq, V.bl.injEq, V.ty.injEq, List.cons.injEq, exists_and_left, exists_eq_left', exists_eq_left, and_true, true_and, Option.join_some, capσ, eq_self, if_true, if_false, Bool.false_eq_true, decide_eq_true_eq, Bool.not_eq_true', decide_eq_false_iff_not, L2.start, List.map_cons, List.map_nil, List.length_cons, List.length_nil, List.replicate_succ, List.replicate_zero, Nat.reduceAdd, Nat.reduceSub, Nat.zero_add, List.replicate])
def top (i : Nat) : Stmt := PySem.Challenge.pw_crossline_k08_whole_kept_behind_every_ch.main.body.getD i (.Pass ⟨0, 0, 0, 0⟩)
abbrev s__law_cell_at : Stmt := top 31
abbrev s__law_next : Stmt := top 32
abbrev s__law_stir : Stmt := top 35
abbrev s__law_common : Stmt := top 33
abbrev s__law_plain : Stmt := top 38
abbrev s__law_turning : Stmt := top 41
abbrev s__law_after : Stmt := top 39
abbrev s__law_back : Stmt := top 42
abbrev s__law_change : Stmt := top 43
abbrev s__law_point : Stmt := top 34
abbrev s__law_drawn_point : Stmt := top 36
abbrev s__law_some_points : Stmt := top 37
abbrev s_common_divisor : Stmt := top 7
abbrev s_lowest_point : Stmt := top 8
abbrev s_is_point : Stmt := top 9
abbrev s_check_point : Stmt := top 10
abbrev s_unlike : Stmt := top 23
abbrev s_check_three : Stmt := top 27
abbrev s_lowest_change : Stmt := top 14
abbrev s_is_change : Stmt := top 15
abbrev s_check_change : Stmt := top 16
abbrev s_moved : Stmt := top 17
abbrev s_gap : Stmt := top 21
abbrev s_to_base : Stmt := top 22
abbrev s_cross : Stmt := top 28
abbrev s_back : Stmt := top 20
abbrev s_fourth : Stmt := top 29
abbrev s_check_told : Stmt := top 24
abbrev s_joined : Stmt := top 18
abbrev s_after : Stmt := top 19
abbrev s_told_by : Stmt := top 25
abbrev s_law : Stmt := top 44
section
variable {P : Program} {w : World} {K : PySem.W.Frag} {mg : Str → Option Value} {base : Heap}
theorem sc__law_cell_at : FnScope ["script", "k"] ["script", "k"] (defScope s__law_cell_at) := ⟨rfl, rfl, rfl, by decide +kernel, rfl, by decide +kernel, by decide +kernel⟩
set_option maxHeartbeats 4000000 in
theorem cal__law_cell_at (F : Def K mg "_law_cell_at" s__law_cell_at ["script", "k"]) (B : Blt mg) : Cal P w K mg base 1 "_law_cell_at" ["script", "k"] (spCell K) := by
  refine F.cal (k := 0) sc__law_cell_at (fun vs H Q E h => ?_) (fun f cdv A outer s H vs Q E hr h => ?_)
  · obtain ⟨a, ns, k, rfl, hq, hk, q⟩ := h
    rfl
  obtain ⟨a, ns, k, rfl, hq, hk, q⟩ := h
  have hu := hr.units
  have hu8 : (A.deeper (envOfC "_law_cell_at" (defScope s__law_cell_at) s.heap.objs.size f cdv)).units + 80 < cLine := by have := hr.un; omega
  refine ⟨_, (pss_cons (ps_if (pt_cmpR op_lt (pv 1) (pe_callB call_len_seq rfl B.len bt_len (pa_cons (pv 0) pa_nil)) (nomark _)) (pss_one (ps_ret (pe_ix ix_lstI (pv 0) (pv 1) (fun _ _ => rfl)))) pss_nil)
      (pss_one (ps_ret pe_int))), ?_⟩
  walk_at "rd"
  refine ⟨_, .inl hq, ?_⟩
  rw [List.length_map]
  refine ite2 (fun c => ?_) (fun c => ?_)
  · exact ⟨ns, ⟨a, rfl, hq⟩, _, cell_at hk c, q⟩
  · rw [cell_no (by omega)] at q
    exact q
theorem sc__law_next : FnScope ["script", "spot"] ["script", "spot"] (defScope s__law_next) := ⟨rfl, rfl, rfl, by decide +kernel, rfl, by decide +kernel, by decide +kernel⟩
set_option maxHeartbeats 4000000 in
theorem cal__law_next (F : Def K mg "_law_next" s__law_next ["script", "spot"]) (C__law_cell_at : Cal P w K mg base 1 "_law_cell_at" ["script", "k"] (spCell K)) : Cal P w K mg base 2 "_law_next" ["script", "spot"] (spNext K) := by
  refine F.cal (k := 1) sc__law_next (fun vs H Q E h => ?_) (fun f cdv A outer s H vs Q E hr h => ?_)
  · obtain ⟨a, b, ns, k, rfl, hs, hb, hk, q⟩ := h
    rfl
  obtain ⟨a, b, ns, k, rfl, hs, hb, hk, q⟩ := h
  have hu := hr.units
  have hu8 : (A.deeper (envOfC "_law_next" (defScope s__law_next) s.heap.objs.size f cdv)).units + 80 < cLine := by have := hr.un; omega
  refine ⟨_, (pss_cons (ps_asg (pe_op op_add (pe_ix ix_lstI (pv 1) pe_int (fun _ _ => rfl)) pe_int) (pg_sub (pv 1) pe_int set_list))
      (pss_one (ps_ret (pe_callC C__law_cell_at hr (pa_cons (pv 0) (pa_cons (pe_op op_sub (pe_ix ix_lstI (pv 1) pe_int (fun _ _ => rfl)) pe_int) pa_nil)))))), ?_⟩
  walk_at "rd"
  refine ⟨[k], ⟨b, rfl, SqL.of hb⟩, _, at0 _ _, _, hb, 0, rfl, ?_⟩
  refine ⟨[k + 1], ⟨b, rfl, SqL.of upd_same⟩, _, at0 _ _, ?_⟩
  refine ⟨a, ns, k + 1 - 1, rfl, (hs.upd hb).seq, by omega, ?_⟩
  have e : k + 1 - 1 = k := by omega
  rw [e]
  exact q
theorem sc__law_stir : FnScope ["seed"] ["seed"] (defScope s__law_stir) := ⟨rfl, rfl, rfl, by decide +kernel, rfl, by decide +kernel, by decide +kernel⟩
set_option maxHeartbeats 4000000 in
theorem cal__law_stir (F : Def K mg "_law_stir" s__law_stir ["seed"]) : Cal P w K mg base 1 "_law_stir" ["seed"] spStir := by
  refine F.cal (k := 0) sc__law_stir (fun vs H Q E h => ?_) (fun f cdv A outer s H vs Q E hr h => ?_)
  · obtain ⟨c, rfl, q⟩ := h
    rfl
  obtain ⟨c, rfl, q⟩ := h
  have hu := hr.units
  have hu8 : (A.deeper (envOfC "_law_stir" (defScope s__law_stir) s.heap.objs.size f cdv)).units + 80 < cLine := by have := hr.un; omega
  refine ⟨_, (pss_cons (ps_set (i := 0) sc__law_stir.nd rfl (Or.inl rfl) (pe_op op_mod (pe_op op_add (pv 0) pe_int) pe_int))
      (pss_one (ps_ret (pe_op op_mod (pe_op op_add (pe_op op_add (pe_op op_mulB (pv 0) (pv 0)) (pe_op op_mulB pe_int (pv 0))) pe_int) pe_int)))), ?_⟩
  have h0 : 0 ≤ (c + 7919) % 2147483647 := Int.emod_nonneg _ (by decide)
  have h1 : (c + 7919) % 2147483647 < 2147483647 := Int.emod_lt_of_pos _ (by decide)
  have hb : Bd 100000 ((c + 7919) % 2147483647) := Bd.mono (j := 31) (Bd.lit (by omega)) (by decide)
  walk_at "rd"
  exact ⟨by decide, ⟨hb, hb⟩, ⟨Bd.mono (j := 31) (Bd.lit (by decide)) (by decide), hb⟩, by decide, q⟩
theorem sc__law_common : FnScope ["one", "other", "rest"] ["one", "other"] (defScope s__law_common) := ⟨rfl, rfl, rfl, by decide +kernel, rfl, by decide +kernel, by decide +kernel⟩
set_option maxHeartbeats 4000000 in
theorem cal__law_common (F : Def K mg "_law_common" s__law_common ["one", "other"]) (B : Blt mg) : Cal P w K mg base 1 "_law_common" ["one", "other"] spGcd := by
  refine F.cal (k := 0) sc__law_common (fun vs H Q E h => ?_) (fun f cdv A outer s H vs Q E hr h => ?_)
  · obtain ⟨a, b, rfl, q⟩ := h
    rfl
  obtain ⟨a, b, rfl, q⟩ := h
  have hu := hr.units
  have hu8 : (A.deeper (envOfC "_law_common" (defScope s__law_common) s.heap.objs.size f cdv)).units + 80 < cLine := by have := hr.un; omega
  refine ⟨_, (pss_cons (ps_set (i := 0) sc__law_common.nd rfl (Or.inl rfl) (pe_callB call_absN rfl B.abs bt_abs (pa_cons (pv 0) pa_nil)))
      (pss_cons (ps_set (i := 1) sc__law_common.nd rfl (Or.inl rfl) (pe_callB call_absN rfl B.abs bt_abs (pa_cons (pv 1) pa_nil)))
      (pss_cons (ps_while PassesOwn.never (pt_cmpR op_gt (pv 1) pe_int (nomark _)) (pss_cons (ps_set (i := 2) sc__law_common.nd rfl (Or.inl rfl) (pe_op op_modN (pv 0) (pv 1)))
      (pss_cons (ps_set (i := 0) sc__law_common.nd rfl (Or.inl rfl) (pv 1))
      (pss_one (ps_set (i := 1) sc__law_common.nd rfl (Or.inl rfl) (pv 2))))))
      (pss_one (ps_ret (pv 0)))))), ?_⟩
  walk_at "rd"
  refine while_of (fun n σ H' => ∃ (l s : Int) (r : Option V), σ = [some (.int l), some (.int s), r] ∧ 0 ≤ l ∧ 0 ≤ s ∧ Int.gcd l s = Int.gcd a b ∧ H' = H ∧ n = s.toNat) _
    ⟨_, _, _, rfl, by omega, by omega, rfl, rfl, rfl⟩ ?_
  rintro W' hW n σ H' ⟨l, s, r, rfl, hl, hs, hg, rfl, rfl⟩
  walk_at "rd"
  refine ite2 (fun c => ?_) (fun c => ?_)
  · refine ⟨fun σ' H' => ∃ m', m' < s.toNat ∧ W' m' σ' H', fun σ' H' h => h, ?_⟩
    have c' : s ≠ 0 := by omega
    obtain ⟨m0, m1⟩ := fmod_natAbs_lt hl hs c'
    walk_at "rd"
    exact ⟨c', _, (by omega : (l.fmod s).toNat < s.toNat), hW _ _ _ ⟨_, _, _, rfl, hs, m0, by rw [gcd_step c']; exact hg, rfl, rfl⟩⟩
  · have : s = 0 := by omega
    subst this
    have e : ((Int.gcd l 0 : Nat) : Int) = l := by simp; omega
    rw [← hg, e] at q
    exact q
theorem sc__law_plain : FnScope ["numbers", "both", "number"] ["numbers"] (defScope s__law_plain) := ⟨rfl, rfl, rfl, by decide +kernel, rfl, by decide +kernel, by decide +kernel⟩
set_option maxHeartbeats 4000000 in
theorem cal__law_plain (F : Def K mg "_law_plain" s__law_plain ["numbers"]) (C__law_common : Cal P w K mg base 1 "_law_common" ["one", "other"] spGcd) (B : Blt mg) : Cal P w K mg base 2 "_law_plain" ["numbers"] (spPlain K) := by
  refine F.cal (k := 1) sc__law_plain (fun vs H Q E h => ?_) (fun f cdv A outer s H vs Q E hr h => ?_)
  · obtain ⟨a, m, rfl, hq, hd, hb, q⟩ := h
    rfl
  obtain ⟨a, m, rfl, hq, hd, hb, q⟩ := h
  have hu := hr.units
  have hu8 : (A.deeper (envOfC "_law_plain" (defScope s__law_plain) s.heap.objs.size f cdv)).units + 80 < cLine := by have := hr.un; omega
  refine ⟨_, (pss_cons (ps_set (i := 1) sc__law_plain.nd rfl (Or.inr rfl) pe_int)
      (pss_cons (ps_for PassesOwn.never rfl (pi_list (pv 0)) (pg_name (i := 2) sc__law_plain.nd rfl (Or.inl rfl)) (pss_one (ps_set (i := 1) sc__law_plain.nd rfl (Or.inr rfl) (pe_callC C__law_common hr (pa_cons (pv 1) (pa_cons (pv 2) pa_nil))))))
      (pss_cons (ps_if (pt_cmpR op_lt (pe_ix ix_lstI (pe_comp [] (sc := defScope s__law_plain) (cn := []) rfl ⟨rfl, by decide +kernel, rfl, by decide +kernel, by decide +kernel, by decide +kernel, by decide +kernel⟩ rfl rfl (pi_list (pv 0)) (fun _ _ _ _ _ => pq_one (pt_cmpR op_ne (pv 0) pe_int (nomark _))) (fun _ _ _ _ _ => (pv 0))) pe_int (fun _ _ => rfl)) pe_int (nomark _)) (pss_one (ps_set (i := 1) sc__law_plain.nd rfl (Or.inr rfl) (pe_un un_neg (pv 1)))) pss_nil)
      (pss_one (ps_ret (pe_callTy call_tuple_of rfl B.tuple bt_tuple (pa_cons (pe_comp [1] (sc := defScope s__law_plain) (cn := ["both"]) rfl ⟨rfl, by decide +kernel, rfl, by decide +kernel, by decide +kernel, by decide +kernel, by decide +kernel⟩ rfl rfl (pi_list (pv 0)) (fun _ _ _ _ _ => pq_nil) (fun _ _ _ _ _ => (pe_op op_fdivB (pv 0) (pv 1)))) pa_nil))))))), ?_⟩
  obtain ⟨g, hge⟩ : ∃ g, g = if (if m.a ≠ 0 then m.a else m.b) < 0 then -(g4 m) else g4 m := ⟨_, rfl⟩
  have hg : g ≠ 0 := by have := g4_ne hd; rw [hge]; split <;> omega
  have hbg : Bd 8000 g := by
    have h : Bd 8000 (g4 m) := (hb.gcd).mono (by decide)
    rw [hge]
    by_cases c : (if m.a ≠ 0 then m.a else m.b) < 0
    · rw [if_pos c]; exact h.neg
    · rw [if_neg c]; exact h
  have hf : cl (nch m) = (cl m).map (fun n => n.fdiv g) := by rw [hge]; rfl
  apply seq_det
  · intro k hk; walk_at "rd"; exact hk
  refine seq_by (fun σ H' => ∃ r : Option V, σ = [some (.ref a), some (.int (g4 m)), r] ∧ H' = H) (fun k hk => ?_) ?_
  · refine ⟨_, rfl, a, rfl, ⟨_, hq⟩, forL (xs := (cl m).map V.int) (fun i σ H' => ∃ (r : Option V), σ = [some (.ref a), some (.int (gI ((cl m).take i))), r] ∧ H' = H) ⟨_, rfl, rfl⟩ (fun i σ H' _ h => ?_) ?_ ?_⟩
    · obtain ⟨r, rfl, rfl⟩ := h
      exact hq
    · rintro Pv' hP i x σ H' hx ⟨r, rfl, rfl⟩
      obtain ⟨n, hn, rfl⟩ := map_at hx
      walk_at "rd"
      refine ⟨_, _, rfl, hP _ _ _ ⟨some (.int n), ?_, rfl⟩⟩
      rw [gI_step hn]
    · rintro σ H' ⟨r, rfl, rfl⟩
      exact hk _ _ ⟨r, rfl, rfl⟩
  rintro σ H' ⟨r, rfl, rfl⟩
  refine seq_by (fun σ H1 => σ = [some (.ref a), some (.int g), r] ∧ Same H' H1) (fun k hk => ?_) ?_
  · walk_at "rd"
    refine tcompL rfl hq (fun i acc H'' => acc = (((cl m).take i).filter fun n => decide (n ≠ 0)).map V.int ∧ H'' = H') ⟨rfl, rfl⟩ (fun i acc H'' hi h => ?_) ?_ ?_
    · obtain ⟨rfl, rfl⟩ := h
      refine ⟨hq, ?_⟩
      rw [List.length_map]
      exact Nat.le_trans (List.length_filter_le _ _) (by rw [List.length_take]; exact Nat.le_trans (Nat.min_le_right _ _) (by show 4 ≤ sizeLine; decide))
    · rintro i x acc H'' hx ⟨rfl, rfl⟩ R hR
      obtain ⟨n, hn, rfl⟩ := map_at hx
      walk_at "rd"
      refine ite2 (fun c => hR _ _ ⟨?_, rfl⟩) (fun c => hR _ _ ⟨?_, rfl⟩)
      · rw [List.take_add_one, hn]
        simp [c]
      · rw [List.take_add_one, hn]
        have c' : n = 0 := by simpa using c
        simp [c']
    · rintro acc H'' p ⟨rfl, rfl⟩ hp
      try walk_at "rd"
      refine ⟨_, Lp.of, _, first_filter (first_pos hd), ?_⟩
      refine ite2 (fun c => ?_) (fun c => ?_)
      · refine hk _ _ ⟨?_, same_new hp _⟩
        rw [hge, if_pos c]
      · refine hk _ _ ⟨?_, same_new hp _⟩
        rw [hge, if_neg c]
  rintro σ H1 ⟨rfl, g1⟩
  replace hq := g1.seq hq
  replace q := q.from g1

  walk_at "rd"
  refine tcompL rfl hq (fun i acc H'' => acc = ((cl m).take i).map (fun n => V.int (n.fdiv g)) ∧ H'' = H1) ⟨rfl, rfl⟩ (fun i acc H'' hi h => ?_) ?_ ?_
  · obtain ⟨rfl, rfl⟩ := h
    refine ⟨hq, ?_⟩
    rw [List.length_map, List.length_take]
    exact Nat.le_trans (Nat.min_le_right _ _) (by show 4 ≤ sizeLine; decide)
  · rintro i x acc H'' hx ⟨rfl, rfl⟩ R hR
    obtain ⟨n, hn, rfl⟩ := map_at hx
    simp only [capσ]
    walk_at "rd"
    refine ⟨⟨hg, hbg⟩, hR _ _ ⟨?_, rfl⟩⟩
    rw [List.take_add_one, hn]
    simp
  · rintro acc H'' p ⟨rfl, rfl⟩ hp
    walk_at "rd"
    refine ⟨_, .inl ⟨SqL.of upd_same, fun l hl => q _ _ (Same.trans (same_new hp _) (same_new hl _)) ⟨l, rfl, SqT.of ?_⟩⟩⟩
    rw [upd_same, hf, List.map_map]; rfl
theorem sc__law_turning : FnScope ["cell"] ["cell"] (defScope s__law_turning) := ⟨rfl, rfl, rfl, by decide +kernel, rfl, by decide +kernel, by decide +kernel⟩
set_option maxHeartbeats 4000000 in
theorem cal__law_turning (F : Def K mg "_law_turning" s__law_turning ["cell"]) : Cal P w K mg base 1 "_law_turning" ["cell"] (spTurning K) := by
  refine F.cal (k := 0) sc__law_turning (fun vs H Q E h => ?_) (fun f cdv A outer s H vs Q E hr h => ?_)
  · obtain ⟨c, rfl, q⟩ := h
    rfl
  obtain ⟨c, rfl, q⟩ := h
  have hu := hr.units
  have hu8 : (A.deeper (envOfC "_law_turning" (defScope s__law_turning) s.heap.objs.size f cdv)).units + 80 < cLine := by have := hr.un; omega
  refine ⟨_, (pss_one (ps_ret (pe_ix ix_list (pe_lst (pa_cons (pe_tup (pa_cons pe_int (pa_cons pe_int (pa_cons pe_int (pa_cons (pe_un un_neg pe_int) pa_nil))))) (pa_cons (pe_tup (pa_cons pe_int (pa_cons (pe_un un_neg pe_int) (pa_cons pe_int (pa_cons pe_int pa_nil))))) (pa_cons (pe_tup (pa_cons pe_int (pa_cons (pe_un un_neg pe_int) (pa_cons pe_int (pa_cons pe_int pa_nil))))) (pa_cons (pe_tup (pa_cons pe_int (pa_cons (pe_un un_neg pe_int) (pa_cons pe_int (pa_cons pe_int pa_nil))))) (pa_cons (pe_tup (pa_cons pe_int (pa_cons pe_int (pa_cons pe_int (pa_cons pe_int pa_nil))))) (pa_cons (pe_tup (pa_cons pe_int (pa_cons pe_int (pa_cons pe_int (pa_cons pe_int pa_nil))))) pa_nil))))))) (pe_op op_mod (pv 0) pe_int) (fun _ _ => rfl)))), ?_⟩
  have h0 := Int.emod_nonneg c (b := 6) (by decide)
  have h1 := Int.emod_lt_of_pos c (b := 6) (by decide)
  walk_at "rd"
  refine ⟨by show 4 ≤ sizeLine; decide, fun p0 n0 => ⟨by show 4 ≤ sizeLine; decide, fun p1 n1 => ⟨by show 4 ≤ sizeLine; decide, fun p2 n2 => ⟨by show 4 ≤ sizeLine; decide, fun p3 n3 => ⟨by show 4 ≤ sizeLine; decide, fun p4 n4 => ⟨by show 4 ≤ sizeLine; decide, fun p5 n5 =>
    ⟨by show 6 ≤ sizeLine; decide, fun l nl => ⟨by decide, ?_⟩⟩⟩⟩⟩⟩⟩⟩
  have g0 := same_new n0 (.tup [.int 1, .int 0, .int 0, .int (-1)])
  have g1 := same_new n1 (.tup [.int 0, .int (-1), .int 1, .int 1])
  have g2 := same_new n2 (.tup [.int 1, .int (-1), .int 1, .int 1])
  have g3 := same_new n3 (.tup [.int 1, .int (-1), .int 1, .int 2])
  have g4 := same_new n4 (.tup [.int 0, .int 1, .int 1, .int 0])
  have g5 := same_new n5 (.tup [.int 1, .int 1, .int 0, .int 1])
  have g6 := same_new nl (.lst [.ref p0, .ref p1, .ref p2, .ref p3, .ref p4, .ref p5])
  have g : Same H _ := g0.trans (g1.trans (g2.trans (g3.trans (g4.trans (g5.trans g6)))))
  have hc : c % 6 = 0 ∨ c % 6 = 1 ∨ c % 6 = 2 ∨ c % 6 = 3 ∨ c % 6 = 4 ∨ c % 6 = 5 := by omega
  rcases hc with e | e | e | e | e | e <;> rw [e]
  · exact ⟨_, SqL.of upd_same, _, rfl, q _ _ ⟨1, 0, 0, -1⟩ g ⟨p0, rfl, SqT.of (g6 _ _ (g5 _ _ (g4 _ _ (g3 _ _ (g2 _ _ (g1 _ _ upd_same))))))⟩ (by decide) ⟨by decide, by decide, by decide, by decide⟩⟩
  · exact ⟨_, SqL.of upd_same, _, rfl, q _ _ ⟨0, -1, 1, 1⟩ g ⟨p1, rfl, SqT.of (g6 _ _ (g5 _ _ (g4 _ _ (g3 _ _ (g2 _ _ upd_same)))))⟩ (by decide) ⟨by decide, by decide, by decide, by decide⟩⟩
  · exact ⟨_, SqL.of upd_same, _, rfl, q _ _ ⟨1, -1, 1, 1⟩ g ⟨p2, rfl, SqT.of (g6 _ _ (g5 _ _ (g4 _ _ (g3 _ _ upd_same))))⟩ (by decide) ⟨by decide, by decide, by decide, by decide⟩⟩
  · exact ⟨_, SqL.of upd_same, _, rfl, q _ _ ⟨1, -1, 1, 2⟩ g ⟨p3, rfl, SqT.of (g6 _ _ (g5 _ _ (g4 _ _ upd_same)))⟩ (by decide) ⟨by decide, by decide, by decide, by decide⟩⟩
  · exact ⟨_, SqL.of upd_same, _, rfl, q _ _ ⟨0, 1, 1, 0⟩ g ⟨p4, rfl, SqT.of (g6 _ _ (g5 _ _ upd_same))⟩ (by decide) ⟨by decide, by decide, by decide, by decide⟩⟩
  · exact ⟨_, SqL.of upd_same, _, rfl, q _ _ ⟨1, 1, 0, 1⟩ g ⟨p5, rfl, SqT.of (g6 _ _ upd_same)⟩ (by decide) ⟨by decide, by decide, by decide, by decide⟩⟩
theorem sc__law_after : FnScope ["one", "other", "rows"] ["one", "other"] (defScope s__law_after) := ⟨rfl, rfl, rfl, by decide +kernel, rfl, by decide +kernel, by decide +kernel⟩
set_option maxHeartbeats 4000000 in
theorem cal__law_after (F : Def K mg "_law_after" s__law_after ["one", "other"]) (C__law_plain : Cal P w K mg base 2 "_law_plain" ["numbers"] (spPlain K)) : Cal P w K mg base 3 "_law_after" ["one", "other"] (spLawAfter K) := by
  refine F.cal (k := 2) sc__law_after (fun vs H Q E h => ?_) (fun f cdv A outer s H vs Q E hr h => ?_)
  · obtain ⟨v, u, m, n, rfl, hv, hn, dm, dn, bm, bn, q⟩ := h
    rfl
  obtain ⟨v, u, m, n, rfl, hv, hn, dm, dn, bm, bn, q⟩ := h
  have hu := hr.units
  have hu8 : (A.deeper (envOfC "_law_after" (defScope s__law_after) s.heap.objs.size f cdv)).units + 80 < cLine := by have := hr.un; omega
  refine ⟨_, (pss_cons (ps_set (i := 2) sc__law_after.nd rfl (Or.inl rfl) (pe_lst (pa_cons (pe_op op_add (pe_op op_mulB (pe_ix ix_tupI (pv 0) pe_int (fun _ _ => rfl)) (pe_ix ix_tupI (pv 1) pe_int (fun _ _ => rfl))) (pe_op op_mulB (pe_ix ix_tupI (pv 0) pe_int (fun _ _ => rfl)) (pe_ix ix_tupI (pv 1) pe_int (fun _ _ => rfl)))) (pa_cons (pe_op op_add (pe_op op_mulB (pe_ix ix_tupI (pv 0) pe_int (fun _ _ => rfl)) (pe_ix ix_tupI (pv 1) pe_int (fun _ _ => rfl))) (pe_op op_mulB (pe_ix ix_tupI (pv 0) pe_int (fun _ _ => rfl)) (pe_ix ix_tupI (pv 1) pe_int (fun _ _ => rfl)))) pa_nil))))
      (pss_cons (ps_set (i := 2) sc__law_after.nd rfl (Or.inl rfl) (pe_op op_cat (pv 2) (pe_lst (pa_cons (pe_op op_add (pe_op op_mulB (pe_ix ix_tupI (pv 0) pe_int (fun _ _ => rfl)) (pe_ix ix_tupI (pv 1) pe_int (fun _ _ => rfl))) (pe_op op_mulB (pe_ix ix_tupI (pv 0) pe_int (fun _ _ => rfl)) (pe_ix ix_tupI (pv 1) pe_int (fun _ _ => rfl)))) (pa_cons (pe_op op_add (pe_op op_mulB (pe_ix ix_tupI (pv 0) pe_int (fun _ _ => rfl)) (pe_ix ix_tupI (pv 1) pe_int (fun _ _ => rfl))) (pe_op op_mulB (pe_ix ix_tupI (pv 0) pe_int (fun _ _ => rfl)) (pe_ix ix_tupI (pv 1) pe_int (fun _ _ => rfl)))) pa_nil)))))
      (pss_one (ps_ret (pe_callC C__law_plain hr (pa_cons (pv 2) pa_nil)))))), ?_⟩
  obtain ⟨a1, a2, a3, a4⟩ := bm.mono (show 1900 ≤ 100000 by decide)
  obtain ⟨b1, b2, b3, b4⟩ := bn.mono (show 1900 ≤ 100000 by decide)
  refine seq_by (fun σ H1 => ∃ p, σ = [some v, some u, some (.ref p)] ∧ H1 = upd H p (.lst [.int (m.a * n.a + m.c * n.b), .int (m.b * n.a + m.d * n.b)]) ∧ H p = none) (fun k hk => ?_) ?_
  · walk_at "rd"
    refine ⟨_, hv, _, at0 _ _, _, hn, _, at0 _ _, ⟨a1, b1⟩, _, hv, _, at2 _ _ _ _, _, hn, _, at1 _ _ _, ⟨a3, b2⟩, ?_⟩
    refine ⟨_, hv, _, at1 _ _ _, _, hn, _, at0 _ _, ⟨a2, b1⟩, _, hv, _, at3 _ _ _ _ _, _, hn, _, at1 _ _ _, ⟨a4, b2⟩, (by show 2 ≤ sizeLine; decide), fun p hp => hk _ _ ⟨p, rfl, rfl, hp⟩⟩
  rintro σ H1 ⟨p, rfl, rfl, hp⟩
  have g1 : Same H (upd H p (.lst [.int (m.a * n.a + m.c * n.b), .int (m.b * n.a + m.d * n.b)])) := same_new hp _
  refine seq_by (fun σ H2 => ∃ l, σ = [some v, some u, some (.ref l)] ∧ H2 l = some (.lst ((cl (mul m n)).map V.int)) ∧ Same H H2) (fun k hk => ?_) ?_
  · have hv1 := hv.mono g1
    have hn1 := hn.mono g1
    walk_at "rd"
    refine ⟨_, hv1, _, at0 _ _, _, hn1, _, at2 _ _ _ _, ⟨a1, b3⟩, _, hv1, _, at2 _ _ _ _, _, hn1, _, at3 _ _ _ _ _, ⟨a3, b4⟩, ?_⟩
    refine ⟨_, hv1, _, at1 _ _ _, _, hn1, _, at2 _ _ _ _, ⟨a2, b3⟩, _, hv1, _, at3 _ _ _ _ _, _, hn1, _, at3 _ _ _ _ _, ⟨a4, b4⟩, (by show 2 ≤ sizeLine; decide), fun p2 hp2 => ?_⟩
    refine ⟨_, (same_new hp2 _) _ _ upd_same, _, upd_same, (by show 4 ≤ sizeLine; decide), fun l hl => hk _ _ ⟨l, rfl, ?_, g1.trans ((same_new hp2 _).trans (same_new hl _))⟩⟩
    rw [upd_same]
    simp only [cl, mul, List.map_cons, List.map_nil, List.cons_append, List.nil_append, Int.mul_comm]
  rintro σ H2 ⟨l, rfl, hl, g2⟩
  walk_at "rd"
  exact ⟨l, mul m n, rfl, SqL.of hl, mul_ne dm dn, (bm.mul bn).mono (by decide), q.from g2⟩
theorem sc__law_back : FnScope ["change"] ["change"] (defScope s__law_back) := ⟨rfl, rfl, rfl, by decide +kernel, rfl, by decide +kernel, by decide +kernel⟩
set_option maxHeartbeats 4000000 in
theorem cal__law_back (F : Def K mg "_law_back" s__law_back ["change"]) (C__law_plain : Cal P w K mg base 2 "_law_plain" ["numbers"] (spPlain K)) : Cal P w K mg base 3 "_law_back" ["change"] (spLawBack K) := by
  refine F.cal (k := 2) sc__law_back (fun vs H Q E h => ?_) (fun f cdv A outer s H vs Q E hr h => ?_)
  · obtain ⟨v, m, rfl, hv, dm, bm, q⟩ := h
    rfl
  obtain ⟨v, m, rfl, hv, dm, bm, q⟩ := h
  have hu := hr.units
  have hu8 : (A.deeper (envOfC "_law_back" (defScope s__law_back) s.heap.objs.size f cdv)).units + 80 < cLine := by have := hr.un; omega
  refine ⟨_, (pss_one (ps_ret (pe_callC C__law_plain hr (pa_cons (pe_lst (pa_cons (pe_ix ix_tupI (pv 0) pe_int (fun _ _ => rfl)) (pa_cons (pe_un un_neg (pe_ix ix_tupI (pv 0) pe_int (fun _ _ => rfl))) (pa_cons (pe_un un_neg (pe_ix ix_tupI (pv 0) pe_int (fun _ _ => rfl))) (pa_cons (pe_ix ix_tupI (pv 0) pe_int (fun _ _ => rfl)) pa_nil))))) pa_nil)))), ?_⟩
  walk_at "rd"
  refine ⟨_, hv, _, at3 _ _ _ _ _, _, hv, _, at1 _ _ _, _, hv, _, at2 _ _ _ _, _, hv, _, at0 _ _, (by show 4 ≤ sizeLine; decide), fun p hp => ?_⟩
  exact ⟨p, adj m, rfl, SqL.of upd_same, by rw [det_adj]; exact dm, (bm.adj).mono (by decide), q.from (same_new hp _)⟩
theorem sc__law_change : FnScope ["script", "spot", "cell", "wide", "numbers", "k", "seed", "rest", "found", "turning"] ["script", "spot"] (defScope s__law_change) := ⟨rfl, rfl, rfl, by decide +kernel, rfl, by decide +kernel, by decide +kernel⟩
set_option maxHeartbeats 4000000 in
theorem cal__law_change (F : Def K mg "_law_change" s__law_change ["script", "spot"]) (C__law_next : Cal P w K mg base 3 "_law_next" ["script", "spot"] (spNext K)) (C__law_stir : Cal P w K mg base 3 "_law_stir" ["seed"] spStir) (C__law_plain : Cal P w K mg base 3 "_law_plain" ["numbers"] (spPlain K)) (C__law_turning : Cal P w K mg base 3 "_law_turning" ["cell"] (spTurning K)) (C__law_after : Cal P w K mg base 3 "_law_after" ["one", "other"] (spLawAfter K)) (C__law_back : Cal P w K mg base 3 "_law_back" ["change"] (spLawBack K)) (B : Blt mg) : Cal P w K mg base 4 "_law_change" ["script", "spot"] (spLawChange K) := by
  refine F.cal (k := 3) sc__law_change (fun vs H Q E h => ?_) (fun f cdv A outer s H vs Q E hr h => ?_)
  · obtain ⟨a, b, ns, kk, rfl, hs, hb, hk0, q⟩ := h
    rfl
  obtain ⟨a, b, ns, kk, rfl, hs, hb, hk0, q⟩ := h
  have hu := hr.units
  have hu8 : (A.deeper (envOfC "_law_change" (defScope s__law_change) s.heap.objs.size f cdv)).units + 80 < cLine := by have := hr.un; omega
  refine ⟨_, (pss_cons (ps_set (i := 2) sc__law_change.nd rfl (Or.inl rfl) (pe_callC C__law_next hr (pa_cons (pv 0) (pa_cons (pv 1) pa_nil))))
      (pss_cons (ps_set (i := 3) sc__law_change.nd rfl (Or.inl rfl) (pe_ix ix_lstI (pe_lst (pa_cons pe_int (pa_cons pe_int (pa_cons pe_int (pa_cons pe_int pa_nil))))) (pe_op op_mod (pv 2) pe_int) (fun _ _ => rfl)))
      (pss_cons (ps_set (i := 4) sc__law_change.nd rfl (Or.inl rfl) (pe_lst pa_nil))
      (pss_cons (ps_for PassesOwn.never rfl (pi_range1 rfl B.range (pa_cons pe_int pa_nil)) (pg_name (i := 5) sc__law_change.nd rfl (Or.inl rfl)) (pss_cons (ps_set (i := 6) sc__law_change.nd rfl (Or.inl rfl) (pe_callC C__law_stir hr (pa_cons (pe_op op_add (pv 2) (pe_op op_mulB pe_int (pv 5))) pa_nil)))
      (pss_one (ps_expr (pe_bm PySem.F.plainAttrs_list PySem.F.slot_list_append PySem.F.type_list_append mt_append (pv 4) (pa_cons (pe_op op_sub (pe_op op_mod (pe_op op_fdiv (pe_callC C__law_stir hr (pa_cons (pv 6) pa_nil)) pe_int) (pe_op op_add (pe_op op_mulB pe_int (pv 3)) pe_int)) (pv 3)) pa_nil))))))
      (pss_cons (ps_if (pt_cmpR op_eq (pe_op op_mod (pe_op op_fdiv (pv 2) pe_int) pe_int) pe_int (nomark _)) (pss_cons (ps_set (i := 7) sc__law_change.nd rfl (Or.inl rfl) (pe_op op_fdiv (pv 2) pe_int))
      (pss_one (ps_set (i := 4) sc__law_change.nd rfl (Or.inl rfl) (pe_lst (pa_cons (pe_op op_sub (pe_op op_mod (pv 7) pe_int) pe_int) (pa_cons (pe_op op_sub (pe_op op_mod (pe_op op_fdiv (pv 7) pe_int) pe_int) pe_int) (pa_cons (pe_op op_sub (pe_op op_mod (pe_op op_fdiv (pv 7) pe_int) pe_int) pe_int) (pa_cons (pe_op op_sub (pe_op op_mod (pe_op op_fdiv (pv 7) pe_int) pe_int) pe_int) pa_nil)))))))) (pss_one (ps_if (pt_cmpR op_eq (pe_op op_mod (pe_op op_fdiv (pv 2) pe_int) pe_int) pe_int (nomark _)) (pss_one (ps_asg pe_int (pg_sub (pv 4) (pe_op op_mod (pe_op op_fdiv (pv 2) pe_int) pe_int) set_list))) pss_nil)))
      (pss_cons (ps_if (pt_cmpR op_eq (pe_op op_mulB (pe_ix ix_lstI (pv 4) pe_int (fun _ _ => rfl)) (pe_ix ix_lstI (pv 4) pe_int (fun _ _ => rfl))) (pe_op op_mulB (pe_ix ix_lstI (pv 4) pe_int (fun _ _ => rfl)) (pe_ix ix_lstI (pv 4) pe_int (fun _ _ => rfl))) (nomark _)) (pss_one (ps_set (i := 4) sc__law_change.nd rfl (Or.inl rfl) (pe_lst (pa_cons (pe_op op_add pe_int (pe_op op_mod (pe_op op_fdiv (pv 2) pe_int) pe_int)) (pa_cons (pe_op op_sub (pe_op op_mod (pe_op op_fdiv (pv 2) pe_int) pe_int) pe_int) (pa_cons pe_int (pa_cons pe_int pa_nil))))))) pss_nil)
      (pss_cons (ps_set (i := 8) sc__law_change.nd rfl (Or.inl rfl) (pe_callC C__law_plain hr (pa_cons (pv 4) pa_nil)))
      (pss_cons (ps_if (PW.pt (pw_and (pt_cmpR op_eq (pe_op op_mod (pe_op op_fdiv (pv 2) pe_int) pe_int) pe_int (nomark _)) (pw_and1 (pt_cmpR op_eq (pe_op op_mod (pe_op op_fdiv (pv 2) pe_int) pe_int) pe_int (nomark _))))) (pss_cons (ps_set (i := 9) sc__law_change.nd rfl (Or.inl rfl) (pe_callC C__law_turning hr (pa_cons (pe_op op_fdiv (pv 2) pe_int) pa_nil)))
      (pss_one (ps_ret (pe_callC C__law_after hr (pa_cons (pe_callC C__law_after hr (pa_cons (pe_callC C__law_back hr (pa_cons (pv 8) pa_nil)) (pa_cons (pv 9) pa_nil))) (pa_cons (pv 8) pa_nil)))))) pss_nil)
      (pss_one (ps_ret (pv 8))))))))))), ?_⟩
  obtain ⟨B0, hB⟩ : ∃ B0, B0 = upd H b (.lst [.int (kk + 1)]) := ⟨_, rfl⟩
  rw [← hB] at q
  obtain ⟨c, hc⟩ : ∃ c, c = cellN ns kk := ⟨_, rfl⟩
  apply seq_det
  · intro k hk; walk_at "rd"; exact ⟨a, b, ns, kk, rfl, hs, hb, hk0, hk⟩
  rw [← hB, ← hc]
  -- wide
  refine seq_by (fun σ H1 => ∃ w : Int, 2 ≤ w ∧ w ≤ 1000 ∧ σ = [some (.ref a), some (.ref b), some (.int c), some (.int w), none, none, none, none, none, none] ∧ Same B0 H1) (fun k hk => ?_) ?_
  · walk_at "rd"
    obtain ⟨v, hv, hm⟩ := at_any [(2 : Int), 4, 30, 1000] (i := c % 4) (Int.emod_nonneg _ (by decide)) (Int.emod_lt_of_pos _ (by decide))
    refine ⟨by show 4 ≤ sizeLine; decide, fun p hp => ⟨by decide, [2, 4, 30, 1000], ⟨p, rfl, SqL.of upd_same⟩, v, hv, hk _ _ ⟨v, ?_, ?_, rfl, same_new hp _⟩⟩⟩
    · simp only [List.mem_cons, List.not_mem_nil, or_false] at hm; omega
    · simp only [List.mem_cons, List.not_mem_nil, or_false] at hm; omega
  rintro σ H1 ⟨w, w1, w2, rfl, g1⟩
  -- numbers = []
  refine seq_by (fun σ H2 => ∃ l, B0 l = none ∧ Same B0 H2 ∧ H2 l = some (.lst []) ∧ σ = [some (.ref a), some (.ref b), some (.int c), some (.int w), some (.ref l), none, none, none, none, none]) (fun k hk => ?_) ?_
  · walk_at "rd"
    exact ⟨by show 0 ≤ sizeLine; decide, fun p hp => hk _ _ ⟨p, g1.free hp, g1.trans (same_new hp _), upd_same, rfl⟩⟩
  rintro σ H2 ⟨l, nl, g2, hl, rfl⟩
  -- the loop
  refine seq_by (fun σ H3 => ∃ (m : Ch) (x y : Option V), BdC 10 m ∧ Same B0 H3 ∧ H3 l = some (.lst ((cl m).map V.int)) ∧ σ = [some (.ref a), some (.ref b), some (.int c), some (.int w), some (.ref l), x, y, none, none, none]) (fun k hk => ?_) ?_
  · refine ⟨4, rfl, by decide, by decide, forR (n := 4) (fun i σ H3 => ∃ (xs : List Int) (x y : Option V), xs.length = i ∧ (∀ n ∈ xs, Bd 10 n) ∧ Same B0 H3 ∧ H3 l = some (.lst (xs.map V.int)) ∧ σ = [some (.ref a), some (.ref b), some (.int c), some (.int w), some (.ref l), x, y, none, none, none])
      ⟨[], none, none, rfl, by simp, g2, hl, rfl⟩ ?_ ?_⟩
    · rintro Pv' hP i σ H3 hi ⟨xs, x, y, hxl, hxb, g3, hl3, rfl⟩
      have hw : Bd 100000 w := Bd.mono (j := 10) (Bd.lit (by omega)) (by decide)
      have hi' : Bd 100000 (0 + (i : Int)) := Bd.mono (j := 10) (Bd.lit (by omega)) (by decide)
      walk_at "rd"
      refine ⟨⟨Bd.mono (j := 10) (by decide) (by decide), hi'⟩, _, rfl, .inl ⟨rfl, _, SqL.of hl3⟩, _, rfl, _, rfl, ⟨by decide, by decide⟩, ⟨Bd.mono (j := 10) (by decide) (by decide), hw⟩, by omega, _, hl3, ?_,
        hP _ _ _ ⟨xs ++ [stir (stir (c + 31 * (0 + (i : Int)))) / 7 % (2 * w + 1) - w], _, _, by simp [hxl], fun n hn => ?_, same_upd g3 nl, ?_, rfl⟩⟩
      · rw [List.length_map]; exact small1000 (by omega)
      · rcases List.mem_append.mp hn with h | h
        · exact hxb n h
        · have e : n = stir (stir (c + 31 * (0 + (i : Int)))) / 7 % (2 * w + 1) - w := by simpa using h
          have h1 := Int.emod_nonneg (stir (stir (c + 31 * (0 + (i : Int)))) / 7) (b := 2 * w + 1) (by omega)
          have h2 := Int.emod_lt_of_pos (stir (stir (c + 31 * (0 + (i : Int)))) / 7) (b := 2 * w + 1) (by omega)
          exact Bd.lit (by omega)
      · rw [upd_same, List.map_append]; rfl
    · rintro σ H3 ⟨xs, x, y, hxl, hxb, g3, hl3, rfl⟩
      obtain ⟨m, rfl⟩ := list4 hxl
      exact hk _ _ ⟨m, x, y, .of_all hxb, g3, hl3, rfl⟩
  rintro σ H3 ⟨m, x, y, bm, g3, hl3, rfl⟩
  -- small ones, or a nought
  refine seq_by (fun σ H4 => ∃ (l' : Addr) (m' : Ch) (z : Option V), BdC 10 m' ∧ Same B0 H4 ∧ H4 l' = some (.lst ((cl m').map V.int)) ∧ σ = [some (.ref a), some (.ref b), some (.int c), some (.int w), some (.ref l'), x, y, z, none, none]) (fun k hk => ?_) ?_
  · walk_at "rd"
    refine ⟨⟨by decide, by decide⟩, by decide, ?_⟩
    refine ite2 (fun c1 => ?_) (fun c1 => ?_)
    · refine ⟨⟨by decide, by decide⟩, by decide, ⟨by decide, by decide⟩, by decide, ⟨by decide, by decide⟩, by decide, ⟨by decide, by decide⟩, by decide, (by show 4 ≤ sizeLine; decide), fun p hp => ?_⟩
      refine hk _ _ ⟨p, ⟨c / 8 % 41 - 20, c / 8 / 41 % 41 - 20, c / 8 / 1681 % 41 - 20, c / 8 / 68921 % 41 - 20⟩, _, ⟨Bd.lit ?_, Bd.lit ?_, Bd.lit ?_, Bd.lit ?_⟩, g3.trans (same_new hp _), upd_same, rfl⟩ <;> dsimp only <;> omega
    · refine ⟨⟨by decide, by decide⟩, by decide, ?_⟩
      refine ite2 (fun c2 => ?_) (fun c2 => hk _ _ ⟨l, m, _, bm, g3, hl3, rfl⟩)
      have i0 := Int.emod_nonneg (c / 40) (b := 4) (by decide)
      have i1 := Int.emod_lt_of_pos (c / 40) (b := 4) (by decide)
      obtain ⟨m', e, bm'⟩ := set_cl bm (j := (c / 40 % 4).toNat) (by omega) (n := 0) (by decide)
      refine ⟨⟨by decide, by decide⟩, by decide, _, hl3, (c / 40 % 4).toNat, ix_any i0 i1, hk _ _ ⟨l, m', _, bm', same_upd g3 nl, ?_, rfl⟩⟩
      rw [upd_same, e]
  rintro σ H4 ⟨l', m', z, bm', g4, hl4, rfl⟩
  -- none without an end
  refine seq_by (fun σ H5 => ∃ (l' : Addr) (m' : Ch), BdC 10 m' ∧ m'.det ≠ 0 ∧ Same B0 H5 ∧ H5 l' = some (.lst ((cl m').map V.int)) ∧ σ = [some (.ref a), some (.ref b), some (.int c), some (.int w), some (.ref l'), x, y, z, none, none]) (fun k hk => ?_) ?_
  · obtain ⟨d1, d2, d3, d4⟩ := bm'.mono (show 10 ≤ 100000 by decide)
    have hv : Lp K H4 (.ref l') (cl m') := ⟨l', rfl, SqL.of hl4⟩
    walk_at "rd"
    refine ⟨_, hv, _, at0 _ _, _, hv, _, at3 _ _ _ _ _, ⟨d1, d4⟩, _, hv, _, at1 _ _ _, _, hv, _, at2 _ _ _ _, ⟨d2, d3⟩, ?_⟩
    refine ite2 (fun c1 => ?_) (fun c1 => hk _ _ ⟨l', m', bm', by unfold Ch.det; omega, g4, hl4, rfl⟩)
    refine ⟨⟨by decide, by decide⟩, by decide, ⟨by decide, by decide⟩, by decide, (by show 4 ≤ sizeLine; decide), fun p hp => ?_⟩
    refine hk _ _ ⟨p, ⟨1 + c / 80 % 5, c / 400 % 7 - 3, 0, 1⟩, ⟨Bd.lit ?_, Bd.lit ?_, (show Bd 10 0 by decide), (show Bd 10 1 by decide)⟩, ?_, g4.trans (same_new hp _), upd_same, rfl⟩
    · dsimp only; omega
    · dsimp only; omega
    · unfold Ch.det; dsimp only; omega
  rintro σ H5 ⟨l5, m5, bm5, dm5, g5, hl5, rfl⟩
  refine seq_by (fun σ H6 => ∃ v, Same B0 H6 ∧ Tp K H6 v (cl (nch m5)) ∧ σ = [some (.ref a), some (.ref b), some (.int c), some (.int w), some (.ref l5), x, y, z, some v, none]) (fun k hk => ?_) ?_
  · walk_at "rd"
    exact ⟨l5, m5, rfl, SqL.of hl5, dm5, bm5.mono (by decide), fun v H6 g6 t6 => hk _ _ ⟨v, g5.trans g6, t6, rfl⟩⟩
  rintro σ H6 ⟨v, g6, t6, rfl⟩
  have gm := nch_goodC dm5
  have bm6 := bm5.nch dm5
  generalize nch m5 = m6 at t6 gm bm6
  refine seq_by (fun σ H7 => σ = [some (.ref a), some (.ref b), some (.int c), some (.int w), some (.ref l5), x, y, z, some v, none] ∧ H7 = H6) (fun k hk => ?_) ?_
  · have fin : spTurning K [.int (c / 4000)] H6 (fun u H7 => spLawBack K [v] H7 (fun u2 H8 => spLawAfter K [u2, u] H8 (fun u3 H9 => spLawAfter K [u3, v] H9 Q E0) E0) E0) E0 := by
      refine ⟨_, rfl, fun u H7 mt g7 t7 dt bt => ?_⟩
      refine ⟨v, m6, rfl, t6.mono g7, gm.det, bm6.mono (by decide), fun u2 H8 g8 t8 => ?_⟩
      have da : (adj m6).det ≠ 0 := by rw [det_adj]; exact gm.det
      have d8 := (nch_goodC da).det
      have b8 := (bm6.adj).nch da
      refine ⟨u2, u, _, mt, rfl, t8, t7.mono g8, d8, dt, b8.mono (by decide), bt.mono (by decide), fun u3 H9 g9 t9 => ?_⟩
      have d9 := mul_ne d8 dt
      have b9 := (b8.mul bt).nch d9
      have d9' := (nch_goodC d9).det
      refine ⟨u3, v, _, m6, rfl, t9, t6.mono (g7.trans (g8.trans g9)), d9', gm.det, b9.mono (by decide), bm6.mono (by decide), fun u4 H10 g10 t10 => ?_⟩
      have d10 := mul_ne d9' gm.det
      exact q u4 H10 _ (g6.trans (g7.trans (g8.trans (g9.trans g10)))) t10 (nch_goodC d10) (((b9.mul bm6).nch d10).mono (by decide))
    walk_at "rd"
    refine ⟨⟨by decide, by decide⟩, by decide, ?_⟩
    refine ite2 (fun c1 => ?_) (fun c1 => hk _ _ ⟨rfl, rfl⟩)
    refine ⟨⟨by decide, by decide⟩, by decide, ?_⟩
    refine ite2 (fun c1 => ?_) (fun c1 => hk _ _ ⟨rfl, rfl⟩)
    exact ⟨⟨by decide, by decide⟩, fin⟩
  rintro σ H7 ⟨rfl, rfl⟩
  walk_at "rd"
  exact q v H7 m6 g6 t6 gm (bm6.mono (by decide))
theorem sc__law_point : FnScope ["top", "bottom", "both"] ["top", "bottom"] (defScope s__law_point) := ⟨rfl, rfl, rfl, by decide +kernel, rfl, by decide +kernel, by decide +kernel⟩
set_option maxHeartbeats 4000000 in
theorem cal__law_point (F : Def K mg "_law_point" s__law_point ["top", "bottom"]) (C__law_common : Cal P w K mg base 1 "_law_common" ["one", "other"] spGcd) : Cal P w K mg base 2 "_law_point" ["top", "bottom"] (spLawP K) := by
  refine F.cal (k := 1) sc__law_point (fun vs H Q E h => ?_) (fun f cdv A outer s H vs Q E hr h => ?_)
  · obtain ⟨x, y, rfl, hn, bx, by_, q⟩ := h
    rfl
  obtain ⟨x, y, rfl, hn, bx, by_, q⟩ := h
  have hu := hr.units
  have hu8 : (A.deeper (envOfC "_law_point" (defScope s__law_point) s.heap.objs.size f cdv)).units + 80 < cLine := by have := hr.un; omega
  refine ⟨_, (pss_cons (ps_set (i := 2) sc__law_point.nd rfl (Or.inl rfl) (pe_callC C__law_common hr (pa_cons (pv 0) (pa_cons (pv 1) pa_nil))))
      (pss_cons (ps_if (PW.pt (pw_or (pt_cmpR op_lt (pv 1) pe_int (nomark _)) (pw_or1 (PW.pt (pw_and (pt_cmpR op_eq (pv 1) pe_int (nomark _)) (pw_and1 (pt_cmpR op_lt (pv 0) pe_int (nomark _)))))))) (pss_one (ps_set (i := 2) sc__law_point.nd rfl (Or.inl rfl) (pe_un un_neg (pv 2)))) pss_nil)
      (pss_one (ps_ret (pe_tup (pa_cons (pe_op op_fdivB (pv 0) (pv 2)) (pa_cons (pe_op op_fdivB (pv 1) (pv 2)) pa_nil))))))), ?_⟩
  have hg : (Int.gcd x y : Int) ≠ 0 := fun e => by
    have := gcd_zero_iff.mp (show Int.gcd x y = 0 by omega)
    omega
  have hb : Bd 8000 (Int.gcd x y : Int) := (Bd.gcd bx by_).mono (by decide)
  rw [← lpt_eq hn] at q
  apply seq_det
  · intro k hk; walk_at "rd"; exact ⟨_, _, rfl, hk⟩
  refine seq_det (σ1 := [some (.int x), some (.int y), some (.int (if y < 0 ∨ (y = 0 ∧ x < 0) then -(Int.gcd x y : Int) else (Int.gcd x y : Int)))]) (H1 := H) (fun k hk => ?_) ?_
  · walk_at "rd"
    by_cases c1 : y < 0
    · rw [if_pos (Or.inl c1)] at hk
      simp only [c1, if_true]
      exact hk
    · by_cases c2 : y = 0
      · by_cases c3 : x < 0
        · rw [if_pos (Or.inr ⟨c2, c3⟩)] at hk
          simpa [c1, c2, c3] using hk
        · rw [if_neg (by omega)] at hk
          simpa [c1, c2, c3] using hk
      · rw [if_neg (by omega)] at hk
        simpa [c1, c2] using hk
  have hgg : (if y < 0 ∨ (y = 0 ∧ x < 0) then -(Int.gcd x y : Int) else (Int.gcd x y : Int)) ≠ 0 := by split <;> omega
  have hbb : Bd 8000 (if y < 0 ∨ (y = 0 ∧ x < 0) then -(Int.gcd x y : Int) else (Int.gcd x y : Int)) := by
    split
    · exact hb.neg
    · exact hb
  walk_at "rd"
  refine ⟨⟨hgg, hbb⟩, ⟨hgg, hbb⟩, (by show 2 ≤ sizeLine; decide), fun p hp => q _ _ (same_new hp _) ⟨p, rfl, SqT.of ?_⟩⟩
  rw [upd_same]; rfl
theorem sc__law_drawn_point : FnScope ["cell", "seed", "wide", "far"] ["cell"] (defScope s__law_drawn_point) := ⟨rfl, rfl, rfl, by decide +kernel, rfl, by decide +kernel, by decide +kernel⟩
set_option maxHeartbeats 4000000 in
theorem cal__law_drawn_point (F : Def K mg "_law_drawn_point" s__law_drawn_point ["cell"]) (C__law_point : Cal P w K mg base 2 "_law_point" ["top", "bottom"] (spLawP K)) (C__law_stir : Cal P w K mg base 2 "_law_stir" ["seed"] spStir) : Cal P w K mg base 3 "_law_drawn_point" ["cell"] (spDrawn K) := by
  refine F.cal (k := 2) sc__law_drawn_point (fun vs H Q E h => ?_) (fun f cdv A outer s H vs Q E hr h => ?_)
  · obtain ⟨c, rfl, q⟩ := h
    rfl
  obtain ⟨c, rfl, q⟩ := h
  have hu := hr.units
  have hu8 : (A.deeper (envOfC "_law_drawn_point" (defScope s__law_drawn_point) s.heap.objs.size f cdv)).units + 80 < cLine := by have := hr.un; omega
  refine ⟨_, (pss_cons (ps_if (pt_cmpR op_eq (pe_op op_mod (pv 0) pe_int) pe_int (nomark _)) (pss_cons (ps_if (pt_cmpR op_eq (pe_op op_mod (pe_op op_fdiv (pv 0) pe_int) pe_int) pe_int (nomark _)) (pss_one (ps_ret (pe_tup (pa_cons pe_int (pa_cons pe_int pa_nil))))) pss_nil)
      (pss_one (ps_ret (pe_callC C__law_point hr (pa_cons (pe_op op_sub (pe_op op_mod (pe_op op_fdiv (pv 0) pe_int) pe_int) pe_int) (pa_cons (pe_op op_add pe_int (pe_op op_mod (pe_op op_fdiv (pv 0) pe_int) pe_int)) pa_nil)))))) pss_nil)
      (pss_cons (ps_set (i := 1) sc__law_drawn_point.nd rfl (Or.inl rfl) (pe_callC C__law_stir hr (pa_cons (pv 0) pa_nil)))
      (pss_cons (ps_if (pt_cmpR op_eq (pe_op op_mod (pe_op op_fdiv (pv 1) pe_int) pe_int) pe_int (nomark _)) (pss_one (ps_ret (pe_tup (pa_cons pe_int (pa_cons pe_int pa_nil))))) pss_nil)
      (pss_cons (ps_set (i := 2) sc__law_drawn_point.nd rfl (Or.inl rfl) (pe_ix ix_lstI (pe_lst (pa_cons pe_int (pa_cons pe_int (pa_cons pe_int (pa_cons pe_int pa_nil))))) (pe_op op_mod (pe_op op_fdiv (pv 1) pe_int) pe_int) (fun _ _ => rfl)))
      (pss_cons (ps_set (i := 3) sc__law_drawn_point.nd rfl (Or.inl rfl) (pe_callC C__law_stir hr (pa_cons (pv 1) pa_nil)))
      (pss_one (ps_ret (pe_callC C__law_point hr (pa_cons (pe_op op_sub (pe_op op_mod (pe_op op_fdiv (pv 3) pe_int) (pe_op op_add (pe_op op_mulB pe_int (pv 2)) pe_int)) (pv 2)) (pa_cons (pe_op op_add pe_int (pe_op op_mod (pe_op op_fdiv (pe_callC C__law_stir hr (pa_cons (pv 3) pa_nil)) pe_int) (pv 2))) pa_nil)))))))))), ?_⟩
  obtain ⟨hne, b1, b2⟩ := rawp_ok c
  have bd1 : Bd 4000 (rawp c).1 := Bd.mono (j := 10) (Bd.lit (Nat.lt_of_le_of_lt b1 (by decide))) (by decide)
  have bd2 : Bd 4000 (rawp c).2 := Bd.mono (j := 10) (Bd.lit (Nat.lt_of_le_of_lt b2 (by decide))) (by decide)
  have far : rawp c = (1, 0) → Out K H [1, 0] Q := fun e => by
    have h := q.npt e
    have e2 : pl (npt 1 0) = [1, 0] := by simp [pl, npt]
    rw [e2] at h; exact h
  refine seq_by (fun σ H' => σ = [some (.int c), none, none, none] ∧ H' = H ∧ c % 2 ≠ 0) (fun k hk => ?_) ?_
  · walk_at "rd"
    refine ⟨by decide, ?_⟩
    refine ite2 (fun c1 => ?_) (fun c1 => hk _ _ ⟨rfl, rfl, c1⟩)
    refine ⟨⟨by decide, by decide⟩, by decide, ?_⟩
    refine ite2 (fun c2 => ?_) (fun c2 => ?_)
    · exact ⟨by show 2 ≤ sizeLine; decide, fun p hp => far (by simp [rawp, c1, c2]) _ _ (same_new hp _) ⟨p, rfl, SqT.of upd_same⟩⟩
    · have e : rawp c = (c / 80 % 201 - 100, 1 + c / 16080 % 60) := by simp [rawp, c1, c2]
      rw [e] at hne bd1 bd2
      exact ⟨⟨by decide, by decide⟩, by decide, ⟨by decide, by decide⟩, by decide, _, _, rfl, hne, bd1, bd2, q.npt e⟩
  rintro σ H' ⟨rfl, rfl, c1⟩
  apply seq_det
  · intro k hk; walk_at "rd"; exact ⟨_, rfl, hk⟩
  refine seq_by (fun σ H'' => σ = [some (.int c), some (.int (stir c)), none, none] ∧ H'' = H' ∧ stir c / 7 % 9 ≠ 1) (fun k hk => ?_) ?_
  · walk_at "rd"
    refine ⟨⟨by decide, by decide⟩, by decide, ?_⟩
    refine ite2 (fun c2 => ?_) (fun c2 => hk _ _ ⟨rfl, rfl, c2⟩)
    exact ⟨by show 2 ≤ sizeLine; decide, fun p hp => far (by simp [rawp, c1, c2]) _ _ (same_new hp _) ⟨p, rfl, SqT.of upd_same⟩⟩
  rintro σ H'' ⟨rfl, rfl, c2⟩
  have e : rawp c = (stir (stir c) / 7 % (2 * wideOf (stir c / 63 % 4) + 1) - wideOf (stir c / 63 % 4), 1 + stir (stir (stir c)) / 7 % wideOf (stir c / 63 % 4)) := by simp [rawp, c1, c2]
  obtain ⟨w1, w2⟩ := wide_pos (stir c / 63 % 4)
  have hw : Bd 100000 (wideOf (stir c / 63 % 4)) := Bd.mono (j := 10) (Bd.lit (by omega)) (by decide)
  rw [e] at hne bd1 bd2
  refine seq_by (fun σ H1 => σ = [some (.int c), some (.int (stir c)), some (.int (wideOf (stir c / 63 % 4))), none] ∧ Same H'' H1) (fun k hk => ?_) ?_
  · walk_at "rd"
    refine ⟨by show 4 ≤ sizeLine; decide, fun p hp => ⟨⟨by decide, by decide⟩, by decide, [4, 9, 100, 1000], ⟨p, rfl, SqL.of upd_same⟩, _, wide_at (Int.emod_nonneg _ (by decide)) (Int.emod_lt_of_pos _ (by decide)), hk _ _ ⟨rfl, same_new hp _⟩⟩⟩
  rintro σ H1 ⟨rfl, g1⟩
  apply seq_det
  · intro k hk; walk_at "rd"; exact ⟨_, rfl, hk⟩
  walk_at "rd"
  refine ⟨⟨by decide, by decide⟩, ⟨Bd.mono (j := 2) (Bd.lit (by decide)) (by decide), hw⟩, by omega, _, rfl, ?_⟩
  walk_at "rd"
  exact ⟨⟨by decide, by decide⟩, by omega, _, _, rfl, hne, bd1, bd2, (q.npt e).from g1⟩
theorem sc__law_some_points : FnScope ["script", "spot", "many", "found", "k", "cell", "here"] ["script", "spot", "many"] (defScope s__law_some_points) := ⟨rfl, rfl, rfl, by decide +kernel, rfl, by decide +kernel, by decide +kernel⟩
set_option maxHeartbeats 4000000 in
theorem cal__law_some_points (F : Def K mg "_law_some_points" s__law_some_points ["script", "spot", "many"]) (C__law_next : Cal P w K mg base 3 "_law_next" ["script", "spot"] (spNext K)) (C__law_drawn_point : Cal P w K mg base 3 "_law_drawn_point" ["cell"] (spDrawn K)) (B : Blt mg) : Cal P w K mg base 4 "_law_some_points" ["script", "spot", "many"] (spSome K) := by
  refine F.cal (k := 3) sc__law_some_points (fun vs H Q E h => ?_) (fun f cdv A outer s H vs Q E hr h => ?_)
  · obtain ⟨a, b, ns, k0, n, rfl, hs, hb, hk0, hn0, hn1, q⟩ := h
    rfl
  obtain ⟨a, b, ns, k0, n, rfl, hs, hb, hk0, hn0, hn1, q⟩ := h
  have hu := hr.units
  have hu8 : (A.deeper (envOfC "_law_some_points" (defScope s__law_some_points) s.heap.objs.size f cdv)).units + 80 < cLine := by have := hr.un; omega
  refine ⟨_, (pss_cons (ps_set (i := 3) sc__law_some_points.nd rfl (Or.inl rfl) (pe_lst pa_nil))
      (pss_cons (ps_for PassesOwn.never rfl (pi_range1 rfl B.range (pa_cons (pv 2) pa_nil)) (pg_name (i := 4) sc__law_some_points.nd rfl (Or.inl rfl)) (pss_cons (ps_set (i := 5) sc__law_some_points.nd rfl (Or.inl rfl) (pe_op op_add (pe_callC C__law_next hr (pa_cons (pv 0) (pa_cons (pv 1) pa_nil))) (pe_op op_mulB pe_int (pv 4))))
      (pss_cons (ps_set (i := 6) sc__law_some_points.nd rfl (Or.inl rfl) (pe_callC C__law_drawn_point hr (pa_cons (pv 5) pa_nil)))
      (pss_cons (ps_while PassesOwn.never (pt_cmpR (op_inT hu8) (pv 6) (pv 3) rfl) (pss_cons (ps_set (i := 5) sc__law_some_points.nd rfl (Or.inl rfl) (pe_op op_add (pv 5) pe_int))
      (pss_one (ps_set (i := 6) sc__law_some_points.nd rfl (Or.inl rfl) (pe_callC C__law_drawn_point hr (pa_cons (pv 5) pa_nil))))))
      (pss_one (ps_expr (pe_bm PySem.F.plainAttrs_list PySem.F.slot_list_append PySem.F.type_list_append mt_append (pv 3) (pa_cons (pv 6) pa_nil))))))))
      (pss_one (ps_ret (pv 3))))), ?_⟩
  refine seq_by (fun σ H1 => ∃ l, H l = none ∧ Same H H1 ∧ H1 l = some (.lst []) ∧ σ = [some (.ref a), some (.ref b), some (.int n), some (.ref l), none, none, none]) (fun k hk => ?_) ?_
  · walk_at "rd"
    exact ⟨by show 0 ≤ sizeLine; decide, fun p hp => hk _ _ ⟨p, hp, same_new hp _, upd_same, rfl⟩⟩
  rintro σ H1 ⟨l, nl, g1, hl, rfl⟩
  refine seq_by (fun σ H2 => ∃ (ws : List V) (ps : List (Int × Int)) (x y z : Option V), Same (upd H b (.lst [.int (k0 + n)])) H2 ∧ H2 l = some (.lst ws) ∧ Tps K H2 ws (ps.map pl) ∧ ps.Nodup ∧ (ps.length : Int) = n ∧ (∀ p ∈ ps, GoodPt p ∧ BdPt 10 p) ∧ σ = [some (.ref a), some (.ref b), some (.int n), some (.ref l), x, y, z]) (fun k hk => ?_) ?_
  · refine ⟨_, rfl, _, rfl, by omega, by omega, forR (n := n.toNat) (fun i σ H2 => ∃ (ws : List V) (ps : List (Int × Int)) (x y z : Option V), Same (upd H b (.lst [.int (k0 + i)])) H2 ∧ H2 l = some (.lst ws) ∧ Tps K H2 ws (ps.map pl) ∧ ps.Nodup ∧ ps.length = i ∧ (∀ p ∈ ps, GoodPt p ∧ BdPt 10 p) ∧ σ = [some (.ref a), some (.ref b), some (.int n), some (.ref l), x, y, z])
      ⟨[], [], none, none, none, ?_, hl, .nil, List.nodup_nil, rfl, by simp, rfl⟩ ?_ ?_⟩
    · intro c o e
      by_cases h : c = b
      · subst h
        rw [upd_same] at e; cases e
        have := g1 _ _ hb
        simpa using this
      · rw [upd_ne h] at e; exact g1 _ _ e
    · rintro Pv' hP i σ H2 hi ⟨ws, ps, x, y, z, g2, hl2, ht2, nd, hlen, hgood, rfl⟩
      have hlb : l ≠ b := (ne_of_none hb nl).symm
      have hb2 : H2 b = some (.lst [.int (k0 + i)]) := g2 _ _ upd_same
      obtain ⟨H3, hH3⟩ : ∃ H3, H3 = upd H2 b (.lst [.int (k0 + i + 1)]) := ⟨_, rfl⟩
      have g3 : Same (upd H b (.lst [.int (k0 + ((i + 1 : Nat) : Int))])) H3 := by
        have e : k0 + ((i + 1 : Nat) : Int) = k0 + i + 1 := by omega
        rw [hH3, e]
        exact same_swap g2
      have hl3 : H3 l = some (.lst ws) := by rw [hH3, upd_ne hlb]; exact hl2
      have ht3 : Tps K H3 ws (ps.map pl) := by rw [hH3]; exact Tps.upd hb2 ht2
      obtain ⟨c, hc⟩ : ∃ c, c = cellN ns (k0 + i) + 101 * (0 + (i : Int)) := ⟨_, rfl⟩
      obtain ⟨j, hj⟩ := drawn_on ps (by omega) c
      show tSeq _ _ _ _ _
      refine seq_det (σ1 := [some (.ref a), some (.ref b), some (.int n), some (.ref l), some (.int (0 + (i : Int))), some (.int c), z]) (H1 := H3) (fun k hk => ?_) ?_
      · walk_at "rd"
        refine ⟨a, b, ns, k0 + i, rfl, (hs.upd hb).mono g2, hb2, by omega, ?_⟩
        walk_at "rd"
        rw [← hH3, ← hc]
        exact ⟨⟨Bd.mono (j := 10) (by decide) (by decide), Bd.mono (j := 10) (Bd.lit (by omega)) (by decide)⟩, hk⟩
      refine seq_by (fun σ H4 => ∃ v, Same H3 H4 ∧ Tp K H4 v (pl (dp c)) ∧ σ = [some (.ref a), some (.ref b), some (.int n), some (.ref l), some (.int (0 + (i : Int))), some (.int c), some v]) (fun k hk => ?_) ?_
      · walk_at "rd"
        exact ⟨c, rfl, fun v H4 g4 t4 => hk _ _ ⟨v, g4, t4, rfl⟩⟩
      rintro σ H4 ⟨v, g4, t4, rfl⟩
      refine seq_by (fun σ H5 => ∃ (v : V) (c' : Int), Same H3 H5 ∧ Tp K H5 v (pl (dp c')) ∧ dp c' ∉ ps ∧ σ = [some (.ref a), some (.ref b), some (.int n), some (.ref l), some (.int (0 + (i : Int))), some (.int c'), some v]) (fun k hk => ?_) ?_
      · refine while_of (fun m σ H5 => ∃ (v : V) (c' : Int), Same H3 H5 ∧ Tp K H5 v (pl (dp c')) ∧ c' ≤ c + j ∧ m = (c + j - c').toNat ∧ σ = [some (.ref a), some (.ref b), some (.int n), some (.ref l), some (.int (0 + (i : Int))), some (.int c'), some v]) _
          ⟨v, c, g4, t4, by omega, rfl, rfl⟩ ?_
        rintro W' hW m σ H5 ⟨v, c', g5, t5, hc', rfl, rfl⟩
        walk_at "rd"
        refine ⟨_, t5, _, SqL.of (g5 _ _ hl3), _, ht3.mono g5, ?_⟩
        refine ite2 (fun h => ?_) (fun h => ?_)
        · have h' : dp c' ∈ ps := pl_mem.mp (by simpa using h)
          have hne : c' ≠ c + j := fun e => hj (by rw [← e]; exact h')
          refine ⟨fun σ' H' => ∃ m', m' < (c + j - c').toNat ∧ W' m' σ' H', fun _ _ h => h, ?_⟩
          walk_at "rd"
          exact ⟨_, rfl, fun v' H6 g6 t6 => ⟨(c + j - (c' + 1)).toNat, by omega, hW _ _ _ ⟨v', c' + 1, g5.trans g6, t6, by omega, rfl, rfl⟩⟩⟩
        · exact hk _ _ ⟨v, c', g5, t5, fun h' => h (by simpa using pl_mem.mpr h'), rfl⟩
      rintro σ H5 ⟨v, c', g5, t5, hnew, rfl⟩
      walk_at "rd"
      have hb3 : H b = some (.lst [.int k0]) := hb
      have nlB : upd H b (.lst [.int (k0 + ((i + 1 : Nat) : Int))]) l = none := by rw [upd_ne hlb]; exact nl
      refine ⟨.inl ⟨rfl, _, SqL.of (g5 _ _ hl3)⟩, _, g5 _ _ hl3, ?_, hP _ _ _ ⟨ws ++ [v], ps ++ [dp c'], _, _, _, same_upd (g3.trans g5) nlB, upd_same, ?_, ?_, ?_, ?_, rfl⟩⟩
      · rw [ht3.length, List.length_map]; exact small1000 (by omega)
      · rw [List.map_append]
        exact Tps.upd (g5 _ _ hl3) ((ht3.mono g5).snoc t5)
      · rw [List.nodup_append]
        refine ⟨nd, by simp, fun p hp q hq => ?_⟩
        have e : q = dp c' := by simpa using hq
        rw [e]
        intro z
        exact hnew (by rw [← z]; exact hp)
      · rw [List.length_append, hlen]; rfl
      · intro p hp
        rcases List.mem_append.mp hp with h | h
        · exact hgood p h
        · have e : p = dp c' := by simpa using h
          rw [e]
          exact ⟨dp_good c', dp_bd c'⟩
    · rintro σ H2 ⟨ws, ps, x, y, z, g2, hl2, ht2, nd, hlen, hgood, rfl⟩
      have e : ((n.toNat : Nat) : Int) = n := by omega
      rw [e] at g2
      exact hk _ _ ⟨ws, ps, x, y, z, g2, hl2, ht2, nd, by omega, hgood, rfl⟩
  rintro σ H2 ⟨ws, ps, x, y, z, g2, hl2, ht2, nd, hlen, hgood, rfl⟩
  walk_at "rd"
  exact q l ws ps H2 g2 nl hl2 ht2 nd hlen hgood
theorem sc_common_divisor : FnScope ["one", "other", "larger", "smaller", "rest"] ["one", "other"] (defScope s_common_divisor) := ⟨rfl, rfl, rfl, by decide +kernel, rfl, by decide +kernel, by decide +kernel⟩
set_option maxHeartbeats 4000000 in
theorem cal_common_divisor (F : Def K mg "common_divisor" s_common_divisor ["one", "other"]) (B : Blt mg) : Cal P w K mg base 1 "common_divisor" ["one", "other"] spGcd := by
  refine F.cal (k := 0) sc_common_divisor (fun vs H Q E h => ?_) (fun f cdv A outer s H vs Q E hr h => ?_)
  · obtain ⟨a, b, rfl, q⟩ := h
    rfl
  obtain ⟨a, b, rfl, q⟩ := h
  have hu := hr.units
  have hu8 : (A.deeper (envOfC "common_divisor" (defScope s_common_divisor) s.heap.objs.size f cdv)).units + 80 < cLine := by have := hr.un; omega
  refine ⟨_, (pss_cons (ps_set (i := 2) sc_common_divisor.nd rfl (Or.inl rfl) (pe_callB call_absN rfl B.abs bt_abs (pa_cons (pv 0) pa_nil)))
      (pss_cons (ps_set (i := 3) sc_common_divisor.nd rfl (Or.inl rfl) (pe_callB call_absN rfl B.abs bt_abs (pa_cons (pv 1) pa_nil)))
      (pss_cons (ps_while PassesOwn.never (pt_cmpR op_ne (pv 3) pe_int (nomark _)) (pss_cons (ps_set (i := 4) sc_common_divisor.nd rfl (Or.inl rfl) (pe_op op_modN (pv 2) (pv 3)))
      (pss_cons (ps_set (i := 2) sc_common_divisor.nd rfl (Or.inl rfl) (pv 3))
      (pss_one (ps_set (i := 3) sc_common_divisor.nd rfl (Or.inl rfl) (pv 4))))))
      (pss_one (ps_ret (pv 2)))))), ?_⟩
  walk_at "rd"
  refine while_of (fun n σ H' => ∃ (l s : Int) (r : Option V), σ = [some (.int a), some (.int b), some (.int l), some (.int s), r] ∧ 0 ≤ l ∧ 0 ≤ s ∧ Int.gcd l s = Int.gcd a b ∧ H' = H ∧ n = s.toNat) _
    ⟨_, _, _, rfl, by omega, by omega, rfl, rfl, rfl⟩ ?_
  rintro W' hW n σ H' ⟨l, s, r, rfl, hl, hs, hg, rfl, rfl⟩
  walk_at "rd"
  refine ite2 (fun c => ?_) (fun c => ?_)
  · refine ⟨fun σ' H' => ∃ m', m' < s.toNat ∧ W' m' σ' H', fun σ' H' h => h, ?_⟩
    have c' : s ≠ 0 := by omega
    obtain ⟨m0, m1⟩ := fmod_natAbs_lt hl hs c'
    walk_at "rd"
    exact ⟨c', _, (by omega : (l.fmod s).toNat < s.toNat), hW _ _ _ ⟨_, _, _, rfl, hs, m0, by rw [gcd_step c']; exact hg, rfl, rfl⟩⟩
  · have : s = 0 := by omega
    subst this
    have e : ((Int.gcd l 0 : Nat) : Int) = l := by simp; omega
    rw [← hg, e] at q
    exact q
theorem sc_lowest_point : FnScope ["top", "bottom", "divisor"] ["top", "bottom"] (defScope s_lowest_point) := ⟨rfl, rfl, rfl, by decide +kernel, rfl, by decide +kernel, by decide +kernel⟩
set_option maxHeartbeats 4000000 in
theorem cal_lowest_point (F : Def K mg "lowest_point" s_lowest_point ["top", "bottom"]) (C_common_divisor : Cal P w K mg base 1 "common_divisor" ["one", "other"] spGcd) {aF : Addr} (c_FAR : mg "FAR" = some (.ref aF) ∧ RelV (.ref aF) (Value.ref aF)) (kF : ∀ H, SqT K H aF [.int 1, .int 0]) : Cal P w K mg base 2 "lowest_point" ["top", "bottom"] (spLowP K) := by
  refine F.cal (k := 1) sc_lowest_point (fun vs H Q E h => ?_) (fun f cdv A outer s H vs Q E hr h => ?_)
  · obtain ⟨x, y, rfl, bx, by_, q⟩ := h
    rfl
  obtain ⟨x, y, rfl, bx, by_, q⟩ := h
  have hu := hr.units
  have hu8 : (A.deeper (envOfC "lowest_point" (defScope s_lowest_point) s.heap.objs.size f cdv)).units + 80 < cLine := by have := hr.un; omega
  refine ⟨_, (pss_cons (ps_if (pt_cmpR op_eq (pv 1) pe_int (nomark _)) (pss_one (ps_ret (pe_glob rfl c_FAR.1 c_FAR.2))) pss_nil)
      (pss_cons (ps_set (i := 2) sc_lowest_point.nd rfl (Or.inl rfl) (pe_callC C_common_divisor hr (pa_cons (pv 0) (pa_cons (pv 1) pa_nil))))
      (pss_cons (ps_if (pt_cmpR op_lt (pv 1) pe_int (nomark _)) (pss_one (ps_set (i := 2) sc_lowest_point.nd rfl (Or.inl rfl) (pe_un un_neg (pv 2)))) pss_nil)
      (pss_one (ps_ret (pe_tup (pa_cons (pe_op op_fdivB (pv 0) (pv 2)) (pa_cons (pe_op op_fdivB (pv 1) (pv 2)) pa_nil)))))))), ?_⟩
  walk_at "rd"
  refine ite2 (fun c => ?_) (fun c => ?_)
  · subst c
    have e : pl (npt x 0) = [1, 0] := by simp [pl, npt]
    refine q _ H (Same.refl H) ?_
    rw [e]
    exact ⟨aF, rfl, kF H⟩
  · have hg : (Int.gcd x y : Int) ≠ 0 := fun e => c (gcd_zero_iff.mp (show Int.gcd x y = 0 by omega)).2
    have hb : Bd 8000 (Int.gcd x y : Int) := (Bd.gcd bx by_).mono (by decide)
    refine ⟨x, y, rfl, ?_⟩
    refine ite2 (fun n => ?_) (fun n => ?_)
    · have e : npt x y = (x.fdiv (-(Int.gcd x y : Int)), y.fdiv (-(Int.gcd x y : Int))) := by simp [npt, c, n]
      refine ⟨_, rfl, ⟨by omega, hb.neg⟩, ⟨by omega, hb.neg⟩, (by show 2 ≤ sizeLine; decide), fun p hp => q _ _ (same_new hp _) ⟨p, rfl, SqT.of ?_⟩⟩
      rw [upd_same, e]; rfl
    · have e : npt x y = (x.fdiv (Int.gcd x y : Int), y.fdiv (Int.gcd x y : Int)) := by simp [npt, c, n]
      refine ⟨_, rfl, ⟨hg, hb⟩, _, rfl, ⟨hg, hb⟩, (by show 2 ≤ sizeLine; decide), fun p hp => q _ _ (same_new hp _) ⟨p, rfl, SqT.of ?_⟩⟩
      rw [upd_same, e]; rfl
theorem sc_is_point : FnScope ["point"] ["point"] (defScope s_is_point) := ⟨rfl, rfl, rfl, by decide +kernel, rfl, by decide +kernel, by decide +kernel⟩
set_option maxHeartbeats 4000000 in
theorem cal_is_point (F : Def K mg "is_point" s_is_point ["point"]) (C_lowest_point : Cal P w K mg base 2 "lowest_point" ["top", "bottom"] (spLowP K)) : Cal P w K mg base 3 "is_point" ["point"] (spIsP K) := by
  refine F.cal (k := 2) sc_is_point (fun vs H Q E h => ?_) (fun f cdv A outer s H vs Q E hr h => ?_)
  · obtain ⟨v, x, y, rfl, hv, bx, by_, q⟩ := h
    rfl
  obtain ⟨v, x, y, rfl, hv, bx, by_, q⟩ := h
  have hu := hr.units
  have hu8 : (A.deeper (envOfC "is_point" (defScope s_is_point) s.heap.objs.size f cdv)).units + 80 < cLine := by have := hr.un; omega
  refine ⟨_, (pss_one (ps_ret (pe_cmpR (op_eqT hu) (pe_callC C_lowest_point hr (pa_cons (pe_ix ix_tupI (pv 0) pe_int (fun _ _ => rfl)) (pa_cons (pe_ix ix_tupI (pv 0) pe_int (fun _ _ => rfl)) pa_nil))) (pv 0) (nomark _)))), ?_⟩
  walk_at "rd"
  refine ⟨_, hv, _, at0 _ _, _, hv, _, at1 _ _ _, ?_⟩
  refine ⟨x, y, rfl, bx, by_, fun v H' g t => ?_⟩
  refine ⟨_, t, _, hv.mono g, ?_⟩
  have e : decide (pl (npt x y) = [x, y]) = decide (GoodP x y) := by
    rw [decide_eq_decide, ← npt_self_iff]
    unfold pl
    generalize npt x y = z
    obtain ⟨z1, z2⟩ := z
    simp
  simp only [Bool.false_eq_true, if_false, e]
  exact q H' g
theorem sc_check_point : FnScope ["point"] ["point"] (defScope s_check_point) := ⟨rfl, rfl, rfl, by decide +kernel, rfl, by decide +kernel, by decide +kernel⟩
set_option maxHeartbeats 4000000 in
theorem cal_check_point (F : Def K mg "check_point" s_check_point ["point"]) (C_is_point : Cal P w K mg base 3 "is_point" ["point"] (spIsP K)) : Cal P w K mg base 4 "check_point" ["point"] (spCheckP K) := by
  refine F.cal (k := 3) sc_check_point (fun vs H Q E h => ?_) (fun f cdv A outer s H vs Q E hr h => ?_)
  · obtain ⟨v, p, rfl, hv, hb, hg, q⟩ := h
    rfl
  obtain ⟨v, p, rfl, hv, hb, hg, q⟩ := h
  have hu := hr.units
  have hu8 : (A.deeper (envOfC "check_point" (defScope s_check_point) s.heap.objs.size f cdv)).units + 80 < cLine := by have := hr.un; omega
  refine ⟨_, (pss_one (ps_if (pt_not (pt_val (pe_callC C_is_point hr (pa_cons (pv 0) pa_nil)))) (pss_one ps_never) pss_nil)), ?_⟩
  walk_at "rd"
  refine ⟨v, p.1, p.2, rfl, hv, hb.1, hb.2, fun H' g => ?_⟩
  have e : decide (GoodP p.1 p.2) = true := decide_eq_true hg
  rw [e]
  walk_at "rd"
  exact q H' g
theorem sc_unlike : FnScope ["points"] ["points"] (defScope s_unlike) := ⟨rfl, rfl, rfl, by decide +kernel, rfl, by decide +kernel, by decide +kernel⟩
set_option maxHeartbeats 4000000 in
theorem cal_unlike (F : Def K mg "unlike" s_unlike ["points"]) (B : Blt mg) : Cal P w K mg base 1 "unlike" ["points"] (spUnlike K) := by
  refine F.cal (k := 0) sc_unlike (fun vs H Q E h => ?_) (fun f cdv A outer s H vs Q E hr h => ?_)
  · obtain ⟨v, ps, rfl, ⟨l, ws, rfl, hq, ht⟩, hn, q⟩ := h
    rfl
  obtain ⟨v, ps, rfl, ⟨l, ws, rfl, hq, ht⟩, hn, q⟩ := h
  have hu := hr.units
  have hu8 : (A.deeper (envOfC "unlike" (defScope s_unlike) s.heap.objs.size f cdv)).units + 80 < cLine := by have := hr.un; omega
  refine ⟨_, (pss_one (ps_ret (pe_cmpR op_eq (pe_lenSet hu rfl rfl B.len rfl B.set (pv 0)) (pe_callB call_len_seq rfl B.len bt_len (pa_cons (pv 0) pa_nil)) (nomark _)))), ?_⟩
  walk_at "rd"
  refine ⟨ws, hq, _, ht, by rw [List.length_map]; exact hn, ws, hq, ?_⟩
  have e : decide (((Stb.uniq (ps.map pl)).length : Int) = (ws.length : Int)) = decide ps.Nodup := by
    rw [decide_eq_decide, ht.length, ← nodup_pl, ← Stb.uniq_all]
    omega
  rw [e]; exact q
theorem sc_check_three : FnScope ["one", "two", "three", "last", "point"] ["one", "two", "three", "last"] (defScope s_check_three) := ⟨rfl, rfl, rfl, by decide +kernel, rfl, by decide +kernel, by decide +kernel⟩
set_option maxHeartbeats 4000000 in
theorem cal_check_three (F : Def K mg "check_three" s_check_three ["one", "two", "three", "last"]) (C_check_point : Cal P w K mg base 4 "check_point" ["point"] (spCheckP K)) (C_unlike : Cal P w K mg base 4 "unlike" ["points"] (spUnlike K)) : Cal P w K mg base 5 "check_three" ["one", "two", "three", "last"] (spCheckThree K) := by
  refine F.cal (k := 4) sc_check_three (fun vs H Q E h => ?_) (fun f cdv A outer s H vs Q E hr h => ?_)
  · obtain ⟨u, v, w, t, p, q, r, x, rfl, f4, q0⟩ := h
    rfl
  obtain ⟨u, v, w, t, p, q, r, x, rfl, f4, q0⟩ := h
  have hu := hr.units
  have hu8 : (A.deeper (envOfC "check_three" (defScope s_check_three) s.heap.objs.size f cdv)).units + 80 < cLine := by have := hr.un; omega
  refine ⟨_, (pss_cons (ps_for PassesOwn.never rfl (pi_tup (pe_tup (pa_cons (pv 0) (pa_cons (pv 1) (pa_cons (pv 2) (pa_cons (pv 3) pa_nil)))))) (pg_name (i := 4) sc_check_three.nd rfl (Or.inl rfl)) (pss_one (ps_expr (pe_callC C_check_point hr (pa_cons (pv 4) pa_nil)))))
      (pss_one (ps_if (pt_not (pt_val (pe_callC C_unlike hr (pa_cons (pe_tup (pa_cons (pv 0) (pa_cons (pv 1) (pa_cons (pv 2) pa_nil)))) pa_nil)))) (pss_one ps_never) pss_nil))), ?_⟩
  refine seq_by (fun σ H1 => Same H H1 ∧ ∃ z, σ = [some u, some v, some w, some t, z]) (fun k hk => ?_) ?_
  · refine for_srcT (fun y H1 => ∃ l, y = .ref l ∧ Same H H1 ∧ SqT K H1 l [u, v, w, t]) (fun k hk => ?_) ?_
    · walk_at "rd"
      exact ⟨by show 4 ≤ sizeLine; decide, fun p hp => hk _ _ ⟨p, rfl, same_new hp _, SqT.of upd_same⟩⟩
    · rintro y H1 ⟨l, rfl, g1, hq⟩
      refine ⟨l, rfl, ⟨_, hq⟩, forT (xs := [u, v, w, t]) (fun i σ H2 => Same H1 H2 ∧ ∃ z, σ = [some u, some v, some w, some t, z]) ⟨Same.refl _, none, rfl⟩ (fun i σ H2 _ h => Same.tup h.1 hq) ?_ ?_⟩
      · rintro Pv' hP i x0 σ H2 hx ⟨g2, r0, rfl⟩
        obtain ⟨ns, en, tn⟩ := (f4.tps.mono (g1.trans g2)).at hx
        obtain ⟨y, hy, rfl⟩ := map_at en
        obtain ⟨gy, byy⟩ := f4.all y (List.mem_of_getElem? hy)
        walk_at "rd"
        exact ⟨x0, y, rfl, tn, byy, gy, fun H3 g3 => hP _ _ _ ⟨g2.trans g3, _, rfl⟩⟩
      · rintro σ H2 ⟨g2, z, rfl⟩
        exact hk _ _ ⟨g1.trans g2, z, rfl⟩
  rintro σ H1 ⟨g1, z, rfl⟩
  have f1 := f4.mono g1
  walk_at "rd"
  refine ⟨by show 3 ≤ sizeLine; decide, fun p0 hp0 => ?_⟩
  have g2 := same_new hp0 (.tup [u, v, w])
  have f2 := f1.mono g2
  refine ⟨.ref p0, [p, q, r], rfl, ⟨p0, [u, v, w], rfl, .inr (SqT.of upd_same), .cons f2.tp (.cons f2.tq (.cons f2.tr .nil))⟩, by show 3 ≤ 17; decide, ?_⟩
  rw [decide_eq_true f2.nd]
  walk_at "rd"
  exact q0 _ (g1.trans g2)
theorem sc_lowest_change : FnScope ["numbers", "divisor", "number", "first"] ["numbers"] (defScope s_lowest_change) := ⟨rfl, rfl, rfl, by decide +kernel, rfl, by decide +kernel, by decide +kernel⟩
set_option maxHeartbeats 4000000 in
theorem cal_lowest_change (F : Def K mg "lowest_change" s_lowest_change ["numbers"]) (C_common_divisor : Cal P w K mg base 1 "common_divisor" ["one", "other"] spGcd) (B : Blt mg) : Cal P w K mg base 2 "lowest_change" ["numbers"] (spLowC K) := by
  refine F.cal (k := 1) sc_lowest_change (fun vs H Q E h => ?_) (fun f cdv A outer s H vs Q E hr h => ?_)
  · obtain ⟨v, m, rfl, ⟨a, rfl, hq⟩, hd, hb, q⟩ := h
    rfl
  obtain ⟨v, m, rfl, ⟨a, rfl, hq⟩, hd, hb, q⟩ := h
  have hu := hr.units
  have hu8 : (A.deeper (envOfC "lowest_change" (defScope s_lowest_change) s.heap.objs.size f cdv)).units + 80 < cLine := by have := hr.un; omega
  refine ⟨_, (pss_cons (ps_set (i := 1) sc_lowest_change.nd rfl (Or.inr rfl) pe_int)
      (pss_cons (ps_for PassesOwn.never rfl (pi_tup (pv 0)) (pg_name (i := 2) sc_lowest_change.nd rfl (Or.inl rfl)) (pss_one (ps_set (i := 1) sc_lowest_change.nd rfl (Or.inr rfl) (pe_callC C_common_divisor hr (pa_cons (pv 1) (pa_cons (pv 2) pa_nil))))))
      (pss_cons (ps_set (i := 3) sc_lowest_change.nd rfl (Or.inl rfl) (pe_ifExp (pt_cmpR op_ne (pe_ix ix_tupI (pv 0) pe_int (fun _ _ => rfl)) pe_int (nomark _)) (pe_ix ix_tupI (pv 0) pe_int (fun _ _ => rfl)) (pe_ix ix_tupI (pv 0) pe_int (fun _ _ => rfl))))
      (pss_cons (ps_if (pt_cmpR op_lt (pv 3) pe_int (nomark _)) (pss_one (ps_set (i := 1) sc_lowest_change.nd rfl (Or.inr rfl) (pe_un un_neg (pv 1)))) pss_nil)
      (pss_one (ps_ret (pe_callTy call_tuple_of rfl B.tuple bt_tuple (pa_cons (pe_comp [1] (sc := defScope s_lowest_change) (cn := ["divisor"]) rfl ⟨rfl, by decide +kernel, rfl, by decide +kernel, by decide +kernel, by decide +kernel, by decide +kernel⟩ rfl rfl (pi_tup (pv 0)) (fun _ _ _ _ _ => pq_nil) (fun _ _ _ _ _ => (pe_op op_fdivB (pv 0) (pv 1)))) pa_nil)))))))), ?_⟩
  have hv : Tp K H (.ref a) (cl m) := ⟨a, rfl, hq⟩
  obtain ⟨g, hge⟩ : ∃ g, g = if (if m.a ≠ 0 then m.a else m.b) < 0 then -(g4 m) else g4 m := ⟨_, rfl⟩
  have hg : g ≠ 0 := by have := g4_ne hd; rw [hge]; split <;> omega
  have hbg : Bd 8000 g := by
    have h : Bd 8000 (g4 m) := (hb.gcd).mono (by decide)
    rw [hge]
    by_cases c : (if m.a ≠ 0 then m.a else m.b) < 0
    · rw [if_pos c]; exact h.neg
    · rw [if_neg c]; exact h
  have hf : cl (nch m) = (cl m).map (fun n => n.fdiv g) := by rw [hge]; rfl
  apply seq_det
  · intro k hk; walk_at "rd"; exact hk
  refine seq_by (fun σ H' => ∃ r : Option V, σ = [some (.ref a), some (.int (g4 m)), r, none] ∧ H' = H) (fun k hk => ?_) ?_
  · refine ⟨_, rfl, a, rfl, ⟨_, hq⟩, forT (xs := (cl m).map V.int) (fun i σ H' => ∃ (r : Option V), σ = [some (.ref a), some (.int (gI ((cl m).take i))), r, none] ∧ H' = H) ⟨_, rfl, rfl⟩ (fun i σ H' _ h => ?_) ?_ ?_⟩
    · obtain ⟨r, rfl, rfl⟩ := h
      exact hq
    · rintro Pv' hP i x σ H' hx ⟨r, rfl, rfl⟩
      obtain ⟨n, hn, rfl⟩ := map_at hx
      walk_at "rd"
      refine ⟨_, _, rfl, hP _ _ _ ⟨some (.int n), ?_, rfl⟩⟩
      rw [gI_step hn]
    · rintro σ H' ⟨r, rfl, rfl⟩
      exact hk _ _ ⟨r, rfl, rfl⟩
  rintro σ H' ⟨r, rfl, rfl⟩
  refine seq_det (σ1 := [some (.ref a), some (.int (g4 m)), r, some (.int (if m.a ≠ 0 then m.a else m.b))]) (H1 := H') (fun k hk => ?_) ?_
  · walk_at "rd"
    refine ⟨_, hv, _, at0 _ _, ?_⟩
    refine ite2 (fun c => ?_) (fun c => ?_)
    · refine ⟨_, hv, _, at0 _ _, ?_⟩
      rw [if_pos (by simpa using c)] at hk; exact hk
    · refine ⟨_, hv, _, at1 _ _ _, ?_⟩
      rw [if_neg (by simpa using c)] at hk; exact hk
  refine seq_det (σ1 := [some (.ref a), some (.int g), r, some (.int (if m.a ≠ 0 then m.a else m.b))]) (H1 := H') (fun k hk => ?_) ?_
  · walk_at "rd"
    refine ite2 (fun c => ?_) (fun c => ?_)
    · rw [hge, if_pos c] at hk; exact hk
    · rw [hge, if_neg c] at hk; exact hk

  walk_at "rd"
  refine tcompT rfl hq (fun i acc H'' => acc = ((cl m).take i).map (fun n => V.int (n.fdiv g)) ∧ H'' = H') ⟨rfl, rfl⟩ (fun i acc H'' hi h => ?_) ?_ ?_
  · obtain ⟨rfl, rfl⟩ := h
    refine ⟨hq, ?_⟩
    rw [List.length_map, List.length_take]
    exact Nat.le_trans (Nat.min_le_right _ _) (by show 4 ≤ sizeLine; decide)
  · rintro i x acc H'' hx ⟨rfl, rfl⟩ R hR
    obtain ⟨n, hn, rfl⟩ := map_at hx
    simp only [capσ]
    walk_at "rd"
    refine ⟨⟨hg, hbg⟩, hR _ _ ⟨?_, rfl⟩⟩
    rw [List.take_add_one, hn]
    simp
  · rintro acc H'' p ⟨rfl, rfl⟩ hp
    walk_at "rd"
    refine ⟨_, .inl ⟨SqL.of upd_same, fun l hl => q _ _ (Same.trans (same_new hp _) (same_new hl _)) ⟨l, rfl, SqT.of ?_⟩⟩⟩
    rw [upd_same, hf, List.map_map]; rfl
theorem sc_is_change : FnScope ["change"] ["change"] (defScope s_is_change) := ⟨rfl, rfl, rfl, by decide +kernel, rfl, by decide +kernel, by decide +kernel⟩
set_option maxHeartbeats 4000000 in
theorem cal_is_change (F : Def K mg "is_change" s_is_change ["change"]) (C_lowest_change : Cal P w K mg base 2 "lowest_change" ["numbers"] (spLowC K)) : Cal P w K mg base 3 "is_change" ["change"] (spIsC K) := by
  refine F.cal (k := 2) sc_is_change (fun vs H Q E h => ?_) (fun f cdv A outer s H vs Q E hr h => ?_)
  · obtain ⟨v, m, rfl, hv, hb, q⟩ := h
    rfl
  obtain ⟨v, m, rfl, hv, hb, q⟩ := h
  have hu := hr.units
  have hu8 : (A.deeper (envOfC "is_change" (defScope s_is_change) s.heap.objs.size f cdv)).units + 80 < cLine := by have := hr.un; omega
  refine ⟨_, (pss_cons (ps_if (pt_cmpR op_eq (pe_op op_mulB (pe_ix ix_tupI (pv 0) pe_int (fun _ _ => rfl)) (pe_ix ix_tupI (pv 0) pe_int (fun _ _ => rfl))) (pe_op op_mulB (pe_ix ix_tupI (pv 0) pe_int (fun _ _ => rfl)) (pe_ix ix_tupI (pv 0) pe_int (fun _ _ => rfl))) (nomark _)) (pss_one (ps_ret pe_bl)) pss_nil)
      (pss_one (ps_ret (pe_cmpR (op_eqT hu) (pe_callC C_lowest_change hr (pa_cons (pv 0) pa_nil)) (pv 0) (nomark _))))), ?_⟩
  obtain ⟨b1, b2, b3, b4⟩ := id hb
  walk_at "rd"
  refine ⟨_, hv, _, at0 _ _, _, hv, _, at3 _ _ _ _ _, ⟨b1.mono (by decide), b4.mono (by decide)⟩, _, hv, _, at1 _ _ _, _, hv, _, at2 _ _ _ _, ⟨b2.mono (by decide), b3.mono (by decide)⟩, ?_⟩
  refine ite2 (fun c => ?_) (fun c => ?_)
  · have e : decide (GoodC m) = false := decide_eq_false fun h => h.1 c
    rw [e] at q
    exact q H (Same.refl H)
  · have hd : m.det ≠ 0 := by unfold Ch.det; omega
    refine ⟨v, m, rfl, hv, hd, hb, fun v' H' g t => ⟨_, t, _, hv.mono g, ?_⟩⟩
    have e : decide (cl (nch m) = cl m) = decide (GoodC m) := by
      rw [decide_eq_decide, ← nch_self_iff hd]
      exact cl_inj
    have h := q H' g
    rw [← e] at h
    exact h
theorem sc_check_change : FnScope ["change"] ["change"] (defScope s_check_change) := ⟨rfl, rfl, rfl, by decide +kernel, rfl, by decide +kernel, by decide +kernel⟩
set_option maxHeartbeats 4000000 in
theorem cal_check_change (F : Def K mg "check_change" s_check_change ["change"]) (C_is_change : Cal P w K mg base 3 "is_change" ["change"] (spIsC K)) : Cal P w K mg base 4 "check_change" ["change"] (spCheckC K) := by
  refine F.cal (k := 3) sc_check_change (fun vs H Q E h => ?_) (fun f cdv A outer s H vs Q E hr h => ?_)
  · obtain ⟨v, m, rfl, hv, hb, hg, q⟩ := h
    rfl
  obtain ⟨v, m, rfl, hv, hb, hg, q⟩ := h
  have hu := hr.units
  have hu8 : (A.deeper (envOfC "check_change" (defScope s_check_change) s.heap.objs.size f cdv)).units + 80 < cLine := by have := hr.un; omega
  refine ⟨_, (pss_one (ps_if (pt_not (pt_val (pe_callC C_is_change hr (pa_cons (pv 0) pa_nil)))) (pss_one ps_never) pss_nil)), ?_⟩
  walk_at "rd"
  refine ⟨v, m, rfl, hv, hb, fun H' g => ?_⟩
  have e : decide (GoodC m) = true := decide_eq_true hg
  rw [e]
  walk_at "rd"
  exact q H' g
theorem sc_moved : FnScope ["change", "point", "top", "bottom"] ["change", "point"] (defScope s_moved) := ⟨rfl, rfl, rfl, by decide +kernel, rfl, by decide +kernel, by decide +kernel⟩
set_option maxHeartbeats 4000000 in
theorem cal_moved (F : Def K mg "moved" s_moved ["change", "point"]) (C_check_change : Cal P w K mg base 4 "check_change" ["change"] (spCheckC K)) (C_check_point : Cal P w K mg base 4 "check_point" ["point"] (spCheckP K)) (C_lowest_point : Cal P w K mg base 4 "lowest_point" ["top", "bottom"] (spLowP K)) : Cal P w K mg base 5 "moved" ["change", "point"] (spMoved K) := by
  refine F.cal (k := 4) sc_moved (fun vs H Q E h => ?_) (fun f cdv A outer s H vs Q E hr h => ?_)
  · obtain ⟨v, u, m, p, rfl, hv, hp, gm, gp, bm, bp, q⟩ := h
    rfl
  obtain ⟨v, u, m, p, rfl, hv, hp, gm, gp, bm, bp, q⟩ := h
  have hu := hr.units
  have hu8 : (A.deeper (envOfC "moved" (defScope s_moved) s.heap.objs.size f cdv)).units + 80 < cLine := by have := hr.un; omega
  refine ⟨_, (pss_cons (ps_expr (pe_callC C_check_change hr (pa_cons (pv 0) pa_nil)))
      (pss_cons (ps_expr (pe_callC C_check_point hr (pa_cons (pv 1) pa_nil)))
      (pss_cons (ps_set (i := 2) sc_moved.nd rfl (Or.inl rfl) (pe_op op_add (pe_op op_mulB (pe_ix ix_tupI (pv 0) pe_int (fun _ _ => rfl)) (pe_ix ix_tupI (pv 1) pe_int (fun _ _ => rfl))) (pe_op op_mulB (pe_ix ix_tupI (pv 0) pe_int (fun _ _ => rfl)) (pe_ix ix_tupI (pv 1) pe_int (fun _ _ => rfl)))))
      (pss_cons (ps_set (i := 3) sc_moved.nd rfl (Or.inl rfl) (pe_op op_add (pe_op op_mulB (pe_ix ix_tupI (pv 0) pe_int (fun _ _ => rfl)) (pe_ix ix_tupI (pv 1) pe_int (fun _ _ => rfl))) (pe_op op_mulB (pe_ix ix_tupI (pv 0) pe_int (fun _ _ => rfl)) (pe_ix ix_tupI (pv 1) pe_int (fun _ _ => rfl)))))
      (pss_one (ps_ret (pe_callC C_lowest_point hr (pa_cons (pv 2) (pa_cons (pv 3) pa_nil))))))))), ?_⟩
  obtain ⟨a1, a2, a3, a4⟩ := bm.mono (show 1900 ≤ 100000 by decide)
  obtain ⟨b1, b2⟩ := bp.mono (show 1900 ≤ 100000 by decide)
  refine seq_by (fun σ H' => σ = [some v, some u, none, none] ∧ Same H H') (fun k hk => ?_) ?_
  · walk_at "rd"
    exact ⟨v, m, rfl, hv, bm.mono (by decide), gm, fun H' g => hk _ _ ⟨rfl, g⟩⟩
  rintro σ H1 ⟨rfl, g1⟩
  refine seq_by (fun σ H' => σ = [some v, some u, none, none] ∧ Same H H') (fun k hk => ?_) ?_
  · walk_at "rd"
    exact ⟨u, p, rfl, hp.mono g1, bp.mono (by decide), gp, fun H' g => hk _ _ ⟨rfl, g1.trans g⟩⟩
  rintro σ H2 ⟨rfl, g2⟩
  have hv := hv.mono g2
  have hp := hp.mono g2
  apply seq_det
  · intro k hk; walk_at "rd"
    exact ⟨_, hv, _, at0 _ _, _, hp, _, at0 _ _, ⟨a1, b1⟩, _, hv, _, at1 _ _ _, _, hp, _, at1 _ _ _, ⟨a2, b2⟩, hk⟩
  apply seq_det
  · intro k hk; walk_at "rd"
    exact ⟨_, hv, _, at2 _ _ _ _, _, hp, _, at0 _ _, ⟨a3, b1⟩, _, hv, _, at3 _ _ _ _ _, _, hp, _, at1 _ _ _, ⟨a4, b2⟩, hk⟩
  walk_at "rd"
  exact ⟨_, _, rfl, ((bm.1.mul bp.1).add (bm.2.1.mul bp.2)).mono (by decide), ((bm.2.2.1.mul bp.1).add (bm.2.2.2.mul bp.2)).mono (by decide), q.from g2⟩
theorem sc_gap : FnScope ["one", "other"] ["one", "other"] (defScope s_gap) := ⟨rfl, rfl, rfl, by decide +kernel, rfl, by decide +kernel, by decide +kernel⟩
set_option maxHeartbeats 4000000 in
theorem cal_gap (F : Def K mg "gap" s_gap ["one", "other"]) : Cal P w K mg base 1 "gap" ["one", "other"] (spGap K) := by
  refine F.cal (k := 0) sc_gap (fun vs H Q E h => ?_) (fun f cdv A outer s H vs Q E hr h => ?_)
  · obtain ⟨v, u, x, y, rfl, hx, hy, bx, by_, q⟩ := h
    rfl
  obtain ⟨v, u, x, y, rfl, hx, hy, bx, by_, q⟩ := h
  have hu := hr.units
  have hu8 : (A.deeper (envOfC "gap" (defScope s_gap) s.heap.objs.size f cdv)).units + 80 < cLine := by have := hr.un; omega
  refine ⟨_, (pss_one (ps_ret (pe_op op_sub (pe_op op_mulB (pe_ix ix_tupI (pv 0) pe_int (fun _ _ => rfl)) (pe_ix ix_tupI (pv 1) pe_int (fun _ _ => rfl))) (pe_op op_mulB (pe_ix ix_tupI (pv 0) pe_int (fun _ _ => rfl)) (pe_ix ix_tupI (pv 1) pe_int (fun _ _ => rfl)))))), ?_⟩
  walk_at "rd"
  exact ⟨_, hx, _, at0 _ _, _, hy, _, at1 _ _ _, ⟨bx.1.mono (by decide), by_.2.mono (by decide)⟩, _, hx, _, at1 _ _ _, _, hy, _, at0 _ _, ⟨bx.2.mono (by decide), by_.1.mono (by decide)⟩, q⟩
theorem sc_to_base : FnScope ["one", "two", "three", "upper", "lower"] ["one", "two", "three"] (defScope s_to_base) := ⟨rfl, rfl, rfl, by decide +kernel, rfl, by decide +kernel, by decide +kernel⟩
set_option maxHeartbeats 4000000 in
theorem cal_to_base (F : Def K mg "to_base" s_to_base ["one", "two", "three"]) (C_gap : Cal P w K mg base 2 "gap" ["one", "other"] (spGap K)) (C_lowest_change : Cal P w K mg base 2 "lowest_change" ["numbers"] (spLowC K)) : Cal P w K mg base 3 "to_base" ["one", "two", "three"] (spBase K) := by
  refine F.cal (k := 2) sc_to_base (fun vs H Q E h => ?_) (fun f cdv A outer s H vs Q E hr h => ?_)
  · obtain ⟨u, v, t, p, q, r, rfl, hp, hq, hv, un, bp, bq, br, q0⟩ := h
    rfl
  obtain ⟨u, v, t, p, q, r, rfl, hp, hq, hv, un, bp, bq, br, q0⟩ := h
  have hu := hr.units
  have hu8 : (A.deeper (envOfC "to_base" (defScope s_to_base) s.heap.objs.size f cdv)).units + 80 < cLine := by have := hr.un; omega
  refine ⟨_, (pss_cons (ps_set (i := 3) sc_to_base.nd rfl (Or.inl rfl) (pe_callC C_gap hr (pa_cons (pv 2) (pa_cons (pv 0) pa_nil))))
      (pss_cons (ps_set (i := 4) sc_to_base.nd rfl (Or.inl rfl) (pe_callC C_gap hr (pa_cons (pv 2) (pa_cons (pv 1) pa_nil))))
      (pss_one (ps_ret (pe_callC C_lowest_change hr (pa_cons (pe_tup (pa_cons (pe_op op_mulB (pe_ix ix_tupI (pv 1) pe_int (fun _ _ => rfl)) (pv 3)) (pa_cons (pe_op op_mulB (pe_un un_neg (pe_ix ix_tupI (pv 1) pe_int (fun _ _ => rfl))) (pv 3)) (pa_cons (pe_op op_mulB (pe_ix ix_tupI (pv 0) pe_int (fun _ _ => rfl)) (pv 4)) (pa_cons (pe_op op_mulB (pe_un un_neg (pe_ix ix_tupI (pv 0) pe_int (fun _ _ => rfl))) (pv 4)) pa_nil))))) pa_nil)))))), ?_⟩
  have g1 := (Bd.gap br bp).mono (show 400 + 400 + 1 ≤ 100000 by decide)
  have g2 := (Bd.gap br bq).mono (show 400 + 400 + 1 ≤ 100000 by decide)
  have p1 := bp.mono (show 400 ≤ 100000 by decide)
  have p2 := bq.mono (show 400 ≤ 100000 by decide)
  apply seq_det
  · intro k hk; walk_at "rd"; exact ⟨_, _, r, p, rfl, hv, hp, br.mono (by decide), bp.mono (by decide), hk⟩
  apply seq_det
  · intro k hk; walk_at "rd"; exact ⟨_, _, r, q, rfl, hv, hq, br.mono (by decide), bq.mono (by decide), hk⟩
  walk_at "rd"
  refine ⟨_, hq, _, at1 _ _ _, ⟨p2.2, g1⟩, _, hq, _, at0 _ _, ⟨p2.1.neg, g1⟩, _, hp, _, at1 _ _ _, ⟨p1.2, g2⟩, _, hp, _, at0 _ _, ⟨p1.1.neg, g2⟩, (by show 4 ≤ sizeLine; decide), fun a ha => ?_⟩
  exact ⟨.ref a, base3 p q r, rfl, ⟨a, rfl, SqT.of upd_same⟩, un.det, (BdC.base bp bq br).mono (by decide), q0.from (same_new ha _)⟩
theorem sc_cross : FnScope ["one", "two", "three", "four"] ["one", "two", "three", "four"] (defScope s_cross) := ⟨rfl, rfl, rfl, by decide +kernel, rfl, by decide +kernel, by decide +kernel⟩
set_option maxHeartbeats 4000000 in
theorem cal_cross (F : Def K mg "cross" s_cross ["one", "two", "three", "four"]) (C_check_three : Cal P w K mg base 5 "check_three" ["one", "two", "three", "last"] (spCheckThree K)) (C_moved : Cal P w K mg base 5 "moved" ["change", "point"] (spMoved K)) (C_to_base : Cal P w K mg base 5 "to_base" ["one", "two", "three"] (spBase K)) : Cal P w K mg base 6 "cross" ["one", "two", "three", "four"] (spCross K) := by
  refine F.cal (k := 5) sc_cross (fun vs H Q E h => ?_) (fun f cdv A outer s H vs Q E hr h => ?_)
  · obtain ⟨u, v, w, t, p, q, r, x, rfl, f4, q0⟩ := h
    rfl
  obtain ⟨u, v, w, t, p, q, r, x, rfl, f4, q0⟩ := h
  have hu := hr.units
  have hu8 : (A.deeper (envOfC "cross" (defScope s_cross) s.heap.objs.size f cdv)).units + 80 < cLine := by have := hr.un; omega
  refine ⟨_, (pss_cons (ps_expr (pe_callC C_check_three hr (pa_cons (pv 0) (pa_cons (pv 1) (pa_cons (pv 2) (pa_cons (pv 3) pa_nil))))))
      (pss_one (ps_ret (pe_callC C_moved hr (pa_cons (pe_callC C_to_base hr (pa_cons (pv 0) (pa_cons (pv 1) (pa_cons (pv 2) pa_nil)))) (pa_cons (pv 3) pa_nil)))))), ?_⟩
  refine seq_by (fun σ H1 => Same H H1 ∧ σ = [some u, some v, some w, some t]) (fun k hk => ?_) ?_
  · walk_at "rd"
    exact ⟨_, _, _, _, _, _, _, _, rfl, f4, fun H1 g1 => hk _ _ ⟨g1, rfl⟩⟩
  rintro σ H1 ⟨g1, rfl⟩
  have f1 := f4.mono g1
  walk_at "rd"
  refine ⟨_, _, _, p, q, r, rfl, f1.tp, f1.tq, f1.tr, un3_unlike f1.un, f1.bp, f1.bq, f1.br, fun m H2 g2 tm => ?_⟩
  exact ⟨m, t, _, x, rfl, tm, f1.tx.mono g2, nch_goodC f1.un.det, f1.gx, (bd_base f1.un f1.bp f1.bq f1.br).mono (by decide), f1.bx, (q0.from g1).from g2⟩
theorem sc_back : FnScope ["change"] ["change"] (defScope s_back) := ⟨rfl, rfl, rfl, by decide +kernel, rfl, by decide +kernel, by decide +kernel⟩
set_option maxHeartbeats 4000000 in
theorem cal_back (F : Def K mg "back" s_back ["change"]) (C_check_change : Cal P w K mg base 4 "check_change" ["change"] (spCheckC K)) (C_lowest_change : Cal P w K mg base 4 "lowest_change" ["numbers"] (spLowC K)) : Cal P w K mg base 5 "back" ["change"] (spBack K) := by
  refine F.cal (k := 4) sc_back (fun vs H Q E h => ?_) (fun f cdv A outer s H vs Q E hr h => ?_)
  · obtain ⟨v, m, rfl, hv, gm, bm, q⟩ := h
    rfl
  obtain ⟨v, m, rfl, hv, gm, bm, q⟩ := h
  have hu := hr.units
  have hu8 : (A.deeper (envOfC "back" (defScope s_back) s.heap.objs.size f cdv)).units + 80 < cLine := by have := hr.un; omega
  refine ⟨_, (pss_cons (ps_expr (pe_callC C_check_change hr (pa_cons (pv 0) pa_nil)))
      (pss_one (ps_ret (pe_callC C_lowest_change hr (pa_cons (pe_tup (pa_cons (pe_ix ix_tupI (pv 0) pe_int (fun _ _ => rfl)) (pa_cons (pe_un un_neg (pe_ix ix_tupI (pv 0) pe_int (fun _ _ => rfl))) (pa_cons (pe_un un_neg (pe_ix ix_tupI (pv 0) pe_int (fun _ _ => rfl))) (pa_cons (pe_ix ix_tupI (pv 0) pe_int (fun _ _ => rfl)) pa_nil))))) pa_nil))))), ?_⟩
  refine seq_by (fun σ H' => σ = [some v] ∧ Same H H') (fun k hk => ?_) ?_
  · walk_at "rd"
    exact ⟨v, m, rfl, hv, bm.mono (by decide), gm, fun H' g => hk _ _ ⟨rfl, g⟩⟩
  rintro σ H1 ⟨rfl, g1⟩
  have hv := hv.mono g1
  walk_at "rd"
  refine ⟨_, hv, _, at3 _ _ _ _ _, _, hv, _, at1 _ _ _, _, hv, _, at2 _ _ _ _, _, hv, _, at0 _ _, (by show 4 ≤ sizeLine; decide), fun p hp => ?_⟩
  exact ⟨.ref p, adj m, rfl, ⟨p, rfl, SqT.of upd_same⟩, by rw [det_adj]; exact gm.det, (bm.adj).mono (by decide), q.from (g1.trans (same_new hp _))⟩
theorem sc_fourth : FnScope ["one", "two", "three", "number"] ["one", "two", "three", "number"] (defScope s_fourth) := ⟨rfl, rfl, rfl, by decide +kernel, rfl, by decide +kernel, by decide +kernel⟩
set_option maxHeartbeats 4000000 in
theorem cal_fourth (F : Def K mg "fourth" s_fourth ["one", "two", "three", "number"]) (C_check_three : Cal P w K mg base 5 "check_three" ["one", "two", "three", "last"] (spCheckThree K)) (C_moved : Cal P w K mg base 5 "moved" ["change", "point"] (spMoved K)) (C_back : Cal P w K mg base 5 "back" ["change"] (spBack K)) (C_to_base : Cal P w K mg base 5 "to_base" ["one", "two", "three"] (spBase K)) : Cal P w K mg base 6 "fourth" ["one", "two", "three", "number"] (spFourth K) := by
  refine F.cal (k := 5) sc_fourth (fun vs H Q E h => ?_) (fun f cdv A outer s H vs Q E hr h => ?_)
  · obtain ⟨u, v, w, t, p, q, r, x, rfl, f4, q0⟩ := h
    rfl
  obtain ⟨u, v, w, t, p, q, r, x, rfl, f4, q0⟩ := h
  have hu := hr.units
  have hu8 : (A.deeper (envOfC "fourth" (defScope s_fourth) s.heap.objs.size f cdv)).units + 80 < cLine := by have := hr.un; omega
  refine ⟨_, (pss_cons (ps_expr (pe_callC C_check_three hr (pa_cons (pv 0) (pa_cons (pv 1) (pa_cons (pv 2) (pa_cons (pv 3) pa_nil))))))
      (pss_one (ps_ret (pe_callC C_moved hr (pa_cons (pe_callC C_back hr (pa_cons (pe_callC C_to_base hr (pa_cons (pv 0) (pa_cons (pv 1) (pa_cons (pv 2) pa_nil)))) pa_nil)) (pa_cons (pv 3) pa_nil)))))), ?_⟩
  refine seq_by (fun σ H1 => Same H H1 ∧ σ = [some u, some v, some w, some t]) (fun k hk => ?_) ?_
  · walk_at "rd"
    exact ⟨_, _, _, _, _, _, _, _, rfl, f4, fun H1 g1 => hk _ _ ⟨g1, rfl⟩⟩
  rintro σ H1 ⟨g1, rfl⟩
  have f1 := f4.mono g1
  have bb := bd_base f1.un f1.bp f1.bq f1.br
  walk_at "rd"
  refine ⟨_, _, _, p, q, r, rfl, f1.tp, f1.tq, f1.tr, un3_unlike f1.un, f1.bp, f1.bq, f1.br, fun m H2 g2 tm => ?_⟩
  refine ⟨m, _, rfl, tm, nch_goodC f1.un.det, bb.mono (by decide), fun b H3 g3 tb => ?_⟩
  exact ⟨b, t, _, x, rfl, tb, (f1.tx.mono g2).mono g3, nch_goodC (det_fo f1.un), f1.gx, (bb.adj.nch (det_fo f1.un)).mono (by decide), f1.bx, ((q0.from g1).from g2).from g3⟩
theorem sc_check_told : FnScope ["points", "goals", "point"] ["points", "goals"] (defScope s_check_told) := ⟨rfl, rfl, rfl, by decide +kernel, rfl, by decide +kernel, by decide +kernel⟩
set_option maxHeartbeats 4000000 in
theorem cal_check_told (F : Def K mg "check_told" s_check_told ["points", "goals"]) (C_check_point : Cal P w K mg base 4 "check_point" ["point"] (spCheckP K)) (C_unlike : Cal P w K mg base 4 "unlike" ["points"] (spUnlike K)) (B : Blt mg) {uF : Value} (c_FEWEST_POINTS : mg "FEWEST_POINTS" = some uF ∧ RelV (.int 3) uF) {uP : Value} (c_MOST_POINTS : mg "MOST_POINTS" = some uP ∧ RelV (.int 8) uP) : Cal P w K mg base 5 "check_told" ["points", "goals"] (spCheckTold K) := by
  refine F.cal (k := 4) sc_check_told (fun vs H Q E h => ?_) (fun f cdv A outer s H vs Q E hr h => ?_)
  · obtain ⟨v, u, ps, gs, rfl, tb, q⟩ := h
    rfl
  obtain ⟨v, u, ps, gs, rfl, tb, q⟩ := h
  have hu := hr.units
  have hu8 : (A.deeper (envOfC "check_told" (defScope s_check_told) s.heap.objs.size f cdv)).units + 80 < cLine := by have := hr.un; omega
  refine ⟨_, (pss_cons (ps_for PassesOwn.never rfl (pi_list (pe_op op_cat (pv 0) (pv 1))) (pg_name (i := 2) sc_check_told.nd rfl (Or.inl rfl)) (pss_one (ps_expr (pe_callC C_check_point hr (pa_cons (pv 2) pa_nil)))))
      (pss_cons (ps_if (pt_cmpR op_ne (pe_callB call_len_seq rfl B.len bt_len (pa_cons (pv 0) pa_nil)) (pe_callB call_len_seq rfl B.len bt_len (pa_cons (pv 1) pa_nil)) (nomark _)) (pss_one ps_never) pss_nil)
      (pss_cons (ps_if (PW.pt (pw_or (pt_cmpR op_lt (pe_callB call_len_seq rfl B.len bt_len (pa_cons (pv 0) pa_nil)) (pe_glob rfl c_FEWEST_POINTS.1 c_FEWEST_POINTS.2) (nomark _)) (pw_or1 (pt_cmpR op_gt (pe_callB call_len_seq rfl B.len bt_len (pa_cons (pv 0) pa_nil)) (pe_glob rfl c_MOST_POINTS.1 c_MOST_POINTS.2) (nomark _))))) (pss_one ps_never) pss_nil)
      (pss_one (ps_if (PW.pt (pw_or (pt_not (pt_val (pe_callC C_unlike hr (pa_cons (pv 0) pa_nil)))) (pw_or1 (pt_not (pt_val (pe_callC C_unlike hr (pa_cons (pv 1) pa_nil))))))) (pss_one ps_never) pss_nil))))), ?_⟩
  obtain ⟨⟨l1, ws1, rfl, hH1, ht1⟩, ⟨l2, ws2, rfl, hH2, ht2⟩, gp, gg, hlen, h3, h8, nd1, nd2⟩ := tb
  have hq1 := SqL.of (K := K) hH1
  have hq2 := SqL.of (K := K) hH2
  have L1 : ws1.length = ps.length := by rw [ht1.length, List.length_map]
  have L2' : ws2.length = gs.length := by rw [ht2.length, List.length_map]
  refine seq_by (fun σ H1 => Same H H1 ∧ ∃ r, σ = [some (.ref l1), some (.ref l2), r]) (fun k hk => ?_) ?_
  · refine for_src (fun x H1 => ∃ l, x = .ref l ∧ Same H H1 ∧ SqL K H1 l (ws1 ++ ws2)) (fun k hk => ?_) ?_
    · walk_at "rd"
      refine ⟨ws1, hH1, ws2, hH2, by rw [L1, L2']; exact Nat.le_of_lt (small1000 (by omega)), fun p hp => hk _ _ ⟨p, rfl, same_new hp _, SqL.of upd_same⟩⟩
    · rintro x H1 ⟨l, rfl, g1, hq⟩
      refine ⟨l, rfl, ⟨_, hq⟩, forL (xs := ws1 ++ ws2) (fun i σ H2 => Same H1 H2 ∧ ∃ r, σ = [some (.ref l1), some (.ref l2), r]) ⟨Same.refl _, none, rfl⟩ (fun i σ H2 _ h => h.1.seq hq) ?_ ?_⟩
      · rintro Pv' hP i x σ H2 hx ⟨g2, r, rfl⟩
        obtain ⟨ns, en, tn⟩ := (Tps.append (ht1.mono g1) (ht2.mono g1)).at hx
        obtain ⟨p, hp, rfl⟩ : ∃ p, (GoodPt p ∧ BdPt 200 p) ∧ pl p = ns := by
          have hm := List.mem_of_getElem? en
          rcases List.mem_append.mp hm with z | z
          · obtain ⟨p, hp, e⟩ := List.mem_map.mp z
            exact ⟨p, gp p hp, e⟩
          · obtain ⟨p, hp, e⟩ := List.mem_map.mp z
            exact ⟨p, gg p hp, e⟩
        walk_at "rd"
        exact ⟨x, p, rfl, tn.mono g2, hp.2.mono (by decide), hp.1, fun H3 g3 => hP _ _ _ ⟨g2.trans g3, _, rfl⟩⟩
      · rintro σ H2 ⟨g2, r, rfl⟩
        exact hk _ _ ⟨g1.trans g2, r, rfl⟩
  rintro σ H1 ⟨g1, r, rfl⟩
  have q1 := g1.seq hq1
  have q2 := g1.seq hq2
  apply seq_det
  · intro k hk; walk_at "rd"
    refine ⟨ws1, .inl q1, ws2, .inl q2, ?_⟩
    rw [if_neg (by omega)]
    exact hk
  apply seq_det
  · intro k hk; walk_at "rd"
    refine ⟨ws1, .inl q1, ?_⟩
    rw [if_neg (by omega)]
    refine ⟨ws1, .inl q1, ?_⟩
    rw [if_neg (by omega)]
    exact hk
  walk_at "rd"
  refine ⟨.ref l1, ps, rfl, ⟨l1, ws1, rfl, .inl q1, ht1.mono g1⟩, by omega, ?_⟩
  rw [decide_eq_true nd1]
  walk_at "rd"
  refine ⟨.ref l2, gs, rfl, ⟨l2, ws2, rfl, .inl q2, ht2.mono g1⟩, by omega, ?_⟩
  rw [decide_eq_true nd2]
  walk_at "rd"
  exact q H1 g1
theorem sc_joined : FnScope ["one", "other"] ["one", "other"] (defScope s_joined) := ⟨rfl, rfl, rfl, by decide +kernel, rfl, by decide +kernel, by decide +kernel⟩
set_option maxHeartbeats 4000000 in
theorem cal_joined (F : Def K mg "joined" s_joined ["one", "other"]) : Cal P w K mg base 1 "joined" ["one", "other"] (spJoined K) := by
  refine F.cal (k := 0) sc_joined (fun vs H Q E h => ?_) (fun f cdv A outer s H vs Q E hr h => ?_)
  · obtain ⟨v, u, m, n, rfl, hv, hn, bm, bn, q⟩ := h
    rfl
  obtain ⟨v, u, m, n, rfl, hv, hn, bm, bn, q⟩ := h
  have hu := hr.units
  have hu8 : (A.deeper (envOfC "joined" (defScope s_joined) s.heap.objs.size f cdv)).units + 80 < cLine := by have := hr.un; omega
  refine ⟨_, (pss_one (ps_ret (pe_tup (pa_cons (pe_op op_add (pe_op op_mulB (pe_ix ix_tupI (pv 1) pe_int (fun _ _ => rfl)) (pe_ix ix_tupI (pv 0) pe_int (fun _ _ => rfl))) (pe_op op_mulB (pe_ix ix_tupI (pv 1) pe_int (fun _ _ => rfl)) (pe_ix ix_tupI (pv 0) pe_int (fun _ _ => rfl)))) (pa_cons (pe_op op_add (pe_op op_mulB (pe_ix ix_tupI (pv 1) pe_int (fun _ _ => rfl)) (pe_ix ix_tupI (pv 0) pe_int (fun _ _ => rfl))) (pe_op op_mulB (pe_ix ix_tupI (pv 1) pe_int (fun _ _ => rfl)) (pe_ix ix_tupI (pv 0) pe_int (fun _ _ => rfl)))) (pa_cons (pe_op op_add (pe_op op_mulB (pe_ix ix_tupI (pv 1) pe_int (fun _ _ => rfl)) (pe_ix ix_tupI (pv 0) pe_int (fun _ _ => rfl))) (pe_op op_mulB (pe_ix ix_tupI (pv 1) pe_int (fun _ _ => rfl)) (pe_ix ix_tupI (pv 0) pe_int (fun _ _ => rfl)))) (pa_cons (pe_op op_add (pe_op op_mulB (pe_ix ix_tupI (pv 1) pe_int (fun _ _ => rfl)) (pe_ix ix_tupI (pv 0) pe_int (fun _ _ => rfl))) (pe_op op_mulB (pe_ix ix_tupI (pv 1) pe_int (fun _ _ => rfl)) (pe_ix ix_tupI (pv 0) pe_int (fun _ _ => rfl)))) pa_nil))))))), ?_⟩
  obtain ⟨a1, a2, a3, a4⟩ := bm.mono (show 50000 ≤ 100000 by decide)
  obtain ⟨b1, b2, b3, b4⟩ := bn.mono (show 50000 ≤ 100000 by decide)
  walk_at "rd"
  refine ⟨_, hn, _, at0 _ _, _, hv, _, at0 _ _, ⟨b1, a1⟩, _, hn, _, at1 _ _ _, _, hv, _, at2 _ _ _ _, ⟨b2, a3⟩, ?_⟩
  refine ⟨_, hn, _, at0 _ _, _, hv, _, at1 _ _ _, ⟨b1, a2⟩, _, hn, _, at1 _ _ _, _, hv, _, at3 _ _ _ _ _, ⟨b2, a4⟩, ?_⟩
  refine ⟨_, hn, _, at2 _ _ _ _, _, hv, _, at0 _ _, ⟨b3, a1⟩, _, hn, _, at3 _ _ _ _ _, _, hv, _, at2 _ _ _ _, ⟨b4, a3⟩, ?_⟩
  refine ⟨_, hn, _, at2 _ _ _ _, _, hv, _, at1 _ _ _, ⟨b3, a2⟩, _, hn, _, at3 _ _ _ _ _, _, hv, _, at3 _ _ _ _ _, ⟨b4, a4⟩, (by show 4 ≤ sizeLine; decide), fun p hp => ?_⟩
  exact q _ _ (same_new hp _) ⟨p, rfl, SqT.of upd_same⟩
theorem sc_after : FnScope ["one", "other"] ["one", "other"] (defScope s_after) := ⟨rfl, rfl, rfl, by decide +kernel, rfl, by decide +kernel, by decide +kernel⟩
set_option maxHeartbeats 4000000 in
theorem cal_after (F : Def K mg "after" s_after ["one", "other"]) (C_check_change : Cal P w K mg base 4 "check_change" ["change"] (spCheckC K)) (C_joined : Cal P w K mg base 4 "joined" ["one", "other"] (spJoined K)) (C_lowest_change : Cal P w K mg base 4 "lowest_change" ["numbers"] (spLowC K)) : Cal P w K mg base 5 "after" ["one", "other"] (spAfter K) := by
  refine F.cal (k := 4) sc_after (fun vs H Q E h => ?_) (fun f cdv A outer s H vs Q E hr h => ?_)
  · obtain ⟨v, u, m, n, rfl, hv, hn, gm, gn, bm, bn, q⟩ := h
    rfl
  obtain ⟨v, u, m, n, rfl, hv, hn, gm, gn, bm, bn, q⟩ := h
  have hu := hr.units
  have hu8 : (A.deeper (envOfC "after" (defScope s_after) s.heap.objs.size f cdv)).units + 80 < cLine := by have := hr.un; omega
  refine ⟨_, (pss_cons (ps_expr (pe_callC C_check_change hr (pa_cons (pv 0) pa_nil)))
      (pss_cons (ps_expr (pe_callC C_check_change hr (pa_cons (pv 1) pa_nil)))
      (pss_one (ps_ret (pe_callC C_lowest_change hr (pa_cons (pe_callC C_joined hr (pa_cons (pv 0) (pa_cons (pv 1) pa_nil))) pa_nil)))))), ?_⟩
  refine seq_by (fun σ H' => σ = [some v, some u] ∧ Same H H') (fun k hk => ?_) ?_
  · walk_at "rd"
    exact ⟨v, m, rfl, hv, bm.mono (by decide), gm, fun H' g => hk _ _ ⟨rfl, g⟩⟩
  rintro σ H1 ⟨rfl, g1⟩
  refine seq_by (fun σ H' => σ = [some v, some u] ∧ Same H H') (fun k hk => ?_) ?_
  · walk_at "rd"
    exact ⟨u, n, rfl, hn.mono g1, bn.mono (by decide), gn, fun H' g => hk _ _ ⟨rfl, g1.trans g⟩⟩
  rintro σ H2 ⟨rfl, g2⟩
  walk_at "rd"
  refine ⟨v, u, m, n, rfl, hv.mono g2, hn.mono g2, bm.mono (by decide), bn.mono (by decide), fun w H3 g3 t3 => ?_⟩
  exact ⟨w, _, rfl, t3, mul_ne gm.det gn.det, (bm.mul bn).mono (by decide), q.from (g2.trans g3)⟩
theorem sc_told_by : FnScope ["points", "goals", "there", "onward", "change", "point", "goal"] ["points", "goals"] (defScope s_told_by) := ⟨rfl, rfl, rfl, by decide +kernel, rfl, by decide +kernel, by decide +kernel⟩
set_option maxHeartbeats 4000000 in
theorem cal_told_by (F : Def K mg "told_by" s_told_by ["points", "goals"]) (C_check_told : Cal P w K mg base 6 "check_told" ["points", "goals"] (spCheckTold K)) (C_to_base : Cal P w K mg base 6 "to_base" ["one", "two", "three"] (spBase K)) (C_back : Cal P w K mg base 6 "back" ["change"] (spBack K)) (C_after : Cal P w K mg base 6 "after" ["one", "other"] (spAfter K)) (C_moved : Cal P w K mg base 6 "moved" ["change", "point"] (spMoved K)) (B : Blt mg) : Cal P w K mg base 7 "told_by" ["points", "goals"] (spTold K) := by
  refine F.cal (k := 6) sc_told_by (fun vs H Q E h => ?_) (fun f cdv A outer s H vs Q E hr h => ?_)
  · obtain ⟨v, u, ps, gs, rfl, tb, q0⟩ := h
    rfl
  obtain ⟨v, u, ps, gs, rfl, tb, q0⟩ := h
  have hu := hr.units
  have hu8 : (A.deeper (envOfC "told_by" (defScope s_told_by) s.heap.objs.size f cdv)).units + 80 < cLine := by have := hr.un; omega
  refine ⟨_, (pss_cons (ps_expr (pe_callC C_check_told hr (pa_cons (pv 0) (pa_cons (pv 1) pa_nil))))
      (pss_cons (ps_set (i := 2) sc_told_by.nd rfl (Or.inl rfl) (pe_callC C_to_base hr (pa_cons (pe_ix ix_list (pv 0) pe_int (fun _ _ => rfl)) (pa_cons (pe_ix ix_list (pv 0) pe_int (fun _ _ => rfl)) (pa_cons (pe_ix ix_list (pv 0) pe_int (fun _ _ => rfl)) pa_nil)))))
      (pss_cons (ps_set (i := 3) sc_told_by.nd rfl (Or.inl rfl) (pe_callC C_back hr (pa_cons (pe_callC C_to_base hr (pa_cons (pe_ix ix_list (pv 1) pe_int (fun _ _ => rfl)) (pa_cons (pe_ix ix_list (pv 1) pe_int (fun _ _ => rfl)) (pa_cons (pe_ix ix_list (pv 1) pe_int (fun _ _ => rfl)) pa_nil)))) pa_nil)))
      (pss_cons (ps_set (i := 4) sc_told_by.nd rfl (Or.inl rfl) (pe_callC C_after hr (pa_cons (pv 2) (pa_cons (pv 3) pa_nil))))
      (pss_cons (ps_for PassesOwn.never rfl (pi_zip rfl B.zip (pa_cons (pv 0) (pa_cons (pv 1) pa_nil))) (pg_tup rfl (pgs_cons (pg_name (i := 5) sc_told_by.nd rfl (Or.inl rfl)) (pgs_cons (pg_name (i := 6) sc_told_by.nd rfl (Or.inl rfl)) pgs_nil))) (pss_one (ps_if (pt_cmpR (op_neT hu) (pe_callC C_moved hr (pa_cons (pv 4) (pa_cons (pv 5) pa_nil))) (pv 6) (nomark _)) (pss_one (ps_ret pe_non)) pss_nil)))
      (pss_one (ps_ret (pv 4)))))))), ?_⟩
  obtain ⟨⟨l1, ws1, rfl, hH1, ht1⟩, ⟨l2, ws2, rfl, hH2, ht2⟩, gp, gg, hlen, h3, h8, nd1, nd2⟩ := id tb
  obtain ⟨p, q, r, ps', rfl⟩ := list3 h3
  obtain ⟨p', q', r', gs', rfl⟩ := list3 (show 3 ≤ gs.length by omega)
  have un := unlike_of gp nd1
  have un' := unlike_of gg nd2
  have bp := (gp p (by simp)).2
  have bq := (gp q (by simp)).2
  have br := (gp r (by simp)).2
  have bp' := (gg p' (by simp)).2
  have bq' := (gg q' (by simp)).2
  have br' := (gg r' (by simp)).2
  refine seq_by (fun σ H1 => Same H H1 ∧ σ = [some (.ref l1), some (.ref l2), none, none, none, none, none]) (fun k hk => ?_) ?_
  · walk_at "rd"
    exact ⟨_, _, _, _, rfl, tb, fun H1 g1 => hk _ _ ⟨g1, rfl⟩⟩
  rintro σ H1 ⟨g1, rfl⟩
  have hq1 := SqL.of (K := K) (g1 _ _ hH1)
  have ht1' := ht1.mono g1
  obtain ⟨w1, w2, w3, ws1', rfl, t1, t2, t3, tr⟩ := tps3 ht1'
  refine seq_by (fun σ H2 => Same H H2 ∧ ∃ a, Tp K H2 a (cl (nch (base3 p q r))) ∧ σ = [some (.ref l1), some (.ref l2), some a, none, none, none, none]) (fun k hk => ?_) ?_
  · walk_at "rd"
    refine ⟨_, hq1, _, at0 _ _, _, hq1, _, at1 _ _ _, _, hq1, _, at2 _ _ _ _, ?_⟩
    exact ⟨_, _, _, p, q, r, rfl, t1, t2, t3, un, bp.mono (by decide), bq.mono (by decide), br.mono (by decide), fun a H2 g2 ta => hk _ _ ⟨g1.trans g2, a, ta, rfl⟩⟩
  rintro σ H2 ⟨g2, a, ta, rfl⟩
  have hq2 := SqL.of (K := K) (g2 _ _ hH2)
  have ht2' := ht2.mono g2
  obtain ⟨x1, x2, x3, ws2', rfl, s1, s2, s3, sr⟩ := tps3 ht2'
  have gB := nch_goodC un.det
  have gB' := nch_goodC un'.det
  have bB := (BdC.base bp bq br).nch un.det
  have bB' := (BdC.base bp' bq' br').nch un'.det
  have dA : (adj (nch (base3 p' q' r'))).det ≠ 0 := by rw [det_adj]; exact gB'.det
  refine seq_by (fun σ H3 => Same H H3 ∧ Tp K H3 a (cl (nch (base3 p q r))) ∧ ∃ b, Tp K H3 b (cl (nch (adj (nch (base3 p' q' r'))))) ∧ σ = [some (.ref l1), some (.ref l2), some a, some b, none, none, none]) (fun k hk => ?_) ?_
  · walk_at "rd"
    refine ⟨_, hq2, _, at0 _ _, _, hq2, _, at1 _ _ _, _, hq2, _, at2 _ _ _ _, ?_⟩
    refine ⟨_, _, _, p', q', r', rfl, s1, s2, s3, un', bp'.mono (by decide), bq'.mono (by decide), br'.mono (by decide), fun c H3 g3 tc => ?_⟩
    exact ⟨c, _, rfl, tc, gB', bB'.mono (by decide), fun b H4 g4 tb => hk _ _ ⟨(g2.trans g3).trans g4, (ta.mono g3).mono g4, b, tb, rfl⟩⟩
  rintro σ H3 ⟨g3, ta, b, tb', rfl⟩
  obtain ⟨c, hc⟩ : ∃ c, c = told3 p q r p' q' r' := ⟨_, rfl⟩
  have gc : GoodC c := by rw [hc]; exact un.good un'
  have bc : BdC 1900 c := by rw [hc]; exact (BdC.told un un' bp bq br bp' bq' br').mono (by decide)
  refine seq_by (fun σ H4 => Same H H4 ∧ ∃ d, Tp K H4 d (cl c) ∧ σ = [some (.ref l1), some (.ref l2), some a, some b, some d, none, none]) (fun k hk => ?_) ?_
  · walk_at "rd"
    refine ⟨a, b, _, _, rfl, ta, tb', gB, nch_goodC dA, bB.mono (by decide), (bB'.adj.nch dA).mono (by decide), fun d H4 g4 td => hk _ _ ⟨g3.trans g4, d, ?_, rfl⟩⟩
    rw [hc]; exact td
  rintro σ H4 ⟨g4, d, td, rfl⟩
  have L1 := ht1.length
  have L2' := ht2.length
  rw [List.length_map] at L1 L2'
  refine seq_by (fun σ H5 => Same H H5 ∧ Tp K H5 d (cl c) ∧ (p :: q :: r :: ps').map (mv c) = p' :: q' :: r' :: gs' ∧ ∃ y z, σ = [some (.ref l1), some (.ref l2), some a, some b, some d, y, z]) (fun k hk => ?_) ?_
  · refine ⟨_, rfl, _, rfl, l1, l2, w1 :: w2 :: w3 :: ws1', x1 :: x2 :: x3 :: ws2', rfl, SqL.of (g4 _ _ hH1), SqL.of (g4 _ _ hH2), ?_⟩
    refine forZ (xs := w1 :: w2 :: w3 :: ws1') (ys := x1 :: x2 :: x3 :: ws2') (fun i σ H5 => Same H4 H5 ∧ (∀ j, j < i → ((p :: q :: r :: ps').map (mv c))[j]? = (p' :: q' :: r' :: gs')[j]?) ∧ ∃ y z, σ = [some (.ref l1), some (.ref l2), some a, some b, some d, y, z])
      ⟨Same.refl _, fun j hj => absurd hj (Nat.not_lt_zero _), _, _, rfl⟩ (by rw [L1, L2']; exact hlen) (fun i σ H5 _ h => ⟨h.1.seq (SqL.of (g4 _ _ hH1)), h.1.seq (SqL.of (g4 _ _ hH2))⟩) ?_ ?_
    · rintro Pv' hP i x y σ H5 T ex ey ⟨g5, hall, y0, z0, rfl⟩ nT
      have g6 := (g4.trans g5).trans (same_new nT (.tup [x, y]))
      obtain ⟨n1, en1, tx⟩ := (ht1.mono g6).at ex
      obtain ⟨n2, en2, ty⟩ := (ht2.mono g6).at ey
      obtain ⟨pt, ep, rfl⟩ := map_at en1
      obtain ⟨gl, eg, rfl⟩ := map_at en2
      have gpt := gp pt (List.mem_of_getElem? ep)
      walk_at "rd"
      refine ⟨_, SqT.of upd_same, rfl, _, _, rfl, _, _, rfl, rfl, ?_⟩
      refine ⟨d, x, c, pt, rfl, (td.mono g5).mono (same_new nT _), tx, gc, gpt.1, bc, gpt.2.mono (by decide), fun o H6 g7 to => ?_⟩
      refine ⟨_, to, _, ty.mono g7, ?_⟩
      refine ite2 (fun ne => ?_) (fun eq => ?_)
      · refine q0 _ _ (g6.trans g7) ?_
        have : toldL (p :: q :: r :: ps') (p' :: q' :: r' :: gs') = none := by
          rw [toldL_cons, ← hc, if_neg]
          intro z
          have z2 := congrArg (fun l => l[i]?) z
          simp only [List.getElem?_map] at z2
          rw [ep, eg] at z2
          exact ne (congrArg pl (Option.some.inj z2))
        rw [this]; rfl
      · refine hP _ _ _ ⟨(g5.trans (same_new nT _)).trans g7, fun j hj => ?_, _, _, rfl⟩
        by_cases h : j < i
        · exact hall j h
        · have : j = i := by omega
          subst this
          rw [List.getElem?_map, ep, eg, Option.map_some]
          exact congrArg some (pl_inj.mp (Classical.byContradiction eq))
    · rintro σ H5 ⟨g5, hall, y0, z0, rfl⟩
      refine hk _ _ ⟨g4.trans g5, td.mono g5, List.ext_getElem? fun j => ?_, _, _, rfl⟩
      by_cases h : j < (w1 :: w2 :: w3 :: ws1').length
      · exact hall j h
      · rw [List.getElem?_eq_none (by rw [List.length_map]; omega), List.getElem?_eq_none (by omega)]
  rintro σ H5 ⟨g5, td, em, y0, z0, rfl⟩
  walk_at "rd"
  refine q0 _ _ g5 ?_
  have : toldL (p :: q :: r :: ps') (p' :: q' :: r' :: gs') = some c := by
    rw [toldL_cons, ← hc, if_pos em]
  rw [this]; exact td
theorem sc_law : FnScope ["script", "spot", "change", "points", "number", "goals", "others", "same"] ["script"] (defScope s_law) := ⟨rfl, rfl, rfl, by decide +kernel, rfl, by decide +kernel, by decide +kernel⟩
set_option maxHeartbeats 4000000 in
theorem ok_law {f : Addr} {fd : FuncData} (F : Fun K "law" "law" s_law f fd) (C__law_change : Cal P w K mg base 7 "_law_change" ["script", "spot"] (spLawChange K)) (C__law_some_points : Cal P w K mg base 7 "_law_some_points" ["script", "spot", "many"] (spSome K)) (C_cross : Cal P w K mg base 7 "cross" ["one", "two", "three", "four"] (spCross K)) (C_moved : Cal P w K mg base 7 "moved" ["change", "point"] (spMoved K)) (C__law_cell_at : Cal P w K mg base 7 "_law_cell_at" ["script", "k"] (spCell K)) (C_fourth : Cal P w K mg base 7 "fourth" ["one", "two", "three", "number"] (spFourth K)) (C_told_by : Cal P w K mg base 7 "told_by" ["points", "goals"] (spTold K)) : FnOk P w K mg base CX0 8 f fd ["script"] (spLaw K) := by
  refine F.ok (k := 7) sc_law (fun vs H Q E h => ?_) (fun cdv A outer s H vs Q E hr h => ?_)
  · obtain ⟨a, ns, rfl, hs, q⟩ := h
    rfl
  obtain ⟨a, ns, rfl, hs, q⟩ := h
  have hu := hr.units
  have hu8 : (A.deeper (envOfC "law" (defScope s_law) s.heap.objs.size f cdv)).units + 80 < cLine := by have := hr.un; omega
  refine ⟨_, (pss_cons (ps_set (i := 1) sc_law.nd rfl (Or.inl rfl) (pe_lst (pa_cons pe_int pa_nil)))
      (pss_cons (ps_set (i := 2) sc_law.nd rfl (Or.inr rfl) (pe_callC C__law_change hr (pa_cons (pv 0) (pa_cons (pv 1) pa_nil))))
      (pss_cons (ps_set (i := 3) sc_law.nd rfl (Or.inl rfl) (pe_callC C__law_some_points hr (pa_cons (pv 0) (pa_cons (pv 1) (pa_cons pe_int pa_nil)))))
      (pss_cons (ps_set (i := 4) sc_law.nd rfl (Or.inl rfl) (pe_callC C_cross hr (pa_cons (pe_ix ix_list (pv 3) pe_int (fun _ _ => rfl)) (pa_cons (pe_ix ix_list (pv 3) pe_int (fun _ _ => rfl)) (pa_cons (pe_ix ix_list (pv 3) pe_int (fun _ _ => rfl)) (pa_cons (pe_ix ix_list (pv 3) pe_int (fun _ _ => rfl)) pa_nil))))))
      (pss_cons (ps_setcomp [2] (i := 5) (sc := defScope s_law) (cn := ["change"]) rfl ⟨rfl, by decide +kernel, rfl, by decide +kernel, by decide +kernel, by decide +kernel, by decide +kernel⟩ rfl rfl sc_law.nd rfl (Or.inl rfl) rfl (pi_list (pv 3)) (fun _ _ _ _ _ => pq_nil) (fun _ _ _ _ _ => (pe_callC C_moved hr (pa_cons (pv 1) (pa_cons (pv 0) pa_nil)))))
      (pss_cons (ps_if (pt_cmpR (op_neT hu) (pe_callC C_cross hr (pa_cons (pe_ix ix_list (pv 5) pe_int (fun _ _ => rfl)) (pa_cons (pe_ix ix_list (pv 5) pe_int (fun _ _ => rfl)) (pa_cons (pe_ix ix_list (pv 5) pe_int (fun _ _ => rfl)) (pa_cons (pe_ix ix_list (pv 5) pe_int (fun _ _ => rfl)) pa_nil))))) (pv 4) (nomark _)) (pss_one (ps_ret pe_bl)) pss_nil)
      (pss_cons (ps_set (i := 6) sc_law.nd rfl (Or.inl rfl) (pe_callC C__law_some_points hr (pa_cons (pv 0) (pa_cons (pv 1) (pa_cons pe_int pa_nil)))))
      (pss_cons (ps_if (pt_cmpR op_eq (pe_op op_mod (pe_callC C__law_cell_at hr (pa_cons (pv 0) (pa_cons pe_int pa_nil))) pe_int) pe_int (nomark _)) (pss_one (ps_asg (pe_callC C_fourth hr (pa_cons (pe_ix ix_list (pv 6) pe_int (fun _ _ => rfl)) (pa_cons (pe_ix ix_list (pv 6) pe_int (fun _ _ => rfl)) (pa_cons (pe_ix ix_list (pv 6) pe_int (fun _ _ => rfl)) (pa_cons (pv 4) pa_nil))))) (pg_sub (pv 6) pe_int set_list))) pss_nil)
      (pss_cons (ps_set (i := 7) sc_law.nd rfl (Or.inl rfl) (pe_cmpR (op_eqT hu) (pe_callC C_cross hr (pa_cons (pe_ix ix_list (pv 6) pe_int (fun _ _ => rfl)) (pa_cons (pe_ix ix_list (pv 6) pe_int (fun _ _ => rfl)) (pa_cons (pe_ix ix_list (pv 6) pe_int (fun _ _ => rfl)) (pa_cons (pe_ix ix_list (pv 6) pe_int (fun _ _ => rfl)) pa_nil))))) (pv 4) (nomark _)))
      (pss_cons (ps_if (PW.pt (pw_and (pt_cmpR op_eq (pe_op op_mod (pe_callC C__law_cell_at hr (pa_cons (pv 0) (pa_cons pe_int pa_nil))) pe_int) pe_int (nomark _)) (pw_and1 (pt_not (pt_val (pv 7)))))) (pss_one (ps_ret pe_bl)) pss_nil)
      (pss_one (ps_ret (pe_cmpR op_eq (pe_cmpR op_notN (pe_callC C_told_by hr (pa_cons (pv 3) (pa_cons (pv 6) pa_nil))) pe_non (nomark _)) (pv 7) (nomark _)))))))))))))), ?_⟩
  refine seq_by (fun σ H1 => ∃ b, Scr K H1 a ns ∧ H1 b = some (.lst [.int 1]) ∧ σ = [some (.ref a), some (.ref b), none, none, none, none, none, none]) (fun k hk => ?_) ?_
  · walk_at "rd"
    exact ⟨by show 1 ≤ sizeLine; decide, fun p hp => hk _ _ ⟨p, hs.mono (same_new hp _), upd_same, rfl⟩⟩
  rintro σ H1 ⟨b, hs1, hb1, rfl⟩
  refine seq_by (fun σ H2 => ∃ z m, Scr K H2 a ns ∧ H2 b = some (.lst [.int 2]) ∧ Tp K H2 z (cl m) ∧ GoodC m ∧ BdC 24 m ∧ σ = [some (.ref a), some (.ref b), some z, none, none, none, none, none]) (fun k hk => ?_) ?_
  · walk_at "rd"
    exact ⟨a, b, ns, 1, rfl, hs1, hb1, by decide, fun u H2 m g2 t2 gm bm => hk _ _ ⟨u, m, (hs1.upd hb1).mono g2, g2 _ _ upd_same, t2, gm, bm, rfl⟩⟩
  rintro σ H2 ⟨z, m, hs2, hb2, tz, gm, bm, rfl⟩
  have d := gm.det
  refine seq_by (fun σ H3 => ∃ l u v w t p1 q1 r1 x1, Scr K H3 a ns ∧ H3 b = some (.lst [.int 6]) ∧ l ≠ b ∧ Tp K H3 z (cl m) ∧ H3 l = some (.lst [u, v, w, t]) ∧ D4 K H3 u v w t p1 q1 r1 x1 ∧ σ = [some (.ref a), some (.ref b), some z, some (.ref l), none, none, none, none]) (fun k hk => ?_) ?_
  · walk_at "rd"
    refine ⟨a, b, ns, 2, 4, rfl, hs2, hb2, by decide, by decide, by decide, fun l ws ps H3 g3 nl hl ht nd hlen hgood => ?_⟩
    obtain ⟨u, v, w, t, p1, q1, r1, x1, rfl, rfl, d4⟩ := drawn4 ht nd hlen hgood
    exact hk _ _ ⟨l, u, v, w, t, p1, q1, r1, x1, (hs2.upd hb2).mono g3, g3 _ _ upd_same, (ne_of_none hb2 nl).symm, (Tp.upd tz hb2).mono g3, hl, d4, rfl⟩
  rintro σ H3 ⟨l, u, v, w, t, p1, q1, r1, x1, hs3, hb3, lb, tz3, hl3, d4, rfl⟩
  have un := d4.un
  have bp := d4.bp
  have bq := d4.bq
  have br := d4.br
  have bx := d4.bx
  have gx : GoodPt x1 := un.gx
  obtain ⟨nn, hnn⟩ : ∃ nn, nn = cr p1 q1 r1 x1 := ⟨_, rfl⟩
  have gn : GoodPt nn := by rw [hnn]; exact cr_good un.toUn3 un.gx
  have bn : BdPt 50 nn := by rw [hnn]; exact (bd_cr un.toUn3 gx bp bq br bx).mono (by decide)
  refine seq_by (fun σ H4 => ∃ y, Same H3 H4 ∧ Tp K H4 y (pl nn) ∧ σ = [some (.ref a), some (.ref b), some z, some (.ref l), some y, none, none, none]) (fun k hk => ?_) ?_
  · have hq := SqL.of (K := K) hl3
    walk_at "rd"
    refine ⟨_, hq, _, at0 _ _, _, hq, _, at1 _ _ _, _, hq, _, at2 _ _ _ _, _, hq, _, at3 _ _ _ _ _, ?_⟩
    refine ⟨u, v, w, t, p1, q1, r1, x1, rfl, d4.f4, fun y H4 g4 ty => hk _ _ ⟨y, g4, ?_, rfl⟩⟩
    rw [hnn]; exact ty
  rintro σ H4 ⟨y, g4, ty, rfl⟩
  have d5 := d4.mono g4
  have tz4 := tz3.mono g4
  have hl4 := g4 _ _ hl3
  have bmv : ∀ p, GoodPt p → BdPt 10 p → GoodPt (mv m p) ∧ BdPt 40 (mv m p) := fun p gp bp => ⟨mv_good d gp, (BdPt.mv bm bp d gp).mono (by decide)⟩
  refine seq_by (fun σ H5 => ∃ l2 u' v' w' t', Same H4 H5 ∧ H5 l2 = some (.lst [u', v', w', t']) ∧ Tp K H5 u' (pl (mv m p1)) ∧ Tp K H5 v' (pl (mv m q1)) ∧ Tp K H5 w' (pl (mv m r1)) ∧ Tp K H5 t' (pl (mv m x1)) ∧ σ = [some (.ref a), some (.ref b), some z, some (.ref l), some y, some (.ref l2), none, none]) (fun k hk => ?_) ?_
  · walk_at "rd"
    have hq := SqL.of (K := K) hl4
    have ht4 := d5.f4.tps
    have good : ∀ p ∈ [p1, q1, r1, x1], GoodPt p ∧ BdPt 10 p := fun p hp => by
      simp only [List.mem_cons, List.not_mem_nil, or_false] at hp
      rcases hp with rfl | rfl | rfl | rfl
      · exact ⟨un.gp, bp⟩
      · exact ⟨un.gq, bq⟩
      · exact ⟨un.gr, br⟩
      · exact ⟨un.gx, bx⟩
    refine tcompL rfl hq (fun i acc H5 => Same H4 H5 ∧ Tps K H5 acc (((List.take i [p1, q1, r1, x1]).map (mv m)).map pl)) ⟨Same.refl _, .nil⟩ (fun i acc H5 hi h => ?_) ?_ ?_
    · refine ⟨h.1.seq hq, ?_⟩
      rw [h.2.length, List.length_map, List.length_map, List.length_take]
      exact Nat.le_of_lt (small1000 (by simp only [List.length_cons, List.length_nil]; omega))
    · rintro i x acc H5 hx ⟨g5, ht5⟩ R hR
      obtain ⟨n1, en1, tx⟩ := (ht4.mono g5).at hx
      obtain ⟨pt, ep, rfl⟩ := map_at en1
      have gpt := good pt (List.mem_of_getElem? ep)
      walk_at "rd"
      refine ⟨z, x, m, pt, rfl, tz4.mono g5, tx, gm, gpt.1, bm.mono (by decide), gpt.2.mono (by decide), fun y H6 g6 ty => hR _ _ ⟨g5.trans g6, ?_⟩⟩
      rw [map_step ep]
      exact (ht5.mono g6).snoc ty
    · rintro acc H5 p ⟨g5, ht5⟩ np
      try walk_at "rd"
      have gn := same_new np (.lst acc)
      have ht6 := ht5.mono gn
      rw [List.take_of_length_le (by simp)] at ht6
      simp only [List.map_cons, List.map_nil] at ht6
      cases ht6 with
      | cons c1 ht6 =>
        cases ht6 with
        | cons c2 ht6 =>
          cases ht6 with
          | cons c3 ht6 =>
            cases ht6 with
            | cons c4 ht6 =>
              cases ht6
              exact hk _ _ ⟨p, _, _, _, _, g5.trans gn, upd_same, c1, c2, c3, c4, rfl⟩
  rintro σ H5 ⟨l2, u', v', w', t', g5, hl2, c1, c2, c3, c4, rfl⟩
  have u3g := mv_un3 d un.toUn3
  have f5 : F4 K H5 u' v' w' t' (mv m p1) (mv m q1) (mv m r1) (mv m x1) := ⟨c1, c2, c3, c4, u3g, (bmv _ gx bx).1, (bmv _ un.gp bp).2.mono (by decide), (bmv _ un.gq bq).2.mono (by decide), (bmv _ un.gr br).2.mono (by decide), (bmv _ gx bx).2.mono (by decide)⟩
  refine seq_by (fun σ H6 => Same H5 H6 ∧ σ = [some (.ref a), some (.ref b), some z, some (.ref l), some y, some (.ref l2), none, none]) (fun k hk => ?_) ?_
  · have hq := SqL.of (K := K) hl2
    walk_at "rd"
    refine ⟨_, hq, _, at0 _ _, _, hq, _, at1 _ _ _, _, hq, _, at2 _ _ _ _, _, hq, _, at3 _ _ _ _ _, ?_⟩
    refine ⟨u', v', w', t', _, _, _, _, rfl, f5, fun y2 H6 g6 ty2 => ?_⟩
    rw [cr_kept d un.toUn3 gx, ← hnn] at ty2
    refine ⟨_, ty2, _, (ty.mono g5).mono g6, ?_⟩
    rw [if_neg (by simp)]
    exact hk _ _ ⟨g6, rfl⟩
  rintro σ H6 ⟨g6, rfl⟩
  have g36 := g4.trans (g5.trans g6)
  have hs6 := hs3.mono g36
  have hb6 := g36 _ _ hb3
  have hl6 := g36 _ _ hl3
  have d6 := d4.mono g36
  have ty6 := (ty.mono g5).mono g6
  -- the others
  refine seq_by (fun σ H7 => ∃ l3 u v w t p2 q2 r2 x2, Scr K H7 a ns ∧ l3 ≠ l ∧ H7 l3 = some (.lst [u, v, w, t]) ∧ D4 K H7 u v w t p2 q2 r2 x2 ∧ Ltr K H7 (.ref l) ([p1, q1, r1, x1].map pl) ∧ Tp K H7 y (pl nn) ∧ σ = [some (.ref a), some (.ref b), some z, some (.ref l), some y, some (.ref l2), some (.ref l3), none]) (fun k hk => ?_) ?_
  · walk_at "rd"
    refine ⟨a, b, ns, 6, 4, rfl, hs6, hb6, by decide, by decide, by decide, fun l3 ws ps H7 g7 nl hl ht nd hlen hgood => ?_⟩
    obtain ⟨u3, v3, w3, t3, p2, q2, r2, x2, rfl, rfl, d7⟩ := drawn4 ht nd hlen hgood
    refine hk _ _ ⟨l3, u3, v3, w3, t3, p2, q2, r2, x2, (hs6.upd hb6).mono g7, (ne_of_none hl6 nl).symm, hl, d7, (Ltr.upd hb6 lb ⟨l, _, rfl, hl6, d6.f4.tps⟩).mono g7, (Tp.upd ty6 hb6).mono g7, rfl⟩
  rintro σ H7 ⟨l3, u3, v3, w3, t3, p2, q2, r2, x2, hs7, l3l, hl7, d7, lt7, ty7, rfl⟩
  have un2 := d7.un
  obtain ⟨c0, hc0⟩ : ∃ c0, c0 = cellN ns 0 := ⟨_, rfl⟩
  -- nn is none of far, 0, 1
  have n1 : nn ≠ (1, 0) := fun e => un.xp (by
    have : cr p1 q1 r1 x1 = cr p1 q1 r1 p1 := by rw [cr_one un.toUn3, ← hnn, e]
    rw [← fo_cr un.toUn3 un.gx, this, fo_cr un.toUn3 un.gp])
  have n2 : nn ≠ (0, 1) := fun e => un.xq (by
    have : cr p1 q1 r1 x1 = cr p1 q1 r1 q1 := by rw [cr_two un.toUn3, ← hnn, e]
    rw [← fo_cr un.toUn3 un.gx, this, fo_cr un.toUn3 un.gq])
  have n3 : nn ≠ (1, 1) := fun e => un.xr (by
    have : cr p1 q1 r1 x1 = cr p1 q1 r1 r1 := by rw [cr_three un.toUn3, ← hnn, e]
    rw [← fo_cr un.toUn3 un.gx, this, fo_cr un.toUn3 un.gr])
  have gfo := fo_good un2.toUn3 gn
  have ufo : Un4 p2 q2 r2 (fo p2 q2 r2 nn) := by
    refine ⟨un2.toUn3, gfo, fun e => n1 ?_, fun e => n2 ?_, fun e => n3 ?_⟩
    · rw [← cr_fo un2.toUn3 gn, e, cr_one un2.toUn3]
    · rw [← cr_fo un2.toUn3 gn, e, cr_two un2.toUn3]
    · rw [← cr_fo un2.toUn3 gn, e, cr_three un2.toUn3]
  have bfo : BdPt 150 (fo p2 q2 r2 nn) := (bd_fo un2.toUn3 gn d7.bp d7.bq d7.br bn).mono (by decide)
  refine seq_by (fun σ H8 => ∃ t4 x4, Scr K H8 a ns ∧ H8 l3 = some (.lst [u3, v3, w3, t4]) ∧ Tp K H8 u3 (pl p2) ∧ Tp K H8 v3 (pl q2) ∧ Tp K H8 w3 (pl r2) ∧ Tp K H8 t4 (pl x4) ∧ Un4 p2 q2 r2 x4 ∧ BdPt 150 x4 ∧ (c0 % 2 = 1 → cr p2 q2 r2 x4 = nn) ∧ Ltr K H8 (.ref l) ([p1, q1, r1, x1].map pl) ∧ Tp K H8 y (pl nn) ∧ σ = [some (.ref a), some (.ref b), some z, some (.ref l), some y, some (.ref l2), some (.ref l3), none]) (fun k hk => ?_) ?_
  · walk_at "rd"
    refine ⟨a, ns, 0, rfl, hs7.seq, by decide, ?_⟩
    rw [← hc0]
    walk_at "rd"
    refine ⟨by decide, ?_⟩
    refine ite2 (fun c1 => ?_) (fun c1 => ?_)
    · have hq := SqL.of (K := K) hl7
      refine ⟨_, hq, _, at0 _ _, _, hq, _, at1 _ _ _, _, hq, _, at2 _ _ _ _, ?_⟩
      refine ⟨u3, v3, w3, y, p2, q2, r2, nn, rfl, f4_of d7.tp d7.tq d7.tr ty7 un2.toUn3 gn d7.bp d7.bq d7.br bn (by decide), fun y4 H8 g8 ty4 => ?_⟩
      have hl8 := g8 _ _ hl7
      have d8 := d7.mono g8
      refine ⟨_, hl8, 3, rfl, hk _ _ ⟨y4, _, (hs7.mono g8).upd hl8, upd_same, Tp.upd d8.tp hl8, Tp.upd d8.tq hl8, Tp.upd d8.tr hl8, Tp.upd ty4 hl8, ufo, bfo, fun _ => cr_fo un2.toUn3 gn, Ltr.upd hl8 (Ne.symm l3l) (lt7.mono g8), Tp.upd (ty7.mono g8) hl8, rfl⟩⟩
    · exact hk _ _ ⟨t3, x2, hs7, hl7, d7.tp, d7.tq, d7.tr, d7.tx, un2, d7.bx.mono (by decide), fun z => absurd z c1, lt7, ty7, rfl⟩
  rintro σ H8 ⟨t4, x4, hs8, hl8, e1, e2, e3, e4, un4, b4, hsame, lt8, ty8, rfl⟩
  refine seq_by (fun σ H9 => Same H8 H9 ∧ σ = [some (.ref a), some (.ref b), some z, some (.ref l), some y, some (.ref l2), some (.ref l3), some (.bl (decide (cr p2 q2 r2 x4 = nn)))]) (fun k hk => ?_) ?_
  · have hq := SqL.of (K := K) hl8
    walk_at "rd"
    refine ⟨_, hq, _, at0 _ _, _, hq, _, at1 _ _ _, _, hq, _, at2 _ _ _ _, _, hq, _, at3 _ _ _ _ _, ?_⟩
    refine ⟨u3, v3, w3, t4, p2, q2, r2, x4, rfl, f4_of e1 e2 e3 e4 un4.toUn3 un4.gx d7.bp d7.bq d7.br b4 (by decide), fun y5 H9 g9 ty5 => ?_⟩
    refine ⟨_, ty5, _, ty8.mono g9, ?_⟩
    have e : decide (pl (cr p2 q2 r2 x4) = pl nn) = decide (cr p2 q2 r2 x4 = nn) := decide_eq_decide.mpr pl_inj
    rw [e]
    exact hk _ _ ⟨g9, rfl⟩
  rintro σ H9 ⟨g9, rfl⟩
  refine seq_det (σ1 := [some (.ref a), some (.ref b), some z, some (.ref l), some y, some (.ref l2), some (.ref l3), some (.bl (decide (cr p2 q2 r2 x4 = nn)))]) (H1 := H9) (fun k hk => ?_) ?_
  · walk_at "rd"
    refine ⟨a, ns, 0, rfl, (hs8.mono g9).seq, by decide, ?_⟩
    rw [← hc0]
    walk_at "rd"
    refine ⟨by decide, ?_⟩
    refine ite2 (fun c1 => ?_) (fun c1 => hk)
    rw [if_neg (not_not_intro (hsame c1))]
    exact hk
  have lt9 := lt8.mono g9
  walk_at "rd"
  refine ⟨.ref l, .ref l3, [p1, q1, r1, x1], [p2, q2, r2, x4], rfl, ⟨lt9, ⟨l3, _, rfl, g9 _ _ hl8, .cons (e1.mono g9) (.cons (e2.mono g9) (.cons (e3.mono g9) (.cons (e4.mono g9) .nil)))⟩, goodL4 un (j := 10) (by decide) bp bq br bx, goodL4 un4 (j := 150) (by decide) (d7.bp.mono (by decide)) (d7.bq.mono (by decide)) (d7.br.mono (by decide)) b4, rfl, by show 3 ≤ 4; decide, by show 4 ≤ 8; decide, nd4 un, nd4 un4⟩, fun o H10 g10 io => ?_⟩
  rw [toldL4 un.toUn3 un4.toUn3] at io
  have iff4 := told_four un.toUn3 un.gx un4.toUn3 un4.gx
  rw [← hnn] at iff4
  by_cases hm : mv (told3 p1 q1 r1 p2 q2 r2) x1 = x4
  · rw [if_pos hm] at io
    obtain ⟨ao, rfl, _⟩ := io
    rw [decide_eq_true (iff4.mp hm)]
    simpa using q _
  · rw [if_neg hm] at io
    have io' : o = .non := io
    subst io'
    rw [decide_eq_false fun z => hm (iff4.mpr z)]
    simpa using q _
end
theorem law_mk {K : PySem.W.Frag} {h : Heap} {mg : Str → Option Value} {f : Addr} {oc : Value} {od an : Option Addr} {osl : Array (Option Value)} {kV doc pm cdv ct : Value} (X : K.In h) (G : h.Ns mainGlobals mg)
    (a : PySem.W.nsIn K mainGlobals "law" = some (some (.ref f))) (l : K.lookup f = some ⟨oc, od, .func (PySem.W.fnOf "law" "law" (defArgs s_law) (defBody s_law) (defScope s_law) .none kV doc pm an cdv ct), osl⟩) (c : PySem.W.codeIn K cdv "law" = true) (k : PySem.W.keepIn K (.ref f) = true) :
    ∃ (f : Addr) (fd : FuncData), Fun K "law" "law" s_law f fd ∧ mg "law" = some (.ref f) ∧ ∀ (s : Shared) (v : Value), BindsTo s fd ⟨[v], []⟩ [("script", v)] :=
  ⟨f, _, fun_mk l c k, PySem.W.mg_of X G a, fun s v => .of_eq rfl⟩
theorem fin {P : Program} {w : World} {K : PySem.W.Frag} {mg : Str → Option Value} {fa : Addr} (hfa : mg "law" = some (.ref fa)) (B : Blt mg)
    (D__law_cell_at : Def K mg "_law_cell_at" s__law_cell_at ["script", "k"])
    (D__law_next : Def K mg "_law_next" s__law_next ["script", "spot"])
    (D__law_stir : Def K mg "_law_stir" s__law_stir ["seed"])
    (D__law_common : Def K mg "_law_common" s__law_common ["one", "other"])
    (D__law_plain : Def K mg "_law_plain" s__law_plain ["numbers"])
    (D__law_turning : Def K mg "_law_turning" s__law_turning ["cell"])
    (D__law_after : Def K mg "_law_after" s__law_after ["one", "other"])
    (D__law_back : Def K mg "_law_back" s__law_back ["change"])
    (D__law_change : Def K mg "_law_change" s__law_change ["script", "spot"])
    (D__law_point : Def K mg "_law_point" s__law_point ["top", "bottom"])
    (D__law_drawn_point : Def K mg "_law_drawn_point" s__law_drawn_point ["cell"])
    (D__law_some_points : Def K mg "_law_some_points" s__law_some_points ["script", "spot", "many"])
    (D_common_divisor : Def K mg "common_divisor" s_common_divisor ["one", "other"])
    (D_lowest_point : Def K mg "lowest_point" s_lowest_point ["top", "bottom"])
    (D_is_point : Def K mg "is_point" s_is_point ["point"])
    (D_check_point : Def K mg "check_point" s_check_point ["point"])
    (D_unlike : Def K mg "unlike" s_unlike ["points"])
    (D_check_three : Def K mg "check_three" s_check_three ["one", "two", "three", "last"])
    (D_lowest_change : Def K mg "lowest_change" s_lowest_change ["numbers"])
    (D_is_change : Def K mg "is_change" s_is_change ["change"])
    (D_check_change : Def K mg "check_change" s_check_change ["change"])
    (D_moved : Def K mg "moved" s_moved ["change", "point"])
    (D_gap : Def K mg "gap" s_gap ["one", "other"])
    (D_to_base : Def K mg "to_base" s_to_base ["one", "two", "three"])
    (D_cross : Def K mg "cross" s_cross ["one", "two", "three", "four"])
    (D_back : Def K mg "back" s_back ["change"])
    (D_fourth : Def K mg "fourth" s_fourth ["one", "two", "three", "number"])
    (D_check_told : Def K mg "check_told" s_check_told ["points", "goals"])
    (D_joined : Def K mg "joined" s_joined ["one", "other"])
    (D_after : Def K mg "after" s_after ["one", "other"])
    (D_told_by : Def K mg "told_by" s_told_by ["points", "goals"])
    {aF : Addr} (c_FAR : mg "FAR" = some (.ref aF) ∧ RelV (.ref aF) (Value.ref aF)) (kF : ∀ H, SqT K H aF [.int 1, .int 0])
    {uF : Value} (c_FEWEST_POINTS : mg "FEWEST_POINTS" = some uF ∧ RelV (.int 3) uF)
    {uP : Value} (c_MOST_POINTS : mg "MOST_POINTS" = some uP ∧ RelV (.int 8) uP)
    (FL : ∃ (f : Addr) (fd : FuncData), Fun K "law" "law" s_law f fd ∧ mg "law" = some (.ref f) ∧ ∀ (s : Shared) (v : Value), BindsTo s fd ⟨[v], []⟩ [("script", v)]) :
    ∃ fd : FuncData, (∀ (s : Shared) (u : Value), BindsTo s fd ⟨[u], []⟩ [("script", u)]) ∧ ∀ base : Heap, K.In base → base.Ns mainGlobals mg → FnOk P w K mg base CX0 8 fa fd ["script"] (spLaw K) := by
  obtain ⟨f, fd, F, m, b⟩ := FL
  cases hfa.symm.trans m
  refine ⟨fd, b, fun base _ _ => ?_⟩
  have c__law_cell_at : Cal P w K mg base 1 "_law_cell_at" ["script", "k"] (spCell K) := cal__law_cell_at D__law_cell_at B
  have c__law_next : Cal P w K mg base 2 "_law_next" ["script", "spot"] (spNext K) := cal__law_next D__law_next (c__law_cell_at.mono (by decide))
  have c__law_stir : Cal P w K mg base 1 "_law_stir" ["seed"] spStir := cal__law_stir D__law_stir
  have c__law_common : Cal P w K mg base 1 "_law_common" ["one", "other"] spGcd := cal__law_common D__law_common B
  have c__law_plain : Cal P w K mg base 2 "_law_plain" ["numbers"] (spPlain K) := cal__law_plain D__law_plain (c__law_common.mono (by decide)) B
  have c__law_turning : Cal P w K mg base 1 "_law_turning" ["cell"] (spTurning K) := cal__law_turning D__law_turning
  have c__law_after : Cal P w K mg base 3 "_law_after" ["one", "other"] (spLawAfter K) := cal__law_after D__law_after (c__law_plain.mono (by decide))
  have c__law_back : Cal P w K mg base 3 "_law_back" ["change"] (spLawBack K) := cal__law_back D__law_back (c__law_plain.mono (by decide))
  have c__law_change : Cal P w K mg base 4 "_law_change" ["script", "spot"] (spLawChange K) := cal__law_change D__law_change (c__law_next.mono (by decide)) (c__law_stir.mono (by decide)) (c__law_plain.mono (by decide)) (c__law_turning.mono (by decide)) (c__law_after.mono (by decide)) (c__law_back.mono (by decide)) B
  have c__law_point : Cal P w K mg base 2 "_law_point" ["top", "bottom"] (spLawP K) := cal__law_point D__law_point (c__law_common.mono (by decide))
  have c__law_drawn_point : Cal P w K mg base 3 "_law_drawn_point" ["cell"] (spDrawn K) := cal__law_drawn_point D__law_drawn_point (c__law_point.mono (by decide)) (c__law_stir.mono (by decide))
  have c__law_some_points : Cal P w K mg base 4 "_law_some_points" ["script", "spot", "many"] (spSome K) := cal__law_some_points D__law_some_points (c__law_next.mono (by decide)) (c__law_drawn_point.mono (by decide)) B
  have c_common_divisor : Cal P w K mg base 1 "common_divisor" ["one", "other"] spGcd := cal_common_divisor D_common_divisor B
  have c_lowest_point : Cal P w K mg base 2 "lowest_point" ["top", "bottom"] (spLowP K) := cal_lowest_point D_lowest_point (c_common_divisor.mono (by decide)) c_FAR kF
  have c_is_point : Cal P w K mg base 3 "is_point" ["point"] (spIsP K) := cal_is_point D_is_point (c_lowest_point.mono (by decide))
  have c_check_point : Cal P w K mg base 4 "check_point" ["point"] (spCheckP K) := cal_check_point D_check_point (c_is_point.mono (by decide))
  have c_unlike : Cal P w K mg base 1 "unlike" ["points"] (spUnlike K) := cal_unlike D_unlike B
  have c_check_three : Cal P w K mg base 5 "check_three" ["one", "two", "three", "last"] (spCheckThree K) := cal_check_three D_check_three (c_check_point.mono (by decide)) (c_unlike.mono (by decide))
  have c_lowest_change : Cal P w K mg base 2 "lowest_change" ["numbers"] (spLowC K) := cal_lowest_change D_lowest_change (c_common_divisor.mono (by decide)) B
  have c_is_change : Cal P w K mg base 3 "is_change" ["change"] (spIsC K) := cal_is_change D_is_change (c_lowest_change.mono (by decide))
  have c_check_change : Cal P w K mg base 4 "check_change" ["change"] (spCheckC K) := cal_check_change D_check_change (c_is_change.mono (by decide))
  have c_moved : Cal P w K mg base 5 "moved" ["change", "point"] (spMoved K) := cal_moved D_moved (c_check_change.mono (by decide)) (c_check_point.mono (by decide)) (c_lowest_point.mono (by decide))
  have c_gap : Cal P w K mg base 1 "gap" ["one", "other"] (spGap K) := cal_gap D_gap
  have c_to_base : Cal P w K mg base 3 "to_base" ["one", "two", "three"] (spBase K) := cal_to_base D_to_base (c_gap.mono (by decide)) (c_lowest_change.mono (by decide))
  have c_cross : Cal P w K mg base 6 "cross" ["one", "two", "three", "four"] (spCross K) := cal_cross D_cross (c_check_three.mono (by decide)) (c_moved.mono (by decide)) (c_to_base.mono (by decide))
  have c_back : Cal P w K mg base 5 "back" ["change"] (spBack K) := cal_back D_back (c_check_change.mono (by decide)) (c_lowest_change.mono (by decide))
  have c_fourth : Cal P w K mg base 6 "fourth" ["one", "two", "three", "number"] (spFourth K) := cal_fourth D_fourth (c_check_three.mono (by decide)) (c_moved.mono (by decide)) (c_back.mono (by decide)) (c_to_base.mono (by decide))
  have c_check_told : Cal P w K mg base 5 "check_told" ["points", "goals"] (spCheckTold K) := cal_check_told D_check_told (c_check_point.mono (by decide)) (c_unlike.mono (by decide)) B c_FEWEST_POINTS c_MOST_POINTS
  have c_joined : Cal P w K mg base 1 "joined" ["one", "other"] (spJoined K) := cal_joined D_joined
  have c_after : Cal P w K mg base 5 "after" ["one", "other"] (spAfter K) := cal_after D_after (c_check_change.mono (by decide)) (c_joined.mono (by decide)) (c_lowest_change.mono (by decide))
  have c_told_by : Cal P w K mg base 7 "told_by" ["points", "goals"] (spTold K) := cal_told_by D_told_by (c_check_told.mono (by decide)) (c_to_base.mono (by decide)) (c_back.mono (by decide)) (c_after.mono (by decide)) (c_moved.mono (by decide)) B
  exact ok_law F (c__law_change.mono (by decide)) (c__law_some_points.mono (by decide)) (c_cross.mono (by decide)) (c_moved.mono (by decide)) (c__law_cell_at.mono (by decide)) (c_fourth.mono (by decide)) (c_told_by.mono (by decide))
end Lw
open PySem PySem.W PyProof.Rows
set_option maxRecDepth 100000 in
set_option maxHeartbeats 0 in
theorem PySem.Challenge.cw_crossline_k08_whole_kept_behind_every_ch_holds : PySem.Challenge.rw_crossline_k08_whole_kept_behind_every_ch.Holds := by
  w_on; o_law; k_head; (case hw => w_witness2)
  k_fill
  refine L2.walk_of (l := PySem.Challenge.rw_crossline_k08_whole_kept_behind_every_ch) (n := 63) (k := 8) (x := "script") (CX := fun _ => L2.CX0) (sp := fun w => Cs.spLaw _) rfl (by decide) rfl ⟨rfl, by decide, by decide⟩ (fun w h Y => PySem.W.kIn_of Y) ?F (fun w H a ns hl hO hS => ⟨a, ns, rfl, Cs.Only.scr hS hO, fun _ => rfl⟩) (fun _ _ _ _ _ z => z)
  case F =>
    intro w mg fa h KX G hmg
    have D__law_cell_at : L3.Def (L2.KOf KX) mg "_law_cell_at" Lw.s__law_cell_at ["script", "k"] := by
      dsimp only [L2.KOf]
      refine' L3.def_mk KX G ?a ?l ?c ?k (fun _ _ _ _ _ _ us hl => match us, hl with | [_, _], _ => rfl)
      (case a => k_is); (case l => k_is); (case c => k_is); (case k => k_is)
    have D__law_next : L3.Def (L2.KOf KX) mg "_law_next" Lw.s__law_next ["script", "spot"] := by
      dsimp only [L2.KOf]
      refine' L3.def_mk KX G ?a ?l ?c ?k (fun _ _ _ _ _ _ us hl => match us, hl with | [_, _], _ => rfl)
      (case a => k_is); (case l => k_is); (case c => k_is); (case k => k_is)
    have D__law_stir : L3.Def (L2.KOf KX) mg "_law_stir" Lw.s__law_stir ["seed"] := by
      dsimp only [L2.KOf]
      refine' L3.def_mk KX G ?a ?l ?c ?k (fun _ _ _ _ _ _ us hl => match us, hl with | [_], _ => rfl)
      (case a => k_is); (case l => k_is); (case c => k_is); (case k => k_is)
    have D__law_common : L3.Def (L2.KOf KX) mg "_law_common" Lw.s__law_common ["one", "other"] := by
      dsimp only [L2.KOf]
      refine' L3.def_mk KX G ?a ?l ?c ?k (fun _ _ _ _ _ _ us hl => match us, hl with | [_, _], _ => rfl)
      (case a => k_is); (case l => k_is); (case c => k_is); (case k => k_is)
    have D__law_plain : L3.Def (L2.KOf KX) mg "_law_plain" Lw.s__law_plain ["numbers"] := by
      dsimp only [L2.KOf]
      refine' L3.def_mk KX G ?a ?l ?c ?k (fun _ _ _ _ _ _ us hl => match us, hl with | [_], _ => rfl)
      (case a => k_is); (case l => k_is); (case c => k_is); (case k => k_is)
    have D__law_turning : L3.Def (L2.KOf KX) mg "_law_turning" Lw.s__law_turning ["cell"] := by
      dsimp only [L2.KOf]
      refine' L3.def_mk KX G ?a ?l ?c ?k (fun _ _ _ _ _ _ us hl => match us, hl with | [_], _ => rfl)
      (case a => k_is); (case l => k_is); (case c => k_is); (case k => k_is)
    have D__law_after : L3.Def (L2.KOf KX) mg "_law_after" Lw.s__law_after ["one", "other"] := by
      dsimp only [L2.KOf]
      refine' L3.def_mk KX G ?a ?l ?c ?k (fun _ _ _ _ _ _ us hl => match us, hl with | [_, _], _ => rfl)
      (case a => k_is); (case l => k_is); (case c => k_is); (case k => k_is)
    have D__law_back : L3.Def (L2.KOf KX) mg "_law_back" Lw.s__law_back ["change"] := by
      dsimp only [L2.KOf]
      refine' L3.def_mk KX G ?a ?l ?c ?k (fun _ _ _ _ _ _ us hl => match us, hl with | [_], _ => rfl)
      (case a => k_is); (case l => k_is); (case c => k_is); (case k => k_is)
    have D__law_change : L3.Def (L2.KOf KX) mg "_law_change" Lw.s__law_change ["script", "spot"] := by
      dsimp only [L2.KOf]
      refine' L3.def_mk KX G ?a ?l ?c ?k (fun _ _ _ _ _ _ us hl => match us, hl with | [_, _], _ => rfl)
      (case a => k_is); (case l => k_is); (case c => k_is); (case k => k_is)
    have D__law_point : L3.Def (L2.KOf KX) mg "_law_point" Lw.s__law_point ["top", "bottom"] := by
      dsimp only [L2.KOf]
      refine' L3.def_mk KX G ?a ?l ?c ?k (fun _ _ _ _ _ _ us hl => match us, hl with | [_, _], _ => rfl)
      (case a => k_is); (case l => k_is); (case c => k_is); (case k => k_is)
    have D__law_drawn_point : L3.Def (L2.KOf KX) mg "_law_drawn_point" Lw.s__law_drawn_point ["cell"] := by
      dsimp only [L2.KOf]
      refine' L3.def_mk KX G ?a ?l ?c ?k (fun _ _ _ _ _ _ us hl => match us, hl with | [_], _ => rfl)
      (case a => k_is); (case l => k_is); (case c => k_is); (case k => k_is)
    have D__law_some_points : L3.Def (L2.KOf KX) mg "_law_some_points" Lw.s__law_some_points ["script", "spot", "many"] := by
      dsimp only [L2.KOf]
      refine' L3.def_mk KX G ?a ?l ?c ?k (fun _ _ _ _ _ _ us hl => match us, hl with | [_, _, _], _ => rfl)
      (case a => k_is); (case l => k_is); (case c => k_is); (case k => k_is)
    have D_common_divisor : L3.Def (L2.KOf KX) mg "common_divisor" Lw.s_common_divisor ["one", "other"] := by
      dsimp only [L2.KOf]
      refine' L3.def_mk KX G ?a ?l ?c ?k (fun _ _ _ _ _ _ us hl => match us, hl with | [_, _], _ => rfl)
      (case a => k_is); (case l => k_is); (case c => k_is); (case k => k_is)
    have D_lowest_point : L3.Def (L2.KOf KX) mg "lowest_point" Lw.s_lowest_point ["top", "bottom"] := by
      dsimp only [L2.KOf]
      refine' L3.def_mk KX G ?a ?l ?c ?k (fun _ _ _ _ _ _ us hl => match us, hl with | [_, _], _ => rfl)
      (case a => k_is); (case l => k_is); (case c => k_is); (case k => k_is)
    have D_is_point : L3.Def (L2.KOf KX) mg "is_point" Lw.s_is_point ["point"] := by
      dsimp only [L2.KOf]
      refine' L3.def_mk KX G ?a ?l ?c ?k (fun _ _ _ _ _ _ us hl => match us, hl with | [_], _ => rfl)
      (case a => k_is); (case l => k_is); (case c => k_is); (case k => k_is)
    have D_check_point : L3.Def (L2.KOf KX) mg "check_point" Lw.s_check_point ["point"] := by
      dsimp only [L2.KOf]
      refine' L3.def_mk KX G ?a ?l ?c ?k (fun _ _ _ _ _ _ us hl => match us, hl with | [_], _ => rfl)
      (case a => k_is); (case l => k_is); (case c => k_is); (case k => k_is)
    have D_unlike : L3.Def (L2.KOf KX) mg "unlike" Lw.s_unlike ["points"] := by
      dsimp only [L2.KOf]
      refine' L3.def_mk KX G ?a ?l ?c ?k (fun _ _ _ _ _ _ us hl => match us, hl with | [_], _ => rfl)
      (case a => k_is); (case l => k_is); (case c => k_is); (case k => k_is)
    have D_check_three : L3.Def (L2.KOf KX) mg "check_three" Lw.s_check_three ["one", "two", "three", "last"] := by
      dsimp only [L2.KOf]
      refine' L3.def_mk KX G ?a ?l ?c ?k (fun _ _ _ _ _ _ us hl => match us, hl with | [_, _, _, _], _ => rfl)
      (case a => k_is); (case l => k_is); (case c => k_is); (case k => k_is)
    have D_lowest_change : L3.Def (L2.KOf KX) mg "lowest_change" Lw.s_lowest_change ["numbers"] := by
      dsimp only [L2.KOf]
      refine' L3.def_mk KX G ?a ?l ?c ?k (fun _ _ _ _ _ _ us hl => match us, hl with | [_], _ => rfl)
      (case a => k_is); (case l => k_is); (case c => k_is); (case k => k_is)
    have D_is_change : L3.Def (L2.KOf KX) mg "is_change" Lw.s_is_change ["change"] := by
      dsimp only [L2.KOf]
      refine' L3.def_mk KX G ?a ?l ?c ?k (fun _ _ _ _ _ _ us hl => match us, hl with | [_], _ => rfl)
      (case a => k_is); (case l => k_is); (case c => k_is); (case k => k_is)
    have D_check_change : L3.Def (L2.KOf KX) mg "check_change" Lw.s_check_change ["change"] := by
      dsimp only [L2.KOf]
      refine' L3.def_mk KX G ?a ?l ?c ?k (fun _ _ _ _ _ _ us hl => match us, hl with | [_], _ => rfl)
      (case a => k_is); (case l => k_is); (case c => k_is); (case k => k_is)
    have D_moved : L3.Def (L2.KOf KX) mg "moved" Lw.s_moved ["change", "point"] := by
      dsimp only [L2.KOf]
      refine' L3.def_mk KX G ?a ?l ?c ?k (fun _ _ _ _ _ _ us hl => match us, hl with | [_, _], _ => rfl)
      (case a => k_is); (case l => k_is); (case c => k_is); (case k => k_is)
    have D_gap : L3.Def (L2.KOf KX) mg "gap" Lw.s_gap ["one", "other"] := by
      dsimp only [L2.KOf]
      refine' L3.def_mk KX G ?a ?l ?c ?k (fun _ _ _ _ _ _ us hl => match us, hl with | [_, _], _ => rfl)
      (case a => k_is); (case l => k_is); (case c => k_is); (case k => k_is)
    have D_to_base : L3.Def (L2.KOf KX) mg "to_base" Lw.s_to_base ["one", "two", "three"] := by
      dsimp only [L2.KOf]
      refine' L3.def_mk KX G ?a ?l ?c ?k (fun _ _ _ _ _ _ us hl => match us, hl with | [_, _, _], _ => rfl)
      (case a => k_is); (case l => k_is); (case c => k_is); (case k => k_is)
    have D_cross : L3.Def (L2.KOf KX) mg "cross" Lw.s_cross ["one", "two", "three", "four"] := by
      dsimp only [L2.KOf]
      refine' L3.def_mk KX G ?a ?l ?c ?k (fun _ _ _ _ _ _ us hl => match us, hl with | [_, _, _, _], _ => rfl)
      (case a => k_is); (case l => k_is); (case c => k_is); (case k => k_is)
    have D_back : L3.Def (L2.KOf KX) mg "back" Lw.s_back ["change"] := by
      dsimp only [L2.KOf]
      refine' L3.def_mk KX G ?a ?l ?c ?k (fun _ _ _ _ _ _ us hl => match us, hl with | [_], _ => rfl)
      (case a => k_is); (case l => k_is); (case c => k_is); (case k => k_is)
    have D_fourth : L3.Def (L2.KOf KX) mg "fourth" Lw.s_fourth ["one", "two", "three", "number"] := by
      dsimp only [L2.KOf]
      refine' L3.def_mk KX G ?a ?l ?c ?k (fun _ _ _ _ _ _ us hl => match us, hl with | [_, _, _, _], _ => rfl)
      (case a => k_is); (case l => k_is); (case c => k_is); (case k => k_is)
    have D_check_told : L3.Def (L2.KOf KX) mg "check_told" Lw.s_check_told ["points", "goals"] := by
      dsimp only [L2.KOf]
      refine' L3.def_mk KX G ?a ?l ?c ?k (fun _ _ _ _ _ _ us hl => match us, hl with | [_, _], _ => rfl)
      (case a => k_is); (case l => k_is); (case c => k_is); (case k => k_is)
    have D_joined : L3.Def (L2.KOf KX) mg "joined" Lw.s_joined ["one", "other"] := by
      dsimp only [L2.KOf]
      refine' L3.def_mk KX G ?a ?l ?c ?k (fun _ _ _ _ _ _ us hl => match us, hl with | [_, _], _ => rfl)
      (case a => k_is); (case l => k_is); (case c => k_is); (case k => k_is)
    have D_after : L3.Def (L2.KOf KX) mg "after" Lw.s_after ["one", "other"] := by
      dsimp only [L2.KOf]
      refine' L3.def_mk KX G ?a ?l ?c ?k (fun _ _ _ _ _ _ us hl => match us, hl with | [_, _], _ => rfl)
      (case a => k_is); (case l => k_is); (case c => k_is); (case k => k_is)
    have D_told_by : L3.Def (L2.KOf KX) mg "told_by" Lw.s_told_by ["points", "goals"] := by
      dsimp only [L2.KOf]
      refine' L3.def_mk KX G ?a ?l ?c ?k (fun _ _ _ _ _ _ us hl => match us, hl with | [_, _], _ => rfl)
      (case a => k_is); (case l => k_is); (case c => k_is); (case k => k_is)
    have FL : ∃ (f : PySem.Addr) (fd : PySem.FuncData), L2.Fun (L2.KOf KX) "law" "law" Lw.s_law f fd ∧ mg "law" = some (.ref f) ∧ ∀ (s : PySem.Shared) (v : PySem.Value), PySem.BindsTo s fd ⟨[v], []⟩ [("script", v)] := by
      dsimp only [L2.KOf]
      refine' Lw.law_mk KX G ?a ?l ?c ?k
      (case a => k_is); (case l => k_is); (case c => k_is); (case k => k_is)
    have B : L3.Blt mg := by
      refine' ⟨PySem.W.mg_none_of KX G ?b0, PySem.W.mg_none_of KX G ?b1, PySem.W.mg_none_of KX G ?b2, PySem.W.mg_none_of KX G ?b3, PySem.W.mg_none_of KX G ?b4, PySem.W.mg_none_of KX G ?b5, PySem.W.mg_none_of KX G ?b6, PySem.W.mg_none_of KX G ?b7, PySem.W.mg_none_of KX G ?b8, PySem.W.mg_none_of KX G ?b9, PySem.W.mg_none_of KX G ?b10, PySem.W.mg_none_of KX G ?b11, PySem.W.mg_none_of KX G ?b12⟩
      (case b0 => k_is); (case b1 => k_is); (case b2 => k_is); (case b3 => k_is); (case b4 => k_is); (case b5 => k_is); (case b6 => k_is); (case b7 => k_is); (case b8 => k_is); (case b9 => k_is); (case b10 => k_is); (case b11 => k_is); (case b12 => k_is)
    have CF : ∃ aF, (mg "FAR" = some (.ref aF) ∧ L2.RelV (.ref aF) (Value.ref aF)) ∧ ∀ H, L2.SqT (L2.KOf KX) H aF [.int 1, .int 0] := by
      dsimp only [L2.KOf]
      refine' Cs.far_mk KX G ?a ?l
      (case a => k_is); (case l => k_is)
    obtain ⟨aF, c_FAR, kF⟩ := CF
    have CuF : ∃ u, mg "FEWEST_POINTS" = some u ∧ L2.RelV (.int 3) u := by
      refine' Cs.int_mk KX G ?a
      (case a => k_is)
    obtain ⟨uF, c_FEWEST_POINTS⟩ := CuF
    have CuP : ∃ u, mg "MOST_POINTS" = some u ∧ L2.RelV (.int 8) u := by
      refine' Cs.int_mk KX G ?a
      (case a => k_is)
    obtain ⟨uP, c_MOST_POINTS⟩ := CuP
    exact Lw.fin hmg B D__law_cell_at D__law_next D__law_stir D__law_common D__law_plain D__law_turning D__law_after D__law_back D__law_change D__law_point D__law_drawn_point D__law_some_points D_common_divisor D_lowest_point D_is_point D_check_point D_unlike D_check_three D_lowest_change D_is_change D_check_change D_moved D_gap D_to_base D_cross D_back D_fourth D_check_told D_joined D_after D_told_by c_FAR kF c_FEWEST_POINTS c_MOST_POINTS FL
#print axioms PySem.Challenge.cw_crossline_k08_whole_kept_behind_every_ch_holds
