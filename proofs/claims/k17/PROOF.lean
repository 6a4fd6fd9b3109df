import PyProof.Rows.All
import Wide.All
import OpenK.AllK
import Wide.FinOn
import Lean
import PyProof.EqAt
import PyProof.EqKinds
import PyProof.TupleCall
import PySem.Challenge.RW_crossline_k17_texts_refused
set_option Elab.async false
set_option linter.all false
set_option maxRecDepth 100000
namespace L2
open PySem PySem.Spec PyProof.Rows
abbrev Key := Sum Int Str
def keyIs : Key → Value → Bool
  | .inl k, v => Value.isInt k v
  | .inr x, v => Value.isStrOf x v
def keyH (w : World) : Key → Int
  | .inl k => hashInt k
  | .inr x => hashStr w x
theorem keyIs_shape : ∀ {k : Key} {v : Value}, keyIs k v = true → (∃ i t, k = Sum.inl i ∧ v = Value.int i t) ∨ (∃ x t, k = Sum.inr x ∧ v = Value.str x t)
  | .inl i, v, h => by
    obtain ⟨t, e⟩ := Value.isInt_shape (k := i) (v := v) h
    exact .inl ⟨i, t, rfl, e⟩
  | .inr x, v, h => by
    obtain ⟨t, e⟩ := Value.isStrOf_shape (x := x) (v := v) h
    exact .inr ⟨x, t, rfl, e⟩
theorem key_ll (a b : Int) : decide ((Sum.inl a : Key) = Sum.inl b) = (a == b) := by
  by_cases e : a = b
  · subst e; simp
  · have h : ¬ (Sum.inl a : Key) = Sum.inl b := fun q => e (Sum.inl.inj q)
    rw [decide_eq_false h]
    exact (beq_eq_false_iff_ne.mpr e).symm
theorem key_rr (a b : Str) : decide ((Sum.inr a : Key) = Sum.inr b) = decide (a = b) := by
  by_cases e : a = b
  · subst e; simp
  · have h : ¬ (Sum.inr a : Key) = Sum.inr b := fun q => e (Sum.inr.inj q)
    rw [decide_eq_false h, decide_eq_false e]
theorem key_lr (a : Int) (b : Str) : decide ((Sum.inl a : Key) = Sum.inr b) = false := decide_eq_false (fun q => nomatch q)
theorem key_rl (a : Str) (b : Int) : decide ((Sum.inr a : Key) = Sum.inl b) = false := decide_eq_false (fun q => nomatch q)
def mixKind (prog : Program) (w : World) : PySem.KeyKind prog w Key where
  is := keyIs
  hash := keyH w
  inj := fun v a b ha hb => by
    rcases keyIs_shape ha with ⟨i, t, rfl, rfl⟩ | ⟨x, t, rfl, rfl⟩
    · rcases keyIs_shape hb with ⟨j, u, rfl, e⟩ | ⟨y, u, rfl, e⟩
      · injection e with e1 _; rw [e1]
      · exact nomatch e
    · rcases keyIs_shape hb with ⟨j, u, rfl, e⟩ | ⟨y, u, rfl, e⟩
      · exact nomatch e
      · injection e with e1 _; rw [e1]
  byValue := fun k v h => by
    rcases keyIs_shape h with ⟨i, t, rfl, rfl⟩ | ⟨x, t, rfl, rfl⟩ <;> rfl
  pyHash := fun hv h => by
    rcases keyIs_shape hv with ⟨i, t, rfl, rfl⟩ | ⟨x, t, rfl, rfl⟩
    · exact wpAny_pyHash_int h
    · exact wpAny_pyHash_str h
  eqBool := fun hu hv h => by
    rcases keyIs_shape hu with ⟨i, t, rfl, rfl⟩ | ⟨x, t, rfl, rfl⟩
    · rcases keyIs_shape hv with ⟨j, u, rfl, rfl⟩ | ⟨y, u, rfl, rfl⟩
      · rw [key_ll] at h; exact wpAny_eqBool_int h
      · rw [key_lr] at h; exact SeqAt.EqAt.int_str i t y u _ _ _ _ h
    · rcases keyIs_shape hv with ⟨j, u, rfl, rfl⟩ | ⟨y, u, rfl, rfl⟩
      · rw [key_rl] at h; exact SeqAt.EqAt.str_int x t j u _ _ _ _ h
      · rw [key_rr] at h; exact wpAny_eqBool_str h
  «strs» := fun k x t v h => by
    rcases keyIs_shape h with ⟨i, u, rfl, e⟩ | ⟨y, u, rfl, e⟩
    · exact nomatch e
    · injection e with e1 _
      subst e1
      cases v <;> rfl
end L2
namespace L2
open PySem PySem.Spec PyProof.Rows
inductive V where
  | non | bl (b : Bool) | int (i : Int) | str (x : Str) | byt (b : Array UInt8) | flt (b : UInt64) | ref (a : Addr) | ty (n : String)
  deriving DecidableEq
def RelV : V → Value → Prop
  | .non, u => u = Value.none
  | .bl b, u => u = Value.bool b
  | .int i, u => ∃ t, u = Value.int i t
  | .str x, u => ∃ t, u = Value.str x t
  | .byt b, u => ∃ t, u = Value.bytes b t
  | .flt b, u => ∃ t, u = Value.float b t
  | .ref a, u => u = Value.ref a
  | .ty n, u => u = Value.type n
abbrev Vals : List V → List Value → Prop := Paired RelV
theorem Vals.length {xs : List V} {us : List Value} (r : Vals xs us) : xs.length = us.length := Paired.length r
theorem Vals.get : ∀ {xs : List V} {us : List Value} {i : Nat} {x : V}, Vals xs us → xs[i]? = some x → ∃ u, us[i]? = some u ∧ RelV x u
  | _, _, _, _, .nil, e => by simp at e
  | _, _, 0, _, .cons r _, e => by simp at e; subst e; exact ⟨_, rfl, r⟩
  | _, _, i + 1, x, .cons _ t, e => by
    obtain ⟨u, h1, h2⟩ := Vals.get (i := i) (x := x) t (by simpa using e)
    exact ⟨u, by simpa using h1, h2⟩
theorem Vals.set {x : V} {u : Value} (r : RelV x u) : ∀ {xs : List V} {us : List Value} (i : Nat), Vals xs us → Vals (xs.set i x) (us.set i u)
  | _, _, _, .nil => .nil
  | _, _, 0, .cons _ t => .cons r t
  | _, _, i + 1, .cons q t => .cons q (Vals.set r i t)
theorem Vals.append : ∀ {xs ys : List V} {us ws : List Value}, Vals xs us → Vals ys ws → Vals (xs ++ ys) (us ++ ws)
  | _, _, _, _, .nil, s => s
  | _, _, _, _, .cons r t, s => .cons r (Vals.append t s)
def RelO : Option V → Option Value → Prop
  | some v, some u => RelV v u
  | none, none => True
  | _, _ => False
def KV {κ : Type} : List (κ × V) → List (κ × Value) → Prop := Paired fun (p : κ × V) (q : κ × Value) => p.1 = q.1 ∧ RelV p.2 q.2
def kV : Key → V
  | .inl i => .int i
  | .inr x => .str x
inductive HO where
  /-- a list -/
  | lst (xs : List V)
  /-- a tuple (never changes) -/
  | tup (xs : List V)
  /-- a dict whose keys are ints and texts; one whose keys are tuples of ints and texts (the empty one is both) -/
  | dK (kvs : List (Key × V)) | dT (kvs : List (List Key × V))
  /-- a set of ints: its members, its size -/
  | set (S : Int → Bool) (n : Nat)
  /-- an instance of the class at C, its dict at dx, its attributes -/
  | ins (C dx : Addr) (fs : List (Str × V))
  /-- the dict of the instance at x -/
  | own (x : Addr)
  /-- the dict of an exception -/
  | xd (fs : List (Str × V))
  /-- a bound method, f of x -/
  | met (f x : Addr)
  /-- a range object lo, lo + 1, .. below hi -/
  | rng (lo hi : Int)
  /-- a thing that is known to the object (the script; a dict while a loop walks it): read, never written while it is so -/
  | frz (o : Obj) (u : HO)
  /-- a code object's table -/
  | tbl (ps : Array Value)
  /-- any other thing, by what is true of its one object (a def of one's own: SetO a S n := HO.ext fun h => ..) -/
  | ext (φ : Heap → Prop)
abbrev Hp := Addr → Option HO
def upd (H : Hp) (a : Addr) (o : HO) : Hp := fun b => if b = a then some o else H b
theorem upd_same {H : Hp} {a : Addr} {o : HO} : upd H a o a = some o := by unfold upd; rw [if_pos rfl]
theorem upd_ne {H : Hp} {a b : Addr} {o : HO} (h : b ≠ a) : upd H a o b = H b := by unfold upd; rw [if_neg h]
theorem ne_of {H : Hp} {a b : Addr} {o u : HO} (h : H a = some o) (h' : H b = some u) (d : o ≠ u) : a ≠ b := by
  intro e; subst e; rw [h] at h'; exact d (Option.some.inj h')
theorem ne_of_none {H : Hp} {a b : Addr} {o : HO} (h : H a = some o) (h' : H b = none) : a ≠ b := by
  intro e; subst e; rw [h] at h'; cases h'
section
variable (P : Program) (w : World)
def ObjOk (H : Hp) (h : Heap) (a : Addr) : HO → Prop
  | .lst xs => xs.length ≤ sizeLine ∧ ∃ (its : List Value) (n : Nat), Vals xs its ∧ h.get? a = some { cls := .type "list", data := .seq its.toArray n }
  | .tup xs => xs.length ≤ sizeLine ∧ ∃ its : List Value, Vals xs its ∧ IsTup h a its.toArray
  | .dK kvs => kvs.length ≤ sizeLine ∧ (a == sysModules) = false ∧ ∃ vs, KV kvs vs ∧ h.DictOf (mixKind P w) a vs
  | .dT kvs => kvs.length ≤ sizeLine ∧ (a == sysModules) = false ∧ ∃ xs : List (List Key × Addr × Value),
      Paired (fun (p : List Key × V) (q : List Key × Addr × Value) => p.1 = q.1 ∧ H q.2.1 = some (.tup (p.1.map kV)) ∧ RelV p.2 q.2.2) kvs xs ∧
      ∃ o es ep, h.get? a = some o ∧ o.ExactDict ∧ o.data = .dict es ep ∧ es.toList = xs.map (entryOfKey (tupleKind (mixKind P w))) ∧ (xs.map (·.1)).Nodup
  | .set S n => h.SetOf (intKind P w) a S n
  | .ins C dx fs => H dx = some (.own a) ∧ fs.length ≤ 1000 ∧ dx ≠ a ∧ h.get? a = some (PySem.W.instObj C dx) ∧
      ∃ mA, h.Ns1 dx mA ∧ (∀ f, RelO (fs.lookup f) (mA f)) ∧ PySem.Within mA (fs.map (·.1))
  | .own _ => ∃ o, h.get? a = some o
  | .xd fs => ∃ mA, h.Ns1 a mA ∧ ∀ f, RelO (fs.lookup f) (mA f)
  | .rng lo hi => ∃ t u v, h.get? a = some { cls := .type "range", data := .fields #[.int lo t, .int hi u, .int 1 v] }
  | .frz o u => h.get? a = some o ∧ ObjOk H h a u
  | .tbl ps => h.get? a = some { cls := .none, data := .fields ps }
  | .met f x => h.get? a = some (PySem.W.methodObj (.ref f) (.ref x))
  | .ext φ => φ h ∧ (∃ o, h.get? a = some o) ∧ ∀ h1 h2 : Heap, φ h1 → (∀ o, h1.get? a = some o → h2.get? a = some o) → φ h2
def HOk (H : Hp) (h : Heap) : Prop := ∀ a o, H a = some o → ObjOk P w H h a o
end
section
variable {P : Program} {w : World} {H H' : Hp} {h h' : Heap} {a : Addr} {o : HO}
theorem ObjOk.lt (x : ObjOk P w H h a o) : a < h.objs.size := by
  cases o with
  | lst xs => obtain ⟨_, _, _, _, e⟩ := x; exact Heap.lt_size e
  | tup xs => obtain ⟨_, _, _, p⟩ := x; exact p.lt
  | dK kvs => obtain ⟨_, _, _, _, o, _, _, e, _⟩ := x; exact Heap.lt_size e
  | dT kvs => obtain ⟨_, _, _, _, o, _, _, e, _⟩ := x; exact Heap.lt_size e
  | set S n => obtain ⟨o, _, _, _, e, _⟩ := x; exact Heap.lt_size e
  | ins C dx fs => obtain ⟨_, _, _, e, _⟩ := x; exact Heap.lt_size e
  | own y => obtain ⟨_, e⟩ := x; exact Heap.lt_size e
  | xd fs => obtain ⟨_, ⟨_, _, _, e, _⟩, _⟩ := x; exact Heap.lt_size e
  | rng lo hi => obtain ⟨_, _, _, e⟩ := x; exact Heap.lt_size e
  | frz ob u => obtain ⟨e, _⟩ := x; exact Heap.lt_size e
  | tbl ps => exact Heap.lt_size (show h.get? a = some _ from x)
  | met f y => exact Heap.lt_size (show h.get? a = some _ from x)
  | ext φ => obtain ⟨_, ⟨_, e⟩, _⟩ := x; exact Heap.lt_size e
theorem Paired.mapP {α β : Type} {F G : α → β → Prop} : ∀ {l₁ : List α} {l₂ : List β}, Paired F l₁ l₂ → (∀ a b, F a b → G a b) → Paired G l₁ l₂
  | _, _, .nil, _ => .nil
  | _, _, .cons r t, f => .cons (f _ _ r) (Paired.mapP t f)
theorem ObjOk.stay (x : ObjOk P w H h a o) (k : ∀ b u, (b = a ∨ H b = some (.own a)) → h.get? b = some u → h'.get? b = some u)
    (ho : ∀ b, H b = some (.own a) → H' b = some (.own a)) (ht : ∀ b xs, H b = some (.tup xs) → H' b = some (.tup xs)) : ObjOk P w H' h' a o := by
  induction o with
  | lst xs => obtain ⟨z, its, n, r, e⟩ := x; exact ⟨z, its, n, r, k _ _ (.inl rfl) e⟩
  | tup xs => obtain ⟨z, its, r, ob, e, c⟩ := x; exact ⟨z, its, r, ob, k _ _ (.inl rfl) e, c⟩
  | dK kvs => obtain ⟨z, y, vs, r, ob, es, ep, e, c⟩ := x; exact ⟨z, y, vs, r, ob, es, ep, k _ _ (.inl rfl) e, c⟩
  | dT kvs =>
    obtain ⟨z, y, xs, r, ob, es, ep, e, c⟩ := x
    exact ⟨z, y, xs, Paired.mapP r fun p q z => ⟨z.1, ht _ _ z.2.1, z.2.2⟩, ob, es, ep, k _ _ (.inl rfl) e, c⟩
  | set S n => obtain ⟨ob, es, ep, t, e, c⟩ := x; exact ⟨ob, es, ep, t, k _ _ (.inl rfl) e, c⟩
  | ins C dx fs =>
    obtain ⟨d, z, ne, e, mA, ⟨od, es, ep, e2, c⟩, r⟩ := x
    exact ⟨ho _ d, z, ne, k _ _ (.inl rfl) e, mA, ⟨od, es, ep, k _ _ (.inr d) e2, c⟩, r⟩
  | own y => obtain ⟨ob, e⟩ := x; exact ⟨ob, k _ _ (.inl rfl) e⟩
  | xd fs => obtain ⟨mA, ⟨od, es, ep, e, c⟩, r⟩ := x; exact ⟨mA, ⟨od, es, ep, k _ _ (.inl rfl) e, c⟩, r⟩
  | rng lo hi => obtain ⟨t, u, v, e⟩ := x; exact ⟨t, u, v, k _ _ (.inl rfl) e⟩
  | frz ob u ih => obtain ⟨e, q⟩ := x; exact ⟨k _ _ (.inl rfl) e, ih q⟩
  | tbl ps =>
    have e : h.get? a = some { cls := .none, data := .fields ps } := x
    show h'.get? a = some { cls := .none, data := .fields ps }
    exact k a _ (.inl rfl) e
  | met f y =>
    have e : h.get? a = some (PySem.W.methodObj (.ref f) (.ref y)) := x
    show h'.get? a = some (PySem.W.methodObj (.ref f) (.ref y))
    exact k a _ (.inl rfl) e
  | ext φ => obtain ⟨p, ⟨o, e⟩, st⟩ := x; exact ⟨st _ _ p fun o q => k _ _ (.inl rfl) q, ⟨o, k _ _ (.inl rfl) e⟩, st⟩
theorem HOk.lt (x : HOk P w H h) (e : H a = some o) : a < h.objs.size := (x a o e).lt
theorem HOk.fresh (x : HOk P w H h) (e : h.objs.size ≤ a) : H a = none := by
  cases q : H a with
  | none => rfl
  | some u => exact absurd (Nat.lt_of_lt_of_le (x.lt q) e) (Nat.lt_irrefl _)
theorem HOk.kept (x : HOk P w H h) (k : ∀ b u, h.get? b = some u → h'.get? b = some u) : HOk P w H h' := fun a o e =>
  (x a o e).stay (fun b u _ q => k b u q) (fun _ q => q) fun _ _ q => q
theorem HOk.laid (x : HOk P w H h) (k : ∀ b u, h.get? b = some u → h'.get? b = some u) (hp : h.objs.size ≤ a) (new : ObjOk P w (upd H a o) h' a o) : HOk P w (upd H a o) h' := fun b u e => by
  have hn := x.fresh hp
  by_cases hb : b = a
  · subst hb; rw [upd_same] at e; cases e; exact new
  · rw [upd_ne hb] at e
    exact (x b u e).stay (fun c v _ q => k c v q) (fun c q => by rw [upd_ne (ne_of_none q hn)]; exact q) fun c xs q => by rw [upd_ne (ne_of_none q hn)]; exact q
end
def Rd (H : Hp) (a : Addr) (u : HO) : Prop := H a = some u ∨ ∃ o, H a = some (.frz o u)
theorem Rd.ok {P : Program} {w : World} {H : Hp} {h : Heap} {a : Addr} {u : HO} (r : Rd H a u) (x : HOk P w H h) : ObjOk P w H h a u := by
  rcases r with r | ⟨o, r⟩
  · exact x a u r
  · obtain ⟨_, q⟩ := x a _ r
    exact q
def Mut : Option HO → Prop
  | some (.lst _) => True
  | some (.dK _) => True
  | some (.dT _) => True
  | some (.set _ _) => True
  | some (.ins _ _ _) => True
  | some (.ext _) => True
  | _ => False
section
variable {P : Program} {w : World} {H : Hp} {h h' : Heap} {x e : Addr} {o' : HO}
theorem HOk.write (ok : HOk P w H h) (mu : Mut (H x)) (he : e = x ∨ H e = some (.own x)) (k : ∀ b u, b ≠ e → h.get? b = some u → h'.get? b = some u) (heo : ∃ u, h'.get? e = some u)
    (new : ObjOk P w (upd H x o') h' x o') : HOk P w (upd H x o') h' := fun b u q => by
  have nown : ∀ c y, H c = some (.own y) → c ≠ x := fun c y r z => by subst z; rw [r] at mu; exact mu
  have ntup : ∀ c xs, H c = some (.tup xs) → c ≠ x := fun c xs r z => by subst z; rw [r] at mu; exact mu
  by_cases hb : b = x
  · subst hb; rw [upd_same] at q; cases q; exact new
  · rw [upd_ne hb] at q
    by_cases hbe : b = e
    · have q' : H b = some (.own x) := by
        rcases he with z | z
        · exact absurd (hbe.trans z) hb
        · rw [hbe]; exact z
      rw [q] at q'; cases q'
      obtain ⟨v, hv⟩ := heo
      exact ⟨v, by rw [hbe]; exact hv⟩
    · refine (ok b u q).stay (fun c v hc r => k c v ?_ r) (fun c r => by rw [upd_ne (nown c b r)]; exact r) fun c xs r => by rw [upd_ne (ntup c xs r)]; exact r
      rcases hc with rfl | hc
      · exact hbe
      · rintro rfl
        rcases he with z | z
        · exact nown c b hc z
        · rw [hc] at z; cases z; exact hb rfl
end
structure Un (fs ex : List Addr) (H H' : Hp) (h h' : Heap) : Prop where
  keep : ∀ b o, h.get? b = some o → H b = none → b ∉ fs → b ∉ ex → h'.get? b = some o
  slot : ∀ b o, h.get? b = some o → H b = none → b ∈ fs → b ∉ ex → ∃ sl, h'.get? b = some { o with slots := sl }
  free : ∀ b o, h.get? b = some o → H b = none → b ∉ ex → H' b = none
  there : ∀ b o, h.get? b = some o → b ∉ ex → ∃ o', h'.get? b = some o'
  tups : ∀ b xs, H b = some (.tup xs) → H' b = some (.tup xs)
  frzs : ∀ b o u, H b = some (.frz o u) → H' b = some (.frz o u)
  tbls : ∀ b ps, H b = some (.tbl ps) → ∃ more, H' b = some (.tbl (ps ++ more))
section
variable {fs fs' ex ex' : List Addr} {H H1 H2 : Hp} {h h1 h2 h' : Heap} {a x e : Addr} {o : HO}
theorem Un.any (u : Un fs ex H H1 h h1) {b : Addr} {ob : Obj} (q : h.get? b = some ob) (n : H b = none) (hx : b ∉ ex) : ∃ sl, h1.get? b = some { ob with slots := sl } := by
  by_cases hb : b ∈ fs
  · exact u.slot b ob q n hb hx
  · exact ⟨ob.slots, u.keep b ob q n hb hx⟩
theorem Un.trans (a : Un fs ex H H1 h h1) (b : Un fs ex H1 H2 h1 h2) : Un fs ex H H2 h h2 where
  keep := fun c ob q n hc hx => b.keep c ob (a.keep c ob q n hc hx) (a.free c ob q n hx) hc hx
  slot := fun c ob q n hc hx => by
    obtain ⟨sl, e1⟩ := a.slot c ob q n hc hx
    obtain ⟨sl', e2⟩ := b.slot c _ e1 (a.free c ob q n hx) hc hx
    exact ⟨sl', e2⟩
  free := fun c ob q n hx => by
    obtain ⟨o', e1⟩ := a.there c ob q hx
    exact b.free c o' e1 (a.free c ob q n hx) hx
  there := fun c ob q hx => by
    obtain ⟨o', e1⟩ := a.there c ob q hx
    exact b.there c o' e1 hx
  tups := fun c xs q => b.tups c xs (a.tups c xs q)
  frzs := fun c ob xs q => b.frzs c ob xs (a.frzs c ob xs q)
  tbls := fun c ps q => by
    obtain ⟨m1, e1⟩ := a.tbls c ps q
    obtain ⟨m2, e2⟩ := b.tbls c _ e1
    exact ⟨m1 ++ m2, by rw [e2, Array.append_assoc]⟩
theorem Un.kept (k : ∀ b u, h.get? b = some u → h'.get? b = some u) : Un fs ex H H h h' :=
  ⟨fun b ob q _ _ _ => k b ob q, fun b ob q _ _ _ => ⟨ob.slots, k b ob q⟩, fun _ _ _ n _ => n, fun b ob q _ => ⟨ob, k b ob q⟩, fun _ _ q => q, fun _ _ _ q => q, fun _ ps q => ⟨#[], by rw [q]; simp⟩⟩
theorem Un.refl : Un fs ex H H h h := Un.kept fun _ _ q => q
theorem Un.laid (k : ∀ b u, h.get? b = some u → h'.get? b = some u) (hp : h.objs.size ≤ a) (hn : H a = none) : Un fs ex H (upd H a o) h h' where
  keep := fun b u q _ _ _ => k b u q
  slot := fun b u q _ _ _ => ⟨u.slots, k b u q⟩
  free := fun b u q n _ => by rw [upd_ne (Nat.ne_of_lt (Nat.lt_of_lt_of_le (Heap.lt_size q) hp))]; exact n
  there := fun b u q _ => ⟨u, k b u q⟩
  tups := fun b xs q => by rw [upd_ne (ne_of_none q hn)]; exact q
  frzs := fun b u xs q => by rw [upd_ne (ne_of_none q hn)]; exact q
  tbls := fun b ps q => ⟨#[], by rw [upd_ne (ne_of_none q hn), q]; simp⟩
theorem Un.write (mu : Mut (H x)) (he : e = x ∨ H e = some (.own x)) (k : ∀ b u, b ≠ e → h.get? b = some u → h'.get? b = some u) (heo : ∃ u, h'.get? e = some u) : Un fs ex H (upd H x o) h h' := by
  have hx : ∀ b, H b = none → b ≠ x := fun b n z => by subst z; rw [n] at mu; exact mu
  have hb : ∀ b, H b = none → b ≠ e := fun b n z => by
    subst z
    rcases he with r | r
    · exact hx b n r
    · rw [n] at r; cases r
  have hm : ∀ b u, H b = some u → ¬ Mut (some u) → b ≠ x := fun b u q nm z => by subst z; rw [q] at mu; exact nm mu
  refine ⟨fun b u q n _ _ => k b u (hb b n) q, fun b u q n _ _ => ⟨u.slots, k b u (hb b n) q⟩, fun b u q n _ => by rw [upd_ne (hx b n)]; exact n, fun b u q _ => ?_,
    fun b xs q => by rw [upd_ne (hm b _ q fun z => z)]; exact q, fun b u xs q => by rw [upd_ne (hm b _ q fun z => z)]; exact q, fun b ps q => ⟨#[], by rw [upd_ne (hm b _ q fun z => z), q]; simp⟩⟩
  by_cases hbe : b = e
  · subst hbe; exact heo
  · exact ⟨u, k b u hbe q⟩
end
def trk (h : Heap) (H : Hp) : List Addr := (List.range h.objs.size).filter fun a => (H a).isSome
def hidT (h : Heap) (H : Hp) : Heap := PySem.W.hideAll h (trk h H)
theorem hidT_size (h : Heap) (H : Hp) : (hidT h H).objs.size = h.objs.size := PySem.W.hideAll_size _ _
theorem hidT_get {h : Heap} {H : Hp} {b : Addr} {o : Obj} (e : h.get? b = some o) (n : H b = none) : (hidT h H).get? b = some o :=
  PySem.W.hideAll_get _ e fun hm => by
    have q : (H b).isSome = true := (List.mem_filter.mp hm).2
    rw [n] at q; simp at q
theorem of_hidT {h : Heap} {H : Hp} {b : Addr} {o : Obj} (e : (hidT h H).get? b = some o) : h.get? b = some o ∧ H b = none := by
  have e' : h.get? b = some o := PySem.W.of_hideAll (trk h H) e
  refine ⟨e', ?_⟩
  cases q : H b with
  | none => rfl
  | some x =>
    have hm : b ∈ trk h H := List.mem_filter.mpr ⟨List.mem_range.mpr (Heap.lt_size e'), by simp [q]⟩
    have z : (hidT h H).get? b = none := PySem.W.hideAll_none (trk h H) hm
    rw [z] at e; cases e
def allNews (g h : Heap) (L : Addr) : List (Addr × Obj) := (List.range h.objs.size).filterMap fun a => if a = L ∨ (g.get? a).isSome = true then none else (h.get? a).map fun o => (a, o)
def rest (g h : Heap) (L d : Addr) : List (Addr × Obj) := (allNews g h L).filter fun p => decide (p.1 ≠ d)
end L2
namespace L2
open PySem PySem.Spec PyProof.Rows
structure Mod (K : PySem.W.Frag) (mg : Str → Option Value) (base : Heap) : Prop where
  kin : K.In base
  glob : base.Ns mainGlobals mg
  blt : ∃ mb, base.Ns builtinsNs mb ∧ ∀ x : Str, x ≠ "__name__" → mb x = bootBuiltins x
  nolimit : base.NoLimit
structure Cx where
  prog : Program
  w : World
  K : PySem.W.Frag
  mg : Str → Option Value
  base : Heap
  A : Around
  N : List Str
  s₀ : Shared
  H₀ : Hp
  env : Env
  outer : List Env
  stack : List Env
  ex : List Addr
  fn : Str → Bool
  calm : Bool
  pn : List (Addr × Obj)
  xe : Value → Shared → Prop
def frs (l : List Env) : List Addr := l.filterMap (·.frame)
abbrev Cx.fs (X : Cx) : List Addr := frs X.outer
def Vis (sc : Scope) (x : Str) : Prop := sc.names.lookup x = some .local ∨ sc.names.lookup x = some .cell ∨ sc.names.lookup x = some .free
def Loc (sc : Scope) (x : Str) : Prop := sc.names.lookup x = some .local ∨ sc.names.lookup x = some .cell
def Look (env : Env) (h : Heap) (m : Str → Option Value) (x : Str) (u : Value) : Prop :=
  (env.kindOf x = some .local ∧ m x = some u) ∨ ((env.kindOf x = some .cell ∨ env.kindOf x = some .free) ∧ ∃ c, env.cells.lookup x = some c ∧ h.IsCell c (some u))
structure Cx.Ok (X : Cx) : Prop where
  mod : Mod X.K X.mg X.base
  kind : X.env.scope.kind = .function
  glob : X.env.globals = mainGlobals
  blt : X.env.builtins = builtinsNs
  above : X.s₀.heap.objs.size ≤ X.env.locals
  inj : ∀ x y c, X.env.cells.lookup x = some c → X.env.cells.lookup y = some c → x = y
  has : ∀ x, (X.env.kindOf x = some .cell ∨ X.env.kindOf x = some .free) → ∃ c, X.env.cells.lookup x = some c
  cab : ∀ x c, X.fn x = true → X.env.cells.lookup x = some c → X.s₀.heap.objs.size ≤ c
  hd : X.calm = true → X.A.handled = none
  frames : X.A.frames = some X.stack
  stk : X.stack = X.outer ∨ (X.stack = X.env :: X.outer ∧ X.env.frame = some X.env.locals)
  exf : ∀ b ∈ X.ex, b ≠ X.env.locals ∧ ∀ x c, X.env.cells.lookup x = some c → c ≠ b
  bs : ∀ b o, X.base.get? b = some o → X.s₀.heap.get? b = some o ∧ X.H₀ b = none
  bsz : X.base.objs.size ≤ X.s₀.heap.objs.size
  noex : ∀ b o, X.base.get? b = some o → b ∉ X.ex
  exfs : ∀ b ∈ X.ex, b ∉ X.fs
  funs : X.s₀.heap.FunFrames X.base X.outer
  frf : ∀ b ∈ X.fs, X.H₀ b = none
structure Inv (X : Cx) (pins : List (Addr × Obj)) (σ : List (Option V)) (H : Hp) (s : Shared) : Prop where
  ok : X.Ok
  os : s.os = X.s₀.os
  bare : AllBare s.gens
  base : Un X.fs X.ex X.H₀ H X.s₀.heap s.heap
  loc : ∃ m, s.heap.Ns X.env.locals m ∧ ∀ (i : Nat) (x : Str) (v : V), X.N[i]? = some x → σ[i]? = some (some v) → Vis X.env.scope x → ∃ u, RelV v u ∧ Look X.env s.heap m x u
  cell : ∀ x c, X.env.cells.lookup x = some c → ∃ v, s.heap.IsCell c v
  free : H X.env.locals = none
  freeC : ∀ x c, X.env.cells.lookup x = some c → H c = none
  pin : ∀ p ∈ X.pn ++ pins, s.heap.get? p.1 = some p.2 ∧ H p.1 = none ∧ p.1 ≠ X.env.locals ∧ p.1 ∉ X.fs ∧ ∀ v, p.2.data ≠ .cell v
  hok : HOk X.prog X.w H s.heap
  len : σ.length = X.N.length
section
variable {X : Cx} {pins : List (Addr × Obj)} {σ : List (Option V)} {H H' : Hp} {s : Shared} {h' : Heap}
theorem Cx.Ok.nofr (ok : X.Ok) {b : Addr} {o : Obj} (e : X.base.get? b = some o) : b ∉ X.fs := fun hb => by
  have := (ok.funs.mem hb).1
  rw [e] at this; cases this
theorem Inv.bs (I : Inv X pins σ H s) : ∀ b o, X.base.get? b = some o → s.heap.get? b = some o ∧ H b = none := fun b o e =>
  ⟨I.base.keep b o (I.ok.bs b o e).1 (I.ok.bs b o e).2 (I.ok.nofr e) (I.ok.noex b o e), I.base.free b o (I.ok.bs b o e).1 (I.ok.bs b o e).2 (I.ok.noex b o e)⟩
theorem Inv.bk (I : Inv X pins σ H s) : ∀ b o, X.base.get? b = some o → s.heap.get? b = some o := fun b o e => (I.bs b o e).1
theorem Inv.mod (I : Inv X pins σ H s) : Mod X.K X.mg X.base := I.ok.mod
theorem Inv.kIn (I : Inv X pins σ H s) : X.K.In s.heap := I.ok.mod.kin.keeps I.bk
theorem Inv.lt (I : Inv X pins σ H s) : X.env.locals < s.heap.objs.size := let ⟨_, hn, _⟩ := I.loc; hn.lt
theorem Inv.sz (I : Inv X pins σ H s) : X.s₀.heap.objs.size ≤ s.heap.objs.size := Nat.le_trans I.ok.above (Nat.le_of_lt I.lt)
theorem Inv.nofs (I : Inv X pins σ H s) {a : Addr} (h : s.heap.objs.size ≤ a) : a ∉ X.fs := fun hb => by
  obtain ⟨_, o, ho, _⟩ := I.ok.funs.mem hb
  exact absurd (Nat.lt_of_lt_of_le (Heap.lt_size ho) (Nat.le_trans I.sz h)) (Nat.lt_irrefl _)
theorem Inv.cne (I : Inv X pins σ H s) : ∀ x c, X.env.cells.lookup x = some c → c ≠ X.env.locals := fun x c e z => by
  obtain ⟨v, o, ho, hd⟩ := I.cell x c e
  obtain ⟨m, ⟨o', es, ep, ho', hd', _⟩, _⟩ := I.loc
  rw [z, ho'] at ho; cases ho; rw [hd'] at hd; cases hd
theorem Inv.funs (I : Inv X pins σ H s) : s.heap.FunFrames X.base X.outer := by
  have all : ∀ (l : List Env), (∀ b ∈ frs l, b ∈ X.fs) → X.s₀.heap.FunFrames X.base l → s.heap.FunFrames X.base l := by
    intro l
    induction l with
    | nil => intro _ _; trivial
    | cons env r ih =>
      intro hs hl
      obtain ⟨hk, ⟨L, o, hf, hn, ho, hd⟩, hr⟩ := hl
      have hL : L ∈ X.fs := hs L (by unfold frs; rw [List.filterMap_cons, hf]; exact List.mem_cons_self)
      obtain ⟨sl, e⟩ := I.base.slot L o ho (I.ok.frf L hL) hL fun z => I.ok.exfs L z hL
      exact ⟨hk, ⟨L, _, hf, hn, e, hd⟩, ih (fun b hb => hs b (by unfold frs; rw [List.filterMap_cons, hf]; exact List.mem_cons_of_mem _ hb)) hr⟩
  exact all X.outer (fun _ hb => hb) I.ok.funs
theorem Inv.stack (I : Inv X pins σ H s) : s.heap.FunFrames X.base X.stack := by
  rcases I.ok.stk with e | ⟨e, hf⟩
  · rw [e]; exact I.funs
  · rw [e]
    obtain ⟨m, hn, _⟩ := I.loc
    refine .cons (by rw [I.ok.kind]; decide) hf hn ?_ I.funs
    exact Heap.get?_none_of_le (Nat.le_trans I.ok.bsz I.ok.above)
theorem Inv.stkSub (I : Inv X pins σ H s) : ∀ b ∈ frs X.stack, b ∈ X.env.locals :: X.fs := fun b hb => by
  rcases I.ok.stk with e | ⟨e, hf⟩
  · rw [e] at hb; exact List.mem_cons_of_mem _ hb
  · rw [e] at hb
    unfold frs at hb
    rw [List.filterMap_cons, hf] at hb
    exact hb
theorem Inv.stkFree (I : Inv X pins σ H s) : ∀ b ∈ frs X.stack, H b = none := fun b hb => by
  rcases List.mem_cons.mp (I.stkSub b hb) with e | hb
  · rw [e]; exact I.free
  · obtain ⟨_, o, ho, _⟩ := I.ok.funs.mem hb
    exact I.base.free b o ho (I.ok.frf b hb) fun z => I.ok.exfs b z hb
theorem Inv.step {g' : Array GenState} {t' : Nat} {d' : Drawn} {ch : List Addr} (I : Inv X pins σ H s)
    (hch : ∀ b ∈ ch, (b ∈ X.ex ∨ X.s₀.heap.objs.size ≤ b) ∧ b ≠ X.env.locals ∧ (∀ x c, X.env.cells.lookup x = some c → c ≠ b) ∧ ∀ p ∈ X.pn ++ pins, p.1 ≠ b)
    (keep : ∀ b o, b ≠ X.env.locals → b ∉ X.fs → b ∉ ch → s.heap.get? b = some o → H b = none → h'.get? b = some o)
    (slot : ∀ b o, b ≠ X.env.locals → b ∈ X.fs → b ∉ ch → s.heap.get? b = some o → H b = none → ∃ sl, h'.get? b = some { o with slots := sl }) (free : ∀ b o, b ∉ ch → s.heap.get? b = some o → H b = none → H' b = none)
    (there : ∀ b o, b ∉ ch → s.heap.get? b = some o → ∃ o', h'.get? b = some o')
    (tups : ∀ b xs, H b = some (.tup xs) → H' b = some (.tup xs)) (frzs : ∀ b o u, H b = some (.frz o u) → H' b = some (.frz o u)) (tbls : ∀ b ps, H b = some (.tbl ps) → ∃ more, H' b = some (.tbl (ps ++ more)))
    (ns : ∀ m, s.heap.Ns X.env.locals m → h'.Ns X.env.locals m) (hok : HOk X.prog X.w H' h') (hg : AllBare g') :
    Inv X pins σ H' { s with heap := h', gens := g', drawn := d', toks := t' } := by
  have neL : ∀ b o, X.s₀.heap.get? b = some o → b ≠ X.env.locals := fun b o e => Nat.ne_of_lt (Nat.lt_of_lt_of_le (Heap.lt_size e) I.ok.above)
  have neC : ∀ b o, X.s₀.heap.get? b = some o → b ∉ X.ex → b ∉ ch := fun b o e hx hb => by
    rcases (hch b hb).1 with z | z
    · exact hx z
    · exact absurd (Nat.lt_of_lt_of_le (Heap.lt_size e) z) (Nat.lt_irrefl _)
  have cellK : ∀ x c, X.env.cells.lookup x = some c → ∀ v, s.heap.IsCell c v → h'.IsCell c v := fun x c e v ⟨o, ho, hd⟩ => by
    have nch : c ∉ ch := fun z => (hch c z).2.2.1 x c e rfl
    by_cases hc : c ∈ X.fs
    · obtain ⟨sl, q⟩ := slot c o (I.cne x c e) hc nch ho (I.freeC x c e)
      exact ⟨_, q, hd⟩
    · exact ⟨o, keep c o (I.cne x c e) hc nch ho (I.freeC x c e), hd⟩
  refine ⟨I.ok, I.os, hg, ⟨fun b o e n hb hx => ?_, fun b o e n hb hx => ?_, fun b o e n hx => ?_, fun b o e hx => ?_, fun b xs e => tups b xs (I.base.tups b xs e), fun b o xs e => frzs b o xs (I.base.frzs b o xs e), fun b ps e => ?_⟩, ?_, fun x c e => ?_, ?_, fun x c e => ?_, fun p hp => ?_, hok, I.len⟩
  · exact keep b o (neL b o e) hb (neC b o e hx) (I.base.keep b o e n hb hx) (I.base.free b o e n hx)
  · obtain ⟨sl, e1⟩ := I.base.slot b o e n hb hx
    obtain ⟨sl', e2⟩ := slot b _ (neL b o e) hb (neC b o e hx) e1 (I.base.free b o e n hx)
    exact ⟨sl', e2⟩
  · obtain ⟨o', e1⟩ := I.base.there b o e hx
    exact free b o' (neC b o e hx) e1 (I.base.free b o e n hx)
  · obtain ⟨o', e1⟩ := I.base.there b o e hx
    exact there b o' (neC b o e hx) e1
  · obtain ⟨m1, e1⟩ := I.base.tbls b ps e
    obtain ⟨m2, e2⟩ := tbls b _ e1
    exact ⟨m1 ++ m2, by rw [e2, Array.append_assoc]⟩
  · obtain ⟨m, hn, hl⟩ := I.loc
    refine ⟨m, ns m hn, fun i x v e1 e2 e3 => ?_⟩
    obtain ⟨u, r, l⟩ := hl i x v e1 e2 e3
    refine ⟨u, r, ?_⟩
    rcases l with l | ⟨k, c, e, z⟩
    · exact .inl l
    · exact .inr ⟨k, c, e, cellK x c e _ z⟩
  · obtain ⟨v, z⟩ := I.cell x c e
    exact ⟨v, cellK x c e v z⟩
  · obtain ⟨m, ⟨o, _, _, ho, _⟩, _⟩ := I.loc
    exact free _ o (fun z => (hch _ z).2.1 rfl) ho I.free
  · obtain ⟨v, o, ho, hd⟩ := I.cell x c e
    exact free c o (fun z => (hch c z).2.2.1 x c e rfl) ho (I.freeC x c e)
  · obtain ⟨e, n, ne, nf, d⟩ := I.pin p hp
    have nch : p.1 ∉ ch := fun z => (hch p.1 z).2.2.2 p hp rfl
    exact ⟨keep p.1 p.2 ne nf nch e n, free p.1 p.2 nch e n, ne, nf, d⟩
theorem Inv.un {t' : Nat} (I : Inv X pins σ H s) (u : Un X.fs [] H H' s.heap h') (hok : HOk X.prog X.w H' h') : Inv X pins σ H' { s with heap := h', toks := t' } := by
  obtain ⟨m, ⟨o, es, ep, ho, r⟩, _⟩ := id I.loc
  obtain ⟨sl, hL⟩ := u.any ho I.free (by simp)
  exact I.step (g' := s.gens) (d' := s.drawn) (ch := []) (fun _ z => nomatch z) (fun b o _ hb _ e n => u.keep b o e n hb (by simp)) (fun b o _ hb _ e n => u.slot b o e n hb (by simp)) (fun b o _ e n => u.free b o e n (by simp)) (fun b o _ e => u.there b o e (by simp)) u.tups u.frzs u.tbls (fun m' hm => by
    obtain ⟨o', es', ep', ho', r'⟩ := hm
    rw [ho] at ho'; cases ho'
    exact ⟨_, es', ep', hL, r'⟩) hok I.bare
theorem Inv.call {g' : Array GenState} {t' : Nat} {d' : Drawn} {ch : List Addr} (I : Inv X pins σ H s) (u : Un (frs X.stack) ch H H' s.heap h') (hok : HOk X.prog X.w H' h') (hg : AllBare g')
    (hch : ∀ b ∈ ch, (b ∈ X.ex ∨ X.s₀.heap.objs.size ≤ b) ∧ b ≠ X.env.locals ∧ (∀ x c, X.env.cells.lookup x = some c → c ≠ b) ∧ ∀ p ∈ X.pn ++ pins, p.1 ≠ b) :
    Inv X pins σ H' { s with heap := h', gens := g', drawn := d', toks := t' } := by
  obtain ⟨m, ⟨o, es, ep, ho, r⟩, _⟩ := id I.loc
  obtain ⟨sl, hL⟩ := u.any ho I.free fun z => (hch _ z).2.1 rfl
  exact I.step (ch := ch) hch (fun b o hL hb hc e n => u.keep b o e n (fun z => (List.mem_cons.mp (I.stkSub b z)).elim hL hb) hc) (fun b o _ _ hc e n => u.any e n hc) (fun b o hc e n => u.free b o e n hc) (fun b o hc e => u.there b o e hc) u.tups u.frzs u.tbls (fun m' hm => by
    obtain ⟨o', es', ep', ho', r'⟩ := hm
    rw [ho] at ho'; cases ho'
    exact ⟨_, es', ep', hL, r'⟩) hok hg
theorem Inv.turned {t' : Nat} {it : Addr} (I : Inv X pins σ H s) (k : ∀ b o, b ≠ it → s.heap.get? b = some o → h'.get? b = some o) (hn : H it = none) (hL : it ≠ X.env.locals)
    (h1 : it ∈ X.ex ∨ X.s₀.heap.objs.size ≤ it) (h2 : ∀ x c, X.env.cells.lookup x = some c → c ≠ it) (h3 : ∀ p ∈ X.pn ++ pins, p.1 ≠ it) : Inv X pins σ H { s with heap := h', toks := t' } := by
  have nit : ∀ b u, H b = some u → b ≠ it := fun b u e z => by rw [z, hn] at e; cases e
  refine I.step (g' := s.gens) (d' := s.drawn) (ch := [it]) (fun b hb => ?_) (fun b o _ _ hc e _ => k b o (fun z => hc (by simp [z])) e) (fun b o _ _ hc e _ => ⟨o.slots, k b o (fun z => hc (by simp [z])) e⟩) (fun _ _ _ _ n => n)
    (fun b o hc e => ⟨o, k b o (fun z => hc (by simp [z])) e⟩) (fun _ _ e => e) (fun _ _ _ e => e) (fun b ps e => ⟨#[], by rw [e]; simp⟩) (fun m hm => ?_) (fun b u e => ?_) I.bare
  · have e : b = it := by simpa using hb
    subst e
    exact ⟨h1, hL, h2, h3⟩
  · obtain ⟨o, es, ep, ho, r⟩ := hm
    exact ⟨o, es, ep, k _ o (Ne.symm hL) ho, r⟩
  · refine (I.hok b u e).stay (fun c v hc q => k c v ?_ q) (fun _ q => q) fun _ _ q => q
    rcases hc with z | z
    · rw [z]; exact nit b u e
    · exact nit c _ z
theorem Inv.tok (I : Inv X pins σ H s) (t : Nat) : Inv X pins σ H { s with toks := t } := I.un (h' := s.heap) (t' := t) Un.refl I.hok
theorem Inv.kept {t' : Nat} (I : Inv X pins σ H s) (k : ∀ b u, s.heap.get? b = some u → h'.get? b = some u) : Inv X pins σ H { s with heap := h', toks := t' } := I.un (Un.kept k) (I.hok.kept k)
theorem Inv.laid {a : Addr} {o : HO} {t' : Nat} (I : Inv X pins σ H s) (k : ∀ b u, s.heap.get? b = some u → h'.get? b = some u) (hp : s.heap.objs.size ≤ a) (new : ObjOk X.prog X.w (upd H a o) h' a o) :
    Inv X pins σ (upd H a o) { s with heap := h', toks := t' } := I.un (Un.laid k hp (I.hok.fresh hp)) (I.hok.laid k hp new)
theorem Inv.write {x e : Addr} {o : HO} {t' : Nat} (I : Inv X pins σ H s) (mu : Mut (H x)) (he : e = x ∨ H e = some (.own x)) (k : ∀ b u, b ≠ e → s.heap.get? b = some u → h'.get? b = some u) (heo : ∃ u, h'.get? e = some u)
    (new : ObjOk X.prog X.w (upd H x o) h' x o) : Inv X pins σ (upd H x o) { s with heap := h', toks := t' } := I.un (Un.write mu he k heo) (I.hok.write mu he k heo new)
theorem Inv.weak {σ' : List (Option V)} (I : Inv X pins σ H s) (hl : σ'.length = σ.length) (w : ∀ (i : Nat) v, σ'[i]? = some (some v) → σ[i]? = some (some v)) : Inv X pins σ' H s :=
  ⟨I.ok, I.os, I.bare, I.base, let ⟨m, hn, hl'⟩ := I.loc; ⟨m, hn, fun i x v e1 e2 e3 => hl' i x v e1 (w i v e2) e3⟩, I.cell, I.free, I.freeC, I.pin, I.hok, hl.trans I.len⟩
theorem Inv.pins_of {pins' : List (Addr × Obj)} (I : Inv X pins σ H s) (h : ∀ p ∈ pins', s.heap.get? p.1 = some p.2 ∧ H p.1 = none ∧ p.1 ≠ X.env.locals ∧ p.1 ∉ X.fs ∧ ∀ v, p.2.data ≠ .cell v) : Inv X pins' σ H s :=
  ⟨I.ok, I.os, I.bare, I.base, I.loc, I.cell, I.free, I.freeC, fun p hp => (List.mem_append.mp hp).elim (fun z => I.pin p (List.mem_append_left _ z)) (h p), I.hok, I.len⟩
theorem nodup_ix {N : List Str} (hN : N.Nodup) {i j : Nat} {x : Str} (a : N[i]? = some x) (b : N[j]? = some x) : i = j := by
  obtain ⟨h1, e1⟩ := List.getElem?_eq_some_iff.mp a
  obtain ⟨h2, e2⟩ := List.getElem?_eq_some_iff.mp b
  exact (List.getElem_inj hN).mp (e1.trans e2.symm)
theorem store_ok2 {M : Model} {A : Around} {E : Value → Shared → Prop} {i : Nat} {x : Str} {v : V} {u : Value} {Q : Unit → Shared → Prop} (I : Inv X pins σ H s) (hN : X.N.Nodup) (hi : X.N[i]? = some x) (hx : Loc X.env.scope x) (r : RelV v u)
    (h : ∀ s', Inv X pins (σ.set i (some v)) H s' → (∃ a, Heap.SameBut a s.heap s'.heap ∧ (a = X.env.locals ∨ X.env.cells.lookup x = some a)) → Q () s') (hf : X.fn x = true ∨ X.env.scope.names.lookup x = some .local := by first | exact .inl rfl | exact .inr rfl | assumption) : wpAny M A (storeName X.env x u) Q E s := by
  obtain ⟨m, hn, hl⟩ := id I.loc
  have hcls : (X.env.scope.kind == .class || (X.env.scope.kind == .module && X.env.locals != X.env.globals)) = false := by rw [I.ok.kind]; rfl
  have hiσ : i < σ.length := by rw [I.len]; exact (List.getElem?_eq_some_iff.mp hi).1
  have cne := I.cne
  have tracked : ∀ {a : Addr} {h' : Heap}, (∃ o, s.heap.get? a = some o ∧ H a = none) → Heap.SameBut a s.heap h' → HOk X.prog X.w H h' := fun {a h'} ha hs b ob e => by
    obtain ⟨_, _, hfree⟩ := ha
    refine (I.hok b ob e).stay (fun c w' hc q => (hs.2 c ?_).trans q) (fun _ q => q) fun _ _ q => q
    rintro rfl
    rcases hc with rfl | hc
    · rw [hfree] at e; cases e
    · rw [hfree] at hc; cases hc
  rcases hx with hk | hk
  · refine wpAny_storeName_local hk hn (fun h' hn' hs => ?_) hcls
    obtain ⟨oL, _, _, hoL, _⟩ := id hn
    refine h _ ⟨I.ok, I.os, I.bare, ⟨fun b o e n hb hx => ?_, fun b o e n hb hx => ?_, I.base.free, fun b o e hx => ?_, I.base.tups, I.base.frzs, I.base.tbls⟩, ⟨_, hn', fun j y v' e1 e2 e3 => ?_⟩, fun y c e => ?_, I.free, I.freeC, fun p hp => ?_, tracked ⟨oL, hoL, I.free⟩ hs, by simpa using I.len⟩ ⟨_, hs, .inl rfl⟩
    · exact (hs.2 b (Nat.ne_of_lt (Nat.lt_of_lt_of_le (Heap.lt_size e) I.ok.above))).trans (I.base.keep b o e n hb hx)
    · obtain ⟨sl, e1⟩ := I.base.slot b o e n hb hx
      exact ⟨sl, (hs.2 b (Nat.ne_of_lt (Nat.lt_of_lt_of_le (Heap.lt_size e) I.ok.above))).trans e1⟩
    · obtain ⟨o', e1⟩ := I.base.there b o e hx
      exact ⟨o', (hs.2 b (Nat.ne_of_lt (Nat.lt_of_lt_of_le (Heap.lt_size e) I.ok.above))).trans e1⟩
    · by_cases hj : j = i
      · subst hj
        rw [hi] at e1; cases e1
        rw [List.getElem?_set_self hiσ] at e2
        cases e2
        exact ⟨u, r, .inl ⟨hk, by simp⟩⟩
      · rw [List.getElem?_set_ne (Ne.symm hj)] at e2
        obtain ⟨u', r', q⟩ := hl j y v' e1 e2 e3
        refine ⟨u', r', ?_⟩
        rcases q with ⟨k, e⟩ | ⟨k, c, e, z⟩
        · refine .inl ⟨k, ?_⟩
          have : y ≠ x := fun e => hj (nodup_ix hN e1 (e ▸ hi))
          simp [this, e]
        · exact .inr ⟨k, c, e, z.sameBut hs (cne y c e)⟩
    · obtain ⟨w', z⟩ := I.cell y c e
      exact ⟨w', z.sameBut hs (cne y c e)⟩
    · obtain ⟨e, n, ne, nf, d⟩ := I.pin p hp
      exact ⟨(hs.2 p.1 ne).trans e, n, ne, nf, d⟩
  · have hfn : X.fn x = true := by
      rcases hf with z | z
      · exact z
      · rw [z] at hk; cases hk
    obtain ⟨c, hc⟩ := I.ok.has x (.inl hk)
    obtain ⟨w', z⟩ := I.cell x c hc
    refine wpAny_storeName_cell I.ok.kind hk hc z (fun h' hc' hs => ?_)
    obtain ⟨oc, hoc, hocd⟩ := id z
    refine h { s with heap := h' } ⟨I.ok, I.os, I.bare, ⟨fun b o e n hb hx => ?_, fun b o e n hb hx => ?_, I.base.free, fun b o e hx => ?_, I.base.tups, I.base.frzs, I.base.tbls⟩, ⟨m, hn.sameBut hs (Ne.symm (cne x c hc)), fun j y v' e1 e2 e3 => ?_⟩, fun y c' e => ?_, I.free, I.freeC, fun p hp => ?_, tracked ⟨oc, hoc, I.freeC x c hc⟩ hs, by simpa using I.len⟩ ⟨c, hs, .inr hc⟩
    · exact (hs.2 b (Nat.ne_of_lt (Nat.lt_of_lt_of_le (Heap.lt_size e) (I.ok.cab x c hfn hc)))).trans (I.base.keep b o e n hb hx)
    · obtain ⟨sl, e1⟩ := I.base.slot b o e n hb hx
      exact ⟨sl, (hs.2 b (Nat.ne_of_lt (Nat.lt_of_lt_of_le (Heap.lt_size e) (I.ok.cab x c hfn hc)))).trans e1⟩
    · obtain ⟨o', e1⟩ := I.base.there b o e hx
      exact ⟨o', (hs.2 b (Nat.ne_of_lt (Nat.lt_of_lt_of_le (Heap.lt_size e) (I.ok.cab x c hfn hc)))).trans e1⟩
    · by_cases hj : j = i
      · subst hj
        rw [hi] at e1; cases e1
        rw [List.getElem?_set_self hiσ] at e2
        cases e2
        exact ⟨u, r, .inr ⟨.inl hk, c, hc, hc'⟩⟩
      · rw [List.getElem?_set_ne (Ne.symm hj)] at e2
        obtain ⟨u', r', q⟩ := hl j y v' e1 e2 e3
        refine ⟨u', r', ?_⟩
        rcases q with q | ⟨k, c', e, z'⟩
        · exact .inl q
        · refine .inr ⟨k, c', e, z'.sameBut hs ?_⟩
          rintro rfl
          exact hj (nodup_ix hN e1 (I.ok.inj _ _ _ e hc ▸ hi))
    · by_cases hcc : c' = c
      · subst hcc; exact ⟨_, hc'⟩
      · obtain ⟨w2, z2⟩ := I.cell y c' e
        exact ⟨w2, z2.sameBut hs hcc⟩
    · obtain ⟨e, n, ne, nf, d⟩ := I.pin p hp
      refine ⟨(hs.2 p.1 ?_).trans e, n, ne, nf, d⟩
      intro q
      rw [q, hoc] at e
      have q' : oc = p.2 := Option.some.inj e
      exact d w' (by rw [← q']; exact hocd)
theorem store_ok {M : Model} {A : Around} {E : Value → Shared → Prop} {i : Nat} {x : Str} {v : V} {u : Value} {Q : Unit → Shared → Prop} (I : Inv X pins σ H s) (hN : X.N.Nodup) (hi : X.N[i]? = some x) (hx : Loc X.env.scope x) (r : RelV v u)
    (h : ∀ s', Inv X pins (σ.set i (some v)) H s' → Q () s') (hf : X.fn x = true ∨ X.env.scope.names.lookup x = some .local := by first | exact .inl rfl | exact .inr rfl | assumption) : wpAny M A (storeName X.env x u) Q E s :=
  store_ok2 I hN hi hx r (fun s' I' _ => h s' I') hf
theorem Inv.call' {s' : Shared} {ch : List Addr} (I : Inv X pins σ H s) (ho : s'.os = s.os) (u : Un (frs X.stack) ch H H' s.heap s'.heap) (hok : HOk X.prog X.w H' s'.heap) (hg : AllBare s'.gens)
    (hch : ∀ b ∈ ch, (b ∈ X.ex ∨ X.s₀.heap.objs.size ≤ b) ∧ b ≠ X.env.locals ∧ (∀ x c, X.env.cells.lookup x = some c → c ≠ b) ∧ ∀ p ∈ X.pn ++ pins, p.1 ≠ b) : Inv X pins σ H' s' := by
  obtain ⟨h', g', d', t', o'⟩ := s'
  have e : o' = s.os := ho
  subst e
  exact I.call (g' := g') (t' := t') (d' := d') u hok hg hch
end
abbrev XK := Value → Option Addr → Hp → Prop
abbrev St := List (Option V)
abbrev VK := V → Hp → Prop
abbrev TE := St → Hp → VK → Prop
abbrev TT := St → Hp → (Bool → Hp → Prop) → Prop
abbrev TA := St → Hp → (List V → Hp → Prop) → Prop
structure Ends where
  nx : St → Hp → Prop
  rt : VK
  bk : St → Hp → Prop := fun _ _ => False
  ct : St → Hp → Prop := fun _ _ => False
abbrev TS := Ends → St → Hp → Prop
def EP (X : Cx) (pins : List (Addr × Obj)) (σ : St) (Q : VK) (u : Value) (s' : Shared) : Prop := ∃ v H', Inv X pins σ H' s' ∧ RelV v u ∧ Q v H'
def TP (X : Cx) (pins : List (Addr × Obj)) (σ : St) (Q : Bool → Hp → Prop) (b : Bool) (s' : Shared) : Prop := ∃ H', Inv X pins σ H' s' ∧ Q b H'
def AP (X : Cx) (pins : List (Addr × Obj)) (σ : St) (Q : List V → Hp → Prop) (us : List Value) (s' : Shared) : Prop := ∃ vs H', Inv X pins σ H' s' ∧ Vals vs us ∧ Q vs H'
def SP (X : Cx) (pins : List (Addr × Obj)) (D : Ends) (f : Flow) (s' : Shared) : Prop :=
  match f with
  | .next => ∃ σ' H', Inv X pins σ' H' s' ∧ D.nx σ' H'
  | .brk => ∃ σ' H', Inv X pins σ' H' s' ∧ D.bk σ' H'
  | .cont => ∃ σ' H', Inv X pins σ' H' s' ∧ D.ct σ' H'
  | .ret u => ∃ v σ' H', Inv X pins σ' H' s' ∧ RelV v u ∧ D.rt v H'
def PE (X : Cx) (e : Expr) (t : TE) : Prop :=
  ∀ (pins : List (Addr × Obj)) (s : Shared) (σ : St) (H : Hp) (Q : VK), Inv X pins σ H s → t σ H Q → wpAny (model X.prog X.w) X.A (eval e X.env) (EP X pins σ Q) X.xe s
def PT (X : Cx) (e : Expr) (t : TT) : Prop :=
  ∀ (pins : List (Addr × Obj)) (s : Shared) (σ : St) (H : Hp) (Q : Bool → Hp → Prop), Inv X pins σ H s → t σ H Q → wpAny (model X.prog X.w) X.A (isTrue e X.env (eval e X.env)) (TP X pins σ Q) X.xe s
def PW (X : Cx) (e : Expr) (t : TT) : Prop :=
  ∀ (whole : Sem Value) (pins : List (Addr × Obj)) (s : Shared) (σ : St) (H : Hp) (Q : Bool → Hp → Prop), Inv X pins σ H s → t σ H Q → wpAny (model X.prog X.w) X.A (isTrue e X.env whole) (TP X pins σ Q) X.xe s
theorem PW.pt {X : Cx} {e : Expr} {t : TT} (h : PW X e t) : PT X e t := h _
def PA (X : Cx) (es : List Expr) (t : TA) : Prop :=
  ∀ (pos : Pos) (pins : List (Addr × Obj)) (s : Shared) (σ : St) (H : Hp) (Q : List V → Hp → Prop), Inv X pins σ H s → t σ H Q → wpAny (model X.prog X.w) X.A (spliced (backTo pos (starEach es X.env))) (AP X pins σ Q) X.xe s
def PS (X : Cx) (st : Stmt) (t : TS) : Prop :=
  ∀ (pins : List (Addr × Obj)) (s : Shared) (σ : St) (H : Hp) (D : Ends), Inv X pins σ H s → t D σ H → wpAny (model X.prog X.w) X.A (exec st X.env) (SP X pins D) X.xe s
def PSs (X : Cx) (st : List Stmt) (t : TS) : Prop :=
  ∀ (pins : List (Addr × Obj)) (s : Shared) (σ : St) (H : Hp) (D : Ends), Inv X pins σ H s → t D σ H → wpAny (model X.prog X.w) X.A (execs st X.env) (SP X pins D) X.xe s
theorem thn {α : Type} {t : Sem α} {Q Q' : α → Shared → Prop} {M : Model} {A : Around} {E : Value → Shared → Prop} {s : Shared} (h : wpAny M A t Q E s) (hQ : ∀ a s, Q a s → Q' a s) : wpAny M A t Q' E s := wpAny_mono h hQ fun _ _ x => x
end L2
namespace L2
open PySem PySem.Spec PyProof.Rows
section
variable {X : Cx}
def tVar (i : Nat) : TE := fun σ H Q => ∃ v, σ[i]? = some (some v) ∧ Q v H
def tC (v : V) : TE := fun _ H Q => Q v H
theorem pe_var {i : Nat} {x : Str} {pos : Pos} (hN : X.N[i]? = some x) (hv : Vis X.env.scope x) (hd : (x == ("__debug__" : Str)) = false := by decide) (hcd : (x == ("__classdict__" : Str)) = false := by decide) : PE X (.Name x pos) (tVar i) := by
  intro pins s σ H Q I h
  obtain ⟨v, e, h⟩ := h
  obtain ⟨m, hn, hl⟩ := I.loc
  obtain ⟨u, r, l⟩ := hl i x v hN e hv
  have fin : EP X pins σ Q u s := ⟨v, H, I, r, h⟩
  rcases l with ⟨hk, hm⟩ | ⟨hk, c, hc, hcell⟩
  · exact wpAny_Name (wpAny_loadName_local I.ok.kind hk hn hm fin) hd
  · rcases hk with hk | hk
    · exact wpAny_Name (wpAny_loadName_cell I.ok.kind hk hc hcell fin) hd
    · exact wpAny_Name (wpAny_loadName_free I.ok.kind hk hc hcell fin hcd) hd
theorem pe_int {i j pos} : PE X (.Constant (.int i) j pos) (tC (.int i)) := fun _ _ _ H _ I h => wpAny_Constant_int ⟨.int i, H, I.tok _, ⟨_, rfl⟩, h⟩
theorem pe_bl {b j pos} : PE X (.Constant (.bool b) j pos) (tC (.bl b)) := fun _ _ _ H _ I h => Constant_bool ⟨.bl b, H, I, rfl, h⟩
theorem pe_non {j pos} : PE X (.Constant .none j pos) (tC .non) := fun _ _ _ H _ I h => Constant_none ⟨.non, H, I, rfl, h⟩
theorem pe_str {x j pos} : PE X (.Constant (.str x) j pos) (tC (.str x)) := fun _ _ _ H _ I h => Calls.Constant_str ⟨.str x, H, I.tok _, ⟨_, rfl⟩, h⟩
def Gl (X : Cx) (x : Str) : Prop := X.env.kindOf x = some .globalImplicit
theorem ld_glob {E : Value → Shared → Prop} {pins : List (Addr × Obj)} {s : Shared} {σ : St} {H : Hp} {x : Str} {u : Value} {pos : Pos} {Q : Value → Shared → Prop} (I : Inv X pins σ H s) (hg : Gl X x) (hm : X.mg x = some u) (h : Q u s)
    (hd : (x == ("__debug__" : Str)) = false := by decide) : wpAny (model X.prog X.w) X.A (eval (.Name x pos) X.env) Q E s :=
  Calls.Name_function_global I.ok.kind hg (Calls.loadGlobal_global (by rw [I.ok.glob]; exact I.mod.glob.keeps I.bk) hm h) hd
theorem ld_blt {E : Value → Shared → Prop} {pins : List (Addr × Obj)} {s : Shared} {σ : St} {H : Hp} {x : Str} {u : Value} {pos : Pos} {Q : Value → Shared → Prop} (I : Inv X pins σ H s) (hg : Gl X x) (hm : X.mg x = none) (hv : bootBuiltins x = some u) (h : Q u s)
    (hn : x ≠ "__name__" := by decide) (hd : (x == ("__debug__" : Str)) = false := by decide) : wpAny (model X.prog X.w) X.A (eval (.Name x pos) X.env) Q E s := by
  obtain ⟨mb, h1, h2⟩ := I.mod.blt
  exact Calls.Name_function_global I.ok.kind hg (Calls.loadGlobal_builtin (by rw [I.ok.glob]; exact I.mod.glob.keeps I.bk) hm (by rw [I.ok.blt]; exact h1.keeps I.bk) ((h2 x hn).trans hv) h) hd
theorem pe_glob {x : Str} {v : V} {u : Value} {pos : Pos} (hg : Gl X x) (hm : X.mg x = some u) (r : RelV v u) (hd : (x == ("__debug__" : Str)) = false := by decide) : PE X (.Name x pos) (tC v) :=
  fun _ _ _ H _ I h => ld_glob I hg hm ⟨v, H, I, r, h⟩ hd
theorem pe_bltn {x : Str} {v : V} {u : Value} {pos : Pos} (hg : Gl X x) (hm : X.mg x = none) (hv : bootBuiltins x = some u) (r : RelV v u) (hn : x ≠ "__name__" := by decide) (hd : (x == ("__debug__" : Str)) = false := by decide) : PE X (.Name x pos) (tC v) :=
  fun _ _ _ H _ I h => ld_blt I hg hm hv ⟨v, H, I, r, h⟩ hn hd
variable {a b : Expr} {ta tb : TE} {pos : Pos}
def tB (t : TE) : TT := fun σ H Q => t σ H fun x H1 => ∃ c, x = .bl c ∧ Q c H1
theorem pt_val {e : Expr} {t : TE} (h : PE X e t) (he : ∀ whole, isTrue e X.env whole = (do let v ← whole; standAt e.pos; holding [v] (truthy v)) := by intro _; rfl) : PT X e (tB t) := by
  intro pins s σ H Q I hw
  refine isTrue_plain (thn (h pins s σ H _ I hw) fun v s1 ⟨x, H1, I1, r1, q1⟩ => ?_) (he _)
  obtain ⟨d, rfl, q⟩ := q1
  cases r1
  exact wpAny_truthy_bool ⟨H1, I1, q⟩
variable {tA tB' : TT} {rest : List Expr}
def tAnd (t u : TT) : TT := fun σ H Q => t σ H fun c H1 => if c = true then u σ H1 Q else Q false H1
def tOr (t u : TT) : TT := fun σ H Q => t σ H fun c H1 => if c = true then Q true H1 else u σ H1 Q
def tNot (t : TT) : TT := fun σ H Q => t σ H fun c H1 => Q (!c) H1
theorem pw_and1 (ha : PT X a tA) : PW X (.BoolOp .And [a] pos) tA := by
  intro wh pins s σ H Q I h
  refine isTrue_and (thn (ha pins s σ H Q I h) fun c s1 e => ?_)
  cases c with
  | true => exact isTrue_and_nil e
  | false => exact e
theorem pw_or1 (ha : PT X a tA) : PW X (.BoolOp .Or [a] pos) tA := by
  intro wh pins s σ H Q I h
  refine isTrue_or (thn (ha pins s σ H Q I h) fun c s1 e => ?_)
  cases c with
  | false => exact isTrue_or_nil e
  | true => exact e
theorem pw_and (ha : PT X a tA) (hb : PW X (.BoolOp .And (b :: rest) pos) tB') : PW X (.BoolOp .And (a :: b :: rest) pos) (tAnd tA tB') := by
  intro wh pins s σ H Q I h
  refine isTrue_and (thn (ha pins s σ H _ I h) fun c s1 ⟨H1, I1, q1⟩ => ?_)
  cases c with
  | true => exact hb wh pins s1 σ H1 Q I1 q1
  | false => exact ⟨H1, I1, q1⟩
theorem pw_or (ha : PT X a tA) (hb : PW X (.BoolOp .Or (b :: rest) pos) tB') : PW X (.BoolOp .Or (a :: b :: rest) pos) (tOr tA tB') := by
  intro wh pins s σ H Q I h
  refine isTrue_or (thn (ha pins s σ H _ I h) fun c s1 ⟨H1, I1, q1⟩ => ?_)
  cases c with
  | true => exact ⟨H1, I1, q1⟩
  | false => exact hb wh pins s1 σ H1 Q I1 q1
theorem pt_not (ha : PT X a tA) : PT X (.UnaryOp .Not a pos) (tNot tA) := by
  intro pins s σ H Q I h
  exact isTrue_not (ha pins s σ H (fun c H1 => Q (!c) H1) I h)
def tAndV (ta tb : TE) : TE := fun σ H Q => ta σ H fun x H1 => ∃ c, x = .bl c ∧ if c = true then tb σ H1 Q else Q (.bl false) H1
def tOrV (ta tb : TE) : TE := fun σ H Q => ta σ H fun x H1 => ∃ c, x = .bl c ∧ if c = true then Q (.bl true) H1 else tb σ H1 Q
def tNotV (ta : TE) : TE := fun σ H Q => ta σ H fun x H1 => ∃ c, x = .bl c ∧ Q (.bl (!c)) H1
def tIf (t : TT) (ta tb : TE) : TE := fun σ H Q => t σ H fun c H1 => if c = true then ta σ H1 Q else tb σ H1 Q
theorem pe_ifExp {c : Expr} (hc : PT X c tA) (ha : PE X a ta) (hb : PE X b tb) : PE X (.IfExp c a b pos) (tIf tA ta tb) := by
  intro pins s σ H Q I h
  refine wpAny_IfExp (thn (hc pins s σ H _ I h) fun d s1 ⟨H1, I1, q1⟩ => ?_)
  cases d with
  | true => exact ha pins s1 σ H1 Q I1 q1
  | false => exact hb pins s1 σ H1 Q I1 q1
end
end L2
namespace L2
open PySem PySem.Spec PyProof.Rows
def SqL (K : PySem.W.Frag) (H : Hp) (a : Addr) (xs : List V) : Prop :=
  Rd H a (.lst xs) ∨
    ∃ (o : Obj) (its : Array Value) (n : Nat), K.lookup a = some o ∧ o.cls = .type "list" ∧ o.dict = none ∧ o.data = .seq its n ∧ its.size ≤ sizeLine ∧ Vals xs its.toList
def SqT (K : PySem.W.Frag) (H : Hp) (a : Addr) (xs : List V) : Prop :=
  Rd H a (.tup xs) ∨
    ∃ (o : Obj) (its : Array Value) (n : Nat), K.lookup a = some o ∧ o.cls = .type "tuple" ∧ o.data = .seq its n ∧ its.size ≤ sizeLine ∧ Vals xs its.toList
def absV : Value → Option V
  | .none => some .non
  | .bool b => some (.bl b)
  | .int i _ => some (.int i)
  | .str x _ => some (.str x)
  | .bytes b _ => some (.byt b)
  | .float b _ => some (.flt b)
  | .ref a => some (.ref a)
  | .type n => some (.ty n)
  | _ => none
theorem RelV.abs {x : V} {u : Value} (r : RelV x u) : absV u = some x := by
  cases x with
  | non => cases r; rfl
  | bl _ => cases r; rfl
  | int _ => obtain ⟨t, rfl⟩ := r; rfl
  | str _ => obtain ⟨t, rfl⟩ := r; rfl
  | byt _ => obtain ⟨t, rfl⟩ := r; rfl
  | flt _ => obtain ⟨t, rfl⟩ := r; rfl
  | ref _ => cases r; rfl
  | ty _ => cases r; rfl
theorem RelV.inj {x y : V} {u : Value} (r : RelV x u) (q : RelV y u) : x = y := Option.some.inj (r.abs.symm.trans q.abs)
theorem Vals.inj : ∀ {xs ys : List V} {us : List Value}, Vals xs us → Vals ys us → xs = ys
  | _, _, _, .nil, .nil => rfl
  | _, _, _, .cons r t, .cons r' t' => by rw [r.inj r', Vals.inj t t']
section
variable {X : Cx} {pins : List (Addr × Obj)} {σ : St} {H : Hp} {s : Shared} {a : Addr} {xs ys : List V}
theorem SqL.of {K : PySem.W.Frag} (h : H a = some (.lst xs)) : SqL K H a xs := .inl (.inl h)
theorem SqT.of {K : PySem.W.Frag} (h : H a = some (.tup xs)) : SqT K H a xs := .inl (.inl h)
theorem Inv.list (I : Inv X pins σ H s) (h : SqL X.K H a xs) : ∃ its : List Value, Vals xs its ∧ PlainL s.heap a its.toArray ∧ xs.length ≤ sizeLine := by
  rcases h with h | ⟨o, its, n, hk, hc, hd, hs, hz, r⟩
  · obtain ⟨z, its, n, r, e⟩ := h.ok I.hok
    exact ⟨its, r, ⟨_, n, e, rfl, rfl, rfl⟩, z⟩
  · refine ⟨its.toList, r, ⟨o, n, I.kIn a o hk, hc, hd, by simpa using hs⟩, ?_⟩
    have e := r.length
    simp only [Array.length_toList] at e
    omega
theorem Inv.tuple (I : Inv X pins σ H s) (h : SqT X.K H a xs) : ∃ its : List Value, Vals xs its ∧ IsTup s.heap a its.toArray ∧ xs.length ≤ sizeLine := by
  rcases h with h | ⟨o, its, n, hk, hc, hs, hz, r⟩
  · obtain ⟨z, its, r, p⟩ := h.ok I.hok
    exact ⟨its, r, p, z⟩
  · refine ⟨its.toList, r, ⟨o, I.kIn a o hk, hc, n, by simpa using hs⟩, ?_⟩
    have e := r.length
    simp only [Array.length_toList] at e
    omega
theorem Inv.list_inj (I : Inv X pins σ H s) (h : SqL X.K H a xs) (h' : SqL X.K H a ys) : xs = ys := by
  obtain ⟨its, r, ⟨o, n, e, _, _, d⟩, _⟩ := I.list h
  obtain ⟨its', r', ⟨o', n', e', _, _, d'⟩, _⟩ := I.list h'
  rw [e] at e'; cases e'
  rw [d] at d'
  injection d' with d1 _
  have : its = its' := by simpa using congrArg Array.toList d1
  subst this
  exact r.inj r'
theorem Inv.tuple_inj (I : Inv X pins σ H s) (h : SqT X.K H a xs) (h' : SqT X.K H a ys) : xs = ys := by
  obtain ⟨its, r, ⟨o, e, _, n, d⟩, _⟩ := I.tuple h
  obtain ⟨its', r', ⟨o', e', _, n', d'⟩, _⟩ := I.tuple h'
  rw [e] at e'; cases e'
  rw [d] at d'
  injection d' with d1 _
  have : its = its' := by simpa using congrArg Array.toList d1
  subst this
  exact r.inj r'
end
abbrev Cx.wish (X : Cx) (E : Value → Shared → Prop) : Cx := { X with xe := E }
abbrev Cx.nox (X : Cx) : Cx := X.wish fun _ _ => False
theorem Cx.Ok.wish {X : Cx} (ok : X.Ok) (E : Value → Shared → Prop) : (X.wish E).Ok :=
  ⟨ok.mod, ok.kind, ok.glob, ok.blt, ok.above, ok.inj, ok.has, ok.cab, ok.hd, ok.frames, ok.stk, ok.exf, ok.bs, ok.bsz, ok.noex, ok.exfs, ok.funs, ok.frf⟩
theorem Cx.Ok.unwish {X : Cx} {E : Value → Shared → Prop} (ok : (X.wish E).Ok) : X.Ok :=
  ⟨ok.mod, ok.kind, ok.glob, ok.blt, ok.above, ok.inj, ok.has, ok.cab, ok.hd, ok.frames, ok.stk, ok.exf, ok.bs, ok.bsz, ok.noex, ok.exfs, ok.funs, ok.frf⟩
section
variable {X : Cx} {pins : List (Addr × Obj)} {σ : St} {H : Hp} {s : Shared} {E : Value → Shared → Prop}
theorem Inv.wish (I : Inv X pins σ H s) (E : Value → Shared → Prop) : Inv (X.wish E) pins σ H s := ⟨I.ok.wish E, I.os, I.bare, I.base, I.loc, I.cell, I.free, I.freeC, I.pin, I.hok, I.len⟩
theorem Inv.unwish (I : Inv (X.wish E) pins σ H s) : Inv X pins σ H s := ⟨I.ok.unwish, I.os, I.bare, I.base, I.loc, I.cell, I.free, I.freeC, I.pin, I.hok, I.len⟩
theorem SP.unwish {D : Ends} {f : Flow} {s' : Shared} (h : SP (X.wish E) pins D f s') : SP X pins D f s' := by
  cases f with
  | next => obtain ⟨σ', H', I, q⟩ := h; exact ⟨σ', H', I.unwish, q⟩
  | brk => obtain ⟨σ', H', I, q⟩ := h; exact ⟨σ', H', I.unwish, q⟩
  | cont => obtain ⟨σ', H', I, q⟩ := h; exact ⟨σ', H', I.unwish, q⟩
  | ret u => obtain ⟨v, σ', H', I, r, q⟩ := h; exact ⟨v, σ', H', I.unwish, r, q⟩
theorem PSs.nox {st : List Stmt} {t : TS} (h : PSs X.nox st t) : PSs X st t := fun pins s σ H D I hw =>
  wpAny_mono (h pins s σ H D (I.wish _) hw) (fun _ _ q => q.unwish) fun _ _ z => False.elim z
end
section
variable {X : Cx} {st : Stmt} {rest : List Stmt} {t u : TS} {e : Expr} {te : TE} {pos : Pos}
def tNext : TS := fun D σ H => D.nx σ H
def tSeq (t u : TS) : TS := fun D σ H => t { D with nx := u D } σ H
theorem pss_nil : PSs X [] tNext := fun _ _ σ H _ I h => wpAny_execs_nil ⟨σ, H, I, h⟩
theorem pss_cons (h1 : PS X st t) (h2 : PSs X rest u) : PSs X (st :: rest) (tSeq t u) := by
  intro pins s σ H D I h
  refine wpAny_execs_cons (thn (h1 pins s σ H { D with nx := u D } I h) fun f s1 q => ?_)
  cases f with
  | next =>
    obtain ⟨σ', H', I', q⟩ := q
    exact h2 pins s1 σ' H' D I' q
  | ret v => exact q
  | brk => exact q
  | cont => exact q
theorem pss_one (h1 : PS X st t) : PSs X [st] t := by
  intro pins s σ H D I h
  refine wpAny_execs_cons (thn (h1 pins s σ H D I h) fun f s1 q => ?_)
  cases f with
  | next => exact wpAny_execs_nil q
  | ret v => exact q
  | brk => exact q
  | cont => exact q
theorem Inv.quiet {pins : List (Addr × Obj)} {σ : St} {H : Hp} {s : Shared} (I : Inv X pins σ H s) : interactive X.env = false := by simp [interactive, I.ok.kind]
def tDrop (te : TE) : TS := fun D σ H => te σ H fun _ H1 => D.nx σ H1
theorem ps_expr (he : PE X e te) (hs : swapsWith e none pos.line X.env = pure false := by rfl) : PS X (.Expr e pos) (tDrop te) := by
  intro pins s σ H D I h
  exact wpAny_Expr_any (thn (he pins s σ H _ I h) fun v s1 ⟨x, H1, I1, r1, q1⟩ => ⟨σ, H1, I1, q1⟩) I.quiet hs
def tRet (te : TE) : TS := fun D σ H => te σ H D.rt
theorem ps_ret (he : PE X e te) : PS X (.Return (some e) pos) (tRet te) := by
  intro pins s σ H D I h
  exact wpAny_Return_some (thn (he pins s σ H _ I h) fun v s1 ⟨x, H1, I1, r1, q1⟩ => ⟨x, σ, H1, I1, r1, q1⟩)
def tIfS (c : TT) (t u : TS) : TS := fun D σ H => c σ H fun b H1 => if b = true then t D σ H1 else u D σ H1
theorem ps_if {c : Expr} {a b : List Stmt} {tc : TT} (hc : PT X c tc) (ha : PSs X a t) (hb : PSs X b u) : PS X (.If c a b pos) (tIfS tc t u) := by
  intro pins s σ H D I h
  refine wpAny_If (thn (hc pins s σ H _ I h) fun d s1 ⟨H1, I1, q1⟩ => ?_)
  cases d with
  | true => exact ha pins s1 σ H1 D I1 q1
  | false => exact hb pins s1 σ H1 D I1 q1
def tNever : TS := fun _ _ _ => False
theorem ps_never : PS X st tNever := fun _ _ _ _ _ _ h => h.elim
end
abbrev TG := V → St → Hp → (St → Hp → Prop) → Prop
abbrev TGs := List V → St → Hp → (St → Hp → Prop) → Prop
def PG (X : Cx) (target : Expr) (t : TG) : Prop :=
  ∀ (pins : List (Addr × Obj)) (s : Shared) (σ : St) (H : Hp) (v : V) (u : Value) (Q : St → Hp → Prop), Inv X pins σ H s → RelV v u → t v σ H Q →
    wpAny (model X.prog X.w) X.A (assign target X.env u) (fun _ s' => ∃ σ' H', Inv X pins σ' H' s' ∧ Q σ' H') X.xe s
def PGs (X : Cx) (ts : List Expr) (t : TGs) : Prop :=
  ∀ (pins : List (Addr × Obj)) (s : Shared) (σ : St) (H : Hp) (vs : List V) (us : List Value) (Q : St → Hp → Prop), Inv X pins σ H s → Vals vs us → t vs σ H Q →
    wpAny (model X.prog X.w) X.A (assignInOrder ((assignEach ts X.env).map (·.2)) us) (fun _ s' => ∃ σ' H', Inv X pins σ' H' s' ∧ Q σ' H') X.xe s
abbrev TSet := V → V → V → Hp → (Hp → Prop) → Prop
def PSet (X : Cx) (t : TSet) : Prop :=
  ∀ (pins : List (Addr × Obj)) (s : Shared) (σ : St) (H : Hp) (o i v : V) (ov iv u : Value) (Q : Hp → Prop), Inv X pins σ H s → RelV o ov → RelV i iv → RelV v u → t o i v H Q →
    wpAny (model X.prog X.w) X.A (setItem ov iv u) (fun _ s' => ∃ H', Inv X pins σ H' s' ∧ Q H') X.xe s
section
variable {X : Cx} {pos : Pos}
def gName (i : Nat) : TG := fun v σ H Q => Q (σ.set i (some v)) H
theorem pg_name {i : Nat} {x : Str} (hN : X.N.Nodup) (hi : X.N[i]? = some x) (hx : Loc X.env.scope x) (hf : X.fn x = true ∨ X.env.scope.names.lookup x = some .local := by first | exact .inl rfl | exact .inr rfl | assumption) : PG X (.Name x pos) (gName i) := by
  intro pins s σ H v u Q I r h
  exact wpAny_assign_Name (store_ok I hN hi hx r (fun s' I' => ⟨_, H, I', h⟩) hf)
def gNil : TGs := fun vs σ H Q => vs = [] ∧ Q σ H
def gCons (t : TG) (u : TGs) : TGs := fun vs σ H Q => ∃ v r, vs = v :: r ∧ t v σ H fun σ' H' => u r σ' H' Q
theorem pgs_nil : PGs X [] gNil := by
  intro pins s σ H vs us Q I r h
  obtain ⟨e, h⟩ := h
  subst e
  cases r
  exact assignInOrder_nil ⟨σ, H, I, h⟩
theorem pgs_cons {e : Expr} {es : List Expr} {t : TG} {u : TGs} (h1 : PG X e t) (h2 : PGs X es u)
    (hs : (assignEach (e :: es) X.env).map (·.2) = assign e X.env :: (assignEach es X.env).map (·.2) := by rfl) : PGs X (e :: es) (gCons t u) := by
  intro pins s σ H vs us Q I r h
  obtain ⟨v, vr, e1, h⟩ := h
  subst e1
  cases r with
  | cons r rr =>
    rw [hs]
    refine assignInOrder_cons (thn (h1 pins s σ H _ _ _ I r h) fun _ s1 ⟨σ1, H1, I1, q1⟩ => ?_)
    exact h2 pins s1 σ1 H1 _ _ Q I1 rr q1
def gTup (K : PySem.W.Frag) (n : Nat) (t : TGs) : TG := fun v σ H Q => ∃ a xs, v = .ref a ∧ SqT K H a xs ∧ xs.length = n ∧ t xs σ H Q
def gSub (to ti : TE) (t : TSet) : TG := fun v σ H Q => to σ H fun o H1 => ti σ H1 fun i H2 => t o i v H2 fun H3 => Q σ H3
theorem pg_sub {o i : Expr} {to ti : TE} {t : TSet} (ho : PE X o to) (hi : PE X i ti) (hs : PSet X t)
    (ha : ∀ v, assign (.Subscript o i pos) X.env v = (do
      let ov ← holding [v] (eval o X.env)
      let iv ← holding [v, ov] (eval i X.env)
      standAt pos
      holding [v, ov, iv] (setItem ov iv v)
      release [v, ov, iv] []) := by intro _; rfl) : PG X (.Subscript o i pos) (gSub to ti t) := by
  intro pins s σ H v u Q I r h
  rw [ha]
  refine wpAny_bind (wpAny_holding (thn (ho pins s σ H _ I h) fun ov s1 ⟨x, H1, I1, r1, q1⟩ => ?_))
  refine wpAny_bind (wpAny_holding (thn (hi pins s1 σ H1 _ I1 q1) fun iv s2 ⟨y, H2, I2, r2, q2⟩ => ?_))
  refine wpAny_bind (wpAny_standAt (wpAny_bind (wpAny_holding (thn (hs pins s2 σ H2 x y v ov iv u _ I2 r1 r2 r q2) fun _ s3 ⟨H3, I3, q3⟩ => ?_))))
  exact wpAny_release ⟨σ, H3, I3, q3⟩
def tAsg (te : TE) (g : TG) : TS := fun D σ H => te σ H fun x H1 => g x σ H1 D.nx
theorem ps_asg {tg e : Expr} {te : TE} {g : TG} (he : PE X e te) (hg : PG X tg g) (hs : swapsWithSole [tg] e pos.line X.env = pure false := by rfl) (hw : swappedStores [tg] e X.env = pure none := by rfl)
    (h1 : (assignEach [tg] X.env).map (·.2) = [assign tg X.env] := by rfl) : PS X (.Assign [tg] e pos) (tAsg te g) := by
  intro pins s σ H D I h
  refine wpAny_Assign_stores (thn (he pins s σ H _ I h) fun v s1 ⟨x, H1, I1, r1, q1⟩ => ?_) hs hw
  rw [h1]
  exact thn (hg pins s1 σ H1 x v _ I1 r1 q1) fun _ s2 q => q
theorem ps_set {i : Nat} {x : Str} {e : Expr} {te : TE} {pos' : Pos} (hN : X.N.Nodup) (hi : X.N[i]? = some x) (hx : Loc X.env.scope x) (he : PE X e te) (hs : swapsWith e (some (.Name x pos')) pos.line X.env = pure false := by rfl) (hf : X.fn x = true ∨ X.env.scope.names.lookup x = some .local := by first | exact .inl rfl | exact .inr rfl | assumption) :
    PS X (.Assign [.Name x pos'] e pos) (tAsg te (gName i)) := by
  intro pins s σ H D I h
  refine wpAny_Assign_Name (thn (he pins s σ H _ I h) fun v s1 ⟨y, H1, I1, r1, q1⟩ => ?_) hs
  exact store_ok I1 hN hi hx r1 (fun s2 I2 => ⟨_, H1, I2, q1⟩) hf
end
section
variable {X : Cx} {pos : Pos}
def tWhile (c : TT) (tb : TS) : TS := fun D σ H => ∃ W : Nat → St → Hp → Prop, (∃ m, W m σ H) ∧ ∀ m σ H, W m σ H →
  c σ H fun b H1 => if b = true then ∃ N : St → Hp → Prop, (∀ σ' H', N σ' H' → ∃ m', m' < m ∧ W m' σ' H') ∧ tb { D with nx := N, ct := N, bk := D.nx } σ H1 else D.nx σ H1
theorem ps_while {c : Expr} {body : List Stmt} {tc : TT} {tb : TS} (hp : PassesOwn (model X.prog X.w) X.A X.env X.xe) (hc : PT X c tc) (hb : PSs X body tb) : PS X (.While c body [] pos) (tWhile tc tb) := by
  intro pins s σ H D I h
  obtain ⟨W, ⟨m0, w0⟩, turn⟩ := h
  refine wpAny_While (codeAny_whileLoop (fun n s' => ∃ σ' H', Inv X pins σ' H' s' ∧ W n σ' H') ?_ m0 ⟨σ, H, I, w0⟩)
  rintro n s1 ⟨σ1, H1, I1, w1⟩
  refine wpAny_passesOwn hp (thn (hc pins s1 σ1 H1 _ I1 (turn n σ1 H1 w1)) fun b s2 ⟨H2, I2, q2⟩ => ?_)
  cases b with
  | true =>
    obtain ⟨N, hN, q2⟩ := q2
    rw [if_pos rfl]
    refine wpAny_passesOwn hp (thn (hb pins s2 σ1 H2 _ I2 q2) fun f s3 q3 => ?_)
    cases f with
    | next =>
      obtain ⟨σ3, H3, I3, n3⟩ := q3
      obtain ⟨m', hm, w3⟩ := hN σ3 H3 n3
      exact ⟨m', hm, σ3, H3, I3, w3⟩
    | cont =>
      obtain ⟨σ3, H3, I3, n3⟩ := q3
      obtain ⟨m', hm, w3⟩ := hN σ3 H3 n3
      exact ⟨m', hm, σ3, H3, I3, w3⟩
    | brk => exact q3
    | ret v => exact q3
  | false =>
    rw [if_neg Bool.false_ne_true]
    exact wpAny_execs_nil ⟨σ1, H2, I2, q2⟩
end
structure It where
  go : Nat → Hp → Prop
  yld : Nat → Hp → V → Hp → Prop
  stop : Nat → Hp → Prop
def FpOk (X : Cx) (pins : List (Addr × Obj)) (H : Hp) (b : Addr) : Prop :=
  H b = none ∧ b ≠ X.env.locals ∧ b ∉ X.fs ∧ (b ∈ X.ex ∨ X.s₀.heap.objs.size ≤ b) ∧ (∀ x c, X.env.cells.lookup x = some c → c ≠ b) ∧ ∀ p ∈ X.pn ++ pins, p.1 ≠ b
theorem Inv.fpOk {X : Cx} {pins : List (Addr × Obj)} {σ : St} {H H' : Hp} {s : Shared} {b : Addr} (I : Inv X pins σ H s) (hb : s.heap.objs.size ≤ b) (hn : H' b = none) : FpOk X pins H' b := by
  refine ⟨hn, Nat.ne_of_gt (Nat.lt_of_lt_of_le I.lt hb), I.nofs hb, .inr (Nat.le_trans I.sz hb), fun x c e z => ?_, fun p hp z => ?_⟩
  · obtain ⟨v, q⟩ := I.cell x c e
    exact absurd (Nat.lt_of_lt_of_le q.lt (by rw [z]; exact hb)) (Nat.lt_irrefl _)
  · exact absurd (Nat.lt_of_lt_of_le (Heap.lt_size (I.pin p hp).1) (by rw [z]; exact hb)) (Nat.lt_irrefl _)
structure Turn (P : Program) (w : World) (K : PySem.W.Frag) (tg : Expr) (J : It) (fp : List Addr) (it : Addr) (tn : Nat → Heap → Prop) : Prop where
  mem : it ∈ fp
  obj : ∀ i h, tn i h → ∀ b ∈ fp, ∃ o, h.get? b = some o ∧ ∀ v, o.data ≠ .cell v
  keep : ∀ i h h', tn i h → (∀ b ∈ fp, ∀ o, h.get? b = some o → h'.get? b = some o) → tn i h'
  item : ∀ (X : Cx), X.prog = P → X.w = w → X.K = K → X.calm = true → ∀ (i : Nat) (pins : List (Addr × Obj)) (s : Shared) (σ : St) (H : Hp) (E : Value → Shared → Prop), Inv X pins σ H s → (∀ b ∈ fp, FpOk X pins H b) → tn i s.heap → J.go i H →
    wpAny (model P w) X.A (pyNext (.ref it)) (fun r s1 => ∃ u, r = some u ∧
      wpAny (model P w) X.A (letOwnedTupleGo tg (.ref it) u) (fun _ s2 => ∃ x H', Inv X pins σ H' s2 ∧ RelV x u ∧ J.yld i H x H' ∧ tn (i + 1) s2.heap ∧ ∀ b ∈ fp, H' b = none) E s1) E s
  done : ∀ (X : Cx), X.prog = P → X.w = w → X.K = K → X.calm = true → ∀ (i : Nat) (pins : List (Addr × Obj)) (s : Shared) (σ : St) (H : Hp) (E : Value → Shared → Prop), Inv X pins σ H s → (∀ b ∈ fp, FpOk X pins H b) → tn i s.heap → J.stop i H →
    wpAny (model P w) X.A (pyNext (.ref it)) (fun r s1 => r = none ∧ Inv X pins σ H s1) E s
  self : ∀ (A : Around) (i : Nat) (s : Shared) (Q : Value → Shared → Prop) (E : Value → Shared → Prop), tn i s.heap → Q (.ref it) s → wpAny (model P w) A (pyIter (.ref it)) Q E s
abbrev TI := St → Hp → (It → Hp → Prop) → Prop
def PIE (X : Cx) (pins : List (Addr × Obj)) (σ : St) (tg : Expr) (R : It → Hp → Prop) (itv : Value) (s2 : Shared) : Prop :=
  ∃ (it : Addr) (fp : List Addr) (tn : Nat → Heap → Prop) (J : It) (H' : Hp), itv = .ref it ∧ Inv X pins σ H' s2 ∧ Turn X.prog X.w X.K tg J fp it tn ∧ tn 0 s2.heap ∧ (∀ b ∈ fp, FpOk X pins H' b) ∧ R J H'
def PI (X : Cx) (tg iter : Expr) (wi : TI) : Prop :=
  ∀ (pins : List (Addr × Obj)) (s : Shared) (σ : St) (H : Hp) (R : It → Hp → Prop), Inv X pins σ H s → wi σ H R →
    wpAny (model X.prog X.w) X.A (eval iter X.env) (fun v s1 => wpAny (model X.prog X.w) X.A (pyIter v) (PIE X pins σ tg R) X.xe s1) X.xe s
theorem go_of {M : Model} {A : Around} {E : Value → Shared → Prop} {s : Shared} {tg : Expr} {it : Addr} {u : Value} {o : Obj} {n : String} {vs : Array Value} {Q : Unit → Shared → Prop} (ho : s.heap.get? it = some o) (hc : o.cls = .type n) (hd : o.data = .fields vs)
    (hn : ["enumerate", "zip", "dict_itemiterator", "dict_reverseitemiterator", "odict_iterator", "itertools.zip_longest", "itertools.pairwise"].contains n = false) (hQ : Q () s) : wpAny M A (letOwnedTupleGo tg (.ref it) u) Q E s := by
  unfold letOwnedTupleGo
  cases tg <;> first
    | exact wpAny_pure hQ
    | (cases u <;> first
        | exact wpAny_pure hQ
        | (refine wpAny_bind (wpAny_load ho ?_)
           rw [hc, hd]
           show wpAny M A (if (["enumerate", "zip", "dict_itemiterator", "dict_reverseitemiterator", "odict_iterator", "itertools.zip_longest", "itertools.pairwise"].contains n && vs[0]? == some (rawInt _)) = true then _ else _) Q E s
           rw [if_neg (by intro h; rw [hn, Bool.false_and] at h; cases h)]
           exact wpAny_pure hQ))
def Itl (K : PySem.W.Frag) (a : Addr) : It :=
  ⟨fun i H => ∃ xs x, SqL K H a xs ∧ xs[i]? = some x, fun i H x H' => H' = H ∧ ∀ xs, SqL K H a xs → xs[i]? = some x, fun i H => ∃ xs, SqL K H a xs ∧ xs.length ≤ i⟩
def Itt (K : PySem.W.Frag) (a : Addr) : It :=
  ⟨fun i H => ∃ xs x, SqT K H a xs ∧ xs[i]? = some x, fun i H x H' => H' = H ∧ ∀ xs, SqT K H a xs → xs[i]? = some x, fun i H => ∃ xs, SqT K H a xs ∧ xs.length ≤ i⟩
def Itr (lo : Int) (n : Nat) : It := ⟨fun i _ => i < n, fun i H x H' => H' = H ∧ x = .int (lo + i), fun i _ => n ≤ i⟩
theorem turn_list {P : Program} {w : World} {K : PySem.W.Frag} {tg : Expr} (a it : Addr) : Turn P w K tg (Itl K a) [it] it (fun i h => h.IsListIter it a i) where
  mem := by simp
  obj := fun i h st b hb => by
    have e : b = it := by simpa using hb
    subst e
    obtain ⟨o, e, c, d⟩ := st
    exact ⟨o, e, fun v z => by rw [d] at z; cases z⟩
  keep := fun i h h' st k => st.at fun o e => k it (by simp) o e
  item := by
    intro X hP hw hK hc i pins s σ H E I hf st hg
    subst hP hw hK
    obtain ⟨xs, x, hq, hx⟩ := hg
    obtain ⟨its, rv, p, hz⟩ := I.list hq
    obtain ⟨u, hu, ru⟩ := rv.get hx
    obtain ⟨f0, f1, f2, f3, f4, f5⟩ := hf it (by simp)
    refine wpAny_pyNext_list_item st p.isList (x := u) (by simpa using hu) fun h' st' sb => ?_
    have I1 : Inv X pins σ H { s with heap := h' } := I.turned (t' := s.toks) (fun b o hb e => (sb.2 b hb).trans e) f0 f1 f3 f4 f5
    obtain ⟨o, e, c, d⟩ := id st'
    exact ⟨u, rfl, go_of (s := { s with heap := h' }) e c d (by decide) ⟨x, H, I1, ru, ⟨rfl, fun ys hy => by rw [I.list_inj hy hq]; exact hx⟩, st', fun b hb => (hf b hb).1⟩⟩
  done := by
    intro X hP hw hK hc i pins s σ H E I hf st hg
    subst hP hw hK
    obtain ⟨xs, hq, hx⟩ := hg
    obtain ⟨its, rv, p, hz⟩ := I.list hq
    obtain ⟨f0, f1, f2, f3, f4, f5⟩ := hf it (by simp)
    have hl := rv.length
    exact wpAny_pyNext_list_end (I.ok.hd hc) st p.isList (by simp; omega) fun h' eb => ⟨rfl, I.turned (t' := s.toks) (fun b o hb e => eb b o hb e) f0 f1 f3 f4 f5⟩
  self := fun _ _ _ _ _ st h => wpAny_pyIter_listiter st h
theorem turn_tuple {P : Program} {w : World} {K : PySem.W.Frag} {tg : Expr} (a it : Addr) : Turn P w K tg (Itt K a) [it] it (fun i h => h.IsTupleIter it a i) where
  mem := by simp
  obj := fun i h st b hb => by
    have e : b = it := by simpa using hb
    subst e
    obtain ⟨o, e, c, d⟩ := st
    exact ⟨o, e, fun v z => by rw [d] at z; cases z⟩
  keep := fun i h h' st k => st.at fun o e => k it (by simp) o e
  item := by
    intro X hP hw hK hc i pins s σ H E I hf st hg
    subst hP hw hK
    obtain ⟨xs, x, hq, hx⟩ := hg
    obtain ⟨its, rv, p, hz⟩ := I.tuple hq
    obtain ⟨u, hu, ru⟩ := rv.get hx
    obtain ⟨f0, f1, f2, f3, f4, f5⟩ := hf it (by simp)
    refine wpAny_pyNext_tuple_item st (show s.heap.IsTuple a its.toArray from p) (x := u) (by simpa using hu) fun h' st' sb => ?_
    have I1 : Inv X pins σ H { s with heap := h' } := I.turned (t' := s.toks) (fun b o hb e => (sb.2 b hb).trans e) f0 f1 f3 f4 f5
    obtain ⟨o, e, c, d⟩ := id st'
    exact ⟨u, rfl, go_of (s := { s with heap := h' }) e c d (by decide) ⟨x, H, I1, ru, ⟨rfl, fun ys hy => by rw [I.tuple_inj hy hq]; exact hx⟩, st', fun b hb => (hf b hb).1⟩⟩
  done := by
    intro X hP hw hK hc i pins s σ H E I hf st hg
    subst hP hw hK
    obtain ⟨xs, hq, hx⟩ := hg
    obtain ⟨its, rv, p, hz⟩ := I.tuple hq
    obtain ⟨f0, f1, f2, f3, f4, f5⟩ := hf it (by simp)
    have hl := rv.length
    exact wpAny_pyNext_tuple_end (I.ok.hd hc) st (show s.heap.IsTuple a its.toArray from p) (by simp; omega) fun h' eb => ⟨rfl, I.turned (t' := s.toks) (fun b o hb e => eb b o hb e) f0 f1 f3 f4 f5⟩
  self := fun _ _ _ _ _ st h => wpAny_pyIter_tupleiter st h
theorem turn_range {P : Program} {w : World} {K : PySem.W.Frag} {tg : Expr} (it : Addr) (lo : Int) (n : Nat) : Turn P w K tg (Itr lo n) [it] it (fun i h => IsRangeIter h it (lo + (i : Nat) * 1) ((n : Int) - (i : Nat)) 1) where
  mem := by simp
  obj := fun i h st b hb => by
    have e : b = it := by simpa using hb
    subst e
    exact ⟨_, st, fun v z => by
      have z' : Data.fields _ = Data.cell v := z
      cases z'⟩
  keep := fun i h h' st k => k it (by simp) _ st
  item := by
    intro X hP hw hK hc i pins s σ H E I hf st hg
    subst hP hw hK
    obtain ⟨f0, f1, f2, f3, f4, f5⟩ := hf it (by simp)
    have W := Walks.range (prog := X.prog) (w := X.w) (I.ok.hd hc) it lo 1 n
    refine W.item i s _ _ hg st fun v h' tk hv st' kk => ?_
    obtain ⟨t, rfl⟩ := hv
    have I1 : Inv X pins σ H { s with heap := h', toks := tk } := I.turned (fun b o hb e => kk b o (by simpa using hb) e) f0 f1 f3 f4 f5
    refine ⟨_, rfl, go_of (s := { s with heap := h', toks := tk }) (n := "range_iterator") st' rfl rfl (by decide) ⟨.int (lo + i), H, I1, ⟨t, ?_⟩, ⟨rfl, rfl⟩, st', fun b hb => (hf b hb).1⟩⟩
    rw [Int.mul_one]
  done := by
    intro X hP hw hK hc i pins s σ H E I hf st hg
    subst hP hw hK
    obtain ⟨f0, f1, f2, f3, f4, f5⟩ := hf it (by simp)
    exact wpAny_pyNext_range_end (I.ok.hd hc) st (by have : n ≤ i := hg; omega) fun h' eb => ⟨rfl, I.turned (t' := s.toks) (fun b o hb e => eb b o hb e) f0 f1 f3 f4 f5⟩
  self := fun _ _ _ _ _ st h => wpAny_pyIter_rangeiter st h
end L2
namespace L2
open PySem PySem.Spec PyProof.Rows
section
variable {X : Cx} {tg : Expr}
def iList (K : PySem.W.Frag) (tl : TE) : TI := fun σ H R => tl σ H fun x H1 => ∃ a, x = .ref a ∧ (∃ xs, SqL K H1 a xs) ∧ R (Itl K a) H1
def iTup (K : PySem.W.Frag) (tl : TE) : TI := fun σ H R => tl σ H fun x H1 => ∃ a, x = .ref a ∧ (∃ xs, SqT K H1 a xs) ∧ R (Itt K a) H1
theorem pi_list {l : Expr} {tl : TE} (hl : PE X l tl) : PI X tg l (iList X.K tl) := by
  intro pins s σ H R I h
  refine thn (hl pins s σ H _ I h) fun v s1 ⟨x, H1, I1, r1, q1⟩ => ?_
  obtain ⟨a, e, ⟨xs, hq⟩, q⟩ := q1
  subst e
  cases r1
  obtain ⟨its, rv, p, hz⟩ := I1.list hq
  refine wpAny_pyIter_list p.isList ?_
  refine ⟨s1.heap.objs.size, [s1.heap.objs.size], _, _, H1, rfl, I1.kept (t' := s1.toks) fun b o e => Heap.get?_push_of_some _ e, turn_list a _, ⟨_, Heap.get?_push_size _ rfl, rfl, rfl⟩, fun b hb => ?_, q⟩
  have e : b = s1.heap.objs.size := by simpa using hb
  subst e
  exact I1.fpOk (Nat.le_refl _) (I1.hok.fresh (Nat.le_refl _))
theorem pi_tup {l : Expr} {tl : TE} (hl : PE X l tl) : PI X tg l (iTup X.K tl) := by
  intro pins s σ H R I h
  refine thn (hl pins s σ H _ I h) fun v s1 ⟨x, H1, I1, r1, q1⟩ => ?_
  obtain ⟨a, e, ⟨xs, hq⟩, q⟩ := q1
  subst e
  cases r1
  obtain ⟨its, rv, p, hz⟩ := I1.tuple hq
  refine wpAny_pyIter_tuple (show s1.heap.IsTuple a its.toArray from p) ?_
  refine ⟨s1.heap.objs.size, [s1.heap.objs.size], _, _, H1, rfl, I1.kept (t' := s1.toks) fun b o e => Heap.get?_push_of_some _ e, turn_tuple a _, ⟨_, Heap.get?_push_size _ rfl, rfl, rfl⟩, fun b hb => ?_, q⟩
  have e : b = s1.heap.objs.size := by simpa using hb
  subst e
  exact I1.fpOk (Nat.le_refl _) (I1.hok.fresh (Nat.le_refl _))
theorem range_it {pins : List (Addr × Obj)} {σ : St} {H : Hp} {s : Shared} {R : It → Hp → Prop} {E : Value → Shared → Prop} {lo hi : Int} {t u v : Tok} {tk : Nat} (I : Inv X pins σ H s) (h1 : -(2 ^ 62) ≤ lo) (h2 : lo < 2 ^ 62) (h3 : -(2 ^ 62) ≤ hi) (h4 : hi < 2 ^ 62)
    (q : R (Itr lo (hi - lo).toNat) H) : wpAny (model X.prog X.w) X.A (pyIter (.ref s.heap.objs.size)) (PIE X pins σ tg R) E { s with heap := s.heap.push { cls := .type "range", data := .fields #[.int lo t, .int hi u, .int 1 v] }, toks := tk } := by
  refine wpAny_pyIter_range (IsRange.new ..) (small_one h1 h2 h3 h4) ?_
  have I1 : Inv X pins σ H { s with heap := s.heap.push { cls := .type "range", data := .fields #[.int lo t, .int hi u, .int 1 v] }, toks := tk } := I.kept fun b o e => Heap.get?_push_of_some _ e
  refine ⟨(s.heap.push { cls := .type "range", data := .fields #[.int lo t, .int hi u, .int 1 v] }).objs.size, [(s.heap.push { cls := .type "range", data := .fields #[.int lo t, .int hi u, .int 1 v] }).objs.size], _, _, H, rfl,
    I1.kept (t' := tk) fun b o e => Heap.get?_push_of_some _ e, turn_range _ lo (hi - lo).toNat, ?_, fun b hb => ?_, q⟩
  · have e1 : lo + ((0 : Nat) : Int) * 1 = lo := by simp
    have e2 : (((hi - lo).toNat : Nat) : Int) - ((0 : Nat) : Int) = Builtin.Range.rangeSize lo hi 1 := by rw [rangeSize_one]; split <;> omega
    show IsRangeIter _ _ (lo + ((0 : Nat) : Int) * 1) ((((hi - lo).toNat : Nat) : Int) - ((0 : Nat) : Int)) 1
    rw [e1, e2]
    exact Heap.get?_push_size _ rfl
  · have e : b = (s.heap.push { cls := .type "range", data := .fields #[.int lo t, .int hi u, .int 1 v] }).objs.size := by simpa using hb
    subst e
    exact I1.fpOk (Nat.le_refl _) (I1.hok.fresh (Nat.le_refl _))
def iRng1 (ta : TA) : TI := fun σ H R => ta σ H fun vs H1 => ∃ j : Int, vs = [.int j] ∧ -(2 ^ 62) ≤ j ∧ j < 2 ^ 62 ∧ R (Itr 0 j.toNat) H1
theorem pi_range1 {a : Expr} {ta : TA} {p pos : Pos} (hg : Gl X "range") (hm : X.mg "range" = none) (ha : PA X [a] ta) (hs : starEach [a] X.env = [(false, eval a X.env)] := by rfl) : PI X tg (.Call (.Name "range" p) [a] [] pos) (iRng1 ta) := by
  intro pins s σ H R I h
  refine Call_ (ld_blt I hg hm boot_range (PyProof.Rows.callWith_type1 (thn (ha pos pins s σ H _ I h) fun us s1 ⟨vs, H1, I1, r1, q1⟩ => ?_) hs rfl))
  obtain ⟨j, e, q1, q2, q⟩ := q1
  subst e
  cases r1 with
  | cons r rr =>
    cases rr
    obtain ⟨t, rfl⟩ := r
    exact call_range_1 (range_it I1 (by omega) (by omega) q1 q2 (by simpa using q))
def tFor (wi : TI) (g : TG) (tb : TS) : TS := fun D σ H => wi σ H fun J H1 => ∃ W : Nat → Nat → St → Hp → Prop, (∃ m, W 0 m σ H1) ∧ ∀ i m σ H, W i m σ H →
  (J.stop i H ∧ D.nx σ H) ∨ (J.go i H ∧ ∃ N : St → Hp → Prop, (∀ σ' H', N σ' H' → ∃ m', m' < m ∧ W (i + 1) m' σ' H') ∧ ∀ x H', J.yld i H x H' → g x σ H' fun σ2 H2 => tb { D with nx := N, ct := N, bk := D.nx } σ2 H2)
def pinsAt (fp : List Addr) (h : Heap) : List (Addr × Obj) := fp.filterMap fun b => (h.get? b).map fun o => (b, o)
theorem mem_pinsAt {fp : List Addr} {h : Heap} {b : Addr} {o : Obj} (hb : b ∈ fp) (e : h.get? b = some o) : (b, o) ∈ pinsAt fp h := List.mem_filterMap.mpr ⟨b, hb, by rw [e]; rfl⟩
theorem of_pinsAt {fp : List Addr} {h : Heap} {p : Addr × Obj} (hp : p ∈ pinsAt fp h) : p.1 ∈ fp ∧ h.get? p.1 = some p.2 := by
  obtain ⟨b, hb, e⟩ := List.mem_filterMap.mp hp
  cases q : h.get? b with
  | none => rw [q] at e; cases e
  | some o =>
    rw [q] at e
    have e' : (b, o) = p := Option.some.inj e
    subst e'
    exact ⟨hb, q⟩
theorem Inv.pinned {pins : List (Addr × Obj)} {σ : St} {H : Hp} {s : Shared} {fp : List Addr} (I : Inv X pins σ H s) (hf : ∀ b ∈ fp, FpOk X pins H b) (ho : ∀ b ∈ fp, ∃ o, s.heap.get? b = some o ∧ ∀ v, o.data ≠ .cell v) : Inv X (pins ++ pinsAt fp s.heap) σ H s :=
  I.pins_of fun p hp => (List.mem_append.mp hp).elim (fun z => I.pin p (List.mem_append_right _ z)) fun z => by
    obtain ⟨hb, e⟩ := of_pinsAt z
    obtain ⟨f0, f1, f2, _⟩ := hf p.1 hb
    obtain ⟨o, e', d⟩ := ho p.1 hb
    rw [e] at e'; cases e'
    exact ⟨e, f0, f1, f2, d⟩
theorem Inv.unpinned {pins pl : List (Addr × Obj)} {σ : St} {H : Hp} {s : Shared} (I : Inv X (pins ++ pl) σ H s) : Inv X pins σ H s := I.pins_of fun p hp => I.pin p (List.mem_append_right _ (List.mem_append_left _ hp))
theorem ps_for {iter : Expr} {body : List Stmt} {wi : TI} {g : TG} {tb : TS} {pos : Pos} (hp : PassesOwn (model X.prog X.w) X.A X.env X.xe) (hc : X.calm = true) (hi : PI X tg iter wi) (hg : PG X tg g) (hb : PSs X body tb)
    (hs : ∀ x, foldedSetIterable iter X.env x = pure x := by intro _; rfl) : PS X (.For tg iter body [] pos) (tFor wi g tb) := by
  intro pins s σ H D I h
  refine wpAny_For (thn (hi pins s σ H _ I h) fun v s1 h1 => thn h1 fun itv s2 h2 => ?_) hs
  obtain ⟨it, fp, tn, J, H2, e, I2, T, st2, f2, W, ⟨m0, w0⟩, turn⟩ := h2
  subst e
  -- what stays true of the iterator's objects through the loop
  have stat : ∀ {H' : Hp}, (∀ b ∈ fp, H' b = none) → ∀ b ∈ fp, FpOk X pins H' b := fun hn b hb => ⟨hn b hb, (f2 b hb).2⟩
  refine codeAny_forLoop_any (fun n s' => ∃ i σ' H', Inv X pins σ' H' s' ∧ tn i s'.heap ∧ (∀ b ∈ fp, H' b = none) ∧ W i n σ' H') ?_ m0 ⟨0, σ, H2, I2, st2, fun b hb => (f2 b hb).1, w0⟩
  rintro n s3 ⟨i, σ3, H3, I3, st3, fr3, w3⟩
  rcases turn i n σ3 H3 w3 with ⟨stop, qn⟩ | ⟨go, N, hN, step⟩
  · refine wpAny_passesOwn hp (thn (T.done X rfl rfl rfl hc i pins s3 σ3 H3 X.xe I3 (stat fr3) st3 stop) fun r s4 ⟨hr, I4⟩ => ?_)
    subst hr
    exact wpAny_execs_nil ⟨σ3, H3, I4, qn⟩
  · refine wpAny_passesOwn hp (thn (T.item X rfl rfl rfl hc i pins s3 σ3 H3 X.xe I3 (stat fr3) st3 go) fun r s4 ⟨u, hr, h4⟩ => ?_)
    subst hr
    refine wpAny_passesOwn hp (thn h4 fun _ s5 ⟨x, H5, I5, r5, y5, st5, fr5⟩ => ?_)
    have I5' := I5.pinned (stat fr5) (T.obj _ _ st5)
    refine wpAny_passesOwn hp (thn (hg _ s5 σ3 H5 x u _ I5' r5 (step x H5 y5)) fun _ s6 ⟨σ6, H6, I6, q6⟩ => ?_)
    refine wpAny_passesOwn hp (thn (hb _ s6 σ6 H6 _ I6 q6) fun f s7 q7 => ?_)
    have again : ∀ {σ7 : St} {H7 : Hp}, Inv X (pins ++ pinsAt fp s5.heap) σ7 H7 s7 → N σ7 H7 → ∃ m, m < n ∧ ∃ i σ' H', Inv X pins σ' H' s7 ∧ tn i s7.heap ∧ (∀ b ∈ fp, H' b = none) ∧ W i m σ' H' := fun {σ7 H7} I7 n7 => by
      obtain ⟨m', hm, w7⟩ := hN σ7 H7 n7
      refine ⟨m', hm, i + 1, σ7, H7, I7.unpinned, T.keep _ _ _ st5 fun b hb o e => (I7.pin (b, o) (List.mem_append_right _ (List.mem_append_right _ (mem_pinsAt hb e)))).1, fun b hb => ?_, w7⟩
      obtain ⟨o, e, d⟩ := T.obj _ _ st5 b hb
      exact (I7.pin (b, o) (List.mem_append_right _ (List.mem_append_right _ (mem_pinsAt hb e)))).2.1
    cases f with
    | next => obtain ⟨σ7, H7, I7, n7⟩ := q7; exact again I7 n7
    | cont => obtain ⟨σ7, H7, I7, n7⟩ := q7; exact again I7 n7
    | brk => obtain ⟨σ7, H7, I7, q7⟩ := q7; exact ⟨σ7, H7, I7.unpinned, q7⟩
    | ret v => obtain ⟨x7, σ7, H7, I7, r7, q7⟩ := q7; exact ⟨x7, σ7, H7, I7.unpinned, r7, q7⟩
end
theorem for_list {K : PySem.W.Frag} {a : Addr} {xs : List V} {g : TG} {tb : TS} {D : Ends} {σ : St} {H : Hp} (Pv : Nat → St → Hp → Prop) (h0 : Pv 0 σ H) (hl : ∀ i σ H, i ≤ xs.length → Pv i σ H → SqL K H a xs)
    (hs : ∀ i x σ H, xs[i]? = some x → Pv i σ H → g x σ H fun σ2 H2 => tb { D with nx := Pv (i + 1), ct := Pv (i + 1), bk := D.nx } σ2 H2) (hd : ∀ σ H, Pv xs.length σ H → D.nx σ H) :
    ∃ W : Nat → Nat → St → Hp → Prop, (∃ m, W 0 m σ H) ∧ ∀ i m σ H, W i m σ H →
      ((Itl K a).stop i H ∧ D.nx σ H) ∨ ((Itl K a).go i H ∧ ∃ N : St → Hp → Prop, (∀ σ' H', N σ' H' → ∃ m', m' < m ∧ W (i + 1) m' σ' H') ∧ ∀ x H', (Itl K a).yld i H x H' → g x σ H' fun σ2 H2 => tb { D with nx := N, ct := N, bk := D.nx } σ2 H2) := by
  refine ⟨fun i m σ H => m = xs.length - i ∧ i ≤ xs.length ∧ Pv i σ H, ⟨xs.length, by simp, Nat.zero_le _, h0⟩, ?_⟩
  rintro i m σ H ⟨rfl, hi, p⟩
  have q := hl i σ H hi p
  by_cases hlt : i < xs.length
  · refine .inr ⟨⟨xs, xs[i], q, by simp [hlt]⟩, Pv (i + 1), fun σ' H' p' => ⟨xs.length - (i + 1), by omega, rfl, hlt, p'⟩, fun x H' y => ?_⟩
    obtain ⟨e, y⟩ := y
    subst e
    exact hs i x σ _ (y xs q) p
  · have e : i = xs.length := by omega
    subst e
    exact .inl ⟨⟨xs, q, Nat.le_refl _⟩, hd σ H p⟩
theorem for_tup {K : PySem.W.Frag} {a : Addr} {xs : List V} {g : TG} {tb : TS} {D : Ends} {σ : St} {H : Hp} (Pv : Nat → St → Hp → Prop) (h0 : Pv 0 σ H) (hl : ∀ i σ H, i ≤ xs.length → Pv i σ H → SqT K H a xs)
    (hs : ∀ i x σ H, xs[i]? = some x → Pv i σ H → g x σ H fun σ2 H2 => tb { D with nx := Pv (i + 1), ct := Pv (i + 1), bk := D.nx } σ2 H2) (hd : ∀ σ H, Pv xs.length σ H → D.nx σ H) :
    ∃ W : Nat → Nat → St → Hp → Prop, (∃ m, W 0 m σ H) ∧ ∀ i m σ H, W i m σ H →
      ((Itt K a).stop i H ∧ D.nx σ H) ∨ ((Itt K a).go i H ∧ ∃ N : St → Hp → Prop, (∀ σ' H', N σ' H' → ∃ m', m' < m ∧ W (i + 1) m' σ' H') ∧ ∀ x H', (Itt K a).yld i H x H' → g x σ H' fun σ2 H2 => tb { D with nx := N, ct := N, bk := D.nx } σ2 H2) := by
  refine ⟨fun i m σ H => m = xs.length - i ∧ i ≤ xs.length ∧ Pv i σ H, ⟨xs.length, by simp, Nat.zero_le _, h0⟩, ?_⟩
  rintro i m σ H ⟨rfl, hi, p⟩
  have q := hl i σ H hi p
  by_cases hlt : i < xs.length
  · refine .inr ⟨⟨xs, xs[i], q, by simp [hlt]⟩, Pv (i + 1), fun σ' H' p' => ⟨xs.length - (i + 1), by omega, rfl, hlt, p'⟩, fun x H' y => ?_⟩
    obtain ⟨e, y⟩ := y
    subst e
    exact hs i x σ _ (y xs q) p
  · have e : i = xs.length := by omega
    subst e
    exact .inl ⟨⟨xs, q, Nat.le_refl _⟩, hd σ H p⟩
theorem for_range {lo : Int} {n : Nat} {g : TG} {tb : TS} {D : Ends} {σ : St} {H : Hp} (Pv : Nat → St → Hp → Prop) (h0 : Pv 0 σ H)
    (hs : ∀ i σ H, i < n → Pv i σ H → g (.int (lo + i)) σ H fun σ2 H2 => tb { D with nx := Pv (i + 1), ct := Pv (i + 1), bk := D.nx } σ2 H2) (hd : ∀ σ H, Pv n σ H → D.nx σ H) :
    ∃ W : Nat → Nat → St → Hp → Prop, (∃ m, W 0 m σ H) ∧ ∀ i m σ H, W i m σ H →
      ((Itr lo n).stop i H ∧ D.nx σ H) ∨ ((Itr lo n).go i H ∧ ∃ N : St → Hp → Prop, (∀ σ' H', N σ' H' → ∃ m', m' < m ∧ W (i + 1) m' σ' H') ∧ ∀ x H', (Itr lo n).yld i H x H' → g x σ H' fun σ2 H2 => tb { D with nx := N, ct := N, bk := D.nx } σ2 H2) := by
  refine ⟨fun i m σ H => m = n - i ∧ i ≤ n ∧ Pv i σ H, ⟨n, by simp, Nat.zero_le _, h0⟩, ?_⟩
  rintro i m σ H ⟨rfl, hi, p⟩
  by_cases hlt : i < n
  · refine .inr ⟨hlt, Pv (i + 1), fun σ' H' p' => ⟨n - (i + 1), by omega, rfl, hlt, p'⟩, fun x H' y => ?_⟩
    obtain ⟨e, y⟩ := y
    subst e y
    exact hs i σ _ hlt p
  · have e : i = n := by omega
    subst e
    exact .inl ⟨Nat.le_refl _, hd σ H p⟩
end L2
namespace L2
open PySem PySem.Spec PyProof.Rows
abbrev R2 := V → V → Hp → VK → Prop
def OpR (X : Cx) (f : Value → Value → Sem Value) (r : R2) : Prop :=
  ∀ (pins : List (Addr × Obj)) (s : Shared) (σ : St) (H : Hp) (x y : V) (v u : Value) (Q : VK), Inv X pins σ H s → RelV x v → RelV y u → r x y H Q →
    wpAny (model X.prog X.w) X.A (f v u) (EP X pins σ Q) X.xe s
def UnR (X : Cx) (f : Value → Sem Value) (r : V → Hp → VK → Prop) : Prop :=
  ∀ (pins : List (Addr × Obj)) (s : Shared) (σ : St) (H : Hp) (x : V) (v : Value) (Q : VK), Inv X pins σ H s → RelV x v → r x H Q →
    wpAny (model X.prog X.w) X.A (f v) (EP X pins σ Q) X.xe s
def CallR (X : Cx) (f : Value) (r : List V → Hp → VK → Prop) : Prop :=
  ∀ (pins : List (Addr × Obj)) (s : Shared) (σ : St) (H : Hp) (xs : List V) (us : List Value) (Q : VK), Inv X pins σ H s → Vals xs us → r xs H Q →
    wpAny (model X.prog X.w) X.A (call f us) (EP X pins σ Q) X.xe s
def tOp (r : R2) (ta tb : TE) : TE := fun σ H Q => ta σ H fun x H1 => tb σ H1 fun y H2 => r x y H2 Q
def tUn (r : V → Hp → VK → Prop) (ta : TE) : TE := fun σ H Q => ta σ H fun x H1 => r x H1 Q
def rI (C : Int → Int → Prop) (g : Int → Int → V) : R2 := fun x y H Q => ∃ i j, x = .int i ∧ y = .int j ∧ C i j ∧ Q (g i j) H
def rI0 (g : Int → Int → V) : R2 := fun x y H Q => ∃ i j, x = .int i ∧ y = .int j ∧ Q (g i j) H
def rU (g : Int → V) : V → Hp → VK → Prop := fun x H Q => ∃ i, x = .int i ∧ Q (g i) H
section
variable {X : Cx} {a b c : Expr} {ta tb tc : TE} {pos : Pos}
theorem binT (ha : PE X a ta) (hb : PE X b tb) {pins : List (Addr × Obj)} {s : Shared} {σ : St} {H : Hp} {R : V → V → Hp → Prop} (I : Inv X pins σ H s)
    (h : ta σ H fun x H1 => tb σ H1 fun y H2 => R x y H2) {Q : Value → Shared → Prop} {f : Value → Value → Sem Value}
    (hf : ∀ v u s2 x y H2, Inv X pins σ H2 s2 → RelV x v → RelV y u → R x y H2 → wpAny (model X.prog X.w) X.A (f v u) Q X.xe s2) :
    wpAny (model X.prog X.w) X.A (eval a X.env) (fun v s₁ => wpAny (model X.prog X.w) X.A (eval b X.env) (fun u s₂ => wpAny (model X.prog X.w) X.A (f v u) Q X.xe s₂) X.xe s₁) X.xe s := by
  refine thn (ha pins s σ H _ I h) fun v s1 ⟨x, H1, I1, r1, q1⟩ => ?_
  refine thn (hb pins s1 σ H1 _ I1 q1) fun u s2 ⟨y, H2, I2, r2, q2⟩ => ?_
  exact hf v u s2 x y H2 I2 r1 r2 q2
theorem pe_op {op : Operator} {r : R2} (ho : OpR X (binaryOp op) r) (ha : PE X a ta) (hb : PE X b tb) : PE X (.BinOp a op b pos) (tOp r ta tb) := by
  intro pins s σ H Q I h
  exact wpAny_BinOp (binT ha hb I h fun v u s2 x y H2 I2 rx ry q => ho pins s2 σ H2 x y v u Q I2 rx ry q)
theorem pe_un {op : UnaryOp} {r : V → Hp → VK → Prop} (ho : UnR X (unaryOp op) r) (ha : PE X a ta) : PE X (.UnaryOp op a pos) (tUn r ta) := by
  intro pins s σ H Q I h
  exact UnaryOp_ (thn (ha pins s σ H _ I h) fun v s1 ⟨x, H1, I1, r1, q1⟩ => ho pins s1 σ H1 x v Q I1 r1 q1)
theorem opI {f : Value → Value → Sem Value} {C : Int → Int → Prop} {g : Int → Int → Int}
    (rule : ∀ (i j : Int) (t u : Tok) (s : Shared) (Q : Value → Shared → Prop) (E : Value → Shared → Prop), C i j → Q (.int (g i j) s.toks) { s with toks := s.toks + 1 } → wpAny (model X.prog X.w) X.A (f (.int i t) (.int j u)) Q E s) :
    OpR X f (rI C fun i j => .int (g i j)) := by
  intro pins s σ H x y v u Q I rx ry h
  obtain ⟨i, j, rfl, rfl, hc, q⟩ := h
  obtain ⟨t, rfl⟩ := rx
  obtain ⟨t', rfl⟩ := ry
  exact rule i j t t' s _ _ hc ⟨.int (g i j), H, I.tok _, ⟨_, rfl⟩, q⟩
theorem opI0 {f : Value → Value → Sem Value} {g : Int → Int → Int}
    (rule : ∀ (i j : Int) (t u : Tok) (s : Shared) (Q : Value → Shared → Prop) (E : Value → Shared → Prop), Q (.int (g i j) s.toks) { s with toks := s.toks + 1 } → wpAny (model X.prog X.w) X.A (f (.int i t) (.int j u)) Q E s) :
    OpR X f (rI0 fun i j => .int (g i j)) := by
  intro pins s σ H x y v u Q I rx ry h
  obtain ⟨i, j, rfl, rfl, q⟩ := h
  obtain ⟨t, rfl⟩ := rx
  obtain ⟨t', rfl⟩ := ry
  exact rule i j t t' s _ _ ⟨.int (g i j), H, I.tok _, ⟨_, rfl⟩, q⟩
theorem opB0 {f : Value → Value → Sem Value} {g : Int → Int → Bool}
    (rule : ∀ (i j : Int) (t u : Tok) (s : Shared) (Q : Value → Shared → Prop) (E : Value → Shared → Prop), Q (.bool (g i j)) s → wpAny (model X.prog X.w) X.A (f (.int i t) (.int j u)) Q E s) :
    OpR X f (rI0 fun i j => .bl (g i j)) := by
  intro pins s σ H x y v u Q I rx ry h
  obtain ⟨i, j, rfl, rfl, q⟩ := h
  obtain ⟨t, rfl⟩ := rx
  obtain ⟨t', rfl⟩ := ry
  exact rule i j t t' s _ _ ⟨.bl (g i j), H, I, rfl, q⟩
def CDiv (i j : Int) : Prop := 0 < j ∧ j < 1073741824
def CPow (i j : Int) : Prop := 0 ≤ j ∧ j ≤ 1000000 ∧ i.natAbs < 2 ^ 64
theorem op_add : OpR X (binaryOp .Add) (rI0 fun i j => .int (i + j)) := opI0 fun _ _ _ _ _ _ _ q => add_int q
theorem op_sub : OpR X (binaryOp .Sub) (rI0 fun i j => .int (i - j)) := opI0 fun _ _ _ _ _ _ _ q => sub_int q
theorem op_fdiv : OpR X (binaryOp .FloorDiv) (rI CDiv fun i j => .int (i / j)) := opI fun i j _ _ _ _ _ hc q => by
  have h1 : (0 : Int) < j := hc.1
  have h2 : j < 1073741824 := hc.2
  exact floordiv_int (by omega) (by rw [Int.fdiv_eq_ediv_of_nonneg i (by omega)]; exact q) (.inl (PyProof.noPylong_small (by omega)))
theorem op_mod : OpR X (binaryOp .Mod) (rI (fun _ j => 0 < j) fun i j => .int (i % j)) := opI fun i j _ _ _ _ _ hc q => by
  have h1 : (0 : Int) < j := hc
  exact mod_int' (by omega) (by rw [Int.fmod_eq_emod_of_nonneg i (by omega)]; exact q)
theorem op_modN : OpR X (binaryOp .Mod) (rI (fun _ j => j ≠ 0) fun i j => .int (i.fmod j)) := opI fun _ _ _ _ _ _ _ hc q => mod_int' hc q
theorem op_pow : OpR X (binaryOp .Pow) (rI CPow fun i j => .int (i ^ j.toNat)) := opI fun _ _ _ _ _ _ _ hc q => pow_int_small hc.1 hc.2.1 hc.2.2 q
theorem unI {f : Value → Sem Value} {g : Int → Int}
    (rule : ∀ (i : Int) (t : Tok) (s : Shared) (Q : Value → Shared → Prop) (E : Value → Shared → Prop), Q (.int (g i) s.toks) { s with toks := s.toks + 1 } → wpAny (model X.prog X.w) X.A (f (.int i t)) Q E s) :
    UnR X f (rU fun i => .int (g i)) := by
  intro pins s σ H x v Q I rx h
  obtain ⟨i, rfl, q⟩ := h
  obtain ⟨t, rfl⟩ := rx
  exact rule i t s _ _ ⟨.int (g i), H, I.tok _, ⟨_, rfl⟩, q⟩
theorem un_neg : UnR X (unaryOp .USub) (rU fun i => .int (-i)) := unI fun _ _ _ _ _ q => neg_int q
end
def scal : V → V → Bool
  | .non, .non => true | .non, .int _ => true | .int _, .non => true | .non, .bl _ => true | .bl _, .non => true | .non, .str _ => true | .str _, .non => true
  | .int _, .int _ => true | .bl _, .bl _ => true | .str _, .str _ => true | .byt _, .byt _ => true
  | .int _, .str _ => true | .str _, .int _ => true | .bl _, .str _ => true | .str _, .bl _ => true
  | _, _ => false
def rEq : R2 := fun x y H Q => scal x y = true ∧ Q (.bl (decide (x = y))) H
def rNe : R2 := fun x y H Q => scal x y = true ∧ Q (.bl (!decide (x = y))) H
theorem dec_int {i j : Int} : decide (V.int i = V.int j) = (i == j) := by
  rw [Bool.eq_iff_iff]
  simp
theorem dec_bl {i j : Bool} : decide (V.bl i = V.bl j) = (i == j) := by
  rw [Bool.eq_iff_iff]
  simp
theorem dec_str {i j : Str} : decide (V.str i = V.str j) = (i == j) := by
  rw [Bool.eq_iff_iff]
  simp
theorem dec_byt {i j : Array UInt8} : decide (V.byt i = V.byt j) = (i.toList == j.toList) := by
  rw [Bool.eq_iff_iff]
  cases i
  cases j
  simp
section
variable {X : Cx} {a b c : Expr} {ta tb tc : TE} {pos : Pos}
theorem fin_bl {pins : List (Addr × Obj)} {σ : St} {H : Hp} {s : Shared} {Q : VK} {k k' : Bool} (I : Inv X pins σ H s) (q : Q (.bl k) H) (e : k = k') : EP X pins σ Q (.bool k') s := by
  subst e
  exact ⟨.bl k, H, I, rfl, q⟩
theorem op_eq : OpR X (compareOp .Eq) rEq := by
  intro pins s σ H x y v u Q I rx ry h
  obtain ⟨hs, q⟩ := h
  cases x with
  | non =>
    cases rx
    cases y with
    | non => cases ry; exact PySem.EqNone.eq_none_none (fin_bl I q (by simp))
    | bl j => cases ry; exact PySem.EqNone.eq_none_bool (fin_bl I q (by simp))
    | int j => obtain ⟨t', rfl⟩ := ry; exact PySem.EqNone.eq_none_int (fin_bl I q (by simp))
    | str j => obtain ⟨t', rfl⟩ := ry; exact PySem.EqNone.eq_none_str (fin_bl I q (by simp))
    | _ => exact absurd (show false = true from hs) Bool.false_ne_true
  | bl i =>
    cases rx
    cases y with
    | non => cases ry; exact PySem.EqNone.eq_bool_none (fin_bl I q (by simp))
    | bl j => cases ry; exact eq_bool (fin_bl I q dec_bl)
    | str j => obtain ⟨t', rfl⟩ := ry; exact PySem.EqMixed.eq_bool_str (fin_bl I q (by simp))
    | _ => exact absurd (show false = true from hs) Bool.false_ne_true
  | int i =>
    obtain ⟨t, rfl⟩ := rx
    cases y with
    | non => cases ry; exact PySem.EqNone.eq_int_none (fin_bl I q (by simp))
    | int j => obtain ⟨t', rfl⟩ := ry; exact eq_int (fin_bl I q dec_int)
    | str j => obtain ⟨t', rfl⟩ := ry; exact PySem.EqMixed.eq_int_str (fin_bl I q (by simp))
    | _ => exact absurd (show false = true from hs) Bool.false_ne_true
  | str i =>
    obtain ⟨t, rfl⟩ := rx
    cases y with
    | non => cases ry; exact PySem.EqNone.eq_str_none (fin_bl I q (by simp))
    | bl j => cases ry; exact PySem.EqMixed.eq_str_bool (fin_bl I q (by simp))
    | int j => obtain ⟨t', rfl⟩ := ry; exact PySem.EqMixed.eq_str_int (fin_bl I q (by simp))
    | str j => obtain ⟨t', rfl⟩ := ry; exact eq_str (fin_bl I q dec_str)
    | _ => exact absurd (show false = true from hs) Bool.false_ne_true
  | byt i =>
    obtain ⟨t, rfl⟩ := rx
    cases y with
    | byt j => obtain ⟨t', rfl⟩ := ry; exact PySem.W.eq_bytes (fin_bl I q dec_byt)
    | _ => exact absurd (show false = true from hs) Bool.false_ne_true
  | _ => cases y <;> exact absurd (show false = true from hs) Bool.false_ne_true
theorem op_ne : OpR X (compareOp .NotEq) rNe := by
  intro pins s σ H x y v u Q I rx ry h
  obtain ⟨hs, q⟩ := h
  cases x with
  | non =>
    cases rx
    cases y with
    | non => cases ry; exact PySem.EqNone.ne_none_none (fin_bl I q (by simp))
    | bl j => cases ry; exact PySem.EqNone.ne_none_bool (fin_bl I q (by simp))
    | int j => obtain ⟨t', rfl⟩ := ry; exact PySem.EqNone.ne_none_int (fin_bl I q (by simp))
    | str j => obtain ⟨t', rfl⟩ := ry; exact PySem.EqNone.ne_none_str (fin_bl I q (by simp))
    | _ => exact absurd (show false = true from hs) Bool.false_ne_true
  | bl i =>
    cases rx
    cases y with
    | non => cases ry; exact PySem.EqNone.ne_bool_none (fin_bl I q (by simp))
    | bl j => cases ry; exact ne_bool (fin_bl I q (congrArg not dec_bl))
    | str j => obtain ⟨t', rfl⟩ := ry; exact PySem.EqMixed.ne_bool_str (fin_bl I q (by simp))
    | _ => exact absurd (show false = true from hs) Bool.false_ne_true
  | int i =>
    obtain ⟨t, rfl⟩ := rx
    cases y with
    | non => cases ry; exact PySem.EqNone.ne_int_none (fin_bl I q (by simp))
    | int j => obtain ⟨t', rfl⟩ := ry; exact ne_int (fin_bl I q (congrArg not dec_int))
    | str j => obtain ⟨t', rfl⟩ := ry; exact PySem.EqMixed.ne_int_str (fin_bl I q (by simp))
    | _ => exact absurd (show false = true from hs) Bool.false_ne_true
  | str i =>
    obtain ⟨t, rfl⟩ := rx
    cases y with
    | non => cases ry; exact PySem.EqNone.ne_str_none (fin_bl I q (by simp))
    | bl j => cases ry; exact PySem.EqMixed.ne_str_bool (fin_bl I q (by simp))
    | int j => obtain ⟨t', rfl⟩ := ry; exact PySem.EqMixed.ne_str_int (fin_bl I q (by simp))
    | str j => obtain ⟨t', rfl⟩ := ry; exact ne_str (fin_bl I q (congrArg not dec_str))
    | _ => exact absurd (show false = true from hs) Bool.false_ne_true
  | byt i =>
    obtain ⟨t, rfl⟩ := rx
    cases y with
    | byt j => obtain ⟨t', rfl⟩ := ry; exact PySem.W.ne_bytes (fin_bl I q (congrArg not dec_byt))
    | _ => exact absurd (show false = true from hs) Bool.false_ne_true
  | _ => cases y <;> exact absurd (show false = true from hs) Bool.false_ne_true
theorem op_lt : OpR X (compareOp .Lt) (rI0 fun i j => .bl (decide (i < j))) := opB0 fun _ _ _ _ _ _ _ q => lt_int q
theorem op_le : OpR X (compareOp .LtE) (rI0 fun i j => .bl (decide (i ≤ j))) := opB0 fun _ _ _ _ _ _ _ q => le_int q
theorem op_gt : OpR X (compareOp .Gt) (rI0 fun i j => .bl (decide (j < i))) := opB0 fun _ _ _ _ _ _ _ q => gt_int q
theorem op_in_str : OpR X (compareOp .In) (fun x y H Q => ∃ i j, x = .str i ∧ y = .str j ∧ Q (.bl (!(Builtin.Str.occurrences j i 0 j.length 1).isEmpty)) H) := by
  intro pins s σ H x y v u Q I rx ry h
  obtain ⟨i, j, rfl, rfl, q⟩ := h
  obtain ⟨t, rfl⟩ := rx
  obtain ⟨t', rfl⟩ := ry
  exact in_str (fin_bl I q rfl)
theorem op_isN : OpR X (compareOp .Is) (fun x y H Q => y = .non ∧ Q (.bl (decide (x = .non))) H) := by
  intro pins s σ H x y v u Q I rx ry h
  obtain ⟨rfl, q⟩ := h
  cases ry
  refine is_none_gen (fin_bl I q ?_)
  cases x <;> first
    | (cases rx; rfl)
    | (obtain ⟨t, rfl⟩ := rx; rfl)
theorem OpR.or {f : Value → Value → Sem Value} {r r' : R2} (h : OpR X f r) (h' : OpR X f r') : OpR X f (fun x y H Q => r x y H Q ∨ r' x y H Q) := by
  intro pins s σ H x y v u Q I rx ry q
  rcases q with q | q
  · exact h pins s σ H x y v u Q I rx ry q
  · exact h' pins s σ H x y v u Q I rx ry q
theorem nomark (b : Expr) {op : CmpOp} (h : op ≠ .In := by decide) (h2 : op ≠ .NotIn := by decide) : behindInMarks op b = false := by
  have e1 : (op == CmpOp.In) = false := by cases op <;> first | rfl | exact absurd rfl h
  have e2 : (op == CmpOp.NotIn) = false := by cases op <;> first | rfl | exact absurd rfl h2
  cases b <;> simp [behindInMarks, e1, e2]
theorem pe_cmpR {op : CmpOp} {r : R2} (ho : OpR X (compareOp op) r) (ha : PE X a ta) (hb : PE X b tb) (hm : behindInMarks op b = false) : PE X (.Compare a [op] [b] pos) (tOp r ta tb) := by
  intro pins s σ H Q I h
  exact wpAny_Compare1 (binT ha hb I h fun v u s2 x y H2 I2 rx ry q => ho pins s2 σ H2 x y v u Q I2 rx ry q) hm
def tTest (t : TE) : TT := fun σ H Q => t σ H fun x H' => ∃ k, x = .bl k ∧ Q k H'
theorem pt_cmpR {op : CmpOp} {r : R2} (ho : OpR X (compareOp op) r) (ha : PE X a ta) (hb : PE X b tb) (hm : behindInMarks op b = false) : PT X (.Compare a [op] [b] pos) (tTest (tOp r ta tb)) := by
  intro pins s σ H Q I h
  refine wpAny_isTrue_Compare1 (thn (ha pins s σ H _ I h) fun v s1 ⟨x, H1, I1, r1, q1⟩ => thn (hb pins s1 σ H1 _ I1 q1) fun u s2 ⟨y, H2, I2, r2, q2⟩ =>
    thn (ho pins s2 σ H2 x y v u _ I2 r1 r2 q2) fun c s3 ⟨z, H3, I3, r3, k, e, q3⟩ => ?_) hm
  subst e
  cases r3
  exact wpAny_truthy_bool ⟨H3, I3, q3⟩
def tChain (r r' : R2) (ta tb tc : TE) : TE := fun σ H Q => ta σ H fun x H1 => tb σ H1 fun y H2 => r x y H2 fun z H3 => ∃ k, z = .bl k ∧
  (if k = true then tc σ H3 fun w' H4 => r' y w' H4 Q else Q (.bl false) H3)
theorem pt_chain {op op' : CmpOp} {r r' : R2} (ho : OpR X (compareOp op) r) (ho' : OpR X (compareOp op') r') (ha : PE X a ta) (hb : PE X b tb) (hc : PE X c tc)
    (hm : lastMarks [op, op'] [b, c] = false := by with_unfolding_all rfl) : PT X (.Compare a [op, op'] [b, c] pos) (tTest (tChain r r' ta tb tc)) := by
  intro pins s σ H Q I h
  refine isTrue_chain (thn (ha pins s σ H _ I h) fun v s1 ⟨x, H1, I1, r1, q1⟩ => test_link (thn (hb pins s1 σ H1 _ I1 q1) fun u s2 ⟨y, H2, I2, r2, q2⟩ =>
    thn (ho pins s2 σ H2 x y v u _ I2 r1 r2 q2) fun d s3 ⟨z, H3, I3, r3, k, e, q3⟩ => ?_)) hm
  subst e
  cases r3
  refine wpAny_truthy_bool ?_
  cases k with
  | false =>
    obtain ⟨k', e', q'⟩ := q3
    cases e'
    exact ite_ff ⟨H3, I3, q'⟩
  | true =>
    refine ite_tt (test_last (thn (hc pins s3 σ H3 _ I3 q3) fun w' s4 ⟨z', H4, I4, r4, q4⟩ => thn (ho' pins s4 σ H4 y z' u w' _ I4 r2 r4 q4) fun d' s5 ⟨z2, H5, I5, r5, k2, e2, q5⟩ => ?_))
    subst e2
    cases r5
    exact wpAny_truthy_bool ⟨H5, I5, q5⟩
theorem line63 : (sizeLine : Nat) < 2 ^ 63 := by rw [sizeLine_eq]; decide
theorem op_add_str : OpR X (binaryOp .Add) (fun x y H Q => ∃ i j, x = .str i ∧ y = .str j ∧ i.length + j.length ≤ sizeLine ∧ Q (.str (i ++ j)) H) := by
  intro pins s σ H x y v u Q I rx ry h
  obtain ⟨i, j, rfl, rfl, hz, q⟩ := h
  obtain ⟨t, rfl⟩ := rx
  obtain ⟨t', rfl⟩ := ry
  exact add_str (fun t' tk => ⟨.str (i ++ j), H, I.tok _, ⟨_, rfl⟩, q⟩) hz
theorem vals1 {x : V} {us : List Value} (r : Vals [x] us) : ∃ u, us = [u] ∧ RelV x u := by
  cases r with
  | cons r1 r2 => cases r2; exact ⟨_, rfl, r1⟩
theorem vals2 {x y : V} {us : List Value} (r : Vals [x, y] us) : ∃ u w', us = [u, w'] ∧ RelV x u ∧ RelV y w' := by
  cases r with
  | cons r1 r2 =>
    cases r2 with
    | cons r3 r4 => cases r4; exact ⟨_, _, rfl, r1, r3⟩
theorem call_abs : CallR X (.builtin "abs") (fun xs H Q => ∃ i, xs = [.int i] ∧ Q (.int (if i < 0 then -i else i)) H) := by
  intro pins s σ H xs us Q I r h
  obtain ⟨i, rfl, q⟩ := h
  obtain ⟨u, rfl, t, rfl⟩ := vals1 r
  exact call_abs_int fun u tk => ⟨.int (if i < 0 then -i else i), H, I.tok _, ⟨_, rfl⟩, q⟩
theorem call_str_int : CallR X (.type "str") (fun xs H Q => ∃ i, xs = [.int i] ∧ i.natAbs.log2 < 1920 ∧ Q (.str (toString i)) H) := by
  intro pins s σ H xs us Q I r h
  obtain ⟨i, rfl, hz, q⟩ := h
  obtain ⟨u, rfl, t, rfl⟩ := vals1 r
  exact PySem.P.str_of_int hz ⟨.str _, H, I.tok _, ⟨_, rfl⟩, q⟩
end
end L2
namespace L2
open PySem PySem.Spec PyProof.Rows
section
variable {prog : Program} {w : World} {A : Around} {E : Value → Shared → Prop} {s : Shared} {K : PySem.W.Frag} {x dx C f : Addr} {mA : Str → Option Value} {name : Str} {v : Value}
end
section
variable {P : Program} {w : World} {H H' : Hp} {h h' : Heap} {a C dx : Addr} {fs fs' : List (Str × V)}
end
section
variable {X : Cx} {pins : List (Addr × Obj)} {σ : St} {H : Hp} {s : Shared} {a C dx : Addr} {fs : List (Str × V)} {f : Str} {v : V} {A : Around} {E : Value → Shared → Prop}
end
section
variable {X : Cx} {o e value : Expr} {f : Str} {pos pos' tpos : Pos} {ta tv : TE}
end
section
variable {X : Cx} {pins : List (Addr × Obj)} {σ : St} {H : Hp} {s : Shared} {A : Around} {E : Value → Shared → Prop} {Q : Value → Shared → Prop} {c : Value} {b : Bool}
end
end L2
namespace L2
open PySem PySem.Spec PyProof.Rows
structure Room (k : Nat) (A : Around) : Prop where
  hd : A.handled = none
  dp : A.depth + 3 * k + 5 < recursionLimit
  un : A.units + 16 * k + 200 < cLine
theorem Room.mono {j k : Nat} {A : Around} (r : Room k A) (h : j ≤ k) : Room j A := ⟨r.hd, by have := r.dp; omega, by have := r.un; omega⟩
theorem Room.deeper {k : Nat} {A : Around} (r : Room (k + 1) A) (env : Env) : Room k (A.deeper env) :=
  ⟨r.hd, by have := r.dp; show A.depth + 1 + 3 * k + 5 < _; omega, by have := r.un; show A.units + 3 + 16 * k + 200 < _; omega⟩
theorem Room.depth {k : Nat} {A : Around} (r : Room k A) : A.depth < recursionLimit := by have := r.dp; omega
theorem Room.units {k : Nat} {A : Around} (r : Room k A) : A.units + 64 < cLine := by have := r.un; omega
def tNil : TA := fun _ H Q => Q [] H
def tCons (ta : TE) (tr : TA) : TA := fun σ H Q => ta σ H fun x H1 => tr σ H1 fun xs H2 => Q (x :: xs) H2
section
variable {X : Cx} {e : Expr} {es : List Expr} {te : TE} {t : TA} {pos : Pos}
theorem pa_nil : PA X [] tNil := fun _ _ _ _ H Q I h => Calls.spliced_nil ⟨[], H, I, .nil, h⟩
theorem pa_cons (ha : PE X e te) (hr : PA X es t) (hs : starEach (e :: es) X.env = (false, eval e X.env) :: starEach es X.env := by rfl) : PA X (e :: es) (tCons te t) := by
  intro pos pins s σ H Q I h
  rw [hs]
  show wpAny _ _ (spliced ((false, eval e X.env) :: backTo pos (starEach es X.env))) _ _ s
  refine Calls.spliced_cons (thn (ha pins s σ H _ I h) fun u s1 ⟨x, H1, I1, r1, q1⟩ => ?_)
  exact thn (hr pos pins s1 σ H1 _ I1 q1) fun us s2 ⟨xs, H2, I2, r2, q2⟩ => ⟨x :: xs, H2, I2, .cons r1 r2, q2⟩
def tTup (t : TA) : TE := fun σ H Q => t σ H fun xs H1 => xs.length ≤ sizeLine ∧ ∀ p, H1 p = none → Q (.ref p) (upd H1 p (.tup xs))
def tLst (t : TA) : TE := fun σ H Q => t σ H fun xs H1 => xs.length ≤ sizeLine ∧ ∀ p, H1 p = none → Q (.ref p) (upd H1 p (.lst xs))
theorem pe_tup {x1} (h : PA X es t) : PE X (.Tuple es x1 pos) (tTup t) := by
  intro pins s σ H Q I hq
  refine wpAny_Tuple_spliced (thn (h pos pins s σ H _ I hq) fun us s1 ⟨xs, H1, I1, r, z, q⟩ => ⟨by rw [← r.length]; exact z, ?_⟩)
  have hf : H1 s1.heap.objs.size = none := I1.hok.fresh (Nat.le_refl _)
  refine ⟨.ref s1.heap.objs.size, upd H1 s1.heap.objs.size (.tup xs), I1.laid (t' := s1.toks) (fun b u e => Heap.get?_push_of_some _ e) (Nat.le_refl _) ?_, rfl, q _ hf⟩
  exact ⟨z, us, r, ⟨_, Heap.get?_push_size _ rfl, rfl, _, rfl⟩⟩
theorem pe_lst (h : PA X es t) : PE X (.List es pos) (tLst t) := by
  intro pins s σ H Q I hq
  refine wpAny_List_spliced (thn (h pos pins s σ H _ I hq) fun us s1 ⟨xs, H1, I1, r, z, q⟩ => ⟨by rw [← r.length]; exact z, ?_⟩)
  have hf : H1 s1.heap.objs.size = none := I1.hok.fresh (Nat.le_refl _)
  refine ⟨.ref s1.heap.objs.size, upd H1 s1.heap.objs.size (.lst xs), I1.laid (t' := s1.toks) (fun b u e => Heap.get?_push_of_some _ e) (Nat.le_refl _) ?_, rfl, q _ hf⟩
  exact ⟨z, us, 0, r, Heap.get?_push_size _ rfl⟩
end
abbrev Sp := List V → Hp → VK → XK → Prop
abbrev CXT := List Env → Hp → Shared → XK → Value → Shared → Prop
structure Env0 (P : Program) (w : World) (K : PySem.W.Frag) (mg : Str → Option Value) (base : Heap) (A : Around) (outer : List Env) (s : Shared) (H : Hp) : Prop where
  frames : A.frames = some outer
  mod : Mod K mg base
  bs : ∀ b o, base.get? b = some o → s.heap.get? b = some o ∧ H b = none
  bsz : base.objs.size ≤ s.heap.objs.size
  funs : s.heap.FunFrames base outer
  frf : ∀ b ∈ frs outer, H b = none
  hok : HOk P w H s.heap
  bare : AllBare s.gens
def CE (outer : List Env) (P : Program) (w : World) (H : Hp) (s : Shared) (Q : VK) (u : Value) (s' : Shared) : Prop :=
  ∃ v H', s'.os = s.os ∧ AllBare s'.gens ∧ Un (frs outer) [] H H' s.heap s'.heap ∧ HOk P w H' s'.heap ∧ RelV v u ∧ Q v H'
def CR (CX : CXT) (outer : List Env) (P : Program) (w : World) (H : Hp) (s : Shared) (Q : VK) (E : XK) (r : Result) (s' : Shared) : Prop :=
  match r with
  | .ok (.ret u) => CE outer P w H s Q u s'
  | .ok _ => False
  | .error e => CX outer H s E e s'
structure FnOk (P : Program) (w : World) (K : PySem.W.Frag) (mg : Str → Option Value) (base : Heap) (CX : CXT) (k : Nat) (f : Addr) (fd : FuncData) (ps : List Str) (sp : Sp) : Prop where
  len : ∀ vs H Q E, sp vs H Q E → vs.length = ps.length
  run : ∀ (A : Around) (outer : List Env) (s : Shared) (H : Hp) (args : Args) (us : List Value) (vs : List V) (Q : VK) (E : XK), Room k A → Env0 P w K mg base A outer s H → BindsTo s fd args (ps.zip us) → Vals vs us → sp vs H Q E →
    codeAny (model P w) A (.call (.ref f) args) (CR CX outer P w H s Q E) s
theorem FnOk.mono {P : Program} {w : World} {K : PySem.W.Frag} {mg : Str → Option Value} {base : Heap} {CX : CXT} {j k : Nat} {f : Addr} {fd : FuncData} {ps : List Str} {sp : Sp} (F : FnOk P w K mg base CX j f fd ps sp) (h : j ≤ k) :
    FnOk P w K mg base CX k f fd ps sp := ⟨F.len, fun A outer s H args us vs Q E hr => F.run A outer s H args us vs Q E (hr.mono h)⟩
section
variable {X : Cx} {pins : List (Addr × Obj)} {σ : St} {H : Hp} {s s' : Shared}
theorem Inv.env0 (I : Inv X pins σ H s) : Env0 X.prog X.w X.K X.mg X.base X.A X.stack s H :=
  ⟨I.ok.frames, I.ok.mod, I.bs, Nat.le_trans I.ok.bsz I.sz, I.stack, I.stkFree, I.hok, I.bare⟩
theorem Inv.after {Q : VK} {u : Value} (I : Inv X pins σ H s) (h : CE X.stack X.prog X.w H s Q u s') : EP X pins σ Q u s' := by
  obtain ⟨v, H', os, bare, un, hok, r, q⟩ := h
  obtain ⟨hh, g, d, t, os'⟩ := s'
  obtain rfl : os' = s.os := os
  exact ⟨v, H', I.call (h' := hh) (g' := g) (d' := d) (t' := t) (ch := []) un hok bare (fun b z => absurd z (by simp)), r, q⟩
end
def tCall (sp : Sp) (dvs : List V) (E : XK) (t : TA) : TE := fun σ H Q => t σ H fun vs H1 => sp (vs ++ dvs) H1 Q E
def Binds (K : PySem.W.Frag) (fd : FuncData) (ps : List Str) (ds : List Value) : Prop :=
  ∀ (s : Shared) (us : List Value), K.In s.heap → (us ++ ds).length = ps.length → BindsTo s fd ⟨us, []⟩ (ps.zip (us ++ ds))
theorem Binds.all {K : PySem.W.Frag} {fd : FuncData} {ps : List Str} (h : ∀ us : List Value, us.length = ps.length → bindArgs fd ⟨us, []⟩ = pure (ps.zip us)) : Binds K fd ps [] := fun s us _ hl => by
  rw [List.append_nil] at hl ⊢
  exact .of_eq (h us hl)
def Passes (CX : CXT) (X : Cx) (E : XK) : Prop := ∀ (pins : List (Addr × Obj)) (σ : St) (H : Hp) (s : Shared) (e : Value) (s' : Shared), Inv X pins σ H s → CX X.stack H s E e s' → X.xe e s'
section
variable {X : Cx} {CX : CXT} {k : Nat} {f C : Addr} {fd : FuncData} {ps : List Str} {sp : Sp} {dvs : List V} {ds : List Value} {E : XK} {x m : Str} {p pos apos : Pos} {e o : Expr} {es : List Expr} {ta : TE} {t : TA}
theorem run_fn {pins : List (Addr × Obj)} {σ : St} {H : Hp} {s : Shared} {Q : VK} {us : List Value} {vs : List V} (F : FnOk X.prog X.w X.K X.mg X.base CX k f fd ps sp) (hr : Room k X.A) (hb : Binds X.K fd ps ds) (hd : Vals dvs ds) (hx : Passes CX X E)
    (I : Inv X pins σ H s) (r : Vals vs us) (h : sp (vs ++ dvs) H Q E) : wpAny (model X.prog X.w) X.A (call (.ref f) us) (EP X pins σ Q) X.xe s := by
  have r2 : Vals (vs ++ dvs) (us ++ ds) := r.append hd
  have hl : (us ++ ds).length = ps.length := by rw [← r2.length]; exact F.len _ _ _ _ h
  refine wpAny_call (codeAny_mono (F.run X.A X.stack s H ⟨us, []⟩ (us ++ ds) (vs ++ dvs) Q E hr I.env0 (hb s us I.kIn hl) r2 h) fun r s' hq => ?_)
  cases r with
  | error e => exact hx pins σ H s e s' I hq
  | ok fl =>
    cases fl with
    | ret u => exact I.after hq
    | next => exact False.elim hq
    | brk => exact False.elim hq
    | cont => exact False.elim hq
theorem pe_call (F : FnOk X.prog X.w X.K X.mg X.base CX k f fd ps sp) (hr : Room k X.A) (hg : Gl X x) (hm : X.mg x = some (.ref f)) (hk : PySem.W.keepIn X.K (.ref f) = true) (hb : Binds X.K fd ps ds) (hd : Vals dvs ds) (hx : Passes CX X E)
    (ha : PA X (e :: es) t) (hdb : (x == ("__debug__" : Str)) = false := by decide) (he : starEach (e :: es) X.env = (false, eval e X.env) :: starEach es X.env := by rfl) (hpl : (backTo pos (starEach es X.env)).any (·.1) = false := by rfl) :
    PE X (.Call (.Name x p) (e :: es) [] pos) (tCall sp dvs E t) := by
  intro pins s σ H Q I h
  refine wpAny_Call_Name_kw (ld_glob I hg hm ?_ hdb)
  refine PySem.W.callWith_K (h₀ := X.base) I.ok.mod.kin hk (thn (ha pos pins s σ H _ I h) fun us s1 ⟨vs, H1, I1, r, q⟩ => ⟨I1.kIn, ?_⟩) he hpl
  exact run_fn F hr hb hd hx I1 r q
end
section
variable {X : Cx} {CX : CXT} {k : Nat} {f C : Addr} {fd : FuncData} {ps ks : List Str} {sp : Sp} {E : XK} {x m : Str} {p pos apos kpos : Pos} {e o : Expr} {es : List Expr} {kws : List Keyword} {te ta : TE} {t tk : TA} {nm : Option Str}
variable {g : List Value → List Value → List Value} {gV : List V → List V → List V}
end
structure FnScope (N P : List Str) (sc : Scope) : Prop where
  kind : sc.kind = .function
  co : sc.isCoroutine = false
  gen : sc.isGenerator = false
  nd : N.Nodup
  pre : N.take P.length = P
  par : ∀ x ∈ P, sc.names.lookup x = some .local ∨ sc.names.lookup x = some .cell
  nofree : ∀ y ∈ sc.names, y.2 ≠ .free
theorem bindL_out {kindOf : Str → Option NameKind} {x : Str} : ∀ {binds : List (Str × Value)} {m : Str → Option Value}, (∀ v, (x, v) ∉ binds) → bindL kindOf binds m x = m x
  | [], _, _ => rfl
  | (n, v) :: r, m, h => by
    unfold bindL
    rw [bindL_out fun w hw => h w (List.mem_cons_of_mem _ hw)]
    split
    · have : x ≠ n := by rintro rfl; exact h v List.mem_cons_self
      simp [this]
    · rfl
theorem bindC_out {kindOf : Str → Option NameKind} {x : Str} : ∀ {binds : List (Str × Value)} {m : Str → Option Value}, (∀ v, (x, v) ∉ binds) → bindC kindOf binds m x = m x
  | [], _, _ => rfl
  | (n, v) :: r, m, h => by
    unfold bindC
    rw [bindC_out fun w hw => h w (List.mem_cons_of_mem _ hw)]
    split
    · rfl
    · have : x ≠ n := by rintro rfl; exact h v List.mem_cons_self
      simp [this]
theorem bindL_get {kindOf : Str → Option NameKind} {x : Str} {v : Value} : ∀ {P : List Str} {vs : List Value} {i : Nat} {m : Str → Option Value}, P.Nodup → P[i]? = some x → vs[i]? = some v → kindOf x = some .local →
    bindL kindOf (P.zip vs) m x = some v
  | [], _, _, _, _, h, _, _ => by simp at h
  | _ :: _, [], _, _, _, _, h, _ => by simp at h
  | p :: P, w :: vs, 0, m, nd, h1, h2, hk => by
    simp at h1 h2; subst h1; subst h2
    show bindL kindOf ((p, w) :: P.zip vs) m p = _
    unfold bindL
    rw [bindL_out fun v hv => (List.nodup_cons.mp nd).1 (List.of_mem_zip hv).1, if_pos hk]
    simp
  | p :: P, w :: vs, i + 1, m, nd, h1, h2, hk => by
    show bindL kindOf ((p, w) :: P.zip vs) m x = _
    unfold bindL
    exact bindL_get (i := i) (List.nodup_cons.mp nd).2 (by simpa using h1) (by simpa using h2) hk
theorem bindC_get {kindOf : Str → Option NameKind} {x : Str} {v : Value} : ∀ {P : List Str} {vs : List Value} {i : Nat} {m : Str → Option Value}, P.Nodup → P[i]? = some x → vs[i]? = some v → kindOf x ≠ some .local →
    bindC kindOf (P.zip vs) m x = some v
  | [], _, _, _, _, h, _, _ => by simp at h
  | _ :: _, [], _, _, _, _, h, _ => by simp at h
  | p :: P, w :: vs, 0, m, nd, h1, h2, hk => by
    simp at h1 h2; subst h1; subst h2
    show bindC kindOf ((p, w) :: P.zip vs) m p = _
    unfold bindC
    rw [bindC_out fun v hv => (List.nodup_cons.mp nd).1 (List.of_mem_zip hv).1, if_neg hk]
    simp
  | p :: P, w :: vs, i + 1, m, nd, h1, h2, hk => by
    show bindC kindOf ((p, w) :: P.zip vs) m x = _
    unfold bindC
    exact bindC_get (i := i) (List.nodup_cons.mp nd).2 (by simpa using h1) (by simpa using h2) hk
def start (N : List Str) (vs : List V) : St := vs.map some ++ List.replicate (N.length - vs.length) none
def cxOf (CX : CXT) (P : Program) (w : World) (K : PySem.W.Frag) (mg : Str → Option Value) (base : Heap) (N : List Str) (qual : Str) (scope : Scope) (f : Addr) (cd : Value) (A : Around) (outer : List Env) (s : Shared) (H : Hp) (E : XK) : Cx where
  prog := P
  w := w
  K := K
  mg := mg
  base := base
  A := A.deeper (envOfC qual scope s.heap.objs.size f cd)
  N := N
  s₀ := s
  H₀ := H
  env := envOfC qual scope s.heap.objs.size f cd
  outer := outer
  stack := envOfC qual scope s.heap.objs.size f cd :: outer
  ex := []
  calm := true
  fn := fun _ => true
  pn := []
  xe := fun e s' => wpAny (model P w) (A.deeper (envOfC qual scope s.heap.objs.size f cd)) (leaving (envOfC qual scope s.heap.objs.size f cd) e) (fun _ s'' => CX outer H s E e s'') (fun e' s'' => CX outer H s E e' s'') s'
theorem cell_has {sc : Scope} {n : Nat} {x : Str} (h : sc.names.lookup x = some .cell) : ∃ c, (cellsFrom n sc.names []).lookup x = some c := by
  have q := PySem.W.cellsFrom_some sc.names n [] (.inl h)
  exact Option.isSome_iff_exists.mp q
theorem inv_start {CX : CXT} {P : Program} {w : World} {K : PySem.W.Frag} {mg : Str → Option Value} {base : Heap} {N ps : List Str} {qual : Str} {scope : Scope} {f : Addr} {cd : Value} {A : Around} {outer : List Env} {s s1 : Shared} {H : Hp} {E : XK} {us : List Value} {vs : List V}
    (S : FnScope N ps scope) (hd : A.handled = none) (e0 : Env0 P w K mg base A outer s H) (hl : vs.length = ps.length) (r : Vals vs us)
    (x : InCallC s s.heap.objs.size (bindL (envOfC qual scope s.heap.objs.size f cd).kindOf (ps.zip us) fun _ => none) (cellsFrom (s.heap.objs.size + 1) scope.names []) (bindC (envOfC qual scope s.heap.objs.size f cd).kindOf (ps.zip us) fun _ => none) s1) :
    Inv (cxOf CX P w K mg base N qual scope f cd A outer s H E) [] (start N vs) H s1 := by
  have hpl : ps.length ≤ N.length := by have := congrArg List.length S.pre; rw [List.length_take] at this; omega
  obtain ⟨h1, tk, rfl, hk⟩ := x.done
  have noA : ∀ b : Addr, b ∉ (cxOf CX P w K mg base N qual scope f cd A outer s H E).ex := fun b z => absurd (show b ∈ ([] : List Addr) from z) (by simp)
  refine ⟨⟨e0.mod, S.kind, rfl, rfl, Nat.le_refl _, fun y z c h1 h2 => ?_, fun y hy => ?_, fun y c _ h => ?_, fun _ => hd, Around.frames_deeper e0.frames, .inr ⟨rfl, rfl⟩, fun b z => absurd z (noA b), e0.bs, e0.bsz, fun b _ _ => noA b, fun b z => absurd z (noA b), e0.funs, e0.frf⟩,
    rfl, e0.bare, Un.kept hk, ⟨_, x.toInCall.ns, fun i y v h1 h2 h3 => ?_⟩, fun y c h => ⟨_, x.cell y c h⟩, e0.hok.fresh (Nat.le_refl _), fun y c h => ?_, fun p hp => absurd (show p ∈ ([] : List (Addr × Obj)) from hp) (by simp), e0.hok.kept hk, ?_⟩
  · exact name_of_addr x.apart (PySem.mem_of_lookup h1) (PySem.mem_of_lookup h2)
  · have hy : scope.names.lookup y = some .cell ∨ scope.names.lookup y = some .free := hy
    rcases hy with hy | hy
    · exact cell_has hy
    · exact absurd rfl (S.nofree _ (PySem.mem_of_lookup hy))
  · exact Nat.le_of_lt (x.above y c (PySem.mem_of_lookup h))
  · have hi : i < vs.length := by
      unfold start at h2
      by_cases hi : i < vs.length
      · exact hi
      · rw [List.getElem?_append_right (by simpa using hi)] at h2
        rw [List.getElem?_replicate] at h2
        split at h2 <;> cases h2
    have ha : vs[i]? = some v := by
      unfold start at h2
      rw [List.getElem?_append_left (by simpa using hi), List.getElem?_map] at h2
      cases e : vs[i]? with
      | none => rw [e] at h2; cases h2
      | some a => rw [e] at h2; cases h2; rfl
    obtain ⟨u, hu, rv⟩ := r.get ha
    have hp : ps[i]? = some y := by
      rw [← S.pre, List.getElem?_take_of_lt (by omega)]; exact h1
    have ndP : ps.Nodup := by rw [← S.pre]; exact S.nd.sublist (List.take_sublist _ _)
    refine ⟨u, rv, ?_⟩
    rcases S.par y (List.mem_of_getElem? hp) with k | k
    · exact .inl ⟨k, bindL_get ndP hp hu k⟩
    · obtain ⟨c, e⟩ := cell_has (n := s.heap.objs.size + 1) k
      refine .inr ⟨.inl k, c, e, ?_⟩
      have q := x.cell y c e
      rw [bindC_get ndP hp hu (by show scope.names.lookup y ≠ _; rw [k]; decide)] at q
      exact q
  · exact e0.hok.fresh (Nat.le_of_lt (x.above y c (PySem.mem_of_lookup h)))
  · unfold start
    show _ = N.length
    rw [List.length_append, List.length_map, List.length_replicate]
    omega
theorem fn_of {CX : CXT} {P : Program} {w : World} {K : PySem.W.Frag} {mg : Str → Option Value} {base : Heap} {k : Nat} {f : Addr} {name qual : Str} {params : Arguments} {body : List Stmt} {scope : Scope} {dV kV doc pm cdv ct oc : Value} {an od : Option Addr}
    {osl : Array (Option Value)} {N ps : List Str} {sp : Sp} (lk : K.lookup f = some ⟨oc, od, .func (PySem.W.fnOf name qual params body scope dV kV doc pm an cdv ct), osl⟩) (hcd : PySem.W.codeIn K cdv qual = true) (S : FnScope N ps scope)
    (len : ∀ vs H Q E, sp vs H Q E → vs.length = ps.length)
    (hbody : ∀ (A : Around) (outer : List Env) (s : Shared) (H : Hp) (vs : List V) (Q : VK) (E : XK), Room k (A.deeper (envOfC qual scope s.heap.objs.size f cdv)) → sp vs H Q E →
      ∃ t, PSs (cxOf CX P w K mg base N qual scope f cdv A outer s H E) body t ∧ t { nx := fun _ H' => Q .non H', rt := Q } (start N vs) H) :
    FnOk P w K mg base CX (k + 1) f (PySem.W.fnOf name qual params body scope dV kV doc pm an cdv ct) ps sp := by
  refine ⟨len, fun A outer s H args us vs Q E hr e0 hb r hsp => ?_⟩
  have hl := len _ _ _ _ hsp
  have KX : K.In s.heap := e0.mod.kin.keeps fun b o e => (e0.bs b o e).1
  have lim : s.heap.NoLimit := e0.mod.nolimit.keeps fun b o e => (e0.bs b o e).1
  have hkind : ∀ y ∈ ps.zip us, scope.names.lookup y.1 = some .local ∨ (scope.names.lookup y.1 = some .cell ∧ ((cellsFrom (s.heap.objs.size + 1) scope.names []).lookup y.1).isSome = true) := fun ⟨n, v⟩ hy => by
    rcases S.par n (List.of_mem_zip hy).1 with q | q
    · exact .inl q
    · exact .inr ⟨q, PySem.W.cellsFrom_some _ _ _ (.inl q)⟩
  refine codeAny_call_function hr.depth (KX _ _ lk) rfl S.co S.gen rfl (PySem.W.codeRec_of KX hcd) (hb _ _ _ _ ?_)
  refine wpAny_newFunctionEnv_cells S.kind hkind fun env he s1 x => ?_
  subst he
  refine ⟨lim.keeps x.toInCall.keep, codeAny_func ?_⟩
  obtain ⟨t, ht, hq⟩ := hbody A outer s H vs Q E (hr.deeper _) hsp
  have I : Inv (cxOf CX P w K mg base N qual scope f cdv A outer s H E) [] (start N vs) H s1 := inv_start S hr.hd e0 hl r x
  refine wpAny_mono (ht [] s1 (start N vs) H _ I hq) (fun fl s' hs => ?_) fun e s' hs => hs
  have fin : ∀ {σ' : St} {H' : Hp} {v : V} {u : Value}, Inv (cxOf CX P w K mg base N qual scope f cdv A outer s H E) [] σ' H' s' → RelV v u → Q v H' → CE outer P w H s Q u s' :=
    fun {σ' H' v u} J rv q => ⟨v, H', J.os, J.bare, J.base, J.hok, rv, q⟩
  cases fl with
  | ret u =>
    obtain ⟨v, σ', H', J, rv, q⟩ := hs
    exact fin J rv q
  | next =>
    obtain ⟨σ', H', J, q⟩ := hs
    exact fin (v := V.non) (u := Value.none) J rfl q
  | brk =>
    obtain ⟨_, _, _, q⟩ := hs
    exact False.elim q
  | cont =>
    obtain ⟨_, _, _, q⟩ := hs
    exact False.elim q
end L2
namespace L2
open PySem PySem.Spec PyProof.Rows
section
variable {X : Cx} {x : Str} {p pos : Pos} {e : Expr} {es : List Expr} {t : TA} {id T : String} {r : List V → Hp → VK → Prop}
def tCB (r : List V → Hp → VK → Prop) (t : TA) : TE := fun σ H Q => t σ H fun vs H1 => r vs H1 Q
theorem pe_callB (hc : CallR X (.builtin id) r) (hg : Gl X x) (hm : X.mg x = none) (hv : bootBuiltins x = some (.builtin id)) (ha : PA X (e :: es) t) (hn : x ≠ "__name__" := by decide) (hdb : (x == ("__debug__" : Str)) = false := by decide)
    (he : starEach (e :: es) X.env = (false, eval e X.env) :: starEach es X.env := by rfl) (hpl : (backTo pos (starEach es X.env)).any (·.1) = false := by rfl) : PE X (.Call (.Name x p) (e :: es) [] pos) (tCB r t) := by
  intro pins s σ H Q I h
  refine wpAny_Call_Name_kw (ld_blt I hg hm hv ?_ hn hdb)
  exact PyProof.Rows.callWith_builtin1 (thn (ha pos pins s σ H _ I h) fun us s1 ⟨vs, H1, I1, r1, q1⟩ => hc pins s1 σ H1 vs us Q I1 r1 q1) he hpl
theorem pe_callTy (hc : CallR X (.type T) r) (hg : Gl X x) (hm : X.mg x = none) (hv : bootBuiltins x = some (.type T)) (ha : PA X (e :: es) t) (hn : x ≠ "__name__" := by decide) (hdb : (x == ("__debug__" : Str)) = false := by decide)
    (he : starEach (e :: es) X.env = (false, eval e X.env) :: starEach es X.env := by rfl) (hpl : (backTo pos (starEach es X.env)).any (·.1) = false := by rfl) : PE X (.Call (.Name x p) (e :: es) [] pos) (tCB r t) := by
  intro pins s σ H Q I h
  refine wpAny_Call_Name_kw (ld_blt I hg hm hv ?_ hn hdb)
  exact PyProof.Rows.callWith_type1 (thn (ha pos pins s σ H _ I h) fun us s1 ⟨vs, H1, I1, r1, q1⟩ => hc pins s1 σ H1 vs us Q I1 r1 q1) he hpl
end
end L2
namespace HT
open PySem PyProof.Rows
section
open PySem.SeqAt
open PySem.AutoSeq1 (wpAny_loadPart')
open PySem.MeetsSeq PySem.MeetsSeq2 PySem.MeetsSeq3
end
section
variable {prog : Program} {w : World} {A : Around} {E : Value → Shared → Prop} {s : Shared}
def sIx (n d : Nat) : Option Int → Nat
  | none => d
  | some v => if v < 0 then (v + (n : Int)).toNat else min v.toNat n
end
end HT
namespace L2
open PySem PySem.Spec PyProof.Rows
abbrev TO := St → Hp → (Option Int → Hp → Prop) → Prop
def PO (X : Cx) (e : Option Expr) (t : TO) : Prop :=
  ∀ (pins : List (Addr × Obj)) (s : Shared) (σ : St) (H : Hp) (Q : Option Int → Hp → Prop), Inv X pins σ H s → t σ H Q →
    wpAny (model X.prog X.w) X.A (evalPart e X.env) (fun u s' => ∃ o H', Inv X pins σ H' s' ∧ IsPart u o ∧ Q o H') X.xe s
def tNoPart : TO := fun _ H Q => Q none H
def tPart (t : TE) : TO := fun σ H Q => t σ H fun x H1 => ∃ i, x = .int i ∧ Q (some i) H1
section
variable {X : Cx} {e : Expr} {te : TE} {lo hi : Option Expr} {tl th : TO} {pos p2 : Pos}
theorem po_none : PO X none tNoPart := by
  intro pins s σ H Q I h
  rw [evalPart_none]
  exact wpAny_pure ⟨none, H, I, .none, h⟩
theorem po_some (h : PE X e te) : PO X (some e) (tPart te) := by
  intro pins s σ H Q I hw
  rw [evalPart_some]
  refine thn (h pins s σ H _ I hw) fun u s1 ⟨x, H1, I1, r1, q1⟩ => ?_
  obtain ⟨i, rfl, q⟩ := q1
  obtain ⟨t, rfl⟩ := r1
  exact ⟨some i, H1, I1, .int i t, q⟩
def SlR (X : Cx) (r : V → Option Int → Option Int → Hp → VK → Prop) : Prop :=
  ∀ (pins : List (Addr × Obj)) (s : Shared) (σ : St) (H : Hp) (x : V) (v vl vu : Value) (lo hi : Option Int) (sl : Addr) (Q : VK), Inv X pins σ H s → RelV x v → s.heap.IsSliceOf sl vl vu .none → IsPart vl lo → IsPart vu hi → r x lo hi H Q →
    ∃ T id, typeLookup (.type T) "__getitem__" = pure (some (.builtin id)) ∧ s.TypeIs v T ∧ wpAny (model X.prog X.w) X.A (getItem v (.ref sl)) (EP X pins σ Q) X.xe s
def tSl (r : V → Option Int → Option Int → Hp → VK → Prop) (te : TE) (tl th : TO) : TE := fun σ H Q => te σ H fun x H1 => tl σ H1 fun l H2 => th σ H2 fun u H3 => r x l u H3 Q
theorem pe_slice {r : V → Option Int → Option Int → Hp → VK → Prop} (hr : SlR X r) (he : PE X e te) (hl : PO X lo tl) (hu : PO X hi th) : PE X (.Subscript e (.Slice lo hi none p2) pos) (tSl r te tl th) := by
  intro pins s σ H Q I h
  refine Subscript_ (thn (he pins s σ H _ I h) fun v s1 ⟨x, H1, I1, r1, q1⟩ => ?_)
  refine wpAny_Slice (thn (hl pins s1 σ H1 _ I1 q1) fun vl s2 ⟨l, H2, I2, pl, q2⟩ => thn (hu pins s2 σ H2 _ I2 q2) fun vu s3 ⟨u, H3, I3, pu, q3⟩ => ?_)
  rw [evalPart_none]
  refine wpAny_pure ?_
  have I4 : Inv X pins σ H3 { s3 with heap := s3.heap.push { cls := .type "slice", data := .fields #[vl, vu, .none] } } := I3.kept (t' := s3.toks) fun b ob q => Heap.get?_push_of_some _ q
  obtain ⟨T, id, hT, ht, hg⟩ := hr pins { s3 with heap := s3.heap.push { cls := .type "slice", data := .fields #[vl, vu, .none] } } σ H3 x v vl vu l u s3.heap.objs.size Q I4 r1 (Heap.IsSliceOf.new ..) pl pu q3
  show wpAny (model X.prog X.w) X.A (subscriptTail e (.Slice lo hi none p2) v (.ref s3.heap.objs.size)) (EP X pins σ Q) X.xe { s3 with heap := s3.heap.push { cls := .type "slice", data := .fields #[vl, vu, .none] } }
  exact tail_any (ops := [.ref s3.heap.objs.size, v]) ht hT hg (by with_unfolding_all rfl)
def cutV (xs : List V) (lo hi : Option Int) : List V := (xs.drop (HT.sIx xs.length 0 lo)).take (HT.sIx xs.length xs.length hi - HT.sIx xs.length 0 lo)
end
end L2
namespace L2
open PySem PySem.Spec PyProof.Rows
def ixN (n : Nat) (i : Int) : Option Nat := if 0 ≤ i then (if i < n then some i.toNat else none) else if -(n : Int) ≤ i then some (i + n).toNat else none
def atI {α : Type} (xs : List α) (i : Int) : Option α := (ixN xs.length i).bind fun j => xs[j]?
theorem ixN_seq {n : Nat} {i : Int} {j : Nat} (h : ixN n i = some j) : seqIndex? i n = some j ∧ j < n ∧ -(n : Int) ≤ i ∧ i < n := by
  unfold ixN at h
  by_cases h0 : 0 ≤ i
  · rw [if_pos h0] at h
    by_cases h1 : i < n
    · rw [if_pos h1] at h
      have e : i.toNat = j := Option.some.inj h
      exact ⟨by rw [seqIndex_of h0 h1, e], by omega, by omega, h1⟩
    · rw [if_neg h1] at h; cases h
  · rw [if_neg h0] at h
    by_cases h1 : -(n : Int) ≤ i
    · rw [if_pos h1] at h
      have e : (i + n).toNat = j := Option.some.inj h
      exact ⟨by rw [seqIndex_neg (by omega) h1, e], by omega, h1, by omega⟩
    · rw [if_neg h1] at h; cases h
theorem atI_get {α : Type} {xs : List α} {i : Int} {v : α} (h : atI xs i = some v) : ∃ j, seqIndex? i xs.length = some j ∧ xs[j]? = some v ∧ j < xs.length ∧ -(xs.length : Int) ≤ i ∧ i < xs.length := by
  unfold atI at h
  cases e : ixN xs.length i with
  | none => rw [e] at h; cases h
  | some j =>
    rw [e] at h
    obtain ⟨h1, h2, h3, h4⟩ := ixN_seq e
    exact ⟨j, h1, h, h2, h3, h4⟩
def PlainIx (b : Expr) : Prop := ∀ o i, subscripted b false o i = operate [o, i] (getItem o i)
def IxR (X : Cx) (r : R2) : Prop :=
  ∀ (value slice : Expr) (pins : List (Addr × Obj)) (s : Shared) (σ : St) (H : Hp) (x y : V) (v u : Value) (Q : VK), Inv X pins σ H s → RelV x v → RelV y u → r x y H Q →
    subscripted slice false v u = operate [v, u] (getItem v u) → wpAny (model X.prog X.w) X.A (subscriptTail value slice v u) (EP X pins σ Q) X.xe s
def MtR (X : Cx) (id : String) (r : V → List V → Hp → VK → Prop) : Prop :=
  ∀ (pins : List (Addr × Obj)) (s : Shared) (σ : St) (H : Hp) (x : V) (xs : List V) (v : Value) (us : List Value) (Q : VK), Inv X pins σ H s → RelV x v → Vals xs us → r x xs H Q →
    wpAny (model X.prog X.w) X.A (call (.builtin id) (v :: us)) (EP X pins σ Q) X.xe s
section
variable {X : Cx} {a b : Expr} {ta tb : TE} {pos : Pos}
theorem pe_ix {r : R2} (hr : IxR X r) (ha : PE X a ta) (hb : PE X b tb) (hs : PlainIx b) : PE X (.Subscript a b pos) (tOp r ta tb) := by
  intro pins s σ H Q I h
  exact Subscript_ (binT ha hb I h fun v u s2 x y H2 I2 rx ry q => hr a b pins s2 σ H2 x y v u Q I2 rx ry q (hs _ _))
def rIxL (K : PySem.W.Frag) : R2 := fun x y H Q => ∃ p xs i v, x = .ref p ∧ y = .int i ∧ SqL K H p xs ∧ atI xs i = some v ∧ Q v H
def rIxT (K : PySem.W.Frag) : R2 := fun x y H Q => ∃ p xs i v, x = .ref p ∧ y = .int i ∧ SqT K H p xs ∧ atI xs i = some v ∧ Q v H
def rIxS : R2 := fun x y H Q => ∃ z i c, x = .str z ∧ y = .int i ∧ z.length ≤ sizeLine ∧ atI z.cps.toList i = some c ∧ Q (.str ⟨#[c]⟩) H
theorem ix_list : IxR X (rIxL X.K) := by
  intro value slice pins s σ H x y v u Q I rx ry h hs
  obtain ⟨p, xs, i, z, rfl, rfl, hq, he, q⟩ := h
  cases rx
  obtain ⟨t, rfl⟩ := ry
  obtain ⟨its, r, pl, hz⟩ := I.list hq
  obtain ⟨j, h1, h2, h3, h4, h5⟩ := atI_get he
  obtain ⟨w, ew, rw'⟩ := r.get h2
  have hl := r.length
  have hn := line63
  have fin : EP X pins σ Q w s := ⟨z, H, I, rw', q⟩
  by_cases h0 : 0 ≤ i
  · have hj : i.toNat = j := by
      rw [seqIndex_of h0 h5] at h1
      exact Option.some.inj h1
    exact item_listR pl.isList h0 (by omega) (by rw [hj]; simpa using ew) fin hs
  · have hj : (i + (its.toArray.size : Int)).toNat = j := by
      rw [seqIndex_neg (by omega) h4] at h1
      rw [List.size_toArray, ← hl]
      exact Option.some.inj h1
    exact subscriptTail_builtinR (x := w) pl.isList.typeIs slot_list_getitem.lookup
      (wpAny_getItem_list_neg (Q := fun r s' => r = w ∧ EP X pins σ Q r s') pl.isList (by omega) (by rw [List.size_toArray] <;> omega) (by omega) (by rw [hj]; simpa using ew) ⟨rfl, fin⟩) hs
theorem ix_tup : IxR X (rIxT X.K) := by
  intro value slice pins s σ H x y v u Q I rx ry h hs
  obtain ⟨p, xs, i, z, rfl, rfl, hq, he, q⟩ := h
  cases rx
  obtain ⟨t, rfl⟩ := ry
  obtain ⟨its, r, pl, hz⟩ := I.tuple hq
  obtain ⟨j, h1, h2, h3, h4, h5⟩ := atI_get he
  obtain ⟨w, ew, rw'⟩ := r.get h2
  have hl := r.length
  have hn := line63
  have fin : EP X pins σ Q w s := ⟨z, H, I, rw', q⟩
  exact subscriptTail_builtinR (x := w) pl.typeIs slot_tuple_getitem.lookup
    (getItem_tuple (j := j) (Q := fun r s' => r = w ∧ EP X pins σ Q r s') pl (by omega) (by omega) (by rw [List.size_toArray, ← hl]; exact h1) (by simpa using ew) ⟨rfl, fin⟩) hs
theorem ix_str : IxR X rIxS := by
  intro value slice pins s σ H x y v u Q I rx ry h hs
  obtain ⟨z, i, c, rfl, rfl, hz, he, q⟩ := h
  obtain ⟨t, rfl⟩ := rx
  obtain ⟨t', rfl⟩ := ry
  obtain ⟨j, h1, h2, h3, h4, h5⟩ := atI_get he
  have hl : z.cps.toList.length = z.length := by simp [Str.length]
  rw [hl] at h1 h4 h5
  have hn := line63
  exact tail_any (typeIs_str s z t) slot_str_getitem.lookup (getItem_str (c := c) (by
    have e1 : decide (i < -(2 ^ 63 : Int)) = false := decide_eq_false (by omega)
    have e2 : decide (i ≥ 2 ^ 63) = false := decide_eq_false (by omega)
    rw [e1, e2, Bool.or_false]) (by rw [h1]; simpa using h2) ⟨.str ⟨#[c]⟩, H, I.tok _, ⟨_, rfl⟩, q⟩) hs
theorem mapSeq_set (its : List Value) (n j : Nat) (u : Value) : Obj.mapSeq (·.setIfInBounds j u) { cls := .type "list", data := .seq its.toArray n } = { cls := .type "list", data := .seq (its.set j u).toArray n } := by
  simp [Obj.mapSeq]
theorem Inv.lst {pins : List (Addr × Obj)} {σ : St} {H : Hp} {s : Shared} {p : Addr} {xs : List V} (I : Inv X pins σ H s) (h : H p = some (.lst xs)) :
    ∃ (its : List Value) (n : Nat), Vals xs its ∧ s.heap.get? p = some { cls := .type "list", data := .seq its.toArray n } ∧ xs.length ≤ sizeLine := by
  obtain ⟨z, its, n, r, e⟩ := I.hok p _ h
  exact ⟨its, n, r, e, z⟩
theorem Inv.lstUpd {pins : List (Addr × Obj)} {σ : St} {H : Hp} {s : Shared} {p : Addr} {xs ys : List V} {its its' : List Value} {n n' : Nat} {f : Obj → Obj} (I : Inv X pins σ H s) (h : H p = some (.lst xs))
    (ho : s.heap.get? p = some { cls := .type "list", data := .seq its.toArray n }) (hf : f { cls := .type "list", data := .seq its.toArray n } = { cls := .type "list", data := .seq its'.toArray n' }) (r : Vals ys its') (hz : ys.length ≤ sizeLine) (t : Nat) :
    Inv X pins σ (upd H p (.lst ys)) { s with heap := s.heap.update p f, toks := t } := by
  have e : (s.heap.update p f).get? p = some { cls := .type "list", data := .seq its'.toArray n' } := by
    rw [Heap.get?_update_self f ho (by rw [hf] <;> rfl), hf]
  refine I.write (x := p) (e := p) (by rw [h]; trivial) (.inl rfl) (fun b u hb q => (Heap.get?_update_other _ _ (Ne.symm hb)).trans q) ⟨_, e⟩ ?_
  exact ⟨hz, its', n', r, e⟩
def rSetL : V → V → V → Hp → (Hp → Prop) → Prop := fun o i v H Q => ∃ p xs k j, o = .ref p ∧ i = .int k ∧ H p = some (.lst xs) ∧ ixN xs.length k = some j ∧ Q (upd H p (.lst (xs.set j v)))
theorem set_list : PSet X rSetL := by
  intro pins s σ H o i v ov iv u Q I ro ri rv h
  obtain ⟨p, xs, k, j, rfl, rfl, hp, hj, q⟩ := h
  cases ro
  obtain ⟨t, rfl⟩ := ri
  obtain ⟨its, n, r, ho, hz⟩ := I.lst hp
  obtain ⟨h1, h2, h3, h4⟩ := ixN_seq hj
  have hl := r.length
  have hn := line63
  have I' : Inv X pins σ (upd H p (.lst (xs.set j v))) { s with heap := s.heap.update p (Obj.mapSeq (·.setIfInBounds j u)) } :=
    I.lstUpd hp ho (mapSeq_set its n j u) (r.set rv j) (by rw [List.length_set]; exact hz) s.toks
  by_cases h0 : 0 ≤ k
  · have hk : k.toNat = j := by
      rw [seqIndex_of h0 h4] at h1
      exact Option.some.inj h1
    exact PySem.W.ki_setAt ho h0 (by omega) (by rw [List.size_toArray, ← hl]; exact h4) (by rw [hk]; exact ⟨_, I', q⟩)
  · have hk : (k + (its.toArray.size : Int)).toNat = j := by
      rw [seqIndex_neg (by omega) h3] at h1
      rw [List.size_toArray, ← hl]
      exact Option.some.inj h1
    exact PySem.W.ki_setBack ho (by omega) (by rw [List.size_toArray, ← hl]; exact h3) (by omega) (by rw [hk]; exact ⟨_, I', q⟩)
def rSlL (K : PySem.W.Frag) : V → Option Int → Option Int → Hp → VK → Prop := fun x lo hi H Q => ∃ a xs, x = .ref a ∧ SqL K H a xs ∧ ∀ p, H p = none → Q (.ref p) (upd H p (.lst (cutV xs lo hi)))
def flatV : V → Bool
  | .non => true
  | .bl _ => true
  | .int _ => true
  | .str _ => true
  | _ => false
def eqV : V → V → Bool
  | .non, .non => true
  | .bl a, .bl b => a == b
  | .bl a, .int b => (if a then 1 else 0) == b
  | .int a, .bl b => a == (if b then 1 else 0)
  | .int a, .int b => a == b
  | .str a, .str b => a == b
  | _, _ => false
theorem eqAt_V {A : Around} {s : Shared} {y x : V} {u v : Value} (ry : RelV y u) (rx : RelV x v) (fy : flatV y = true) (fx : flatV x = true) : SeqAt.EqAt A s u v (eqV y x) := by
  cases y with
  | non =>
    cases ry
    cases x with
    | non => cases rx; exact SeqAt.EqAt.same _
    | bl b => cases rx; exact SeqAt.EqAt.none_bool b
    | int b => obtain ⟨t, rfl⟩ := rx; exact SeqAt.EqAt.none_int b t
    | str b => obtain ⟨t, rfl⟩ := rx; exact SeqAt.EqAt.none_str b t
    | _ => exact absurd (show false = true from fx) Bool.false_ne_true
  | bl a =>
    cases ry
    cases x with
    | non => cases rx; exact SeqAt.EqAt.bool_none a
    | bl b => cases rx; exact SeqAt.EqAt.bool_bool a b
    | int b => obtain ⟨t, rfl⟩ := rx; exact SeqAt.EqAt.bool_int a b t
    | str b => obtain ⟨t, rfl⟩ := rx; exact SeqAt.EqAt.bool_str a b t
    | _ => exact absurd (show false = true from fx) Bool.false_ne_true
  | int a =>
    obtain ⟨t', rfl⟩ := ry
    cases x with
    | non => cases rx; exact SeqAt.EqAt.int_none a t'
    | bl b => cases rx; exact SeqAt.EqAt.int_bool a t' b
    | int b => obtain ⟨t, rfl⟩ := rx; exact SeqAt.EqAt.int_int a t' b t
    | str b => obtain ⟨t, rfl⟩ := rx; exact SeqAt.EqAt.int_str a t' b t
    | _ => exact absurd (show false = true from fx) Bool.false_ne_true
  | str a =>
    obtain ⟨t', rfl⟩ := ry
    cases x with
    | non => cases rx; exact SeqAt.EqAt.str_none a t'
    | bl b => cases rx; exact SeqAt.EqAt.str_bool a t' b
    | int b => obtain ⟨t, rfl⟩ := rx; exact SeqAt.EqAt.str_int a t' b t
    | str b => obtain ⟨t, rfl⟩ := rx; exact SeqAt.EqAt.str_str a t' b t
    | _ => exact absurd (show false = true from fx) Bool.false_ne_true
  | _ => exact absurd (show false = true from fy) Bool.false_ne_true
def eqU (x : V) (u : Value) : Bool := match u with
  | .none => eqV .non x
  | .bool b => eqV (.bl b) x
  | .int i _ => eqV (.int i) x
  | .str z _ => eqV (.str z) x
  | _ => false
theorem eqU_of {x y : V} {u : Value} (r : RelV y u) (f : flatV y = true) : eqU x u = eqV y x := by
  cases y with
  | non => cases r; rfl
  | bl b => cases r; rfl
  | int i => obtain ⟨t, rfl⟩ := r; rfl
  | str z => obtain ⟨t, rfl⟩ := r; rfl
  | _ => exact absurd (show false = true from f) Bool.false_ne_true
theorem any_eqU {x : V} : ∀ {xs : List V} {us : List Value}, Vals xs us → xs.all flatV = true → us.any (eqU x) = xs.any fun y => eqV y x
  | _, _, .nil, _ => rfl
  | y :: xs, u :: us, .cons r t, f => by
    rw [List.all_cons, Bool.and_eq_true] at f
    rw [List.any_cons, List.any_cons, eqU_of r f.1, any_eqU t f.2]
theorem mem_eqAt {A : Around} {s : Shared} {x : V} {v : Value} (rx : RelV x v) (fx : flatV x = true) : ∀ {xs : List V} {us : List Value}, Vals xs us → xs.all flatV = true → ∀ u ∈ us, SeqAt.EqAt A s u v (eqU x u)
  | _, _, .nil, _ => fun u hu => by cases hu
  | y :: xs, u :: us, .cons r t, f => fun u' hu => by
    rw [List.all_cons, Bool.and_eq_true] at f
    rcases List.mem_cons.mp hu with rfl | hu
    · rw [eqU_of r f.1]; exact eqAt_V r rx f.1 fx
    · exact mem_eqAt rx fx t f.2 u' hu
def inV (x : V) (xs : List V) : Bool := xs.any fun y => eqV y x
def rIn (K : PySem.W.Frag) (neg : Bool) : R2 := fun x y H Q => ∃ p xs, y = .ref p ∧ (SqL K H p xs ∨ SqT K H p xs) ∧ flatV x = true ∧ xs.all flatV = true ∧ Q (.bl (if neg then !inV x xs else inV x xs)) H
theorem op_in_seq : OpR X (compareOp .In) (rIn X.K false) := by
  intro pins s σ H x y v u Q I rx ry h
  obtain ⟨p, xs, rfl, hq, fx, fs, q⟩ := h
  cases ry
  rcases hq with hq | hq
  · obtain ⟨its, r, pl, hz⟩ := I.list hq
    refine SeqAt.in_listAt (eqU x) pl.isList (fun w hw => mem_eqAt rx fx r fs w (by simpa using hw)) ⟨.bl _, H, I, rfl, ?_⟩
    rw [show its.toArray.any (eqU x) = its.any (eqU x) by simp, any_eqU r fs]
    exact q
  · obtain ⟨its, r, pl, hz⟩ := I.tuple hq
    refine SeqAt.in_tupleAt (eqU x) pl (fun w hw => mem_eqAt rx fx r fs w (by simpa using hw)) ⟨.bl _, H, I, rfl, ?_⟩
    rw [show its.toArray.any (eqU x) = its.any (eqU x) by simp, any_eqU r fs]
    exact q
theorem op_notIn_str : OpR X (compareOp .NotIn) (fun x y H Q => ∃ i j, x = .str i ∧ y = .str j ∧ Q (.bl (!(!(Builtin.Str.occurrences j i 0 j.length 1).isEmpty))) H) := by
  intro pins s σ H x y v u Q I rx ry h
  obtain ⟨i, j, rfl, rfl, q⟩ := h
  obtain ⟨t, rfl⟩ := rx
  obtain ⟨t', rfl⟩ := ry
  exact notIn_str ⟨.bl _, H, I, rfl, q⟩
theorem call_len_seq : CallR X (.builtin "len") (fun xs H Q => ∃ p ys, xs = [.ref p] ∧ (SqL X.K H p ys ∨ SqT X.K H p ys) ∧ Q (.int ys.length) H) := by
  intro pins s σ H xs us Q I r h
  obtain ⟨p, ys, rfl, hq, q⟩ := h
  obtain ⟨u, rfl, rx⟩ := vals1 r
  cases rx
  have hn := line63
  rcases hq with hq | hq
  · obtain ⟨its, r', pl, hz⟩ := I.list hq
    have hlen := r'.length
    exact Calls.call_len_list pl.isList (by simp only [List.size_toArray] <;> omega) ⟨.int ys.length, H, I.tok _, ⟨s.toks + 1, by rw [List.size_toArray, hlen]⟩, q⟩
  · obtain ⟨its, r', pl, hz⟩ := I.tuple hq
    have hlen := r'.length
    exact len_tuple pl (by simp only [List.size_toArray] <;> omega) ⟨.int ys.length, H, I.tok _, ⟨s.toks + 1, by rw [List.size_toArray, hlen]⟩, q⟩
theorem call_len_str : CallR X (.builtin "len") (fun xs H Q => ∃ z, xs = [.str z] ∧ z.length ≤ sizeLine ∧ Q (.int z.length) H) := by
  intro pins s σ H xs us Q I r h
  obtain ⟨z, rfl, hz, q⟩ := h
  obtain ⟨u, rfl, t, rfl⟩ := vals1 r
  have hn := line63
  exact len_str (by omega) ⟨.int z.length, H, I.tok _, ⟨_, rfl⟩, q⟩
theorem call_tuple_of : CallR X (.type "tuple") (fun xs H Q => ∃ p ys, xs = [.ref p] ∧ ((SqL X.K H p ys ∧ ∀ l, H l = none → Q (.ref l) (upd H l (.tup ys))) ∨ (SqT X.K H p ys ∧ Q (.ref p) H))) := by
  intro pins s σ H xs us Q I r h
  obtain ⟨p, ys, rfl, h⟩ := h
  obtain ⟨u, rfl, rx⟩ := vals1 r
  cases rx
  rcases h with ⟨hq, q⟩ | ⟨hq, q⟩
  · obtain ⟨its, r', pl, hz⟩ := I.list hq
    have hlen := r'.length
    refine call_tuple_list pl.isList (fun h' kp => ?_) (by simp only [List.size_toArray] <;> omega)
    have I1 : Inv X pins σ H { s with heap := h' } := I.kept (t' := s.toks) kp
    have I2 : Inv X pins σ (upd H h'.objs.size (.tup ys)) { s with heap := h'.push { cls := .type "tuple", data := .seq its.toArray } } :=
      I1.laid (t' := s.toks) (fun b o e => Heap.get?_push_of_some _ e) (Nat.le_refl _) (show ObjOk X.prog X.w _ _ _ (.tup ys) from ⟨hz, its, r', IsTup.new _ _⟩)
    exact ⟨.ref h'.objs.size, _, I2, rfl, q _ (I1.hok.fresh (Nat.le_refl _))⟩
  · obtain ⟨its, r', pl, hz⟩ := I.tuple hq
    exact call_tuple_same pl ⟨.ref p, H, I, rfl, q⟩
def tyV (K : PySem.W.Frag) (T : String) (x : V) (H : Hp) : Prop := match x with
  | .str _ => T = "str"
  | .int _ => T = "int"
  | .ref p => (T = "list" ∧ ∃ xs, SqL K H p xs) ∨ (T = "tuple" ∧ ∃ o, K.lookup p = some o ∧ o.cls = .type "tuple" ∧ o.dict = none) ∨
      (T = "dict" ∧ ((∃ kvs, H p = some (.dK kvs)) ∨ ∃ kvs, H p = some (.dT kvs))) ∨ (T = "set" ∧ ∃ S n, H p = some (.set S n))
  | _ => False
theorem tyV_is {pins : List (Addr × Obj)} {σ : St} {H : Hp} {s : Shared} {T : String} {x : V} {v : Value} (I : Inv X pins σ H s) (r : RelV x v) (ty : tyV X.K T x H) :
    s.TypeIs v T ∧ ∀ a, v = .ref a → ∃ ob, s.heap.get? a = some ob ∧ ob.dict = none := by
  cases x with
  | str z =>
    obtain ⟨t, rfl⟩ := r
    cases (show T = "str" from ty)
    exact ⟨typeIs_str s z t, fun _ e => nomatch e⟩
  | int i =>
    obtain ⟨t, rfl⟩ := r
    cases (show T = "int" from ty)
    exact ⟨typeIs_int s i t, fun _ e => nomatch e⟩
  | ref p =>
    cases r
    rcases ty with ⟨rfl, xs, hq⟩ | ⟨rfl, o, hk, hc, hd⟩ | ⟨rfl, hk⟩ | ⟨rfl, S, n, hk⟩
    · obtain ⟨its, _, pl, _⟩ := I.list hq
      refine ⟨pl.isList.typeIs, fun a e => ?_⟩
      cases e
      obtain ⟨o, n, e, c, hd, _⟩ := pl
      exact ⟨o, e, hd⟩
    · refine ⟨⟨o, I.kIn p o hk, hc⟩, fun a e => ?_⟩
      cases e
      exact ⟨o, I.kIn _ o hk, hd⟩
    · have z : ∃ o, s.heap.get? p = some o ∧ o.ExactDict := by
        rcases hk with ⟨kvs, hk⟩ | ⟨kvs, hk⟩
        · obtain ⟨_, _, _, _, o, _, _, e, ex, _⟩ := I.hok p _ hk
          exact ⟨o, e, ex⟩
        · obtain ⟨_, _, _, _, o, _, _, e, ex, _⟩ := I.hok p _ hk
          exact ⟨o, e, ex⟩
      obtain ⟨o, e, ex⟩ := z
      refine ⟨⟨o, e, ex.1⟩, fun a e2 => ?_⟩
      cases e2
      exact ⟨o, e, ex.2.1⟩
    · obtain ⟨o, _, _, _, e, ex, _⟩ := I.hok p _ hk
      refine ⟨⟨o, e, ex.1⟩, fun a e2 => ?_⟩
      cases e2
      exact ⟨o, e, ex.2.1⟩
  | _ => exact False.elim ty
def tBM0 (K : PySem.W.Frag) (T : String) (r : V → List V → Hp → VK → Prop) (to : TE) : TE := fun σ H Q => to σ H fun x H1 => tyV K T x H1 ∧ r x [] H1 Q
def tBM (K : PySem.W.Frag) (T : String) (r : V → List V → Hp → VK → Prop) (to : TE) (t : TA) : TE := fun σ H Q => to σ H fun x H1 => tyV K T x H1 ∧ t σ H1 fun xs H2 => r x xs H2 Q
variable {o e : Expr} {es : List Expr} {to : TE} {t : TA} {name : Str} {apos cpos : Pos} {T id : String} {r : V → List V → Hp → VK → Prop}
theorem pe_bm (pa : PlainAttrs T) (slot : Slot T name id) (hty : typeOf (.builtin id) = pure (.type "method_descriptor")) (hm : MtR X id r) (ho : PE X o to) (ha : PA X (e :: es) t)
    (hbase : attributeBase o name X.env (eval o X.env) = eval o X.env := by rfl)
    (hfew : ((backTo cpos (starEach (e :: es) X.env)).all (fun x => !x.1) && (backToKw cpos (keywordEach [] X.env)).all (fun x => x.1.isSome)
      && decide ((e :: es).length + ([] : List Keyword).length + (if ([] : List Keyword).isEmpty then 0 else 1) < 30)) = true := by rfl)
    (hline : (apos.endLine == cpos.line) = true := by rfl) (hs : starEach (e :: es) X.env = (false, eval e X.env) :: starEach es X.env := by rfl) (hplain : (backTo cpos (starEach es X.env)).any (·.1) = false := by rfl) :
    PE X (.Call (.Attribute o name apos) (e :: es) [] cpos) (tBM X.K T r to t) := by
  intro pins s σ H Q I h
  refine wpAny_Call_method_late hbase hfew hline rfl (thn (ho pins s σ H _ I h) fun v s1 ⟨x, H1, I1, r1, ty, q1⟩ => ?_)
  obtain ⟨h1, h2⟩ := tyV_is I1 r1 ty
  refine ⟨T, id, pa, slot, hty, h1, h2, ?_⟩
  have hA := ha cpos pins s1 σ H1 _ I1 q1
  rw [hs] at hA ⊢
  refine Calls.callWith_builtin (by show (false || (backTo cpos (starEach es X.env)).any (·.1)) = false; rw [hplain] <;> rfl) (Calls.evalArgs_plain ?_)
  exact thn hA fun us s2 ⟨vs, H2, I2, r2, q2⟩ => hm pins s2 σ H2 x vs v us Q I2 r1 r2 q2
/- xs.append(e), list.index on a module's tuple .. are MtR facts of 06m -/
end
end L2
namespace L2
open PySem PySem.Spec PyProof.Rows
def MtM (X : Cx) (id : String) (r : V → List V → Hp → VK → Prop) : Prop :=
  ∀ (pins : List (Addr × Obj)) (s : Shared) (σ : St) (H : Hp) (x : V) (xs : List V) (v : Value) (us : List Value) (Q : VK), Inv X pins σ H s → RelV x v → Vals xs us → r x xs H Q →
    wpAny (model X.prog X.w) X.A (call (.builtin id) (v :: us)) (EP X pins σ Q) X.xe s
theorem Vals.one : ∀ {x : V} {us : List Value}, Vals [x] us → ∃ u, us = [u] ∧ RelV x u
  | _, _, .cons r .nil => ⟨_, rfl, r⟩
section
variable {X : Cx} {pins : List (Addr × Obj)} {σ : St} {H : Hp} {s : Shared} {l b : Addr} {xs ys zs : List V}
theorem Inv.lset {its its' : List Value} {n : Nat} {f : Array Value → Array Value} {t' : Nat} (I : Inv X pins σ H s) (hH : H l = some (.lst xs))
    (e : s.heap.get? l = some { cls := .type "list", data := .seq its.toArray n }) (hf : f its.toArray = its'.toArray) (hv : Vals ys its') (hz : ys.length ≤ sizeLine) :
    Inv X pins σ (upd H l (.lst ys)) { s with heap := s.heap.update l (Obj.mapSeq f), toks := t' } := by
  have q := PySem.IsL.update e f
  rw [hf] at q
  refine I.write (x := l) (e := l) (by rw [hH]; exact trivial) (.inl rfl) (fun b' u hb hu => (Heap.get?_update_other s.heap (Obj.mapSeq f) (Ne.symm hb)).trans hu) ⟨_, q⟩ ?_
  exact ⟨hz, its', _, hv, q⟩
theorem Inv.lnew {its : List Value} {t' : Nat} (I : Inv X pins σ H s) (hv : Vals ys its) (hz : ys.length ≤ sizeLine) :
    Inv X pins σ (upd H s.heap.objs.size (.lst ys)) { s with heap := s.heap.push { cls := .type "list", data := .seq its.toArray }, toks := t' } :=
  I.laid (fun _ _ q => Heap.get?_push_of_some _ q) (Nat.le_refl _) ⟨hz, its, 0, hv, Heap.get?_push_size _ rfl⟩
theorem Inv.fresh (I : Inv X pins σ H s) : H s.heap.objs.size = none := I.hok.fresh (Nat.le_refl _)
theorem Inv.lstM (I : Inv X pins σ H s) (hH : H l = some (.lst xs)) : xs.length ≤ sizeLine ∧ ∃ (its : List Value) (n : Nat), Vals xs its ∧ xs.length = its.length ∧ s.heap.get? l = some { cls := .type "list", data := .seq its.toArray n } := by
  obtain ⟨z, its, n, r, e⟩ := I.hok l _ hH
  exact ⟨z, its, n, r, r.length, e⟩
end
section
variable {X : Cx}
def rAppend : V → List V → Hp → VK → Prop := fun x vs H Q => ∃ l xs y, x = .ref l ∧ vs = [y] ∧ H l = some (.lst xs) ∧ xs.length < sizeLine ∧ Q .non (upd H l (.lst (xs ++ [y])))
theorem mt_append : MtM X "list.append" rAppend := by
  intro pins s σ H x vs v us Q I rx rv h
  obtain ⟨l, xs, y, rfl, rfl, hH, hz, q⟩ := h
  cases rx
  obtain ⟨u, rfl, ru⟩ := rv.one
  obtain ⟨z, its, n, r, hl, e⟩ := I.lstM hH
  refine call_meets F.slot_list_append ⟨_, e, rfl⟩ F.entry_list_append (F.args_list_append_2 _ _) (PySem.list_append l its.toArray n u (by rw [List.size_toArray]; omega)) ⟨e, ?_⟩
  refine ⟨.non, _, I.lset (its' := its ++ [u]) hH e (by simp) (r.append (.cons ru .nil)) ?_, rfl, q⟩
  rw [List.length_append, List.length_singleton]
  omega
def rReverse : V → List V → Hp → VK → Prop := fun x vs H Q => ∃ l xs, x = .ref l ∧ vs = [] ∧ H l = some (.lst xs) ∧ Q .non (upd H l (.lst xs.reverse))
def rCat : R2 := fun x y H Q => ∃ l b xs zs, x = .ref l ∧ y = .ref b ∧ H l = some (.lst xs) ∧ H b = some (.lst zs) ∧ xs.length + zs.length ≤ sizeLine ∧ ∀ p, H p = none → Q (.ref p) (upd H p (.lst (xs ++ zs)))
theorem op_cat : OpR X (binaryOp .Add) rCat := by
  intro pins s σ H x y v u Q I rx ry h
  obtain ⟨l, b, xs, zs, rfl, rfl, hH, hB, hz, q⟩ := h
  cases rx
  cases ry
  obtain ⟨z, its, n, r, hl, e⟩ := I.lstM hH
  obtain ⟨z2, its2, n2, r2, hl2, e2⟩ := I.lstM hB
  refine PySem.P.add_list e e2 ?_ (by rw [List.size_toArray, List.size_toArray]; omega)
  have ea : its.toArray ++ its2.toArray = (its ++ its2).toArray := by simp
  rw [ea]
  exact ⟨.ref _, _, I.lnew (t' := s.toks) (r.append r2) (by rw [List.length_append]; omega), rfl, q _ I.fresh⟩
end
section
variable {prog : Program} {w : World} {A : Around} {E : Value → Shared → Prop} {s : Shared}
end
section
variable {X : Cx}
end
end L2
namespace Att
open PySem PySem.W PySem.Calls PyProof.Rows
theorem ints_of_wellAll {P : Params} {h : Heap} : ∀ (ns : List Int) (vs : List Value), WellAll P h vs (ns.map WData.int) → IntsAre vs ns := by
  intro ns
  induction ns with
  | nil =>
    intro vs w
    rw [List.map_nil] at w
    cases w
    exact .nil
  | cons n ns ih =>
    intro vs w
    rw [List.map_cons] at w
    cases w with
    | cons a b =>
      cases a
      exact .cons _ _ (ih _ b)
theorem script_of {l : OpenLaw} {n : Nat} (hn : l.most = some n) {P : Params} {h : Heap} {args : List WData} {vals : List Value}
    (hpre : l.row.toRowW.claim.pre args = true) (hwl : WellAll P h vals args) :
    ∃ a vs ns, vals = [Value.ref a] ∧ args = [WData.list (ns.map WData.int)] ∧ h.get? a = some { cls := .type "list", data := .seq vs.toArray } ∧ IntsAre vs ns ∧ ns.length ≤ n := by
  have hsh : WShape.hasAll [] args [.list .int] = true := (pre_splitW hpre).1
  have hc : l.pre.holds [] { args := args } = true := (pre_splitW hpre).2
  obtain ⟨d, r, rfl, h1, h2⟩ := hasAllW_cons hsh
  obtain rfl := hasAllW_nil h2
  obtain ⟨xs, rfl, h3⟩ := hasW_list h1
  obtain ⟨ns, rfl⟩ := items_int h3
  have hlen : ns.length ≤ n := by
    unfold OpenLaw.pre at hc
    have h4 : (WTm.not (.lt (.lit (.int (n : Int))) (.len (.arg 0)))).holds [] { args := [.list (ns.map .int)] } = true := by
      have h4 := (holds_andW hc).1
      rw [hn] at h4
      exact h4
    have h5 := condW_of h4 (w_not (w_lt w_lit (w_len_list (w_arg rfl))))
    rw [List.length_map] at h5
    refine Nat.le_of_not_lt fun q => ?_
    have q' : (n : Int) < ((ns.length : Nat) : Int) := by omega
    first
      | (rw [decide_eq_true q'] at h5; exact absurd h5 (by decide))
      | (simp at h5; omega)
  cases hwl with
  | cons w1 w2 =>
    cases w2
    cases w1 with
    | list ho hall => exact ⟨_, _, ns, rfl, rfl, ho, ints_of_wellAll ns _ hall, hlen⟩
theorem post_true (l : OpenLaw) (args : List WData) : l.row.toRowW.claim.post args (.bool true) args = true :=
  postW_of (r := l.row.toRowW) (X := (true == true))
    (show WShape.has [] (.bool true) .bool = true by first | rfl | decide | simp [WShape.has, WShape.arms, WShape.armsAll])
    (show (WTm.eq .res (.lit (.bool true))).value [] { args := args, res := some (.bool true), after := args } = some (.bool (true == true)) from w_eq_bool (w_res rfl) w_lit) rfl
theorem attach_call {l : OpenLaw} {n : Nat} {q : Program} {loose : List Str} {XP : (Str → Option Value) → Heap → Prop} {YP : World → Heap → Prop} {d : DefRec}
    (hn : l.most = some n) (hdf : d.params.defaults = [])
    (call : ∀ (w : World) (s₀ s₁ : Shared) (mg mb : Str → Option Value) (fa : Addr) (o : Obj) (pm cd doc : Value) (a : Addr) (vs : List Value) (ns : List Int),
      Ground q loose [] XP w s₀ mg mb s₁.heap → YP w s₁.heap →
      s₁.heap.get? fa = some o → o.data = .func (docDef d.name d.params d.body d.scope pm cd doc) → s₁.heap.CodeRec cd d.name → mg d.name = some (.ref fa) →
      s₁.heap.get? a = some { cls := .type "list", data := .seq vs.toArray } → IntsAre vs ns → ns.length ≤ n → s₁.gens = #[] →
      codeAny (model l.prog w) callerA (.call (.ref fa) ⟨[.ref a], []⟩) (fun r s' => r = .ok (.ret (.bool true)) ∧ OldK s₁.heap s'.heap ∧ s'.os = s₁.os ∧ AllBare s'.gens) s₁) :
    WalkO q loose XP YP l.row.toRowW d [] (fun f vs => PySem.call f vs) := by
  intro w s₀ s₁ mg mb G Y fa o pm cd doc dV kV ho hd hcd hD hmg hg args vals as hpre hlay hrd hwl hlo
  obtain rfl : dV = .none := Dflts.none hD hdf
  obtain rfl : kV = .none := Dflts.noKw hD
  obtain ⟨a, vs, ns, rfl, rfl, hobj, hints, hlen⟩ := script_of hn hpre hwl
  refine enter_call (codeAny_mono (call w s₀ s₁ mg mb fa o pm cd doc a vs ns G Y ho (fd_plain hd) hcd hmg hobj hints hlen hg) fun r s' hq => ?_)
  obtain ⟨rfl, h2, h3, h4⟩ := hq
  exact ⟨.inl ⟨.bool true, .bool true, [], rfl, fun _ => rfl, .bool true, post_true l _, fun _ => ⟨List.Pairwise.nil, fun _ hm => (nomatch hm)⟩⟩, h2, h3, h4⟩
section
variable {prog : Program} {w : World} {A : Around} {E : Value → Shared → Prop} {s : Shared} {K : Frag}
end
end Att
namespace L2
open PySem PySem.Spec PyProof.Rows
theorem vals_ints : ∀ {vs : List Value} {ns : List Int}, IntsAre vs ns → Vals (ns.map V.int) vs
  | _, _, .nil => .nil
  | _, _, .cons n t h => .cons ⟨t, rfl⟩ (vals_ints h)
def Only (H : Hp) : Prop := ∀ b, H b = none ∨ ∃ o xs, H b = some (.frz o (.lst xs))
theorem law_call {P : Program} {w : World} {K : PySem.W.Frag} {mg mb : Str → Option Value} {CX : CXT} {k : Nat} {fa a : Addr} {fd : FuncData} {x : Str} {sp : Sp} {s₁ : Shared} {vs : List Value} {ns : List Int}
    (KX : K.In s₁.heap) (hns : s₁.heap.Ns mainGlobals mg) (hb : s₁.heap.Ns builtinsNs mb) (hbb : ∀ x : Str, x ≠ "__name__" → mb x = bootBuiltins x) (hlim : s₁.heap.NoLimit) (hg : s₁.gens = #[])
    (ha : s₁.heap.get? a = some { cls := .type "list", data := .seq vs.toArray }) (hi : IntsAre vs ns) (hl : ns.length ≤ sizeLine) (hr : Room k callerA)
    (F : ∀ base : Heap, K.In base → base.Ns mainGlobals mg → FnOk P w K mg base CX k fa fd [x] sp) (hbind : ∀ (s : Shared) (u : Value), BindsTo s fd ⟨[u], []⟩ [(x, u)])
    (hsp : ∀ H : Hp, Only H → SqL K H a (ns.map V.int) → sp [.ref a] H (fun v _ => v = .bl true) fun _ _ _ => False)
    (hCX : ∀ H e s', CX [] H s₁ (fun _ _ _ => False) e s' → False) :
    codeAny (model P w) callerA (.call (.ref fa) ⟨[.ref a], []⟩) (fun r s' => r = .ok (.ret (.bool true)) ∧ OldK s₁.heap s'.heap ∧ s'.os = s₁.os ∧ AllBare s'.gens) s₁ := by
  have rv := vals_ints hi
  have lenV := hi.length
  -- from an abstract heap in which nothing but the script may be tracked
  have core : ∀ H : Hp, Only H → SqL K H a (ns.map V.int) → HOk P w H s₁.heap → (∀ b, H b ≠ none → b = a) → (H a ≠ none → K.lookup a = none) →
      codeAny (model P w) callerA (.call (.ref fa) ⟨[.ref a], []⟩) (fun r s' => r = .ok (.ret (.bool true)) ∧ OldK s₁.heap s'.heap ∧ s'.os = s₁.os ∧ AllBare s'.gens) s₁ := by
    intro H hO hS hok hA hK
    have base_of : ∀ {b : Addr} {o : Obj}, s₁.heap.get? b = some o → H b = none → (hidT s₁.heap H).get? b = some o := fun e n => hidT_get e n
    have noA : ∀ {b : Addr} {o : Obj} {es : Array DictEntry} {ep : Nat}, s₁.heap.get? b = some o → o.data = .dict es ep → H b = none := fun {b o es ep} e d => by
      cases q : H b with
      | none => rfl
      | some u =>
        have e' : b = a := hA b (by rw [q]; simp)
        subst e'
        rw [ha] at e; cases e
        have d' : Data.seq vs.toArray _ = Data.dict es ep := d
        cases d'
    have nsK : ∀ {b : Addr} {m : Str → Option Value}, s₁.heap.Ns b m → (hidT s₁.heap H).Ns b m := fun {b m} ⟨o, es, ep, e, d, r⟩ => ⟨o, es, ep, base_of e (noA e d), d, r⟩
    have hKb : K.In (hidT s₁.heap H) := fun b o e => base_of (KX b o e) (by
      cases q : H b with
      | none => rfl
      | some u =>
        have e' : b = a := hA b (by rw [q]; simp)
        subst e'
        rw [hK (by rw [q]; simp)] at e; cases e)
    have hM : Mod K mg (hidT s₁.heap H) := ⟨hKb, nsK hns, ⟨mb, nsK hb, hbb⟩, let ⟨mc, h1, h2⟩ := hlim; ⟨mc, nsK h1, h2⟩⟩
    have e0 : Env0 P w K mg (hidT s₁.heap H) callerA [] s₁ H := ⟨rfl, hM, fun b o e => of_hidT e, Nat.le_of_eq (hidT_size _ _), trivial, fun b hb => absurd (show b ∈ ([] : List Addr) from hb) (by simp), hok, .of_eq hg⟩
    refine codeAny_mono ((F _ hKb (nsK hns)).run callerA [] s₁ H ⟨[.ref a], []⟩ [.ref a] [.ref a] _ _ hr e0 (hbind s₁ (.ref a)) (.cons rfl .nil) (hsp H hO hS)) fun r s' h => ?_
    cases r with
    | error e => exact (hCX H e s' h).elim
    | ok fl =>
      cases fl with
      | next => exact False.elim h
      | brk => exact False.elim h
      | cont => exact False.elim h
      | ret u =>
        obtain ⟨v, H', os, bare, un, hok', r', q⟩ := h
        have q' : v = .bl true := q
        subst q'
        obtain rfl : u = Value.bool true := r'
        refine ⟨rfl, OldK.of_keep fun b o e => ?_, os, bare⟩
        cases q : H b with
        | none => exact un.keep b o e q (by intro z; exact absurd (show b ∈ ([] : List Addr) from z) (by simp)) (by simp)
        | some u =>
          rcases hO b with z | ⟨ob, xs, z⟩
          · rw [q] at z; cases z
          · have z2 := un.frzs b ob _ z
            obtain ⟨e1, _⟩ := hok b _ z
            obtain ⟨e2, _⟩ := hok' b _ z2
            rw [e] at e1; cases e1
            exact e2
  cases hk : K.lookup a with
  | some o =>
    -- the script is one of the module's own objects
    have e := KX a o hk
    rw [ha] at e
    cases e
    refine core (fun _ => none) (fun _ => .inl rfl) (.inr ⟨_, vs.toArray, _, hk, rfl, rfl, rfl, by rw [List.size_toArray, lenV]; exact hl, by simpa using rv⟩) (fun b u z => by have z' : (none : Option HO) = some u := z; cases z') (fun b z => absurd rfl z) fun z => absurd rfl z
  | none =>
    refine core (fun b => if b = a then some (.frz { cls := .type "list", data := .seq vs.toArray } (.lst (ns.map V.int))) else none) (fun b => ?_) (.inl (.inr ⟨{ cls := .type "list", data := .seq vs.toArray }, if_pos rfl⟩)) (fun b u z => ?_) (fun b z => ?_) fun _ => hk
    · by_cases hb : b = a
      · exact .inr ⟨_, _, if_pos hb⟩
      · exact .inl (if_neg hb)
    · by_cases hb : b = a
      · have z' := (if_pos hb).symm.trans z
        cases z'
        subst hb
        exact ⟨ha, by rw [List.length_map]; exact hl, vs, _, rv, ha⟩
      · have z' := (if_neg hb).symm.trans z
        cases z'
    · by_cases hb : b = a
      · exact hb
      · exact absurd (if_neg hb) z
end L2
namespace L2
open PySem PySem.Spec PyProof.Rows
abbrev KOf {K : PySem.W.Frag} {h : Heap} (_ : K.In h) : PySem.W.Frag := K
theorem walk_of {l : PySem.W.OpenLaw} {n k : Nat} {q : Program} {loose : List Str} {XP : (Str → Option Value) → Heap → Prop} {YP : World → Heap → Prop} {d : DefRec} {K : Params → PySem.W.Frag} {CX : World → CXT} {sp : World → Sp} {x : Str}
    (hn : l.most = some n) (hn2 : n ≤ sizeLine) (hdf : d.params.defaults = []) (hr : Room k callerA)
    (hY : ∀ (w : World) (h : Heap), YP w h → (K w.params).In h)
    (F : ∀ (w : World) (mg : Str → Option Value) (fa : Addr) (h : Heap), (K w.params).In h → h.Ns mainGlobals mg → mg d.name = some (.ref fa) →
      ∃ fd : FuncData, (∀ (s : Shared) (u : Value), BindsTo s fd ⟨[u], []⟩ [(x, u)]) ∧
        ∀ base : Heap, (K w.params).In base → base.Ns mainGlobals mg → FnOk l.prog w (K w.params) mg base (CX w) k fa fd [x] (sp w))
    (hsp : ∀ (w : World) (H : Hp) (a : Addr) (ns : List Int), ns.length ≤ n → Only H → SqL (K w.params) H a (ns.map V.int) → sp w [.ref a] H (fun v _ => v = .bl true) fun _ _ _ => False)
    (hCX : ∀ (w : World) (H : Hp) (s : Shared) (e : Value) (s' : Shared), CX w [] H s (fun _ _ _ => False) e s' → False) :
    PySem.W.WalkO q loose XP YP l.row.toRowW d [] (fun f vs => PySem.call f vs) := by
  refine Att.attach_call hn hdf fun w s₀ s₁ mg mb fa o pm cd doc a vs ns G Y ho hd hcd hmg hobj hints hlen hg => ?_
  have KX := hY w _ Y
  obtain ⟨fd, hb, hF⟩ := F w mg fa _ KX G.T.g hmg
  exact law_call KX G.T.g G.T.b G.T.builtins G.T.nolimit hg hobj hints (Nat.le_trans hlen hn2) hr hF hb (fun H hO hS => hsp w H a ns hlen hO hS) fun H e s' => hCX w H s₁ e s'
end L2
/- THE LAST THEOREM (shape; LID, My.* are yours):
   My.Adr: a structure of the addresses that your layer names (classes, functions); My.Txt K t: a structure (Prop) of the equations over K;
   My.txt_mk : {K} {implicit addresses ..} (e1 : nsIn K mainGlobals "law" = some (some (.ref f))) (e2 : K.lookup f = some ⟨oc, od, .func (fnOf "law" "law" params body scope dV kV doc pm an cdv ct), sl⟩) (e3 : codeIn K cdv "law" = true) .. : ∃ t, My.Txt K t
set_option maxRecDepth 100000 in
set_option maxHeartbeats 0 in
theorem PySem.Challenge.cw_LID_holds : PySem.Challenge.rw_LID.Holds := by
  w_on; o_law; k_head; (case hw => w_witness2)
  k_fill
  refine L2.walk_of (l := PySem.Challenge.rw_LID) (n := 63) (k := 40) (x := "script") (CX := fun w => ..) (sp := fun _ => My.sp_law) rfl (by decide) rfl ⟨rfl, by decide, by decide⟩ (fun w h Y => PySem.W.kIn_of Y) ?F ?S ?C
  case F =>
    intro w mg fa h KX G hmg
    have T : ∃ t, My.Txt (L2.KOf KX) t := by
      dsimp only [L2.KOf]                          -- K must stand as «<heap const> w.params» for k_is
      refine' My.txt_mk ?e1 ?e2 ?e3 ..
      (case e1 => PySem.W.k_is)                    -- in the order: a name -> its address -> its object -> its parts
      (case e2 => PySem.W.k_is)
      ..
    obtain ⟨t, T⟩ := T
    have e0 := hmg.symm.trans (PySem.W.mg_of KX G T.law)
    cases e0                                       -- fa is the law's own address
    exact ⟨_, fun s u => .of_eq rfl, fun base kb nb => My.law_fn T kb nb⟩     -- if «.of_eq rfl» comes too early: refine' ⟨_, ?b, fun base kb nb => My.law_fn T kb nb⟩; exact fun s u => .of_eq rfl
  case S => exact fun w H a ns hl hO hS => ..
  case C => exact ..
(the tactic k_is has no namespace: write k_is) -/
namespace L2
open PySem PySem.Spec PyProof.Rows
def defArgs (s : Stmt) : Arguments := match s with
  | .FunctionDef _ a _ _ _ _ _ _ _ _ => a
  | _ => { posonlyargs := [], args := [], vararg := none, kwonlyargs := [], kw_defaults := [], kwarg := none, defaults := [] }
def defBody (s : Stmt) : List Stmt := match s with
  | .FunctionDef _ _ b _ _ _ _ _ _ _ => b
  | _ => []
def defScope (s : Stmt) : Scope := match s with
  | .FunctionDef _ _ _ _ _ _ sc _ _ _ => sc
  | _ => { kind := .function, names := [], isGenerator := false, isCoroutine := false }
abbrev CX0 : CXT := fun _ _ _ _ _ _ => False
abbrev E0 : XK := fun _ _ _ => False
theorem pass0 {X : Cx} : Passes CX0 X E0 := fun _ _ _ _ _ _ _ h => h.elim
structure Fun (K : PySem.W.Frag) (x qual : Str) (st : Stmt) (f : Addr) (fd : FuncData) : Prop where
  ex : ∃ (oc : Value) (od : Option Addr) (kV doc pm : Value) (an : Option Addr) (cdv ct : Value) (osl : Array (Option Value)),
    fd = PySem.W.fnOf x qual (defArgs st) (defBody st) (defScope st) .none kV doc pm an cdv ct ∧ K.lookup f = some ⟨oc, od, .func fd, osl⟩ ∧ PySem.W.codeIn K cdv qual = true
  kp : PySem.W.keepIn K (.ref f) = true
section
variable {P : Program} {w : World} {K : PySem.W.Frag} {mg : Str → Option Value} {base : Heap}
theorem Fun.ok {x qual : Str} {st : Stmt} {f : Addr} {fd : FuncData} {N ps : List Str} {k : Nat} {sp : Sp} (F : Fun K x qual st f fd) (S : FnScope N ps (defScope st)) (len : ∀ vs H Q E, sp vs H Q E → vs.length = ps.length)
    (hbody : ∀ (cdv : Value) (A : Around) (outer : List Env) (s : Shared) (H : Hp) (vs : List V) (Q : VK) (E : XK), Room k (A.deeper (envOfC qual (defScope st) s.heap.objs.size f cdv)) → sp vs H Q E →
      ∃ t, PSs (cxOf CX0 P w K mg base N qual (defScope st) f cdv A outer s H E).nox (defBody st) t ∧ t { nx := fun _ H' => Q .non H', rt := Q } (start N vs) H) : FnOk P w K mg base CX0 (k + 1) f fd ps sp := by
  obtain ⟨oc, od, kV, doc, pm, an, cdv, ct, osl, rfl, lk, hcd⟩ := F.ex
  refine fn_of lk hcd S len fun A outer s H vs Q E hr hsp => ?_
  obtain ⟨t, h, q⟩ := hbody cdv A outer s H vs Q E hr hsp
  exact ⟨t, h.nox, q⟩
theorem Fun.binds {x qual : Str} {st : Stmt} {f : Addr} {fd : FuncData} {ps : List Str} (F : Fun K x qual st f fd)
    (h : ∀ (kV doc pm : Value) (an : Option Addr) (cdv ct : Value) (us : List Value), us.length = ps.length → bindArgs (PySem.W.fnOf x qual (defArgs st) (defBody st) (defScope st) .none kV doc pm an cdv ct) ⟨us, []⟩ = pure (ps.zip us)) : Binds K fd ps [] := by
  obtain ⟨oc, od, kV, doc, pm, an, cdv, ct, osl, rfl, lk, hcd⟩ := F.ex
  exact .all (h kV doc pm an cdv ct)
theorem fun_mk {x qual : Str} {st : Stmt} {f : Addr} {oc : Value} {od an : Option Addr} {osl : Array (Option Value)} {kV doc pm cdv ct : Value} (l : K.lookup f = some ⟨oc, od, .func (PySem.W.fnOf x qual (defArgs st) (defBody st) (defScope st) .none kV doc pm an cdv ct), osl⟩)
    (c : PySem.W.codeIn K cdv qual = true) (k : PySem.W.keepIn K (.ref f) = true) : Fun K x qual st f (PySem.W.fnOf x qual (defArgs st) (defBody st) (defScope st) .none kV doc pm an cdv ct) := ⟨⟨oc, od, kV, doc, pm, an, cdv, ct, osl, rfl, l, c⟩, k⟩
end
theorem small1000 {n : Nat} (h : n ≤ 1000) : n < sizeLine := Nat.lt_of_le_of_lt h (by decide)
section
variable {X : Cx}
theorem pv (i : Nat) {x : Str} {pos : Pos} (hN : X.N[i]? = some x := by rfl) (hv : Vis X.env.scope x := by first | exact Or.inl rfl | exact Or.inr (Or.inl rfl) | exact Or.inr (Or.inr rfl)) (hd : (x == ("__debug__" : Str)) = false := by decide)
    (hcd : (x == ("__classdict__" : Str)) = false := by decide) : PE X (.Name x pos) (tVar i) := pe_var hN hv hd hcd
end
theorem ite2 {c A B : Prop} [Decidable c] (h1 : c → A) (h2 : ¬ c → B) : if c then A else B := by
  by_cases h : c
  · rw [if_pos h]
    exact h1 h
  · rw [if_neg h]
    exact h2 h
def Same (H H' : Hp) : Prop := ∀ b o, H b = some o → H' b = some o
theorem Same.refl (H : Hp) : Same H H := fun _ _ h => h
theorem Same.trans {H H1 H2 : Hp} (a : Same H H1) (b : Same H1 H2) : Same H H2 := fun c o h => b c o (a c o h)
theorem Same.free {H H' : Hp} (e : Same H H') {l : Addr} (h : H' l = Option.none) : H l = Option.none := by
  cases q : H l with
  | none => rfl
  | some o =>
    rw [e l o q] at h
    cases h
theorem Same.seq {K : PySem.W.Frag} {H H' : Hp} {a : Addr} {xs : List V} (e : Same H H') (h : SqL K H a xs) : SqL K H' a xs := by
  rcases h with (h | ⟨o, h⟩) | h
  · exact .inl (.inl (e _ _ h))
  · exact .inl (.inr ⟨o, e _ _ h⟩)
  · exact .inr h
end L2
set_option maxHeartbeats 1000000
namespace Mx
theorem gcd_step {a b : Int} (hb : b ≠ 0) : Int.gcd b (a.fmod b) = Int.gcd a b := by
  have h : a.fmod b = a - b * (a.fdiv b) := by have := Int.mul_fdiv_add_fmod a b; omega
  rw [h, Int.gcd_comm b, Int.gcd_sub_mul_left_left]
theorem fmod_natAbs_lt {a b : Int} (ha : 0 ≤ a) (hb : 0 ≤ b) (h : b ≠ 0) : 0 ≤ a.fmod b ∧ a.fmod b < b :=
  ⟨Int.fmod_nonneg ha hb, Int.fmod_lt_of_pos a (by omega)⟩
theorem gcd_zero_iff {a b : Int} : Int.gcd a b = 0 ↔ a = 0 ∧ b = 0 := Int.gcd_eq_zero_iff
theorem exact_div {g x p : Int} (hg : g ≠ 0) (h : x = g * p) : x.fdiv g = p := by
  subst h; exact Int.mul_fdiv_cancel_left p hg
theorem dvd_cop {q p r : Int} (h : q ∣ p * r) (g : Int.gcd q p = 1) : q ∣ r := by
  have e := Int.gcd_mul_right_right_of_gcd_eq_one (k := r) g
  have e2 : Int.gcd q (p * r) = q.natAbs := Int.gcd_eq_natAbs_left h
  rw [e2] at e
  have d : (Int.gcd q r : Int) ∣ r := Int.gcd_dvd_right q r
  rw [← e] at d
  exact Int.natAbs_dvd.mp d
def GoodP (p q : Int) : Prop := (q = 0 ∧ p = 1) ∨ (0 < q ∧ Int.gcd p q = 1)
instance (p q : Int) : Decidable (GoodP p q) := by unfold GoodP; infer_instance
theorem GoodP.ne {p q : Int} (h : GoodP p q) : p ≠ 0 ∨ q ≠ 0 := by
  rcases h with ⟨_, h⟩ | ⟨h, _⟩ <;> omega
def npt (x y : Int) : Int × Int :=
  if y = 0 then (1, 0) else
  let g : Int := if y < 0 then -(Int.gcd x y : Int) else (Int.gcd x y : Int)
  (x.fdiv g, y.fdiv g)
theorem npt_spec {x y : Int} (h : x ≠ 0 ∨ y ≠ 0) : ∃ k, k ≠ 0 ∧ x = k * (npt x y).1 ∧ y = k * (npt x y).2 ∧ GoodP (npt x y).1 (npt x y).2 := by
  unfold npt
  by_cases hy : y = 0
  · subst hy
    simp only [if_true]
    exact ⟨x, by omega, by omega, by omega, .inl ⟨rfl, rfl⟩⟩
  · rw [if_neg hy]
    have hg : Int.gcd x y ≠ 0 := fun e => hy (gcd_zero_iff.mp e).2
    obtain ⟨p, hp⟩ : (Int.gcd x y : Int) ∣ x := Int.gcd_dvd_left x y
    obtain ⟨q, hq⟩ : (Int.gcd x y : Int) ∣ y := Int.gcd_dvd_right x y
    have hg' : (Int.gcd x y : Int) ≠ 0 := by omega
    have hc : Int.gcd p q = 1 := by
      have e : Int.gcd x y = Int.gcd ((Int.gcd x y : Int) * p) ((Int.gcd x y : Int) * q) := by rw [← hp, ← hq]
      rw [Int.gcd_mul_left] at e
      simp only [Int.natAbs_natCast] at e
      have : Int.gcd x y * 1 = Int.gcd x y * Int.gcd p q := by omega
      exact (Nat.eq_of_mul_eq_mul_left (by omega) this).symm
    have hq0 : q ≠ 0 := fun e => hy (by rw [hq, e]; simp)
    by_cases hn : y < 0
    · simp only [if_pos hn]
      refine ⟨-(Int.gcd x y : Int), by omega, ?_⟩
      have e1 : x.fdiv (-(Int.gcd x y : Int)) = -p := exact_div (by omega) (by rw [Int.neg_mul_neg]; exact hp)
      have e2 : y.fdiv (-(Int.gcd x y : Int)) = -q := exact_div (by omega) (by rw [Int.neg_mul_neg]; exact hq)
      rw [e1, e2]
      refine ⟨by rw [Int.neg_mul_neg]; exact hp, by rw [Int.neg_mul_neg]; exact hq, .inr ⟨?_, by rw [Int.neg_gcd, Int.gcd_neg]; exact hc⟩⟩
      have : ¬ 0 < q := fun hq1 => by
        have : 0 < (Int.gcd x y : Int) * q := Int.mul_pos (by omega) hq1
        omega
      omega
    · simp only [if_neg hn]
      refine ⟨(Int.gcd x y : Int), by omega, ?_⟩
      have e1 : x.fdiv (Int.gcd x y : Int) = p := exact_div (by omega) hp
      have e2 : y.fdiv (Int.gcd x y : Int) = q := exact_div (by omega) hq
      rw [e1, e2]
      refine ⟨hp, hq, .inr ⟨?_, hc⟩⟩
      have : ¬ q < 0 := fun hq1 => by
        have : (Int.gcd x y : Int) * q < 0 := Int.mul_neg_of_pos_of_neg (by omega) hq1
        omega
      omega
theorem good_unique {p q p' q' : Int} (h : GoodP p q) (h' : GoodP p' q') (e : p * q' = q * p') : p = p' ∧ q = q' := by
  rcases h with ⟨rfl, rfl⟩ | ⟨hq, hg⟩
  · rcases h' with ⟨rfl, rfl⟩ | ⟨hq', hg'⟩
    · exact ⟨rfl, rfl⟩
    · omega
  · rcases h' with ⟨rfl, rfl⟩ | ⟨hq', hg'⟩
    · omega
    · have d1 : q ∣ q' := by
        have : q ∣ p * q' := ⟨p', e⟩
        exact dvd_cop this (by rw [Int.gcd_comm]; exact hg)
      have d2 : q' ∣ q := by
        have : q' ∣ p' * q := ⟨p, by rw [Int.mul_comm p' q, ← e, Int.mul_comm]⟩
        exact dvd_cop this (by rw [Int.gcd_comm]; exact hg')
      have hqq : q = q' := Int.le_antisymm (Int.le_of_dvd hq' d1) (Int.le_of_dvd hq d2)
      subst hqq
      refine ⟨?_, rfl⟩
      rw [Int.mul_comm] at e
      exact Int.eq_of_mul_eq_mul_left (by omega) e
theorem npt_good {p q : Int} (h : GoodP p q) : npt p q = (p, q) := by
  obtain ⟨k, hk, e1, e2, g⟩ := npt_spec h.ne
  have : (npt p q).1 * q = (npt p q).2 * p := by
    apply Int.eq_of_mul_eq_mul_left hk
    generalize (npt p q).1 = p' at *
    generalize (npt p q).2 = q' at *
    subst e1 e2
    grind
  obtain ⟨a, b⟩ := good_unique g h this
  exact Prod.ext a b
theorem npt_self_iff {x y : Int} : npt x y = (x, y) ↔ GoodP x y := by
  refine ⟨fun e => ?_, npt_good⟩
  by_cases h : x ≠ 0 ∨ y ≠ 0
  · obtain ⟨k, hk, e1, e2, g⟩ := npt_spec h
    rw [e] at g; exact g
  · have hx : x = 0 := by omega
    have hy : y = 0 := by omega
    subst hx hy
    simp [npt] at e
def lpt (x y : Int) : Int × Int :=
  let g : Int := if y < 0 ∨ (y = 0 ∧ x < 0) then -(Int.gcd x y : Int) else (Int.gcd x y : Int)
  (x.fdiv g, y.fdiv g)
theorem lpt_eq {x y : Int} (h : x ≠ 0 ∨ y ≠ 0) : lpt x y = npt x y := by
  unfold lpt npt
  by_cases hy : y = 0
  · subst hy
    have hx : x ≠ 0 := by omega
    rw [Int.gcd_zero_right, if_pos rfl]
    show (x.fdiv (if (0 : Int) < 0 ∨ ((0 : Int) = 0 ∧ x < 0) then -((x.natAbs : Nat) : Int) else ((x.natAbs : Nat) : Int)), (0 : Int).fdiv (if (0 : Int) < 0 ∨ ((0 : Int) = 0 ∧ x < 0) then -((x.natAbs : Nat) : Int) else ((x.natAbs : Nat) : Int))) = _
    by_cases hn : x < 0
    · rw [if_pos (.inr ⟨rfl, hn⟩)]
      have : -((x.natAbs : Nat) : Int) = x := by omega
      rw [this, Int.fdiv_self hx, Int.zero_fdiv]
    · rw [if_neg (by omega)]
      have : ((x.natAbs : Nat) : Int) = x := by omega
      rw [this, Int.fdiv_self hx, Int.zero_fdiv]
  · rw [if_neg hy]
    by_cases hn : y < 0
    · simp [hn]
    · simp [hn, hy]
structure Ch where
  a : Int
  b : Int
  c : Int
  d : Int
  deriving DecidableEq
def Ch.det (m : Ch) : Int := m.a * m.d - m.b * m.c
def Ch.sc (k : Int) (m : Ch) : Ch := ⟨k * m.a, k * m.b, k * m.c, k * m.d⟩
def g4 (m : Ch) : Int := (Int.gcd (Int.gcd (Int.gcd (Int.gcd 0 m.a : Int) m.b : Int) m.c : Int) m.d : Int)
def GoodC (m : Ch) : Prop := m.a * m.d ≠ m.b * m.c ∧ g4 m = 1 ∧ (0 < m.a ∨ (m.a = 0 ∧ 0 < m.b))
instance (m : Ch) : Decidable (GoodC m) := by unfold GoodC; infer_instance
theorem g4_nonneg (m : Ch) : 0 ≤ g4 m := by unfold g4; omega
theorem g4_dvd (m : Ch) : g4 m ∣ m.a ∧ g4 m ∣ m.b ∧ g4 m ∣ m.c ∧ g4 m ∣ m.d := by
  unfold g4
  have h1 := Int.gcd_dvd_left (Int.gcd (Int.gcd (Int.gcd 0 m.a : Int) m.b : Int) m.c : Int) m.d
  have h2 := Int.gcd_dvd_right (Int.gcd (Int.gcd (Int.gcd 0 m.a : Int) m.b : Int) m.c : Int) m.d
  have h3 := Int.gcd_dvd_left (Int.gcd (Int.gcd 0 m.a : Int) m.b : Int) m.c
  have h4 := Int.gcd_dvd_right (Int.gcd (Int.gcd 0 m.a : Int) m.b : Int) m.c
  have h5 := Int.gcd_dvd_left (Int.gcd 0 m.a : Int) m.b
  have h6 := Int.gcd_dvd_right (Int.gcd 0 m.a : Int) m.b
  have h7 := Int.gcd_dvd_right 0 m.a
  exact ⟨Int.dvd_trans (Int.dvd_trans (Int.dvd_trans h1 h3) h5) h7, Int.dvd_trans (Int.dvd_trans h1 h3) h6, Int.dvd_trans h1 h4, h2⟩
theorem dvd_g4 {k : Int} {m : Ch} (h1 : k ∣ m.a) (h2 : k ∣ m.b) (h3 : k ∣ m.c) (h4 : k ∣ m.d) : k ∣ g4 m := by
  unfold g4
  exact Int.dvd_coe_gcd (Int.dvd_coe_gcd (Int.dvd_coe_gcd (Int.dvd_coe_gcd (Int.dvd_zero k) h1) h2) h3) h4
def nch (m : Ch) : Ch :=
  let f : Int := if m.a ≠ 0 then m.a else m.b
  let g : Int := if f < 0 then -(g4 m) else g4 m
  ⟨m.a.fdiv g, m.b.fdiv g, m.c.fdiv g, m.d.fdiv g⟩
theorem g4_sc (k : Int) (m : Ch) : g4 (m.sc k) = k.natAbs * g4 m := by
  apply Int.dvd_antisymm (g4_nonneg _) (by have := g4_nonneg m; exact Int.mul_nonneg (by omega) this)
  · obtain ⟨h1, h2, h3, h4⟩ := g4_dvd (m.sc k)
    by_cases hk : k = 0
    · subst hk; simp [g4, Ch.sc]
    · -- g4 (sc k m) = k' * t, t divides all
      have hkd : (k.natAbs : Int) ∣ g4 (m.sc k) := dvd_g4 (Int.natAbs_dvd.mpr ⟨_, rfl⟩) (Int.natAbs_dvd.mpr ⟨_, rfl⟩) (Int.natAbs_dvd.mpr ⟨_, rfl⟩) (Int.natAbs_dvd.mpr ⟨_, rfl⟩)
      obtain ⟨t, ht⟩ := hkd
      rw [ht] at h1 h2 h3 h4 ⊢
      have cut : ∀ x, (k.natAbs : Int) * t ∣ k * x → t ∣ x := fun x h => by
        have h' : k * t ∣ k * x := by
          rcases Int.natAbs_eq k with e | e
          · rw [← e] at h; exact h
          · have e' : (k.natAbs : Int) = -k := by omega
            rw [e', Int.neg_mul] at h; exact Int.neg_dvd.mp h
        exact Int.dvd_of_mul_dvd_mul_left hk h'
      exact Int.mul_dvd_mul_left _ (dvd_g4 (cut _ h1) (cut _ h2) (cut _ h3) (cut _ h4))
  · obtain ⟨h1, h2, h3, h4⟩ := g4_dvd m
    have up : ∀ x, g4 m ∣ x → (k.natAbs : Int) * g4 m ∣ k * x := fun x h => by
      have h' : k * g4 m ∣ k * x := Int.mul_dvd_mul_left _ h
      rcases Int.natAbs_eq k with e | e
      · rw [← e]; exact h'
      · have e' : (k.natAbs : Int) = -k := by omega
        rw [e', Int.neg_mul]; exact Int.neg_dvd.mpr h'
    exact dvd_g4 (up _ h1) (up _ h2) (up _ h3) (up _ h4)
theorem nch_spec {m : Ch} (h : m.det ≠ 0) : ∃ k, k ≠ 0 ∧ m = (nch m).sc k ∧ GoodC (nch m) := by
  have hg : g4 m ≠ 0 := fun e => h (by
    obtain ⟨h1, h2, h3, h4⟩ := g4_dvd m
    rw [e] at h1 h2
    have e1 := Int.zero_dvd.mp h1
    have e2 := Int.zero_dvd.mp h2
    unfold Ch.det; rw [e1, e2]; simp)
  obtain ⟨⟨p, hp⟩, ⟨q, hq⟩, ⟨r, hr⟩, ⟨s, hs⟩⟩ := g4_dvd m
  have hn := g4_nonneg m
  have e4 : g4 ⟨p, q, r, s⟩ = 1 := by
    have e := g4_sc (g4 m) ⟨p, q, r, s⟩
    have e' : Ch.sc (g4 m) ⟨p, q, r, s⟩ = m := by
      cases m; simp only [Ch.sc, Ch.mk.injEq]; exact ⟨hp.symm, hq.symm, hr.symm, hs.symm⟩
    rw [e'] at e
    have e2 : ((g4 m).natAbs : Int) = g4 m := by omega
    rw [e2] at e
    have e3 : g4 m * 1 = g4 m * g4 ⟨p, q, r, s⟩ := by rw [Int.mul_one]; exact e
    exact (Int.eq_of_mul_eq_mul_left hg e3).symm
  have hab : m.a ≠ 0 ∨ m.b ≠ 0 := by
    by_cases ha : m.a = 0
    · by_cases hb : m.b = 0
      · exact absurd (by unfold Ch.det; rw [ha, hb]; simp) h
      · exact .inr hb
    · exact .inl ha
  have hgp : 0 < g4 m := by omega
  have sgn : ∀ x y : Int, x = g4 m * y → (0 < x ↔ 0 < y) ∧ (x = 0 ↔ y = 0) ∧ (x < 0 ↔ y < 0) := fun x y e => by
    subst e
    refine ⟨⟨fun h => Int.not_le.mp fun hy => by have := Int.mul_nonneg (a := g4 m) (by omega) (b := -y) (by omega); rw [Int.mul_neg] at this; omega, fun h => Int.mul_pos hgp h⟩, ⟨fun h => (Int.mul_eq_zero.mp h).resolve_left hg, fun h => by rw [h]; simp⟩, ⟨fun h => ?_, fun h => Int.mul_neg_of_pos_of_neg hgp h⟩⟩
    exact Int.not_le.mp fun hy => by have := Int.mul_nonneg (a := g4 m) (by omega) hy; omega
  obtain ⟨a1, a2, a3⟩ := sgn _ _ hp
  obtain ⟨b1, b2, b3⟩ := sgn _ _ hq
  have hd : p * s ≠ q * r := fun e => h (by
    unfold Ch.det; rw [hp, hq, hr, hs]
    generalize g4 m = g at *
    grind)
  unfold nch
  by_cases hf : (if m.a ≠ 0 then m.a else m.b) < 0
  · simp only [if_pos hf]
    refine ⟨-(g4 m), by omega, ?_⟩
    have ex : ∀ x y : Int, x = g4 m * y → x.fdiv (-(g4 m)) = -y := fun x y e => exact_div (by omega) (by rw [Int.neg_mul_neg]; exact e)
    rw [ex _ _ hp, ex _ _ hq, ex _ _ hr, ex _ _ hs]
    refine ⟨?_, by show (-p) * (-s) ≠ (-q) * (-r); rw [Int.neg_mul_neg, Int.neg_mul_neg]; exact hd, ?_, ?_⟩
    · cases m; simp only [Ch.sc, Ch.mk.injEq, Int.neg_mul_neg]; exact ⟨hp, hq, hr, hs⟩
    · have := g4_sc (-1) ⟨p, q, r, s⟩
      simp only [Ch.sc, Int.neg_mul, Int.one_mul] at this
      rw [this, e4]; rfl
    · show 0 < -p ∨ (-p = 0 ∧ 0 < -q)
      split at hf <;> omega
  · simp only [if_neg hf]
    refine ⟨g4 m, by omega, ?_⟩
    have ex : ∀ x y : Int, x = g4 m * y → x.fdiv (g4 m) = y := fun x y e => exact_div (by omega) e
    rw [ex _ _ hp, ex _ _ hq, ex _ _ hr, ex _ _ hs]
    refine ⟨by cases m; simp only [Ch.sc, Ch.mk.injEq]; exact ⟨hp, hq, hr, hs⟩, hd, e4, ?_⟩
    show 0 < p ∨ (p = 0 ∧ 0 < q)
    split at hf <;> omega
def Pr (m n : Ch) : Prop := ∃ j k : Int, j ≠ 0 ∧ k ≠ 0 ∧ m.sc j = n.sc k
theorem Pr.nch {m : Ch} (h : m.det ≠ 0) : Pr (Mx.nch m) m := by
  obtain ⟨k, hk, e, _⟩ := nch_spec h
  exact ⟨k, 1, hk, by decide, by rw [← e]; simp [Ch.sc]⟩
theorem goodC_unique {m n : Ch} (g : GoodC m) (g' : GoodC n) (h : Pr m n) : m = n := by
  obtain ⟨j, k, hj, hk, e⟩ := h
  have e1 := g4_sc j m
  have e2 := g4_sc k n
  rw [e, e2, g.2.1, g'.2.1] at e1
  have ejk : (j.natAbs : Int) = k.natAbs := by omega
  have ea := congrArg Ch.a e
  have eb := congrArg Ch.b e
  have ec := congrArg Ch.c e
  have ed := congrArg Ch.d e
  simp only [Ch.sc] at ea eb ec ed
  have hs : j = k ∨ j = -k := by omega
  rcases hs with rfl | rfl
  · cases m; cases n
    simp only [Ch.mk.injEq]
    exact ⟨Int.eq_of_mul_eq_mul_left hj ea, Int.eq_of_mul_eq_mul_left hj eb, Int.eq_of_mul_eq_mul_left hj ec, Int.eq_of_mul_eq_mul_left hj ed⟩
  · exfalso
    have ea' : n.a = -m.a := by
      have : k * n.a = k * (-m.a) := by rw [← ea, Int.neg_mul, Int.mul_neg]
      exact Int.eq_of_mul_eq_mul_left hk this
    have eb' : n.b = -m.b := by
      have : k * n.b = k * (-m.b) := by rw [← eb, Int.neg_mul, Int.mul_neg]
      exact Int.eq_of_mul_eq_mul_left hk this
    rcases g.2.2 with z | ⟨z1, z2⟩ <;> rcases g'.2.2 with y | ⟨y1, y2⟩ <;> omega
theorem GoodC.det {m : Ch} (g : GoodC m) : m.det ≠ 0 := by have := g.1; unfold Ch.det; omega
theorem nch_good {m : Ch} (g : GoodC m) : nch m = m := by
  obtain ⟨_, _, _, g'⟩ := nch_spec g.det
  exact goodC_unique g' g (Pr.nch g.det)
theorem nch_goodC {m : Ch} (h : m.det ≠ 0) : GoodC (nch m) := (nch_spec h).choose_spec.2.2
theorem nch_self_iff {m : Ch} (h : m.det ≠ 0) : nch m = m ↔ GoodC m := ⟨fun e => by rw [← e]; exact nch_goodC h, nch_good⟩
def mul (m n : Ch) : Ch := ⟨n.a * m.a + n.b * m.c, n.a * m.b + n.b * m.d, n.c * m.a + n.d * m.c, n.c * m.b + n.d * m.d⟩
def adj (m : Ch) : Ch := ⟨m.d, -m.b, -m.c, m.a⟩
theorem det_mul (m n : Ch) : (mul m n).det = m.det * n.det := by simp only [Ch.det, mul]; grind
theorem det_adj (m : Ch) : (adj m).det = m.det := by simp only [Ch.det, adj]; grind
theorem mul_ne {m n : Ch} (hm : m.det ≠ 0) (hn : n.det ≠ 0) : (mul m n).det ≠ 0 := by rw [det_mul]; exact Int.mul_ne_zero hm hn
theorem first_pos {m : Ch} (h : m.det ≠ 0) : m.a ≠ 0 ∨ (m.a = 0 ∧ m.b ≠ 0) := by
  by_cases ha : m.a = 0
  · refine .inr ⟨ha, fun hb => h ?_⟩
    unfold Ch.det; rw [ha, hb]; simp
  · exact .inl ha
theorem exact_natAbs {x g p : Int} (hg : g ≠ 0) (h : x = g * p) : p.natAbs ≤ x.natAbs := by
  subst h
  rw [Int.natAbs_mul]
  have : 1 ≤ g.natAbs := by omega
  exact Nat.le_mul_of_pos_left _ this
theorem npt_le {x y : Int} (h : x ≠ 0 ∨ y ≠ 0) : (npt x y).1.natAbs ≤ x.natAbs ∧ (npt x y).2.natAbs ≤ y.natAbs := by
  obtain ⟨k, hk, e1, e2, _⟩ := npt_spec h
  exact ⟨exact_natAbs hk e1, exact_natAbs hk e2⟩
theorem nch_le {m : Ch} (h : m.det ≠ 0) : (nch m).a.natAbs ≤ m.a.natAbs ∧ (nch m).b.natAbs ≤ m.b.natAbs ∧ (nch m).c.natAbs ≤ m.c.natAbs ∧ (nch m).d.natAbs ≤ m.d.natAbs := by
  obtain ⟨k, hk, e, _⟩ := nch_spec h
  have ea := congrArg Ch.a e
  have eb := congrArg Ch.b e
  have ec := congrArg Ch.c e
  have ed := congrArg Ch.d e
  exact ⟨exact_natAbs hk ea, exact_natAbs hk eb, exact_natAbs hk ec, exact_natAbs hk ed⟩
theorem g4_ne {m : Ch} (h : m.det ≠ 0) : g4 m ≠ 0 := fun e => h (by
  obtain ⟨h1, h2, h3, h4⟩ := g4_dvd m
  rw [e] at h1 h2
  have e1 := Int.zero_dvd.mp h1
  have e2 := Int.zero_dvd.mp h2
  unfold Ch.det; rw [e1, e2]; simp)
end Mx
namespace Mx
end Mx
namespace Mx
end Mx
namespace Mx
end Mx
namespace Mx
end Mx
namespace L3
open PySem PySem.Spec PyProof.Rows L2
abbrev St := L2.St
def Bd (k : Nat) (i : Int) : Prop := i.natAbs < 2 ^ k
instance (k : Nat) (i : Int) : Decidable (Bd k i) := inferInstanceAs (Decidable (i.natAbs < 2 ^ k))
theorem Bd.mono {j k : Nat} {i : Int} (h : Bd j i) (l : j ≤ k) : Bd k i := Nat.lt_of_lt_of_le h (Nat.pow_le_pow_right (by decide) l)
theorem Bd.mul {j k : Nat} {a b : Int} (h : Bd j a) (h' : Bd k b) : Bd (j + k) (a * b) := by
  unfold Bd at *
  rw [Int.natAbs_mul, Nat.pow_add]
  exact Nat.mul_lt_mul'' h h'
theorem Bd.add {k : Nat} {a b : Int} (h : Bd k a) (h' : Bd k b) : Bd (k + 1) (a + b) := by
  unfold Bd at *
  rw [Nat.pow_succ]
  generalize (2 : Nat) ^ k = m at *
  omega
theorem Bd.neg {k : Nat} {a : Int} (h : Bd k a) : Bd k (-a) := by
  unfold Bd at *
  rw [Int.natAbs_neg]; exact h
theorem Bd.of_le {k : Nat} {a b : Int} (h : Bd k a) (l : b.natAbs ≤ a.natAbs) : Bd k b := Nat.lt_of_le_of_lt l h
theorem Bd.gcd {k : Nat} {a b : Int} (h : Bd k a) (h' : Bd k b) : Bd k (Int.gcd a b : Int) := by
  by_cases ha : a = 0
  · subst ha
    refine h'.of_le ?_
    simp
  · refine h.of_le ?_
    simp only [Int.natAbs_natCast]
    exact Nat.le_of_dvd (by omega) (Int.gcd_dvd_natAbs_left a b)
theorem Bd.mulOk {k : Nat} {a b : Int} (h : Bd k a) (h' : Bd k b) (l : k ≤ 60000000) : IntMulOk a b :=
  IntMulOk.of_le (intBits_le_iff.mpr h) (intBits_le_iff.mpr h') (by omega)
theorem Bd.noPy {i j : Int} (h : Bd 8000 j) : Builtin.divisionGoesByPylong i j = false := by
  refine PyProof.noPylong_of_log2 ?_
  by_cases h0 : j.natAbs = 0
  · rw [h0]; decide +kernel
  · exact Nat.lt_of_lt_of_le ((Nat.log2_lt h0).mpr h) (by decide)
theorem Bd.lit {k : Nat} {a : Int} (h : a.natAbs < 2 ^ k) : Bd k a := h
section
variable {X : Cx}
def cDiv (_ j : Int) : Prop := j ≠ 0 ∧ Bd 8000 j
def cMul (i j : Int) : Prop := Bd 100000 i ∧ Bd 100000 j
theorem op_fdivB : OpR X (binaryOp .FloorDiv) (rI cDiv fun i j => .int (i.fdiv j)) :=
  opI fun _ _ _ _ _ _ _ hc q => floordiv_int hc.1 q (.inl hc.2.noPy)
theorem op_mulB : OpR X (binaryOp .Mult) (rI cMul fun i j => .int (i * j)) :=
  opI fun _ _ _ _ _ _ _ hc q => mul_int q (hc.1.mulOk hc.2 (by decide))
theorem call_absN : CallR X (.builtin "abs") (fun xs H Q => ∃ i : Int, xs = [.int i] ∧ Q (.int (i.natAbs : Int)) H) := by
  intro pins s σ H xs us Q I r h
  obtain ⟨i, rfl, q⟩ := h
  refine call_abs pins s σ H _ us Q I r ⟨i, rfl, ?_⟩
  have e : (if i < 0 then -i else i) = (i.natAbs : Int) := by split <;> omega
  rw [e]
  exact q
end
mutual
def IsD (K : PySem.W.Frag) (H : Hp) : PyData → V → Prop
  | .none, v => v = .non
  | .bool b, v => v = .bl b
  | .int i, v => v = .int i
  | .str x, v => v = .str x
  | .list ps, v => ∃ a xs, v = .ref a ∧ SqL K H a xs ∧ IsDs K H ps xs
  | .tuple ps, v => ∃ a xs, v = .ref a ∧ SqT K H a xs ∧ IsDs K H ps xs
  | .dict _, _ => False
def IsDs (K : PySem.W.Frag) (H : Hp) : List PyData → List V → Prop
  | [], xs => xs = []
  | p :: ps, xs => ∃ y ys, xs = y :: ys ∧ IsD K H p y ∧ IsDs K H ps ys
end
section
variable {X : Cx} {pins : List (Addr × Obj)} {σ : St} {H : Hp} {s : Shared}
mutual
theorem IsD.reads (I : Inv X pins σ H s) : ∀ (p : PyData) (v : V) (u : Value), IsD X.K H p v → RelV v u → ∃ as, Reads s.heap u p as
  | .none, v, u, h, r => by
    simp only [IsD] at h; subst h; cases r; exact ⟨_, .none⟩
  | .bool b, v, u, h, r => by
    simp only [IsD] at h; subst h; cases r; exact ⟨_, .bool b⟩
  | .int i, v, u, h, r => by
    simp only [IsD] at h; subst h; obtain ⟨t, rfl⟩ := r; exact ⟨_, .int i t⟩
  | .str x, v, u, h, r => by
    simp only [IsD] at h; subst h; obtain ⟨t, rfl⟩ := r; exact ⟨_, .str x t⟩
  | .list ps, v, u, h, r => by
    simp only [IsD] at h
    obtain ⟨a, xs, rfl, hq, hs⟩ := h
    cases r
    obtain ⟨its, rv, ⟨o, n, e, c, _, d⟩, _⟩ := I.list hq
    obtain ⟨as, q⟩ := IsDs.reads I ps xs its hs rv
    exact ⟨_, .list e c d (by simpa using q)⟩
  | .tuple ps, v, u, h, r => by
    simp only [IsD] at h
    obtain ⟨a, xs, rfl, hq, hs⟩ := h
    cases r
    obtain ⟨its, rv, ⟨o, e, c, n, d⟩, _⟩ := I.tuple hq
    obtain ⟨as, q⟩ := IsDs.reads I ps xs its hs rv
    exact ⟨_, .tuple e c d (by simpa using q)⟩
  | .dict _, v, u, h, r => by simp only [IsD] at h
theorem IsDs.reads (I : Inv X pins σ H s) : ∀ (ps : List PyData) (xs : List V) (us : List Value), IsDs X.K H ps xs → Vals xs us → ∃ as, ReadsAll s.heap us ps as
  | [], xs, us, h, r => by
    simp only [IsDs] at h; subst h; cases r; exact ⟨_, .nil⟩
  | p :: ps, xs, us, h, r => by
    simp only [IsDs] at h
    obtain ⟨y, ys, rfl, h1, h2⟩ := h
    cases r with
    | cons r1 r2 =>
      obtain ⟨as, q1⟩ := IsD.reads I p y _ h1 r1
      obtain ⟨bs, q2⟩ := IsDs.reads I ps ys _ h2 r2
      exact ⟨_, .cons q1 q2⟩
end
end
theorem Same.tup {K : PySem.W.Frag} {H H' : Hp} {a : Addr} {xs : List V} (e : Same H H') (h : SqT K H a xs) : SqT K H' a xs := by
  rcases h with (h | ⟨o, h⟩) | h
  · exact .inl (.inl (e _ _ h))
  · exact .inl (.inr ⟨o, e _ _ h⟩)
  · exact .inr h
theorem same_new {H : Hp} {p : Addr} (h : H p = none) (o : HO) : Same H (upd H p o) := fun b u q => by
  rw [upd_ne (ne_of_none q h)]; exact q
mutual
theorem IsD.mono {K : PySem.W.Frag} {H H' : Hp} (e : Same H H') : ∀ (p : PyData) (v : V), IsD K H p v → IsD K H' p v
  | .none, v, h => by simp only [IsD] at h ⊢; exact h
  | .bool b, v, h => by simp only [IsD] at h ⊢; exact h
  | .int i, v, h => by simp only [IsD] at h ⊢; exact h
  | .str x, v, h => by simp only [IsD] at h ⊢; exact h
  | .list ps, v, h => by
    simp only [IsD] at h ⊢
    obtain ⟨a, xs, e1, hq, hs⟩ := h
    exact ⟨a, xs, e1, e.seq hq, IsDs.mono e ps xs hs⟩
  | .tuple ps, v, h => by
    simp only [IsD] at h ⊢
    obtain ⟨a, xs, e1, hq, hs⟩ := h
    exact ⟨a, xs, e1, Same.tup e hq, IsDs.mono e ps xs hs⟩
  | .dict _, v, h => by simp only [IsD] at h
theorem IsDs.mono {K : PySem.W.Frag} {H H' : Hp} (e : Same H H') : ∀ (ps : List PyData) (xs : List V), IsDs K H ps xs → IsDs K H' ps xs
  | [], xs, h => by simp only [IsDs] at h ⊢; exact h
  | p :: ps, xs, h => by
    simp only [IsDs] at h ⊢
    obtain ⟨y, ys, e1, h1, h2⟩ := h
    exact ⟨y, ys, e1, IsD.mono e p y h1, IsDs.mono e ps ys h2⟩
end
def Tp (K : PySem.W.Frag) (H : Hp) (v : V) (ns : List Int) : Prop := ∃ a, v = .ref a ∧ SqT K H a (ns.map V.int)
theorem Tp.mono {K : PySem.W.Frag} {H H' : Hp} {v : V} {ns : List Int} (h : Tp K H v ns) (e : Same H H') : Tp K H' v ns := by
  obtain ⟨a, rfl, q⟩ := h
  exact ⟨a, rfl, Same.tup e q⟩
theorem isDs_ints {K : PySem.W.Frag} {H : Hp} : ∀ ns : List Int, IsDs K H (ns.map PyData.int) (ns.map V.int)
  | [] => by simp [IsDs]
  | n :: ns => by
    simp only [List.map_cons, IsDs]
    exact ⟨_, _, rfl, by simp only [IsD], isDs_ints ns⟩
theorem Tp.isD {K : PySem.W.Frag} {H : Hp} {v : V} {ns : List Int} (h : Tp K H v ns) : IsD K H (.tuple (ns.map PyData.int)) v := by
  obtain ⟨a, rfl, q⟩ := h
  simp only [IsD]
  exact ⟨a, _, rfl, q, isDs_ints ns⟩
theorem eqv_ints : ∀ ns ms : List Int, PyData.eqvAll (ns.map PyData.int) (ms.map PyData.int) = decide (ns = ms)
  | [], [] => by simp [PyData.eqvAll]
  | [], _ :: _ => by simp [PyData.eqvAll]
  | _ :: _, [] => by simp [PyData.eqvAll]
  | n :: ns, m :: ms => by
    simp only [List.map_cons, PyData.eqvAll, PyData.eqv, eqv_ints ns ms, List.cons.injEq]
    by_cases h1 : n = m
    · by_cases h2 : ns = ms <;> simp [h1, h2]
    · simp [h1]
theorem lay_ints : ∀ ns : List Int, PyData.canLayAll0 (ns.map PyData.int) = true
  | [] => by simp [PyData.canLayAll0]
  | _ :: ns => by simp [PyData.canLayAll0, PyData.canLay0, lay_ints ns]
theorem dep_ints : ∀ ns : List Int, PyData.depthAll (ns.map PyData.int) = 0
  | [] => by simp [PyData.depthAll]
  | _ :: ns => by simp [PyData.depthAll, PyData.depth, dep_ints ns]
theorem shaped_ints (ns : List Int) : SeqAt.shaped (.tuple (ns.map PyData.int)) = true := by
  unfold SeqAt.shaped
  simp only [PyData.canLay0, PyData.depth, lay_ints, dep_ints]
  decide
section
variable {X : Cx}
def rEqD (K : PySem.W.Frag) (neg : Bool) : R2 := fun x y H Q => ∃ p q, IsD K H p x ∧ IsD K H q y ∧ SeqAt.shaped p = true ∧ SeqAt.shaped q = true ∧ Q (.bl (if neg then !PyData.eqv p q else PyData.eqv p q)) H
theorem op_eqD (hu : X.A.units + 64 < cLine) : OpR X (compareOp .Eq) (rEqD X.K false) := by
  intro pins s σ H x y v u Q I rx ry h
  obtain ⟨p, q, hp, hq, sp, sq, h⟩ := h
  obtain ⟨as, ra⟩ := hp.reads I p x v rx
  obtain ⟨bs, rb⟩ := hq.reads I q y u ry
  exact eq_dataH ra rb sp sq hu ⟨.bl (PyData.eqv p q), H, I, rfl, by simpa using h⟩
theorem op_neD (hu : X.A.units + 64 < cLine) : OpR X (compareOp .NotEq) (rEqD X.K true) := by
  intro pins s σ H x y v u Q I rx ry h
  obtain ⟨p, q, hp, hq, sp, sq, h⟩ := h
  obtain ⟨as, ra⟩ := hp.reads I p x v rx
  obtain ⟨bs, rb⟩ := hq.reads I q y u ry
  exact ne_dataH ra rb sp sq hu ⟨.bl (!PyData.eqv p q), H, I, rfl, by simpa using h⟩
def rEqT (K : PySem.W.Frag) (neg : Bool) : R2 := fun x y H Q => ∃ ns ms, Tp K H x ns ∧ Tp K H y ms ∧ Q (.bl (if neg then !decide (ns = ms) else decide (ns = ms))) H
theorem rEqT.toD {K : PySem.W.Frag} {neg : Bool} {x y : V} {H : Hp} {Q : VK} (h : rEqT K neg x y H Q) : rEqD K neg x y H Q := by
  obtain ⟨ns, ms, h1, h2, q⟩ := h
  refine ⟨_, _, h1.isD, h2.isD, shaped_ints ns, shaped_ints ms, ?_⟩
  simp only [PyData.eqv, eqv_ints]
  exact q
theorem op_eqT (hu : X.A.units + 64 < cLine) : OpR X (compareOp .Eq) (rEqT X.K false) :=
  fun pins s σ H x y v u Q I rx ry h => op_eqD hu pins s σ H x y v u Q I rx ry h.toD
theorem op_neT (hu : X.A.units + 64 < cLine) : OpR X (compareOp .NotEq) (rEqT X.K true) :=
  fun pins s σ H x y v u Q I rx ry h => op_neD hu pins s σ H x y v u Q I rx ry h.toD
end
end L3
namespace L3
open PySem PySem.Spec PyProof.Rows L2
def clOf (cells : List (Str × Addr)) : List (Str × NameKind) → List (Str × Addr) → List (Str × Addr)
  | [], cs => cs
  | (n, k) :: r, cs => clOf cells r (if k == .free then (n, (cells.lookup n).getD 0) :: cs else cs)
theorem closure_eq {scope : Scope} {env : Env} (h : ∀ y ∈ scope.names, y.2 = .free → ∃ c, env.cells.lookup y.1 = some c) :
    closureFor scope env = pure (clOf env.cells scope.names []) := by
  unfold closureFor
  have go : ∀ (names : List (Str × NameKind)) (cs : List (Str × Addr)), (∀ y ∈ names, y.2 = .free → ∃ c, env.cells.lookup y.1 = some c) →
      (forIn names cs fun (x : Str × NameKind) (r : List (Str × Addr)) => match x with
        | (name, kind) => if kind == .free then do
            let c ← cellOf env name
            pure (ForInStep.yield ((name, c) :: r))
          else pure (ForInStep.yield r) : Sem (List (Str × Addr))) = pure (clOf env.cells names cs) := by
    intro names
    induction names with
    | nil => intro cs _; rfl
    | cons y r ih =>
      intro cs hy
      obtain ⟨n, k⟩ := y
      rw [List.forIn_cons]
      by_cases hk : k = .free
      · subst hk
        obtain ⟨c, hc⟩ := hy (n, .free) List.mem_cons_self rfl
        have e1 : cellOf env n = pure c := by unfold cellOf; rw [hc]
        simp only [beq_self_eq_true, if_true, e1]
        have e2 := ih ((n, c) :: cs) fun z hz => hy z (List.mem_cons_of_mem _ hz)
        have e3 : clOf env.cells ((n, .free) :: r) cs = clOf env.cells r ((n, c) :: cs) := by
          simp only [clOf, beq_self_eq_true, if_true]
          have hc' : env.cells.lookup n = some c := hc
          rw [hc']; rfl
        rw [e3, ← e2]
        rfl
      · have hb : (k == NameKind.free) = false := by simpa using hk
        simp only [hb]
        have e2 := ih cs fun z hz => hy z (List.mem_cons_of_mem _ hz)
        have e3 : clOf env.cells ((n, k) :: r) cs = clOf env.cells r cs := by simp [clOf, hb]
        rw [e3, ← e2]
        rfl
  have e := go scope.names [] h
  show (forIn scope.names [] _ >>= fun cs => pure cs) = _
  rw [e]
  rfl
theorem clOf_sub {cells : List (Str × Addr)} : ∀ (names : List (Str × NameKind)) (cs : List (Str × Addr)), (∀ y ∈ names, y.2 = .free → ∃ c, cells.lookup y.1 = some c) →
    (∀ y c, cs.lookup y = some c → cells.lookup y = some c) → ∀ y c, (clOf cells names cs).lookup y = some c → cells.lookup y = some c
  | [], cs, _, h, y, c, e => h y c e
  | (n, k) :: r, cs, hf, h, y, c, e => by
    simp only [clOf] at e
    refine clOf_sub r _ (fun z hz => hf z (List.mem_cons_of_mem _ hz)) ?_ y c e
    intro z d hz
    by_cases hk : k = .free
    · subst hk
      simp only [beq_self_eq_true, if_true, List.lookup_cons] at hz
      obtain ⟨c', hc'⟩ := hf (n, .free) List.mem_cons_self rfl
      have hc' : cells.lookup n = some c' := hc'
      cases hzn : z == n with
      | true =>
        have ez : z = n := eq_of_beq hzn
        rw [hzn] at hz
        simp only [hc', Option.getD_some, Option.some.injEq] at hz
        rw [ez, hc', hz]
      | false =>
        rw [hzn] at hz
        exact h z d hz
    · have hb : (k == NameKind.free) = false := by simpa using hk
      simp only [hb, Bool.false_eq_true, if_false] at hz
      exact h z d hz
theorem clOf_keep {cells : List (Str × Addr)} {y : Str} : ∀ (names : List (Str × NameKind)) (cs : List (Str × Addr)), (∃ c, cs.lookup y = some c) → ∃ c, (clOf cells names cs).lookup y = some c
  | [], cs, h => h
  | (n, k) :: r, cs, h => by
    simp only [clOf]
    refine clOf_keep r _ ?_
    split
    · simp only [List.lookup_cons]
      cases y == n with
      | true => exact ⟨_, rfl⟩
      | false => exact h
    · exact h
theorem clOf_has {cells : List (Str × Addr)} {y : Str} : ∀ (names : List (Str × NameKind)) (cs : List (Str × Addr)), (y, NameKind.free) ∈ names → ∃ c, (clOf cells names cs).lookup y = some c
  | [], _, h => by cases h
  | (n, k) :: r, cs, h => by
    simp only [clOf]
    rcases List.mem_cons.mp h with e | h
    · cases e
      refine clOf_keep r _ ?_
      simp
    · exact clOf_has r _ h
structure CompScope (sc scope : Scope) (x : Str) (cn : List Str) : Prop where
  kind : scope.kind = .function
  nocell : ∀ y ∈ scope.names, y.2 ≠ .cell
  tgt : scope.names.lookup x = some .local
  names : ∀ y ∈ scope.names, y.2 = .local → scope.names.lookup y.1 = some .local
  fr : ∀ y ∈ scope.names, y.2 = .free → sc.names.lookup y.1 = some .cell ∨ sc.names.lookup y.1 = some .free
  nd : (x :: cn).Nodup
  cap : ∀ y ∈ cn, (y, NameKind.free) ∈ scope.names ∧ scope.names.lookup y = some .free
theorem lookup_mem_kind {y : Str} {k : NameKind} : ∀ {names : List (Str × NameKind)}, names.lookup y = some k → (y, k) ∈ names
  | [], h => by simp at h
  | (n, j) :: r, h => by
    simp only [List.lookup_cons] at h
    cases hy : y == n with
    | true =>
      rw [hy] at h
      have e : y = n := eq_of_beq hy
      cases h
      rw [e]; exact List.mem_cons_self
    | false =>
      rw [hy] at h
      exact List.mem_cons_of_mem _ (lookup_mem_kind h)
theorem lookup_relabel {env : Env} : ∀ {names : List (Str × NameKind)} {x : Str} {k : NameKind}, names.lookup x = some k →
    (names.map fun (n, k) => if (k == NameKind.free && env.scope.kind == .function && env.kindOf n == some .cell) then (n, NameKind.cell) else (n, k)).lookup x =
      some (if (k == NameKind.free && env.scope.kind == .function && env.kindOf x == some .cell) then NameKind.cell else k)
  | [], _, _, h => by simp at h
  | (n, j) :: r, x, k, h => by
    have ih := @lookup_relabel env r x k
    rw [List.map_cons]
    show List.lookup x ((if (j == NameKind.free && env.scope.kind == .function && env.kindOf n == some .cell) = true then (n, NameKind.cell) else (n, j)) :: _) = _
    cases hx : x == n with
    | true =>
      have e : x = n := eq_of_beq hx
      subst e
      simp only [List.lookup_cons, hx] at h
      cases h
      by_cases hc : (j == NameKind.free && env.scope.kind == .function && env.kindOf x == some .cell) = true
      · rw [if_pos hc, if_pos hc]; simp
      · rw [if_neg hc, if_neg hc]; simp
    | false =>
      simp only [List.lookup_cons, hx] at h
      by_cases hc : (j == NameKind.free && env.scope.kind == .function && env.kindOf n == some .cell) = true
      · rw [if_pos hc]; simp only [List.lookup_cons, hx]; exact ih h
      · rw [if_neg hc]; simp only [List.lookup_cons, hx]; exact ih h
theorem relabel_inv {env : Env} : ∀ {names : List (Str × NameKind)} {x : Str} {k : NameKind},
    (names.map fun (n, k) => if (k == NameKind.free && env.scope.kind == .function && env.kindOf n == some .cell) then (n, NameKind.cell) else (n, k)).lookup x = some k →
      ∃ j, names.lookup x = some j ∧ (k = j ∨ j = .free)
  | [], _, _, h => by simp at h
  | (n, j) :: r, x, k, h => by
    have ih := @relabel_inv env r x k
    rw [List.map_cons] at h
    dsimp only at h
    by_cases hc : (j == NameKind.free && env.scope.kind == .function && env.kindOf n == some .cell) = true
    · have hj : j = .free := by
        simp only [Bool.and_eq_true] at hc
        exact eq_of_beq hc.1.1
      rw [if_pos hc] at h
      cases hx : x == n with
      | true => exact ⟨j, by simp [List.lookup_cons, hx], .inr hj⟩
      | false =>
        simp only [List.lookup_cons, hx] at h
        obtain ⟨i, e, q⟩ := ih h
        exact ⟨i, by simp only [List.lookup_cons, hx]; exact e, q⟩
    · rw [if_neg hc] at h
      cases hx : x == n with
      | true =>
        simp only [List.lookup_cons, hx] at h
        exact ⟨j, by simp [List.lookup_cons, hx], .inl (Option.some.inj h).symm⟩
      | false =>
        simp only [List.lookup_cons, hx] at h
        obtain ⟨i, e, q⟩ := ih h
        exact ⟨i, by simp only [List.lookup_cons, hx]; exact e, q⟩
theorem caps_len {N cn : List Str} {caps : List Nat} (h : caps.map (fun i => N[i]?) = cn.map some) : caps.length = cn.length := by
  have := congrArg List.length h
  simpa using this
theorem caps_at {N cn : List Str} {caps : List Nat} (h : caps.map (fun i => N[i]?) = cn.map some) : ∀ j : Nat, ∀ y, cn[j]? = some y → ∃ i, caps[j]? = some i ∧ N[i]? = some y := fun j y e => by
  have q := congrArg (fun l => l[j]?) h
  simp only [List.getElem?_map, e, Option.map_some] at q
  cases c : caps[j]? with
  | none => rw [c] at q; cases q
  | some i =>
    rw [c] at q
    simp only [Option.map_some, Option.some.injEq] at q
    exact ⟨i, rfl, q⟩
def cxComp (X : Cx) (scope : Scope) (cl : List (Str × Addr)) (C : Addr) (N : List Str) (s₀ : Shared) (H₀ : Hp) (ex : List Addr) : Cx where
  prog := X.prog
  w := X.w
  K := X.K
  mg := X.mg
  base := X.base
  A := X.A
  N := N
  s₀ := s₀
  H₀ := H₀
  env := compEnvC scope cl C X.env
  outer := X.stack
  stack := X.stack
  ex := ex
  fn := fun _ => false
  calm := X.calm
  pn := []
  xe := fun _ _ => False
abbrev cxCompZ (Z : Value → Shared → Prop) (X : Cx) (scope : Scope) (cl : List (Str × Addr)) (C : Addr) (N : List Str) (s₀ : Shared) (H₀ : Hp) (ex : List Addr) : Cx := { cxComp X scope cl C N s₀ H₀ ex with xe := Z }
def PQ (X : Cx) (ifs : List Expr) (t : TT) : Prop :=
  ∀ (pins : List (Addr × Obj)) (s : Shared) (σ : St) (H : Hp) (Q : Bool → Hp → Prop), Inv X pins σ H s → t σ H Q →
    wpAny (model X.prog X.w) X.A (forIn ifs true fun c r => if r = true then do let ok ← isTrue c X.env (eval c X.env); pure (ForInStep.yield ok) else pure (ForInStep.yield r)) (TP X pins σ Q) X.xe s
def tYes : TT := fun _ H Q => Q true H
theorem pq_nil {X : Cx} : PQ X [] tYes := fun _ _ _ H _ I h => wpAny_tests_nil ⟨H, I, h⟩
theorem pq_one {X : Cx} {c : Expr} {t : TT} (h : PT X c t) : PQ X [c] t := fun pins s σ H Q I q => wpAny_tests_one (h pins s σ H Q I q)
def capσ (caps : List Nat) (σ : St) : St := caps.map fun i => (σ[i]?).join
def tComp (caps : List Nat) (wi : TI) (tt : TT) (te : TE) : TE := fun σ H Q => wi σ H fun J H1 => ∃ W : Nat → Nat → List V → Hp → Prop, (∃ m, W 0 m [] H1) ∧ ∀ i m acc H, W i m acc H →
  (J.stop i H ∧ acc.length ≤ sizeLine ∧ ∀ p, H p = none → Q (.ref p) (upd H p (.lst acc))) ∨
  (J.go i H ∧ acc.length ≤ sizeLine ∧ ∀ v H', J.yld i H v H' → tt (some v :: capσ caps σ) H' fun b H2 =>
    if b = true then te (some v :: capσ caps σ) H2 fun y H3 => ∃ m', m' < m ∧ W (i + 1) m' (acc ++ [y]) H3 else ∃ m', m' < m ∧ W (i + 1) m' acc H2)
section
variable {X : Cx} {pins : List (Addr × Obj)} {σ : St} {H2 : Hp} {s2 : Shared}
structure CFree (X : Cx) (pins : List (Addr × Obj)) (C : Addr) (H : Hp) : Prop where
  no : H C = none
  ne : C ≠ X.env.locals
  up : X.s₀.heap.objs.size ≤ C
  cells : ∀ x c, X.env.cells.lookup x = some c → c ≠ C
  pin : ∀ p ∈ X.pn ++ pins, p.1 ≠ C
theorem comp_back {Z : Value → Shared → Prop} {scope : Scope} {cl : List (Str × Addr)} {N : List Str} {fp : List Addr} {D C : Addr} {s3 s' : Shared} {pl : List (Addr × Obj)} {σ' : St} {H' : Hp} {acc : List V} {its : List Value} {n : Nat}
    (I : Inv X pins σ H2 s2) (hf : ∀ b ∈ fp, FpOk X pins H2 b) (hD : D = s2.heap.objs.size) (hC : C = s2.heap.objs.size + 1)
    (h3 : s3 = { s2 with heap := s2.heap.push { cls := .type "list", data := .seq (([] : List Value).toArray) } })
    (J : Inv (cxCompZ Z X scope cl C N s3 H2 (D :: fp)) pl σ' H' s') (nD : H' D = none) (oD : s'.heap.get? D = some { cls := .type "list", data := .seq its.toArray n }) (rv : Vals acc its) (hz : acc.length ≤ sizeLine) :
    Inv X pins σ (upd H' D (.lst acc)) s' ∧ CFree X pins C (upd H' D (.lst acc)) := by
  have lt2 : ∀ b o, s2.heap.get? b = some o → b < D := fun b o e => by rw [hD]; exact Heap.lt_size e
  have push : ∀ b o, s2.heap.get? b = some o → s3.heap.get? b = some o := fun b o e => by rw [h3]; exact Heap.get?_push_of_some _ e
  have nH2 : ∀ b, D ≤ b → H2 b = none := fun b hb => I.hok.fresh (by rw [← hD]; exact hb)
  have hnD : ∀ b o, H2 b = some o → b ≠ D := fun b o e z => by rw [z, nH2 D (Nat.le_refl _)] at e; cases e
  have nex : ∀ b, b < D → b ∉ fp → b ∉ (cxCompZ Z X scope cl C N s3 H2 (D :: fp)).ex := fun b hb hf' hm => by
    rcases List.mem_cons.mp hm with z | z
    · exact absurd hb (by rw [z]; exact Nat.lt_irrefl _)
    · exact hf' z
  have fs_eq : (cxCompZ Z X scope cl C N s3 H2 (D :: fp)).fs = frs X.stack := rfl
  have un : Un (frs X.stack) fp H2 (upd H' D (.lst acc)) s2.heap s'.heap := by
    refine ⟨fun b o e n hb hx => ?_, fun b o e n hb hx => ?_, fun b o e n hx => ?_, fun b o e hx => ?_, fun b xs e => ?_, fun b o u e => ?_, fun b ps e => ?_⟩
    · exact J.base.keep b o (push b o e) n hb (nex b (lt2 b o e) hx)
    · exact J.base.slot b o (push b o e) n hb (nex b (lt2 b o e) hx)
    · rw [upd_ne (Nat.ne_of_lt (lt2 b o e))]
      exact J.base.free b o (push b o e) n (nex b (lt2 b o e) hx)
    · exact J.base.there b o (push b o e) (nex b (lt2 b o e) hx)
    · rw [upd_ne (hnD b _ e)]; exact J.base.tups b xs e
    · rw [upd_ne (hnD b _ e)]; exact J.base.frzs b o u e
    · obtain ⟨more, q⟩ := J.base.tbls b ps e
      exact ⟨more, by rw [upd_ne (hnD b _ e)]; exact q⟩
  have hok : HOk X.prog X.w (upd H' D (.lst acc)) s'.heap := fun b o e => by
    by_cases hb : b = D
    · subst hb
      rw [upd_same] at e; cases e
      exact ⟨hz, its, n, rv, oD⟩
    · rw [upd_ne hb] at e
      exact (J.hok b o e).stay (fun _ _ _ q => q) (fun c q => by rw [upd_ne (ne_of_none q nD)]; exact q) fun c xs q => by rw [upd_ne (ne_of_none q nD)]; exact q
  have os : s'.os = s2.os := by
    have e : s'.os = s3.os := J.os
    rw [e, h3]
  refine ⟨I.call' (ch := fp) os un hok J.bare fun b hb => ?_, ?_⟩
  · obtain ⟨f0, f1, f2, f3, f4, f5⟩ := hf b hb
    exact ⟨f3, f1, f4, f5⟩
  · have hCD : C ≠ D := by rw [hC, hD]; exact Nat.succ_ne_self _
    refine ⟨by rw [upd_ne hCD]; exact J.free, ?_, ?_, fun x c e z => ?_, fun p hp z => ?_⟩
    · rw [hC]; exact Nat.ne_of_gt (Nat.lt_succ_of_lt I.lt)
    · rw [hC]; exact Nat.le_succ_of_le I.sz
    · obtain ⟨v, q⟩ := I.cell x c e
      have := q.lt
      rw [z, hC] at this; exact absurd (Nat.lt_of_succ_lt this) (Nat.lt_irrefl _)
    · have := Heap.lt_size (I.pin p hp).1
      rw [z, hC] at this; exact absurd (Nat.lt_of_succ_lt this) (Nat.lt_irrefl _)
theorem comp_runZ {Z : Addr → Value → Shared → Prop} {elt iter : Expr} {x : Str} {px pos : Pos} {ifs : List Expr} {scope : Scope} {cl : List (Str × Addr)} {caps : List Nat} {cn : List Str} {te : TE} {tt : TT} {it : Addr} {fp : List Addr} {tn : Nat → Heap → Prop} {J : It}
    {W : Nat → Nat → List V → Hp → Prop} {m0 : Nat} {Qe : V → Hp → Prop} {E : Value → Shared → Prop} {R : Value → Addr → Result → Shared → Prop}
    (S : CompScope X.env.scope scope x cn) (hcl : cl = clOf X.env.cells scope.names []) (hcap : ∀ j : Nat, ∀ y, cn[j]? = some y → ∃ i, caps[j]? = some i ∧ X.N[i]? = some y) (hlen : caps.length = cn.length)
    (hc : X.calm = true) (I2 : Inv X pins σ H2 s2) (T : Turn X.prog X.w X.K (.Name x px) J fp it tn) (st2 : tn 0 s2.heap) (f2 : ∀ b ∈ fp, FpOk X pins H2 b)
    (w0 : W 0 m0 [] H2) (turn : ∀ i m acc H, W i m acc H →
      (J.stop i H ∧ acc.length ≤ sizeLine ∧ ∀ p, H p = none → Qe (.ref p) (upd H p (.lst acc))) ∨
      (J.go i H ∧ acc.length ≤ sizeLine ∧ ∀ v H', J.yld i H v H' → tt (some v :: capσ caps σ) H' fun b H2 =>
        if b = true then te (some v :: capσ caps σ) H2 fun y H3 => ∃ m', m' < m ∧ W (i + 1) m' (acc ++ [y]) H3 else ∃ m', m' < m ∧ W (i + 1) m' acc H2))
    (he : ∀ D s₀, D = s2.heap.objs.size → s₀ = { s2 with heap := s2.heap.push { cls := .type "list", data := .seq (([] : List Value).toArray) } } → PE (cxCompZ (Z (D + 1)) X scope cl (D + 1) (x :: cn) s₀ H2 (D :: fp)) elt te) (ht : ∀ D s₀, D = s2.heap.objs.size → s₀ = { s2 with heap := s2.heap.push { cls := .type "list", data := .seq (([] : List Value).toArray) } } → PQ (cxCompZ (Z (D + 1)) X scope cl (D + 1) (x :: cn) s₀ H2 (D :: fp)) ifs tt)
    (hZ : ∀ D e s', D = s2.heap.objs.size → Z (D + 1) e s' → notedBy (model X.prog X.w) X.A (compEnvC scope cl (D + 1) X.env) (fun e s' => R (.ref D) (D + 1) (.error e) s') e s')
    (hR : ∀ D C s' H', Inv X pins σ H' s' → (∃ m, s'.heap.Ns C m) → CFree X pins C H' → Qe (.ref D) H' → R (.ref D) C (.ok .next) s') :
    wpAny (model X.prog X.w) X.A (newList []) (fun acc s3 => wpAny (model X.prog X.w) X.A (newFunctionEnv scope X.env.globals cl [] X.env.qual none .none (some X.env)) (fun cenv s4 =>
      codeAny (model X.prog X.w) X.A (.compStart (.ListComp elt [⟨.Name x px, iter, ifs, 0⟩] scope pos) 0 (.ref it) acc { cenv with scope := relabel scope X.env }) (R acc cenv.locals) s4) E s3) E s2 := by
  refine wpAny_newList (items := []) (wpAny_newFunctionEnv S.nocell (by intro y hy; simp at hy) (fun h4 hns hsb => ?_) S.kind)
  have hhas : ∀ y ∈ scope.names, y.2 = .free → ∃ c, X.env.cells.lookup y.1 = some c := fun y hy hk => I2.ok.has y.1 (S.fr y hy hk)
  have csub : ∀ y c, cl.lookup y = some c → X.env.cells.lookup y = some c := fun y c e => by
    rw [hcl] at e
    exact clOf_sub scope.names [] hhas (fun _ _ z => by simp at z) y c e
  -- names for the places
  generalize hD : s2.heap.objs.size = D at *
  obtain ⟨s3, h3⟩ : ∃ s3 : Shared, s3 = { s2 with heap := s2.heap.push { cls := .type "list", data := .seq (([] : List Value).toArray) } } := ⟨_, rfl⟩
  have hs3 : ({ s2 with heap := s2.heap.push { cls := .type "list", data := .seq (([] : List Value).toArray) } } : Shared) = s3 := h3.symm
  have hC : (s2.heap.push { cls := .type "list", data := .seq (([] : List Value).toArray) }).objs.size = D + 1 := by rw [Heap.size_push, hD]
  rw [hC] at hns hsb
  show codeAny (model X.prog X.w) X.A (.compStart (.ListComp elt [⟨.Name x px, iter, ifs, 0⟩] scope pos) 0 (.ref it) (.ref D)
    { newEnv scope (s2.heap.push { cls := .type "list", data := .seq (([] : List Value).toArray) }).objs.size X.env.globals cl X.env.qual none .none (some X.env) _ with scope := relabel scope X.env })
    (R (.ref D) (s2.heap.push { cls := .type "list", data := .seq (([] : List Value).toArray) }).objs.size) _
  rw [hC]
  have fresh : ∀ b, D ≤ b → H2 b = none := fun b hb => I2.hok.fresh (by rw [hD]; exact hb)
  have lt2 : ∀ b o, s2.heap.get? b = some o → b < D := fun b o e => by rw [← hD]; exact Heap.lt_size e
  have fpD : ∀ b ∈ fp, b < D := fun b hb => by
    obtain ⟨o, e, _⟩ := T.obj 0 _ st2 b hb
    exact lt2 b o e
  have kp : ∀ b o, s2.heap.get? b = some o → h4.get? b = some o := fun b o e =>
    (hsb.2 b (Nat.ne_of_lt (Nat.lt_succ_of_lt (lt2 b o e)))).trans (Heap.get?_push_of_some _ (Heap.get?_push_of_some _ e))
  have oD4 : h4.get? D = some { cls := .type "list", data := .seq (([] : List Value).toArray) 0 } := by
    refine (hsb.2 D (Nat.ne_of_lt (Nat.lt_succ_self _))).trans (Heap.get?_push_of_some _ ?_)
    rw [← hD]; exact Heap.get?_push_size _ rfl
  have stkNe : ∀ b ∈ frs X.stack, b < D := fun b hb => by
    rcases List.mem_cons.mp (I2.stkSub b hb) with e | hb
    · rw [e, ← hD]; exact I2.lt
    · obtain ⟨_, o, ho, _⟩ := I2.ok.funs.mem hb
      rw [← hD]; exact Nat.lt_of_lt_of_le (Heap.lt_size ho) I2.sz
  -- the block's context
  have ok' : (cxCompZ (Z (D + 1)) X scope cl (D + 1) (x :: cn) s3 H2 (D :: fp)).Ok := by
    refine ⟨I2.ok.mod, S.kind, I2.ok.glob, I2.ok.blt, ?_, fun y z c e1 e2 => I2.ok.inj y z c (csub y c e1) (csub z c e2), fun y hy => ?_, fun y c hf => (nomatch hf), I2.ok.hd, I2.ok.frames, .inl rfl, fun b hb => ?_, fun b o e => ?_, ?_, fun b o e hb => ?_, fun b hb hfs => ?_, ?_, I2.stkFree⟩
    · show s3.heap.objs.size ≤ D + 1
      rw [h3]; show (s2.heap.push _).objs.size ≤ _; rw [hC]; exact Nat.le_refl _
    · have hy' : (relabel scope X.env).names.lookup y = some .cell ∨ (relabel scope X.env).names.lookup y = some .free := hy
      have : ∃ j, scope.names.lookup y = some j ∧ j = NameKind.free := by
        rcases hy' with z | z
        · obtain ⟨j, e, q⟩ := relabel_inv z
          rcases q with q | q
          · exact absurd q.symm (S.nocell (y, j) (lookup_mem_kind e))
          · exact ⟨j, e, q⟩
        · obtain ⟨j, e, q⟩ := relabel_inv z
          rcases q with q | q
          · exact ⟨j, e, q.symm⟩
          · exact ⟨j, e, q⟩
      obtain ⟨j, e, rfl⟩ := this
      show ∃ c, cl.lookup y = some c
      rw [hcl]; exact clOf_has _ _ (lookup_mem_kind e)
    · rcases List.mem_cons.mp hb with z | z
      · subst z
        refine ⟨Nat.ne_of_lt (Nat.lt_succ_self _), fun y c e q => ?_⟩
        obtain ⟨v, ce⟩ := I2.cell y c (csub y c e)
        have := ce.lt; rw [q, hD] at this; exact Nat.lt_irrefl _ this
      · refine ⟨Nat.ne_of_lt (Nat.lt_succ_of_lt (fpD b z)), fun y c e q => ?_⟩
        exact (f2 b z).2.2.2.2.1 y c (csub y c e) q
    · obtain ⟨q1, q2⟩ := I2.bs b o e
      exact ⟨by rw [h3]; exact Heap.get?_push_of_some _ q1, q2⟩
    · show X.base.objs.size ≤ s3.heap.objs.size
      rw [h3]; show _ ≤ (s2.heap.push _).objs.size; rw [hC]
      exact Nat.le_succ_of_le (by rw [← hD]; exact Nat.le_trans I2.ok.bsz I2.sz)
    · rcases List.mem_cons.mp hb with z | z
      · have := lt2 b o (I2.bs b o e).1
        rw [z] at this; exact Nat.lt_irrefl _ this
      · rcases (f2 b z).2.2.2.1 with q | q
        · exact I2.ok.noex b o e q
        · exact absurd (Nat.lt_of_lt_of_le (Nat.lt_of_lt_of_le (Heap.lt_size e) I2.ok.bsz) q) (Nat.lt_irrefl _)
    · rcases List.mem_cons.mp hb with z | z
      · have := stkNe b hfs; rw [z] at this; exact Nat.lt_irrefl _ this
      · have hfs' : b ∈ frs X.stack := hfs
        rcases List.mem_cons.mp (I2.stkSub b hfs') with q | q
        · exact (f2 b z).2.1 q
        · exact (f2 b z).2.2.1 q
    · show s3.heap.FunFrames X.base X.stack
      have all : ∀ (l : List Env), s2.heap.FunFrames X.base l → s3.heap.FunFrames X.base l := by
        intro l
        induction l with
        | nil => intro _; trivial
        | cons env r ih =>
          intro hl
          obtain ⟨hk, ⟨L, o, hf, hn, ho, hd⟩, hr⟩ := hl
          exact ⟨hk, ⟨L, o, hf, hn, by rw [h3]; exact Heap.get?_push_of_some _ ho, hd⟩, ih hr⟩
      exact all _ I2.stack
  -- the captured names
  have cap4 : ∀ (j : Nat) (y : Str) (v : V), cn[j]? = some y → (capσ caps σ)[j]? = some (some v) → ∃ u c, RelV v u ∧ cl.lookup y = some c ∧ h4.IsCell c (some u) := fun j y v e1 e2 => by
    obtain ⟨i, hi, hN⟩ := hcap j y e1
    have e3 : σ[i]? = some (some v) := by
      unfold capσ at e2
      rw [List.getElem?_map, hi] at e2
      simp only [Option.map_some, Option.some.injEq] at e2
      cases q : σ[i]? with
      | none => rw [q] at e2; cases e2
      | some o => rw [q] at e2; cases o with
        | none => cases e2
        | some w => simp at e2; subst e2; rfl
    obtain ⟨m, hn, hl⟩ := I2.loc
    obtain ⟨hmem, hlk⟩ := S.cap y (List.mem_of_getElem? e1)
    have hk := S.fr (y, .free) hmem rfl
    have hk' : X.env.kindOf y = some .cell ∨ X.env.kindOf y = some .free := hk
    obtain ⟨u, r, l⟩ := hl i y v hN e3 (by rcases hk with z | z; exact .inr (.inl z); exact .inr (.inr z))
    rcases l with ⟨k, _⟩ | ⟨_, c, e, z⟩
    · rcases hk' with q | q <;> rw [q] at k <;> cases k
    · obtain ⟨c', hc'⟩ : ∃ c', cl.lookup y = some c' := by rw [hcl]; exact clOf_has _ _ hmem
      have := csub y c' hc'
      rw [e] at this; cases this
      obtain ⟨o, ho, hd⟩ := z
      exact ⟨u, c, r, hc', o, kp c o ho, hd⟩
  have cells4 : ∀ y c, cl.lookup y = some c → ∃ v, h4.IsCell c v := fun y c e => by
    obtain ⟨v, o, ho, hd⟩ := I2.cell y c (csub y c e)
    exact ⟨v, o, kp c o ho, hd⟩
  obtain ⟨s4, hs4⟩ : ∃ s4 : Shared, s4 = { s2 with heap := h4, toks := s2.toks + ([] : List (Str × Value)).length } := ⟨_, rfl⟩
  have J0 : Inv (cxCompZ (Z (D + 1)) X scope cl (D + 1) (x :: cn) s3 H2 (D :: fp)) [] (none :: capσ caps σ) H2 s4 := by
    have b3 : ∀ b o, s3.heap.get? b = some o → h4.get? b = some o := fun b o e => by
      rw [h3] at e
      have hb : b < D + 1 := by rw [← hC]; exact Heap.lt_size e
      exact (hsb.2 b (Nat.ne_of_lt hb)).trans (Heap.get?_push_of_some _ e)
    refine ⟨ok', ?_, ?_, ?_, ⟨_, (by rw [hs4]; exact hns), fun j y v e1 e2 e3 => ?_⟩, fun y c e => (by rw [hs4]; exact cells4 y c e), fresh _ (Nat.le_succ _), fun y c e => I2.freeC y c (csub y c e), fun p hp => (nomatch hp), ?_, ?_⟩
    · rw [hs4]; show s2.os = s3.os; rw [h3]
    · rw [hs4]; exact I2.bare
    · rw [hs4]; exact Un.kept b3
    · cases j with
      | zero => simp at e2
      | succ j =>
        have e1' : cn[j]? = some y := by simpa [cxCompZ, cxComp] using e1
        have e2' : (capσ caps σ)[j]? = some (some v) := by simpa using e2
        obtain ⟨u, c, r, ec, ic⟩ := cap4 j y v e1' e2'
        refine ⟨u, r, .inr ⟨?_, c, ec, by rw [hs4]; exact ic⟩⟩
        have q := lookup_relabel (env := X.env) (S.cap y (List.mem_of_getElem? e1')).2
        show (relabel scope X.env).names.lookup y = _ ∨ (relabel scope X.env).names.lookup y = _
        unfold relabel
        rw [q]
        split
        · exact .inl rfl
        · exact .inr rfl
    · rw [hs4]; exact I2.hok.kept kp
    · show (none :: capσ caps σ).length = (x :: cn).length
      simp [capσ, hlen]
  -- what the iterator asks
  have fpk : ∀ {H' : Hp} {n : Nat} {its : List Value}, (∀ b ∈ fp, H' b = none) → ∀ b ∈ fp, FpOk (cxCompZ (Z (D + 1)) X scope cl (D + 1) (x :: cn) s3 H2 (D :: fp)) [(D, ({ cls := .type "list", data := .seq its.toArray n } : Obj))] H' b := fun {H' n its} hn b hb => by
    refine ⟨hn b hb, (ok'.exf b (List.mem_cons_of_mem _ hb)).1, ok'.exfs b (List.mem_cons_of_mem _ hb), .inl (List.mem_cons_of_mem _ hb), (ok'.exf b (List.mem_cons_of_mem _ hb)).2, fun p hp => ?_⟩
    have e : p = (D, ({ cls := .type "list", data := .seq its.toArray n } : Obj)) := by simpa [cxCompZ, cxComp] using hp
    subst e
    exact Ne.symm (Nat.ne_of_lt (fpD b hb))
  have pinD : ∀ {σ' : St} {H' : Hp} {s' : Shared} {n : Nat} {its : List Value}, Inv (cxCompZ (Z (D + 1)) X scope cl (D + 1) (x :: cn) s3 H2 (D :: fp)) [] σ' H' s' → H' D = none → s'.heap.get? D = some { cls := .type "list", data := .seq its.toArray n } →
      Inv (cxCompZ (Z (D + 1)) X scope cl (D + 1) (x :: cn) s3 H2 (D :: fp)) [(D, ({ cls := .type "list", data := .seq its.toArray n } : Obj))] σ' H' s' := fun {σ' H' s' n its} J hn hd => by
    refine J.pins_of fun p hp => ?_
    have e : p = (D, ({ cls := .type "list", data := .seq its.toArray n } : Obj)) := by simpa using hp
    subst e
    exact ⟨hd, hn, (ok'.exf D List.mem_cons_self).1, ok'.exfs D List.mem_cons_self, fun v z => by cases z⟩
  have locX : Loc (cxCompZ (Z (D + 1)) X scope cl (D + 1) (x :: cn) s3 H2 (D :: fp)).env.scope x := .inl (lookup_relabel_local S.tgt)
  -- the loop
  have loop : ∀ s', s' = s4 → codeAny (model X.prog X.w) X.A (.compLoop (.ListComp elt [⟨.Name x px, iter, ifs, 0⟩] scope pos) 0 (.ref it) (.ref D) (compEnvC scope cl (D + 1) X.env)) (R (.ref D) (D + 1)) s' := by
    rintro s' rfl
    refine codeAny_compLoop_tests (fun k s' => ∃ i acc its n o H', Inv (cxCompZ (Z (D + 1)) X scope cl (D + 1) (x :: cn) s3 H2 (D :: fp)) [] (o :: capσ caps σ) H' s' ∧ tn i s'.heap ∧ (∀ b ∈ fp, H' b = none) ∧ H' D = none ∧
      s'.heap.get? D = some { cls := .type "list", data := .seq its.toArray n } ∧ Vals acc its ∧ W i k acc H') ?_ m0
      ⟨0, [], [], 0, none, H2, J0, (by rw [hs4]; exact T.keep 0 _ _ st2 fun b _ o e => kp b o e), fun b hb => (f2 b hb).1, fresh D (Nat.le_refl _), (by rw [hs4]; exact oD4), .nil, w0⟩
    rintro k s5 ⟨i, acc, its, n, o, H5, J5, st5, fn5, nD5, oD5, rv5, w5⟩
    have J5' := pinD J5 nD5 oD5
    have nov : ∀ {α : Type} {t : Sem α} {Q : α → Shared → Prop} {s : Shared}, wpAny (model X.prog X.w) X.A t Q (Z (D + 1)) s → wpAny (model X.prog X.w) X.A t Q (notedBy (model X.prog X.w) X.A (compEnvC scope cl (D + 1) X.env) (fun e s' => R (.ref D) (D + 1) (.error e) s')) s :=
      fun h => wpAny_mono h (fun _ _ q => q) fun e s' q => hZ D e s' rfl q
    rcases turn i k acc H5 w5 with ⟨stop, hz, fin⟩ | ⟨go, hz, step⟩
    · refine nov (thn (T.done (cxCompZ (Z (D + 1)) X scope cl (D + 1) (x :: cn) s3 H2 (D :: fp)) rfl rfl rfl hc i _ s5 _ H5 _ J5' (fpk fn5) st5 stop) fun r s6 ⟨hr, J6⟩ => ?_)
      subst hr
      have oD6 := (J6.pin _ (List.mem_append_right _ List.mem_cons_self)).1
      obtain ⟨I6, cf⟩ := comp_back I2 f2 hD.symm (by rw [hD]) h3 J6 nD5 oD6 rv5 hz
      obtain ⟨m, hm, _⟩ := J6.loc
      exact hR D (D + 1) s6 _ I6 ⟨m, hm⟩ cf (fin D nD5)
    · refine nov (thn (T.item (cxCompZ (Z (D + 1)) X scope cl (D + 1) (x :: cn) s3 H2 (D :: fp)) rfl rfl rfl hc i _ s5 _ H5 _ J5' (fpk fn5) st5 go) fun r s6 ⟨u, hr, h6⟩ => ?_)
      subst hr
      show wpAny _ _ (assign (.Name x px) (compEnvC scope cl (D + 1) X.env) u) _ _ s6
      have h6' : wpAny (model X.prog X.w) X.A (letOwnedTupleGo (.Name x px) (.ref it) u >>= fun _ => assign (.Name x px) (compEnvC scope cl (D + 1) X.env) u) (fun _ s₂ =>
          wpAny (model X.prog X.w) X.A (forIn ifs true fun c r => if r = true then do let ok ← isTrue c (compEnvC scope cl (D + 1) X.env) (eval c (compEnvC scope cl (D + 1) X.env)); pure (ForInStep.yield ok) else pure (ForInStep.yield r)) (fun ok s₃ =>
            if ok = true then wpAny (model X.prog X.w) X.A (eval elt (compEnvC scope cl (D + 1) X.env)) (fun y s₄ =>
              wpAny (model X.prog X.w) X.A (call (.builtin "list.append") [.ref D, y]) (fun _ s₅ => ∃ m, m < k ∧ ∃ i acc its n o H', Inv (cxCompZ (Z (D + 1)) X scope cl (D + 1) (x :: cn) s3 H2 (D :: fp)) [] (o :: capσ caps σ) H' s₅ ∧ tn i s₅.heap ∧ (∀ b ∈ fp, H' b = none) ∧ H' D = none ∧
                s₅.heap.get? D = some { cls := .type "list", data := .seq its.toArray n } ∧ Vals acc its ∧ W i m acc H') (Z (D + 1)) s₄) (Z (D + 1)) s₃
            else ∃ m, m < k ∧ ∃ i acc its n o H', Inv (cxCompZ (Z (D + 1)) X scope cl (D + 1) (x :: cn) s3 H2 (D :: fp)) [] (o :: capσ caps σ) H' s₃ ∧ tn i s₃.heap ∧ (∀ b ∈ fp, H' b = none) ∧ H' D = none ∧
                s₃.heap.get? D = some { cls := .type "list", data := .seq its.toArray n } ∧ Vals acc its ∧ W i m acc H') (Z (D + 1)) s₂) (Z (D + 1)) s6 := by
        refine wpAny_bind (thn h6 fun _ s7 ⟨v, H7, J7, r7, y7, st7, fn7⟩ => ?_)
        have J7' := J7.pinned (fpk fn7) (T.obj _ _ st7)
        have pg := pg_name (X := cxCompZ (Z (D + 1)) X scope cl (D + 1) (x :: cn) s3 H2 (D :: fp)) (i := 0) (pos := px) S.nd rfl locX (.inr (lookup_relabel_local S.tgt))
        refine thn (pg _ s7 _ H7 v u (fun σ8 H8 => σ8 = some v :: capσ caps σ ∧ H8 = H7) J7' r7 ⟨rfl, rfl⟩) fun _ s8 ⟨σ8, H8, J8, e8, e8'⟩ => ?_
        subst e8 e8'
        refine thn (ht D s3 rfl h3 _ s8 _ H8 _ J8 (step v H8 y7)) fun b s9 ⟨H9, J9, q9⟩ => ?_
        -- what stays of the iterator and of the list
        have pins9 : ∀ {σ' : St} {H' : Hp} {s' : Shared}, Inv (cxCompZ (Z (D + 1)) X scope cl (D + 1) (x :: cn) s3 H2 (D :: fp)) ([(D, ({ cls := .type "list", data := .seq its.toArray n } : Obj))] ++ pinsAt fp s7.heap) σ' H' s' →
            tn (i + 1) s'.heap ∧ (∀ b ∈ fp, H' b = none) ∧ H' D = none ∧ s'.heap.get? D = some { cls := .type "list", data := .seq its.toArray n } := fun {σ' H' s'} JJ => by
          refine ⟨T.keep _ _ _ st7 fun b hb o e => (JJ.pin (b, o) (List.mem_append_right _ (List.mem_append_right _ (mem_pinsAt hb e)))).1, fun b hb => ?_, ?_, ?_⟩
          · obtain ⟨o, e, _⟩ := T.obj _ _ st7 b hb
            exact (JJ.pin (b, o) (List.mem_append_right _ (List.mem_append_right _ (mem_pinsAt hb e)))).2.1
          · exact (JJ.pin (D, _) (List.mem_append_right _ (List.mem_append_left _ List.mem_cons_self))).2.1
          · exact (JJ.pin (D, _) (List.mem_append_right _ (List.mem_append_left _ List.mem_cons_self))).1
        have strip : ∀ {σ' : St} {H' : Hp} {s' : Shared} {pl : List (Addr × Obj)}, Inv (cxCompZ (Z (D + 1)) X scope cl (D + 1) (x :: cn) s3 H2 (D :: fp)) pl σ' H' s' → Inv (cxCompZ (Z (D + 1)) X scope cl (D + 1) (x :: cn) s3 H2 (D :: fp)) [] σ' H' s' := fun JJ => JJ.pins_of fun p hp => (nomatch hp)
        cases b with
        | false =>
          rw [if_neg Bool.false_ne_true] at q9
          rw [if_neg Bool.false_ne_true]
          obtain ⟨m', hm, w9⟩ := q9
          obtain ⟨a1, a2, a3, a4⟩ := pins9 J9
          exact ⟨m', hm, i + 1, acc, its, n, some v, H9, strip J9, a1, a2, a3, a4, rv5, w9⟩
        | true =>
          rw [if_pos rfl] at q9
          rw [if_pos rfl]
          refine thn (he D s3 rfl h3 _ s9 _ H9 _ J9 q9) fun uy s10 ⟨y, H10, J10, r10, m', hm, w10⟩ => ?_
          obtain ⟨a1, a2, a3, a4⟩ := pins9 J10
          have lenI : its.toArray.size ≤ sizeLine := by rw [List.size_toArray, ← rv5.length]; exact hz
          refine wpAny_list_append_plain ⟨n, a4⟩ (fun h' pl sb => ?_) lenI
          obtain ⟨n', e'⟩ := pl
          have J11 : Inv (cxCompZ (Z (D + 1)) X scope cl (D + 1) (x :: cn) s3 H2 (D :: fp)) [] (some v :: capσ caps σ) H10 { s10 with heap := h', toks := s10.toks } :=
            (strip J10).turned (fun b o hb e => (sb.2 b hb).trans e) a3 (ok'.exf D List.mem_cons_self).1 (.inl List.mem_cons_self) (ok'.exf D List.mem_cons_self).2 fun p hp => (nomatch hp)
          refine ⟨m', hm, i + 1, acc ++ [y], its ++ [uy], n', some v, H10, J11, ?_, a2, a3, ?_, rv5.append (.cons r10 .nil), w10⟩
          · exact T.keep _ _ _ a1 fun b hb o e => (sb.2 b (Nat.ne_of_lt (fpD b hb))).trans e
          · rw [show (its ++ [uy]).toArray = its.toArray.push uy by simp]; exact e'
      refine nov (thn h6' fun _ s7 q7 => ?_)
      refine nov (thn q7 fun ok s8 q8 => ?_)
      cases ok with
      | false => exact q8
      | true =>
        rw [if_pos rfl] at q8 ⊢
        exact nov (thn q8 fun y s9 q9 => nov q9)
  refine codeAny_compStart_list (loop _ hs4.symm) (T.self X.A 0 _ _ _ ?_ (loop _ hs4.symm))
  exact T.keep 0 _ _ st2 fun b _ o e => kp b o e
theorem comp_run {elt iter : Expr} {x : Str} {px pos : Pos} {ifs : List Expr} {scope : Scope} {cl : List (Str × Addr)} {caps : List Nat} {cn : List Str} {te : TE} {tt : TT} {it : Addr} {fp : List Addr} {tn : Nat → Heap → Prop} {J : It}
    {W : Nat → Nat → List V → Hp → Prop} {m0 : Nat} {Qe : V → Hp → Prop} {E : Value → Shared → Prop} {R : Value → Addr → Result → Shared → Prop}
    (S : CompScope X.env.scope scope x cn) (hcl : cl = clOf X.env.cells scope.names []) (hcap : ∀ j : Nat, ∀ y, cn[j]? = some y → ∃ i, caps[j]? = some i ∧ X.N[i]? = some y) (hlen : caps.length = cn.length)
    (hc : X.calm = true) (I2 : Inv X pins σ H2 s2) (T : Turn X.prog X.w X.K (.Name x px) J fp it tn) (st2 : tn 0 s2.heap) (f2 : ∀ b ∈ fp, FpOk X pins H2 b)
    (w0 : W 0 m0 [] H2) (turn : ∀ i m acc H, W i m acc H →
      (J.stop i H ∧ acc.length ≤ sizeLine ∧ ∀ p, H p = none → Qe (.ref p) (upd H p (.lst acc))) ∨
      (J.go i H ∧ acc.length ≤ sizeLine ∧ ∀ v H', J.yld i H v H' → tt (some v :: capσ caps σ) H' fun b H2 =>
        if b = true then te (some v :: capσ caps σ) H2 fun y H3 => ∃ m', m' < m ∧ W (i + 1) m' (acc ++ [y]) H3 else ∃ m', m' < m ∧ W (i + 1) m' acc H2))
    (he : ∀ C s₀ H₀ ex, PE (cxComp X scope cl C (x :: cn) s₀ H₀ ex) elt te) (ht : ∀ C s₀ H₀ ex, PQ (cxComp X scope cl C (x :: cn) s₀ H₀ ex) ifs tt)
    (hR : ∀ D C s' H', Inv X pins σ H' s' → (∃ m, s'.heap.Ns C m) → CFree X pins C H' → Qe (.ref D) H' → R (.ref D) C (.ok .next) s') :
    wpAny (model X.prog X.w) X.A (newList []) (fun acc s3 => wpAny (model X.prog X.w) X.A (newFunctionEnv scope X.env.globals cl [] X.env.qual none .none (some X.env)) (fun cenv s4 =>
      codeAny (model X.prog X.w) X.A (.compStart (.ListComp elt [⟨.Name x px, iter, ifs, 0⟩] scope pos) 0 (.ref it) acc { cenv with scope := relabel scope X.env }) (R acc cenv.locals) s4) E s3) E s2 :=
  comp_runZ (Z := fun _ _ _ => False) S hcl hcap hlen hc I2 T st2 f2 w0 turn (fun D s₀ _ _ => he (D + 1) s₀ H2 (D :: fp)) (fun D s₀ _ _ => ht (D + 1) s₀ H2 (D :: fp)) (fun _ _ _ _ h => h.elim) hR
variable {elt iter : Expr} {x : Str} {px pos : Pos} {ifs : List Expr} {scope : Scope} {cn : List Str} {wi : TI} {te : TE} {tt : TT}
theorem pe_comp (caps : List Nat) {sc : Scope} (hsc : X.env.scope = sc) (S : CompScope sc scope x cn) (hcap : caps.map (fun i => X.N[i]?) = cn.map some) (hc : X.calm = true)
    (hi : PI X (.Name x px) iter wi) (ht : ∀ cl C s₀ H₀ ex, PQ (cxComp X scope cl C (x :: cn) s₀ H₀ ex) ifs tt) (he : ∀ cl C s₀ H₀ ex, PE (cxComp X scope cl C (x :: cn) s₀ H₀ ex) elt te)
    (hs : ∀ v, foldedSetIterable iter X.env v = pure v := by intro _; rfl) :
    PE X (.ListComp elt [⟨.Name x px, iter, ifs, 0⟩] scope pos) (tComp caps wi tt te) := by
  subst hsc
  intro pins s σ H Q I h
  have hhas : ∀ y ∈ scope.names, y.2 = .free → ∃ c, X.env.cells.lookup y.1 = some c := fun y hy hk => I.ok.has y.1 (S.fr y hy hk)
  rw [eval_ListComp]
  refine wpAny_comprehension_free (use := none) rfl hs (closure_eq hhas) S.kind S.names (thn (hi pins s σ H _ I h) fun xv s1 h1 => thn h1 fun itv s2 h2 => ?_)
  obtain ⟨it, fp, tn, J, H2, rfl, I2, T, st2, f2, W, ⟨m0, w0⟩, turn⟩ := h2
  refine comp_run (R := fun acc C => compPost (model X.prog X.w) X.A X.xe none (EP X pins σ Q) acc C) S rfl (caps_at hcap) (caps_len hcap) hc I2 T st2 f2 w0 turn (he _) (ht _) ?_
  intro D C s' H' I' hm cf q
  obtain ⟨m, hm⟩ := hm
  refine ⟨m, hm, fun h' sb => ⟨.ref D, H', ?_, rfl, q⟩⟩
  exact I'.turned (t' := s'.toks) (fun b o hb e => (sb.2 b hb).trans e) cf.no cf.ne (.inr cf.up) cf.cells cf.pin
theorem ps_setcomp (caps : List Nat) {sc : Scope} {i : Nat} {y : Str} {py spos : Pos} (hsc : X.env.scope = sc) (S : CompScope sc scope x cn) (hcap : caps.map (fun i => X.N[i]?) = cn.map some) (hc : X.calm = true)
    (hN : X.N.Nodup) (hi' : X.N[i]? = some y) (hy : Loc X.env.scope y) (hsw : swapsWith (.ListComp elt [⟨.Name x px, iter, ifs, 0⟩] scope pos) (some (.Name y py)) spos.line X.env = pure true)
    (hi : PI X (.Name x px) iter wi) (ht : ∀ cl C s₀ H₀ ex, PQ (cxComp X scope cl C (x :: cn) s₀ H₀ ex) ifs tt) (he : ∀ cl C s₀ H₀ ex, PE (cxComp X scope cl C (x :: cn) s₀ H₀ ex) elt te)
    (hs : ∀ v, foldedSetIterable iter X.env v = pure v := by intro _; rfl) (hf : X.fn y = true ∨ X.env.scope.names.lookup y = some .local := by first | exact .inl rfl | exact .inr rfl | assumption) :
    PS X (.Assign [.Name y py] (.ListComp elt [⟨.Name x px, iter, ifs, 0⟩] scope pos) spos) (tAsg (tComp caps wi tt te) (gName i)) := by
  subst hsc
  intro pins s σ H D I h
  have hhas : ∀ y ∈ scope.names, y.2 = .free → ∃ c, X.env.cells.lookup y.1 = some c := fun y hy hk => I.ok.has y.1 (S.fr y hy hk)
  rw [exec_Assign_Name_used _ _ _ _ hsw]
  refine wpAny_bind (wpAny_standAt (wpAny_bind ?_))
  show wpAny _ X.A (do let _ ← comprehension (.ListComp elt [⟨.Name x px, iter, ifs, 0⟩] scope pos) scope X.env _ (newList []) false (eval iter X.env) (some (assign (.Name y py) X.env))) _ _ s
  refine wpAny_bind (wpAny_mono (wpAny_comprehension_free (use := some (assign (.Name y py) X.env)) (Q := fun _ s' => SP X pins D .next s') rfl hs (closure_eq hhas) S.kind S.names (thn (hi pins s σ H _ I h) fun xv s1 h1 => thn h1 fun itv s2 h2 => ?_))
    (fun _ s' hq => wpAny_pure (wpAny_pure hq)) fun _ _ e => e)
  obtain ⟨it, fp, tn, J, H2, rfl, I2, T, st2, f2, W, ⟨m0, w0⟩, turn⟩ := h2
  refine comp_run (R := fun acc C => compPost (model X.prog X.w) X.A X.xe (some (assign (.Name y py) X.env)) (fun _ s' => SP X pins D .next s') acc C) (Qe := fun v H1 => gName i v σ H1 D.nx) S rfl (caps_at hcap) (caps_len hcap) hc I2 T st2 f2 w0 turn (he _) (ht _) ?_
  intro L C s' H' I' hm cf q
  obtain ⟨m, hm⟩ := hm
  show wpAny _ _ (assign (.Name y py) X.env (.ref L)) _ _ s'
  refine wpAny_assign_Name (store_ok2 I' hN hi' hy (v := .ref L) (u := .ref L) rfl (fun s'' I'' hb => ?_) hf)
  obtain ⟨a, sb, ha⟩ := hb
  have neA : C ≠ a := by
    rcases ha with z | z
    · rw [z]; exact cf.ne
    · exact Ne.symm (cf.cells _ _ z)
  refine ⟨m, hm.sameBut sb neA, fun h' sb' => ⟨_, H', ?_, q⟩⟩
  exact I''.turned (t' := s''.toks) (fun b o hb e => (sb'.2 b hb).trans e) cf.no cf.ne (.inr cf.up) cf.cells cf.pin
end
end L3
namespace L3
open PySem PySem.Spec PyProof.Rows L2
structure Cal (P : Program) (w : World) (K : PySem.W.Frag) (mg : Str → Option Value) (base : Heap) (k : Nat) (x : Str) (ps : List Str) (sp : Sp) : Prop where
  ex : ∃ (f : Addr) (fd : FuncData), FnOk P w K mg base CX0 k f fd ps sp ∧ Binds K fd ps [] ∧ PySem.W.keepIn K (.ref f) = true ∧ mg x = some (.ref f)
theorem Cal.mono {P : Program} {w : World} {K : PySem.W.Frag} {mg : Str → Option Value} {base : Heap} {j k : Nat} {x : Str} {ps : List Str} {sp : Sp} (c : Cal P w K mg base j x ps sp) (h : j ≤ k) : Cal P w K mg base k x ps sp := by
  obtain ⟨f, fd, F, b, kp, m⟩ := c.ex
  exact ⟨f, fd, F.mono h, b, kp, m⟩
section
variable {X : Cx} {k : Nat} {x : Str} {ps : List Str} {sp : Sp} {e : Expr} {es : List Expr} {t : TA} {p pos : Pos}
theorem pe_callC (C : Cal X.prog X.w X.K X.mg X.base k x ps sp) (hr : Room k X.A) (ha : PA X (e :: es) t) (hg : Gl X x := by rfl) (hdb : (x == ("__debug__" : Str)) = false := by decide)
    (he : starEach (e :: es) X.env = (false, eval e X.env) :: starEach es X.env := by rfl) (hpl : (backTo pos (starEach es X.env)).any (·.1) = false := by rfl) :
    PE X (.Call (.Name x p) (e :: es) [] pos) (tCall sp [] E0 t) := by
  obtain ⟨f, fd, F, b, kp, m⟩ := C.ex
  exact pe_call F hr hg m kp b .nil pass0 ha hdb he hpl
end
section
variable {P : Program} {w : World} {K : PySem.W.Frag} {mg : Str → Option Value} {base : Heap}
theorem Fun.cal {x qual : Str} {st : Stmt} {f : Addr} {fd : FuncData} {N ps : List Str} {k : Nat} {sp : Sp} (F : Fun K x qual st f fd) (hm : mg x = some (.ref f)) (hb : Binds K fd ps []) (S : FnScope N ps (defScope st)) (len : ∀ vs H Q E, sp vs H Q E → vs.length = ps.length)
    (hbody : ∀ (cdv : Value) (A : Around) (outer : List Env) (s : Shared) (H : Hp) (vs : List V) (Q : VK) (E : XK), Room k (A.deeper (envOfC qual (defScope st) s.heap.objs.size f cdv)) → sp vs H Q E →
      ∃ t, PSs (cxOf CX0 P w K mg base N qual (defScope st) f cdv A outer s H E).nox (defBody st) t ∧ t { nx := fun _ H' => Q .non H', rt := Q } (start N vs) H) : Cal P w K mg base (k + 1) x ps sp :=
  ⟨f, fd, F.ok S len hbody, hb, F.kp, hm⟩
structure Def (K : PySem.W.Frag) (mg : Str → Option Value) (x : Str) (st : Stmt) (ps : List Str) : Prop where
  ex : ∃ (f : Addr) (fd : FuncData), Fun K x x st f fd ∧ mg x = some (.ref f) ∧ Binds K fd ps []
theorem Def.cal {x : Str} {st : Stmt} {N ps : List Str} {k : Nat} {sp : Sp} (F : Def K mg x st ps) (S : FnScope N ps (defScope st)) (len : ∀ vs H Q E, sp vs H Q E → vs.length = ps.length)
    (hbody : ∀ (f : Addr) (cdv : Value) (A : Around) (outer : List Env) (s : Shared) (H : Hp) (vs : List V) (Q : VK) (E : XK), Room k (A.deeper (envOfC x (defScope st) s.heap.objs.size f cdv)) → sp vs H Q E →
      ∃ t, PSs (cxOf CX0 P w K mg base N x (defScope st) f cdv A outer s H E).nox (defBody st) t ∧ t { nx := fun _ H' => Q .non H', rt := Q } (start N vs) H) : Cal P w K mg base (k + 1) x ps sp := by
  obtain ⟨f, fd, F, hm, hb⟩ := F.ex
  exact Fun.cal F hm hb S len (hbody f)
end
theorem def_mk {K : PySem.W.Frag} {h : Heap} {mg : Str → Option Value} {x : Str} {st : Stmt} {ps : List Str} {f : Addr} {oc : Value} {od an : Option Addr} {osl : Array (Option Value)} {kV doc pm cdv ct : Value} (X : K.In h) (G : h.Ns mainGlobals mg)
    (a : PySem.W.nsIn K mainGlobals x = some (some (.ref f))) (l : K.lookup f = some ⟨oc, od, .func (PySem.W.fnOf x x (defArgs st) (defBody st) (defScope st) .none kV doc pm an cdv ct), osl⟩) (c : PySem.W.codeIn K cdv x = true) (k : PySem.W.keepIn K (.ref f) = true)
    (hb : ∀ (kV doc pm : Value) (an : Option Addr) (cdv ct : Value) (us : List Value), us.length = ps.length → bindArgs (PySem.W.fnOf x x (defArgs st) (defBody st) (defScope st) .none kV doc pm an cdv ct) ⟨us, []⟩ = pure (ps.zip us)) : Def K mg x st ps :=
  ⟨f, _, fun_mk l c k, PySem.W.mg_of X G a, (fun_mk l c k).binds hb⟩
theorem tupK {K : PySem.W.Frag} {f : Addr} {od : Option Addr} {osl : Array (Option Value)} {its : Array Value} {n : Nat} {xs : List V} (l : K.lookup f = some ⟨.type "tuple", od, .seq its n, osl⟩) (z : its.size ≤ sizeLine) (r : Vals xs its.toList) (H : Hp) : SqT K H f xs :=
  .inr ⟨_, its, n, l, rfl, rfl, z, r⟩
structure Blt (mg : Str → Option Value) : Prop where
  abs : mg "abs" = none
  len : mg "len" = none
  tuple : mg "tuple" = none
  list : mg "list" = none
  range : mg "range" = none
  isinstance : mg "isinstance" = none
  bool : mg "bool" = none
  int : mg "int" = none
  all : mg "all" = none
  set : mg "set" = none
  zip : mg "zip" = none
  str : mg "str" = none
  sorted : mg "sorted" = none
theorem bt_abs : bootBuiltins "abs" = some (.builtin "abs") := by decide +kernel
theorem bt_len : bootBuiltins "len" = some (.builtin "len") := by decide +kernel
theorem bt_all : bootBuiltins "all" = some (.builtin "all") := by decide +kernel
theorem bt_isinstance : bootBuiltins "isinstance" = some (.builtin "isinstance") := by decide +kernel
theorem bt_tuple : bootBuiltins "tuple" = some (.type "tuple") := by decide +kernel
theorem bt_int : bootBuiltins "int" = some (.type "int") := by decide +kernel
theorem bt_str : bootBuiltins "str" = some (.type "str") := by decide +kernel
section
variable {X : Cx}
end
theorem cxOf_K {CX : CXT} {P : Program} {w : World} {K : PySem.W.Frag} {mg : Str → Option Value} {base : Heap} {N : List Str} {qual : Str} {scope : Scope} {f : Addr} {cd : Value} {A : Around} {outer : List Env} {s : Shared} {H : Hp} {E : XK} :
    (cxOf CX P w K mg base N qual scope f cd A outer s H E).K = K := rfl
theorem scal_int (i j : Int) : scal (.int i) (.int j) = true := rfl
theorem scal_bl (i j : Bool) : scal (.bl i) (.bl j) = true := rfl
theorem scal_str (i j : Str) : scal (.str i) (.str j) = true := rfl
def rIxTI (K : PySem.W.Frag) : R2 := fun x y H Q => ∃ ns i n, y = .int i ∧ Tp K H x ns ∧ atI ns i = some n ∧ Q (.int n) H
def Lp (K : PySem.W.Frag) (H : Hp) (v : V) (ns : List Int) : Prop := ∃ a, v = .ref a ∧ SqL K H a (ns.map V.int)
def rIxLI (K : PySem.W.Frag) : R2 := fun x y H Q => ∃ ns i n, y = .int i ∧ Lp K H x ns ∧ atI ns i = some n ∧ Q (.int n) H
theorem atI_map {α β : Type} {f : α → β} {xs : List α} {i : Int} {x : α} (h : atI xs i = some x) : atI (xs.map f) i = some (f x) := by
  unfold atI at h ⊢
  rw [List.length_map]
  cases e : ixN xs.length i with
  | none => rw [e] at h; cases h
  | some j =>
    rw [e] at h
    simp only [Option.bind_some] at h ⊢
    rw [List.getElem?_map, h]; rfl
section
variable {X : Cx}
theorem ixr_imp {r r' : R2} (h : IxR X r) (k : ∀ x y H Q, r' x y H Q → r x y H Q) : IxR X r' := by
  intro value slice pins s σ H x y v u Q I rx ry q hs
  exact h value slice pins s σ H x y v u Q I rx ry (k x y H Q q) hs
theorem ix_tupI : IxR X (rIxTI X.K) := ixr_imp ix_tup fun x y H Q h => by
  obtain ⟨ns, i, n, rfl, ⟨a, rfl, hq⟩, ha, q⟩ := h
  exact ⟨a, _, i, _, rfl, rfl, hq, atI_map ha, q⟩
theorem ix_lstI : IxR X (rIxLI X.K) := ixr_imp ix_list fun x y H Q h => by
  obtain ⟨ns, i, n, rfl, ⟨a, rfl, hq⟩, ha, q⟩ := h
  exact ⟨a, _, i, _, rfl, rfl, hq, atI_map ha, q⟩
end
theorem Lp.of {K : PySem.W.Frag} {H : Hp} {p : Addr} {ns : List Int} : Lp K (upd H p (.lst (ns.map V.int))) (.ref p) ns := ⟨p, rfl, SqL.of upd_same⟩
section
variable {t u tb : TS} {c : TT} {g : TG} {D : Ends} {σ : L2.St} {H : Hp}
theorem seq_by (I : L2.St → Hp → Prop) (h1 : ∀ k : L2.St → Hp → Prop, (∀ σ' H', I σ' H' → k σ' H') → t { D with nx := k } σ H) (h2 : ∀ σ' H', I σ' H' → u D σ' H') : tSeq t u D σ H := h1 (u D) h2
theorem seq_det {σ1 : L2.St} {H1 : Hp} (h1 : ∀ k : L2.St → Hp → Prop, k σ1 H1 → t { D with nx := k } σ H) (h2 : u D σ1 H1) : tSeq t u D σ H := h1 (u D) h2
theorem while_of (W : Nat → L2.St → Hp → Prop) (m0 : Nat) (h0 : W m0 σ H)
    (hs : ∀ W' : Nat → L2.St → Hp → Prop, (∀ m σ H, W m σ H → W' m σ H) → ∀ n σ H, W n σ H →
      c σ H fun b H1 => if b = true then ∃ N : L2.St → Hp → Prop, (∀ σ' H', N σ' H' → ∃ m', m' < n ∧ W' m' σ' H') ∧ tb { D with nx := N, ct := N, bk := D.nx } σ H1 else D.nx σ H1) : tWhile c tb D σ H :=
  ⟨W, ⟨m0, h0⟩, hs W fun _ _ _ h => h⟩
theorem forL {K : PySem.W.Frag} {a : Addr} {xs : List V} (Pv : Nat → L2.St → Hp → Prop) (h0 : Pv 0 σ H) (hl : ∀ i σ H, i ≤ xs.length → Pv i σ H → SqL K H a xs)
    (hs : ∀ Pv' : Nat → L2.St → Hp → Prop, (∀ i σ H, Pv i σ H → Pv' i σ H) → ∀ i x σ H, xs[i]? = some x → Pv i σ H → g x σ H fun σ2 H2 => tb { D with nx := Pv' (i + 1), ct := Pv' (i + 1), bk := D.nx } σ2 H2) (hd : ∀ σ H, Pv xs.length σ H → D.nx σ H) :
    ∃ W : Nat → Nat → L2.St → Hp → Prop, (∃ m, W 0 m σ H) ∧ ∀ i m σ H, W i m σ H →
      ((Itl K a).stop i H ∧ D.nx σ H) ∨ ((Itl K a).go i H ∧ ∃ N : L2.St → Hp → Prop, (∀ σ' H', N σ' H' → ∃ m', m' < m ∧ W (i + 1) m' σ' H') ∧ ∀ x H', (Itl K a).yld i H x H' → g x σ H' fun σ2 H2 => tb { D with nx := N, ct := N, bk := D.nx } σ2 H2) :=
  for_list Pv h0 hl (hs Pv fun _ _ _ h => h) hd
theorem forT {K : PySem.W.Frag} {a : Addr} {xs : List V} (Pv : Nat → L2.St → Hp → Prop) (h0 : Pv 0 σ H) (hl : ∀ i σ H, i ≤ xs.length → Pv i σ H → SqT K H a xs)
    (hs : ∀ Pv' : Nat → L2.St → Hp → Prop, (∀ i σ H, Pv i σ H → Pv' i σ H) → ∀ i x σ H, xs[i]? = some x → Pv i σ H → g x σ H fun σ2 H2 => tb { D with nx := Pv' (i + 1), ct := Pv' (i + 1), bk := D.nx } σ2 H2) (hd : ∀ σ H, Pv xs.length σ H → D.nx σ H) :
    ∃ W : Nat → Nat → L2.St → Hp → Prop, (∃ m, W 0 m σ H) ∧ ∀ i m σ H, W i m σ H →
      ((Itt K a).stop i H ∧ D.nx σ H) ∨ ((Itt K a).go i H ∧ ∃ N : L2.St → Hp → Prop, (∀ σ' H', N σ' H' → ∃ m', m' < m ∧ W (i + 1) m' σ' H') ∧ ∀ x H', (Itt K a).yld i H x H' → g x σ H' fun σ2 H2 => tb { D with nx := N, ct := N, bk := D.nx } σ2 H2) :=
  for_tup Pv h0 hl (hs Pv fun _ _ _ h => h) hd
theorem forR {lo : Int} {n : Nat} (Pv : Nat → L2.St → Hp → Prop) (h0 : Pv 0 σ H)
    (hs : ∀ Pv' : Nat → L2.St → Hp → Prop, (∀ i σ H, Pv i σ H → Pv' i σ H) → ∀ i σ H, i < n → Pv i σ H → g (.int (lo + i)) σ H fun σ2 H2 => tb { D with nx := Pv' (i + 1), ct := Pv' (i + 1), bk := D.nx } σ2 H2) (hd : ∀ σ H, Pv n σ H → D.nx σ H) :
    ∃ W : Nat → Nat → L2.St → Hp → Prop, (∃ m, W 0 m σ H) ∧ ∀ i m σ H, W i m σ H →
      ((Itr lo n).stop i H ∧ D.nx σ H) ∨ ((Itr lo n).go i H ∧ ∃ N : L2.St → Hp → Prop, (∀ σ' H', N σ' H' → ∃ m', m' < m ∧ W (i + 1) m' σ' H') ∧ ∀ x H', (Itr lo n).yld i H x H' → g x σ H' fun σ2 H2 => tb { D with nx := N, ct := N, bk := D.nx } σ2 H2) :=
  for_range Pv h0 (hs Pv fun _ _ _ h => h) hd
theorem compL {K : PySem.W.Frag} {a : Addr} {xs : List V} {tt : TT} {te : TE} {Q : VK} {τ : L2.St} (Pv : Nat → List V → Hp → Prop) (h0 : Pv 0 [] H) (hl : ∀ i acc H, i ≤ xs.length → Pv i acc H → SqL K H a xs ∧ acc.length ≤ sizeLine)
    (hs : ∀ i x acc H, xs[i]? = some x → Pv i acc H → ∀ R : List V → Hp → Prop, (∀ acc' H', Pv (i + 1) acc' H' → R acc' H') → tt (some x :: τ) H fun b H2 => if b = true then te (some x :: τ) H2 fun y H3 => R (acc ++ [y]) H3 else R acc H2)
    (hd : ∀ acc H p, Pv xs.length acc H → H p = none → Q (.ref p) (upd H p (.lst acc))) :
    ∃ W : Nat → Nat → List V → Hp → Prop, (∃ m, W 0 m [] H) ∧ ∀ i m acc H, W i m acc H →
      ((Itl K a).stop i H ∧ acc.length ≤ sizeLine ∧ ∀ p, H p = none → Q (.ref p) (upd H p (.lst acc))) ∨
      ((Itl K a).go i H ∧ acc.length ≤ sizeLine ∧ ∀ v H', (Itl K a).yld i H v H' → tt (some v :: τ) H' fun b H2 =>
        if b = true then te (some v :: τ) H2 fun y H3 => ∃ m', m' < m ∧ W (i + 1) m' (acc ++ [y]) H3 else ∃ m', m' < m ∧ W (i + 1) m' acc H2) := by
  refine ⟨fun i m acc H => m = xs.length - i ∧ i ≤ xs.length ∧ Pv i acc H, ⟨xs.length, by simp, Nat.zero_le _, h0⟩, ?_⟩
  rintro i m acc H ⟨rfl, hi, p⟩
  obtain ⟨q, z⟩ := hl i acc H hi p
  by_cases hlt : i < xs.length
  · refine .inr ⟨⟨xs, xs[i], q, by simp [hlt]⟩, z, fun v H' y => ?_⟩
    obtain ⟨e, y⟩ := y
    subst e
    exact hs i v acc _ (y xs q) p (fun acc' H' => ∃ m', m' < xs.length - i ∧ m' = xs.length - (i + 1) ∧ i + 1 ≤ xs.length ∧ Pv (i + 1) acc' H') fun acc' H' r => ⟨_, by omega, rfl, hlt, r⟩
  · have e : i = xs.length := by omega
    subst e
    exact .inl ⟨⟨xs, q, Nat.le_refl _⟩, z, fun p' hp => hd acc H p' p hp⟩
theorem compT {K : PySem.W.Frag} {a : Addr} {xs : List V} {tt : TT} {te : TE} {Q : VK} {τ : L2.St} (Pv : Nat → List V → Hp → Prop) (h0 : Pv 0 [] H) (hl : ∀ i acc H, i ≤ xs.length → Pv i acc H → SqT K H a xs ∧ acc.length ≤ sizeLine)
    (hs : ∀ i x acc H, xs[i]? = some x → Pv i acc H → ∀ R : List V → Hp → Prop, (∀ acc' H', Pv (i + 1) acc' H' → R acc' H') → tt (some x :: τ) H fun b H2 => if b = true then te (some x :: τ) H2 fun y H3 => R (acc ++ [y]) H3 else R acc H2)
    (hd : ∀ acc H p, Pv xs.length acc H → H p = none → Q (.ref p) (upd H p (.lst acc))) :
    ∃ W : Nat → Nat → List V → Hp → Prop, (∃ m, W 0 m [] H) ∧ ∀ i m acc H, W i m acc H →
      ((Itt K a).stop i H ∧ acc.length ≤ sizeLine ∧ ∀ p, H p = none → Q (.ref p) (upd H p (.lst acc))) ∨
      ((Itt K a).go i H ∧ acc.length ≤ sizeLine ∧ ∀ v H', (Itt K a).yld i H v H' → tt (some v :: τ) H' fun b H2 =>
        if b = true then te (some v :: τ) H2 fun y H3 => ∃ m', m' < m ∧ W (i + 1) m' (acc ++ [y]) H3 else ∃ m', m' < m ∧ W (i + 1) m' acc H2) := by
  refine ⟨fun i m acc H => m = xs.length - i ∧ i ≤ xs.length ∧ Pv i acc H, ⟨xs.length, by simp, Nat.zero_le _, h0⟩, ?_⟩
  rintro i m acc H ⟨rfl, hi, p⟩
  obtain ⟨q, z⟩ := hl i acc H hi p
  by_cases hlt : i < xs.length
  · refine .inr ⟨⟨xs, xs[i], q, by simp [hlt]⟩, z, fun v H' y => ?_⟩
    obtain ⟨e, y⟩ := y
    subst e
    exact hs i v acc _ (y xs q) p (fun acc' H' => ∃ m', m' < xs.length - i ∧ m' = xs.length - (i + 1) ∧ i + 1 ≤ xs.length ∧ Pv (i + 1) acc' H') fun acc' H' r => ⟨_, by omega, rfl, hlt, r⟩
  · have e : i = xs.length := by omega
    subst e
    exact .inl ⟨⟨xs, q, Nat.le_refl _⟩, z, fun p' hp => hd acc H p' p hp⟩
theorem tcompT {K : PySem.W.Frag} {j : Nat} {a : Addr} {xs : List V} {caps : List Nat} {tt : TT} {te : TE} {Q : VK} (hj : σ[j]? = some (some (.ref a))) (hq : SqT K H a xs) (Pv : Nat → List V → Hp → Prop) (h0 : Pv 0 [] H) (hl : ∀ i acc H, i ≤ xs.length → Pv i acc H → SqT K H a xs ∧ acc.length ≤ sizeLine)
    (hs : ∀ i x acc H, xs[i]? = some x → Pv i acc H → ∀ R : List V → Hp → Prop, (∀ acc' H', Pv (i + 1) acc' H' → R acc' H') → tt (some x :: capσ caps σ) H fun b H2 => if b = true then te (some x :: capσ caps σ) H2 fun y H3 => R (acc ++ [y]) H3 else R acc H2)
    (hd : ∀ acc H p, Pv xs.length acc H → H p = none → Q (.ref p) (upd H p (.lst acc))) : tComp caps (iTup K (tVar j)) tt te σ H Q :=
  ⟨_, hj, a, rfl, ⟨_, hq⟩, compT (Q := Q) (τ := capσ caps σ) Pv h0 hl hs hd⟩
theorem tcompL {K : PySem.W.Frag} {j : Nat} {a : Addr} {xs : List V} {caps : List Nat} {tt : TT} {te : TE} {Q : VK} (hj : σ[j]? = some (some (.ref a))) (hq : SqL K H a xs) (Pv : Nat → List V → Hp → Prop) (h0 : Pv 0 [] H) (hl : ∀ i acc H, i ≤ xs.length → Pv i acc H → SqL K H a xs ∧ acc.length ≤ sizeLine)
    (hs : ∀ i x acc H, xs[i]? = some x → Pv i acc H → ∀ R : List V → Hp → Prop, (∀ acc' H', Pv (i + 1) acc' H' → R acc' H') → tt (some x :: capσ caps σ) H fun b H2 => if b = true then te (some x :: capσ caps σ) H2 fun y H3 => R (acc ++ [y]) H3 else R acc H2)
    (hd : ∀ acc H p, Pv xs.length acc H → H p = none → Q (.ref p) (upd H p (.lst acc))) : tComp caps (iList K (tVar j)) tt te σ H Q :=
  ⟨_, hj, a, rfl, ⟨_, hq⟩, compL (Q := Q) (τ := capσ caps σ) Pv h0 hl hs hd⟩
end
end L3
namespace Cs
open PySem PySem.Spec PyProof.Rows L2 L3 Mx
theorem at0 {α : Type} (x : α) (r : List α) : atI (x :: r) 0 = some x := by
  unfold atI ixN
  rw [if_pos (by decide), if_pos (by simp only [List.length_cons]; omega)]; rfl
theorem at1 {α : Type} (x y : α) (r : List α) : atI (x :: y :: r) 1 = some y := by
  unfold atI ixN
  rw [if_pos (by decide), if_pos (by simp only [List.length_cons]; omega)]; rfl
theorem at2 {α : Type} (x y z : α) (r : List α) : atI (x :: y :: z :: r) 2 = some z := by
  unfold atI ixN
  rw [if_pos (by decide), if_pos (by simp only [List.length_cons]; omega)]; rfl
theorem at3 {α : Type} (x y z u : α) (r : List α) : atI (x :: y :: z :: u :: r) 3 = some u := by
  unfold atI ixN
  rw [if_pos (by decide), if_pos (by simp only [List.length_cons]; omega)]; rfl
theorem at_any {α : Type} (xs : List α) {i : Int} (h0 : 0 ≤ i) (h1 : i < xs.length) : ∃ v, atI xs i = some v ∧ v ∈ xs := by
  unfold atI ixN
  rw [if_pos h0, if_pos h1]
  have h : i.toNat < xs.length := by omega
  exact ⟨xs[i.toNat], by simp [h], List.getElem_mem h⟩
theorem ix_any {n : Nat} {i : Int} (h0 : 0 ≤ i) (h1 : i < n) : ixN n i = some i.toNat := by
  unfold ixN
  rw [if_pos h0, if_pos h1]
def Scr (K : PySem.W.Frag) (H : Hp) (a : Addr) (ns : List Int) : Prop := (∃ o, H a = some (.frz o (.lst (ns.map V.int)))) ∨ ∀ H', SqL K H' a (ns.map V.int)
theorem Scr.seq {K : PySem.W.Frag} {H : Hp} {a : Addr} {ns : List Int} (h : Scr K H a ns) : SqL K H a (ns.map V.int) := by
  rcases h with ⟨o, h⟩ | h
  · exact .inl (.inr ⟨o, h⟩)
  · exact h H
theorem Scr.mono {K : PySem.W.Frag} {H H' : Hp} {a : Addr} {ns : List Int} (h : Scr K H a ns) (e : Same H H') : Scr K H' a ns := by
  rcases h with ⟨o, h⟩ | h
  · exact .inl ⟨o, e _ _ h⟩
  · exact .inr h
theorem Scr.upd {K : PySem.W.Frag} {H : Hp} {a b : Addr} {ns : List Int} {ys : List V} {u : HO} (h : Scr K H a ns) (e : H b = some (.lst ys)) : Scr K (L2.upd H b u) a ns := by
  rcases h with ⟨o, h⟩ | h
  · exact .inl ⟨o, by rw [upd_ne (ne_of h e (by intro z; cases z))]; exact h⟩
  · exact .inr h
theorem SqT.upd {K : PySem.W.Frag} {H : Hp} {a b : Addr} {xs ys : List V} {o : HO} (h : SqT K H a xs) (e : H b = some (.lst ys)) : SqT K (upd H b o) a xs := by
  rcases h with (h | ⟨ob, h⟩) | h
  · exact .inl (.inl (by rw [upd_ne (ne_of h e (by intro z; cases z))]; exact h))
  · exact .inl (.inr ⟨ob, by rw [upd_ne (ne_of h e (by intro z; cases z))]; exact h⟩)
  · exact .inr h
theorem Tp.upd {K : PySem.W.Frag} {H : Hp} {b : Addr} {v : V} {ns : List Int} {ys : List V} {o : HO} (h : Tp K H v ns) (e : H b = some (.lst ys)) : Tp K (upd H b o) v ns := by
  obtain ⟨a, rfl, q⟩ := h
  exact ⟨a, rfl, SqT.upd q e⟩
theorem Only.scr {K : PySem.W.Frag} {H : Hp} {a : Addr} {ns : List Int} (h : SqL K H a (ns.map V.int)) (o : Only H) : Scr K H a ns := by
  rcases h with (q | ⟨ob, q⟩) | q
  · rcases o a with z | ⟨_, _, z⟩ <;> rw [z] at q <;> cases q
  · exact .inl ⟨ob, q⟩
  · exact .inr fun _ => .inr q
def pl (p : Int × Int) : List Int := [p.1, p.2]
def cl (m : Ch) : List Int := [m.a, m.b, m.c, m.d]
def BdC (k : Nat) (m : Ch) : Prop := Bd k m.a ∧ Bd k m.b ∧ Bd k m.c ∧ Bd k m.d
def Out (K : PySem.W.Frag) (H : Hp) (ns : List Int) (Q : VK) : Prop := ∀ v H', Same H H' → Tp K H' v ns → Q v H'
def OutB (H : Hp) (b : Bool) (Q : VK) : Prop := ∀ H', Same H H' → Q (.bl b) H'
def spGcd : Sp := fun vs H Q _ => ∃ a b : Int, vs = [.int a, .int b] ∧ Q (.int (Int.gcd a b : Int)) H
def spLowP (K : PySem.W.Frag) : Sp := fun vs H Q _ => ∃ x y : Int, vs = [.int x, .int y] ∧ Bd 4000 x ∧ Bd 4000 y ∧ Out K H (pl (npt x y)) Q
def spIsP (K : PySem.W.Frag) : Sp := fun vs H Q _ => ∃ (v : V) (x y : Int), vs = [v] ∧ Tp K H v [x, y] ∧ Bd 4000 x ∧ Bd 4000 y ∧ OutB H (decide (GoodP x y)) Q
def spLowC (K : PySem.W.Frag) : Sp := fun vs H Q _ => ∃ (v : V) (m : Ch), vs = [v] ∧ Tp K H v (cl m) ∧ m.det ≠ 0 ∧ BdC 4000 m ∧ Out K H (cl (nch m)) Q
def spIsC (K : PySem.W.Frag) : Sp := fun vs H Q _ => ∃ (v : V) (m : Ch), vs = [v] ∧ Tp K H v (cl m) ∧ BdC 4000 m ∧ OutB H (decide (GoodC m)) Q
def cellN (ns : List Int) (k : Int) : Int := ns.getD k.toNat 0
def spCell (K : PySem.W.Frag) : Sp := fun vs H Q _ => ∃ (a : Addr) (ns : List Int) (k : Int), vs = [.ref a, .int k] ∧ SqL K H a (ns.map V.int) ∧ 0 ≤ k ∧ Q (.int (cellN ns k)) H
def spNext (K : PySem.W.Frag) : Sp := fun vs H Q _ => ∃ (a b : Addr) (ns : List Int) (k : Int), vs = [.ref a, .ref b] ∧ Scr K H a ns ∧ H b = some (.lst [.int k]) ∧ 0 ≤ k ∧ Q (.int (cellN ns k)) (upd H b (.lst [.int (k + 1)]))
def spLawP (K : PySem.W.Frag) : Sp := fun vs H Q _ => ∃ x y : Int, vs = [.int x, .int y] ∧ (x ≠ 0 ∨ y ≠ 0) ∧ Bd 4000 x ∧ Bd 4000 y ∧ Out K H (pl (npt x y)) Q
def stir (c : Int) : Int := ((c + 7919) % 2147483647 * ((c + 7919) % 2147483647) + 48271 * ((c + 7919) % 2147483647) + 12345) % 2147483629
def spStir : Sp := fun vs H Q _ => ∃ c : Int, vs = [.int c] ∧ Q (.int (stir c)) H
def gI (xs : List Int) : Int := xs.foldl (fun g n => (Int.gcd g n : Int)) 0
theorem gI_step {xs : List Int} {i : Nat} {n : Int} (h : xs[i]? = some n) : gI (xs.take (i + 1)) = (Int.gcd (gI (xs.take i)) n : Int) := by
  unfold gI
  rw [List.take_add_one, h, List.foldl_append]
  rfl
theorem map_at {α β : Type} {f : α → β} {xs : List α} {i : Nat} {y : β} (h : (xs.map f)[i]? = some y) : ∃ x, xs[i]? = some x ∧ f x = y := by
  rw [List.getElem?_map] at h
  cases e : xs[i]? with
  | none => rw [e] at h; cases h
  | some x => rw [e] at h; exact ⟨x, rfl, Option.some.inj h⟩
theorem BdC.gcd {k : Nat} {m : Ch} (h : BdC k m) : Bd k (g4 m) := by
  obtain ⟨h1, h2, h3, h4⟩ := h
  exact Bd.gcd (Bd.gcd (Bd.gcd (Bd.gcd (Bd.lit (by simpa using Nat.two_pow_pos k)) h1) h2) h3) h4
theorem cl_inj {m n : Ch} : cl m = cl n ↔ m = n := by
  cases m; cases n
  simp [cl]
theorem cell_at {ns : List Int} {k : Int} (h0 : 0 ≤ k) (h : k < (ns.length : Int)) : atI ns k = some (cellN ns k) := by
  unfold atI ixN cellN
  rw [if_pos h0, if_pos h]
  have hk : k.toNat < ns.length := by omega
  simp [List.getD, hk]
theorem cell_no {ns : List Int} {k : Int} (h : (ns.length : Int) ≤ k) : cellN ns k = 0 := by
  unfold cellN
  rw [List.getD, List.getElem?_eq_none (by omega)]; rfl
def wideOf (k : Int) : Int := if k = 0 then 4 else if k = 1 then 9 else if k = 2 then 100 else 1000
theorem wide_at {k : Int} (h0 : 0 ≤ k) (h1 : k < 4) : atI [4, 9, 100, 1000] k = some (wideOf k) := by
  have : k = 0 ∨ k = 1 ∨ k = 2 ∨ k = 3 := by omega
  rcases this with rfl | rfl | rfl | rfl <;> rfl
theorem wide_pos (k : Int) : 4 ≤ wideOf k ∧ wideOf k ≤ 1000 := by
  unfold wideOf
  split
  · decide
  · split
    · decide
    · split <;> decide
def rawp (c : Int) : Int × Int :=
  if c % 2 = 0 then (if c / 2 % 40 = 7 then (1, 0) else (c / 80 % 201 - 100, 1 + c / 16080 % 60))
  else if stir c / 7 % 9 = 1 then (1, 0)
  else (stir (stir c) / 7 % (2 * wideOf (stir c / 63 % 4) + 1) - wideOf (stir c / 63 % 4), 1 + stir (stir (stir c)) / 7 % wideOf (stir c / 63 % 4))
def dp (c : Int) : Int × Int := npt (rawp c).1 (rawp c).2
theorem rawp_ok (c : Int) : ((rawp c).1 ≠ 0 ∨ (rawp c).2 ≠ 0) ∧ (rawp c).1.natAbs ≤ 1000 ∧ (rawp c).2.natAbs ≤ 1000 := by
  unfold rawp
  split
  · split
    · decide
    · have h1 := Int.emod_nonneg (c / 80) (b := 201) (by decide)
      have h2 := Int.emod_lt_of_pos (c / 80) (b := 201) (by decide)
      have h3 := Int.emod_nonneg (c / 16080) (b := 60) (by decide)
      have h4 := Int.emod_lt_of_pos (c / 16080) (b := 60) (by decide)
      refine ⟨.inr ?_, ?_, ?_⟩ <;> dsimp only <;> omega
  · split
    · decide
    · obtain ⟨w1, w2⟩ := wide_pos (stir c / 63 % 4)
      generalize wideOf (stir c / 63 % 4) = w at *
      have h1 := Int.emod_nonneg (stir (stir c) / 7) (b := 2 * w + 1) (by omega)
      have h2 := Int.emod_lt_of_pos (stir (stir c) / 7) (b := 2 * w + 1) (by omega)
      have h3 := Int.emod_nonneg (stir (stir (stir c)) / 7) (b := w) (by omega)
      have h4 := Int.emod_lt_of_pos (stir (stir (stir c)) / 7) (b := w) (by omega)
      refine ⟨.inr ?_, ?_, ?_⟩ <;> dsimp only <;> omega
theorem dp_good (c : Int) : GoodP (dp c).1 (dp c).2 := (npt_spec (rawp_ok c).1).choose_spec.2.2.2
theorem dp_bd (c : Int) : Bd 10 (dp c).1 ∧ Bd 10 (dp c).2 := by
  obtain ⟨h, h1, h2⟩ := rawp_ok c
  obtain ⟨l1, l2⟩ := npt_le h
  exact ⟨Bd.lit (Nat.lt_of_le_of_lt (Nat.le_trans l1 h1) (by decide)), Bd.lit (Nat.lt_of_le_of_lt (Nat.le_trans l2 h2) (by decide))⟩
def spDrawn (K : PySem.W.Frag) : Sp := fun vs H Q _ => ∃ c : Int, vs = [.int c] ∧ Out K H (pl (dp c)) Q
theorem Out.npt {K : PySem.W.Frag} {H : Hp} {Q : VK} {x y c : Int} (q : Out K H (pl (dp c)) Q) (e : rawp c = (x, y)) : Out K H (pl (npt x y)) Q := by
  unfold dp at q
  rw [e] at q
  exact q
theorem Out.from {K : PySem.W.Frag} {H H' : Hp} {Q : VK} {ns : List Int} (q : Out K H ns Q) (g : Same H H') : Out K H' ns Q := fun v H'' g' t => q v H'' (g.trans g') t
def spPlain (K : PySem.W.Frag) : Sp := fun vs H Q _ => ∃ (a : Addr) (m : Ch), vs = [.ref a] ∧ SqL K H a ((cl m).map V.int) ∧ m.det ≠ 0 ∧ BdC 4000 m ∧ Out K H (cl (nch m)) Q
theorem first_filter {a b c d : Int} (h : a ≠ 0 ∨ (a = 0 ∧ b ≠ 0)) : atI ([a, b, c, d].filter fun n => decide (n ≠ 0)) 0 = some (if a ≠ 0 then a else b) := by
  rcases h with h | ⟨h, h'⟩
  · rw [if_pos h, List.filter_cons_of_pos (by simpa using h)]
    exact at0 _ _
  · rw [if_neg (by simpa using h), List.filter_cons_of_neg (by simpa using h), List.filter_cons_of_pos (by simpa using h')]
    exact at0 _ _
def spLawAfter (K : PySem.W.Frag) : Sp := fun vs H Q _ => ∃ (v u : V) (m n : Ch), vs = [v, u] ∧ Tp K H v (cl m) ∧ Tp K H u (cl n) ∧ m.det ≠ 0 ∧ n.det ≠ 0 ∧ BdC 1900 m ∧ BdC 1900 n ∧ Out K H (cl (nch (mul m n))) Q
def spLawBack (K : PySem.W.Frag) : Sp := fun vs H Q _ => ∃ (v : V) (m : Ch), vs = [v] ∧ Tp K H v (cl m) ∧ m.det ≠ 0 ∧ BdC 1900 m ∧ Out K H (cl (nch (adj m))) Q
def spTurning (K : PySem.W.Frag) : Sp := fun vs H Q _ => ∃ c : Int, vs = [.int c] ∧ ∀ v H' m, Same H H' → Tp K H' v (cl m) → m.det ≠ 0 → BdC 2 m → Q v H'
theorem BdC.mono {j k : Nat} {m : Ch} (h : BdC j m) (l : j ≤ k) : BdC k m := ⟨h.1.mono l, h.2.1.mono l, h.2.2.1.mono l, h.2.2.2.mono l⟩
theorem BdC.mul {j k : Nat} {m n : Ch} (h : BdC j m) (h' : BdC k n) : BdC (k + j + 1) (mul m n) := by
  obtain ⟨a, b, c, d⟩ := h
  obtain ⟨a', b', c', d'⟩ := h'
  exact ⟨(a'.mul a).add (b'.mul c), (a'.mul b).add (b'.mul d), (c'.mul a).add (d'.mul c), (c'.mul b).add (d'.mul d)⟩
theorem BdC.adj {k : Nat} {m : Ch} (h : BdC k m) : BdC k (adj m) := ⟨h.2.2.2, h.2.1.neg, h.2.2.1.neg, h.1⟩
theorem BdC.nch {k : Nat} {m : Ch} (h : BdC k m) (hd : m.det ≠ 0) : BdC k (nch m) := by
  obtain ⟨l1, l2, l3, l4⟩ := nch_le hd
  exact ⟨h.1.of_le l1, h.2.1.of_le l2, h.2.2.1.of_le l3, h.2.2.2.of_le l4⟩
theorem same_upd {B H : Hp} {l : Addr} {o : HO} (g : Same B H) (n : B l = none) : Same B (upd H l o) := fun b u e => by
  rw [upd_ne (ne_of_none e n)]
  exact g b u e
theorem list4 {ns : List Int} (h : ns.length = 4) : ∃ m, ns = cl m := by
  match ns, h with
  | [a, b, c, d], _ => exact ⟨⟨a, b, c, d⟩, rfl⟩
theorem set_cl {k : Nat} {m : Ch} (h : BdC k m) {j : Nat} (hj : j < 4) {n : Int} (hn : Bd k n) : ∃ m', ((cl m).map V.int).set j (.int n) = (cl m').map V.int ∧ BdC k m' := by
  obtain ⟨h1, h2, h3, h4⟩ := h
  match j, hj with
  | 0, _ => exact ⟨⟨n, m.b, m.c, m.d⟩, rfl, hn, h2, h3, h4⟩
  | 1, _ => exact ⟨⟨m.a, n, m.c, m.d⟩, rfl, h1, hn, h3, h4⟩
  | 2, _ => exact ⟨⟨m.a, m.b, n, m.d⟩, rfl, h1, h2, hn, h4⟩
  | 3, _ => exact ⟨⟨m.a, m.b, m.c, n⟩, rfl, h1, h2, h3, hn⟩
theorem BdC.of_all {k : Nat} {m : Ch} (h : ∀ n ∈ cl m, Bd k n) : BdC k m := ⟨h _ (by simp [cl]), h _ (by simp [cl]), h _ (by simp [cl]), h _ (by simp [cl])⟩
theorem BdC.all {k : Nat} {m : Ch} (h : BdC k m) : ∀ n ∈ cl m, Bd k n := fun n hn => by
  simp only [cl, List.mem_cons, List.not_mem_nil, or_false] at hn
  obtain ⟨h1, h2, h3, h4⟩ := h
  rcases hn with rfl | rfl | rfl | rfl <;> assumption
def spLawChange (K : PySem.W.Frag) : Sp := fun vs H Q _ => ∃ (a b : Addr) (ns : List Int) (k : Int), vs = [.ref a, .ref b] ∧ Scr K H a ns ∧ H b = some (.lst [.int k]) ∧ 0 ≤ k ∧
  ∀ v H' m, Same (upd H b (.lst [.int (k + 1)])) H' → Tp K H' v (cl m) → GoodC m → BdC 24 m → Q v H'
def spLaw (K : PySem.W.Frag) : Sp := fun vs H Q _ => ∃ (a : Addr) (ns : List Int), vs = [.ref a] ∧ Scr K H a ns ∧ ∀ H', Q (.bl true) H'
theorem far_mk {K : PySem.W.Frag} {h : Heap} {mg : Str → Option Value} {f : Addr} {od : Option Addr} {osl : Array (Option Value)} {n : Nat} {t1 t2 : Tok} (X : K.In h) (G : h.Ns mainGlobals mg)
    (a : PySem.W.nsIn K mainGlobals "FAR" = some (some (.ref f))) (l : K.lookup f = some ⟨.type "tuple", od, .seq #[.int 1 t1, .int 0 t2] n, osl⟩) :
    ∃ aF, (mg "FAR" = some (.ref aF) ∧ RelV (.ref aF) (Value.ref aF)) ∧ ∀ H, SqT K H aF [.int 1, .int 0] :=
  ⟨f, ⟨PySem.W.mg_of X G a, rfl⟩, tupK l (by show 2 ≤ sizeLine; decide) (.cons ⟨_, rfl⟩ (.cons ⟨_, rfl⟩ .nil))⟩
end Cs
namespace L3
open PySem PySem.Spec PyProof.Rows L2
section
variable {X : Cx}
def rIsB (neg : Bool) : R2 := fun x y H Q => ∃ i j, x = .bl i ∧ y = .bl j ∧ Q (.bl (if neg then i != j else i == j)) H
theorem vals_bools : ∀ {bs : List Bool} {us : List Value}, Vals (bs.map V.bl) us → us = bs.map Value.bool
  | [], _, r => by cases r; rfl
  | b :: bs, _, r => by
    cases r with
    | cons r1 r2 =>
      cases (show _ = Value.bool b from r1)
      rw [vals_bools r2]; rfl
theorem range_allB (bs : List Bool) : ((List.range bs.length).all fun i => (bs[i]?).getD true) = bs.all id := by
  rw [Bool.eq_iff_iff]
  simp only [List.all_eq_true, List.mem_range, id]
  constructor
  · intro h b hb
    obtain ⟨i, hi, e⟩ := List.mem_iff_getElem.mp hb
    have := h i hi
    rw [List.getElem?_eq_getElem hi] at this
    simpa [e] using this
  · intro h i hi
    rw [List.getElem?_eq_getElem hi]
    exact h _ (List.getElem_mem hi)
def rAllB (K : PySem.W.Frag) : List V → Hp → VK → Prop := fun xs H Q => ∃ (p : Addr) (bs : List Bool), xs = [.ref p] ∧ SqL K H p (bs.map V.bl) ∧ Q (.bl (bs.all id)) H
theorem call_allB (hc : X.calm = true) : CallR X (.builtin "all") (rAllB X.K) := by
  intro pins s σ H xs us Q I rv h
  obtain ⟨p, bs, rfl, hq, q⟩ := h
  obtain ⟨u, rfl, ru⟩ := vals1 rv
  cases (show u = Value.ref p from ru)
  obtain ⟨its, rvs, pl, _⟩ := I.list hq
  have e := vals_bools rvs
  subst e
  have hl := pl.isList
  have hlt : p < s.heap.objs.size := pl.lt
  refine call_all_walk (wpAny_pyIter_list hl ?_)
  refine ⟨s.heap.objs.size, [s.heap.objs.size, p], [s.heap.objs.size], (bs.map Value.bool).toArray.size, _, _, fun i => (bs[i]?).getD true, rfl, Walks.list (A := X.A.in1) (I.ok.hd hc) _ p (Nat.ne_of_lt hlt) (bs.map Value.bool).toArray,
    ⟨⟨_, Heap.get?_push_size _ rfl, rfl, rfl⟩, hl.push _⟩, fun i v s' Q' E' hP hQ => ?_, fun h' tk hk => ?_⟩
  · have hP' : ((bs.map Value.bool).toArray)[i]? = some v := by simpa using hP
    simp only [List.getElem?_toArray, List.getElem?_map] at hP'
    cases eb : bs[i]? with
    | none => rw [eb] at hP'; cases hP'
    | some b =>
      rw [eb] at hP'
      have ev : Value.bool b = v := by simpa using hP'
      subst ev
      simp only [eb, Option.getD_some] at hQ
      exact wpAny_truthy_bool hQ
  · have e : ((List.range (bs.map Value.bool).toArray.size).all fun i => (bs[i]?).getD true) = bs.all id := by
      rw [List.size_toArray, List.length_map]; exact range_allB bs
    rw [e]
    refine ⟨.bl (bs.all id), H, ?_, rfl, q⟩
    refine I.kept (t' := tk) fun b o e => hk b o (fun hm => ?_) (Heap.get?_push_of_some _ e)
    rw [List.mem_singleton.mp hm] at e
    exact Nat.lt_irrefl _ (Heap.lt_size e)
end
def Tps (K : PySem.W.Frag) (H : Hp) (vs : List V) (xs : List (List Int)) : Prop := Paired (fun v ns => Tp K H v ns) vs xs
def rInT (K : PySem.W.Frag) (neg : Bool) : R2 := fun x y H Q => ∃ ns l vs xs, y = .ref l ∧ Tp K H x ns ∧ SqL K H l vs ∧ Tps K H vs xs ∧ Q (.bl (if neg then !decide (ns ∈ xs) else decide (ns ∈ xs))) H
end L3
namespace Cs
open PySem PySem.Spec PyProof.Rows L2 L3 Mx
theorem int_mk {K : PySem.W.Frag} {h : Heap} {mg : Str → Option Value} {x : Str} {i : Int} {t : Tok} (X : K.In h) (G : h.Ns mainGlobals mg) (a : PySem.W.nsIn K mainGlobals x = some (some (.int i t))) : ∃ u, mg x = some u ∧ RelV (.int i) u :=
  ⟨_, PySem.W.mg_of X G a, ⟨_, rfl⟩⟩
end Cs
namespace L3
open PySem PySem.Spec PyProof.Rows L2
def gTupL (K : PySem.W.Frag) (n : Nat) (t : TGs) : TG := fun v σ H Q => ∃ a xs, v = .ref a ∧ SqL K H a xs ∧ xs.length = n ∧ t xs σ H Q
theorem pg_tupL {X : Cx} {pos : Pos} {es : List Expr} {k : Nat} {t : TGs} {n : Nat} (hc : X.calm = true) (h : PGs X es t)
    (hn : (assignEach es X.env).length = n := by rfl) (hst : (assignEach es X.env).findIdx? (·.1) = none := by rfl) : PG X (.Tuple es k pos) (gTupL X.K n t) := by
  intro pins s σ H v u Q I r hw
  obtain ⟨a, xs, e1, hq, hl, hw⟩ := hw
  subst e1
  cases r
  obtain ⟨its, rv, hp, hz⟩ := I.list hq
  rw [assign_Tuple]
  refine wpAny_bind (wpAny_standAt ?_)
  unfold unpack
  rw [show (assignEach es X.env).length = its.toArray.size by simp [hn, ← hl, rv.length], hst]
  refine wpAny_bind (wpAny_holding (PySem.W.kun_itemsOf (I.ok.hd hc) hp.isList fun h' hx => ?_))
  have I1 : Inv X pins σ H { s with heap := h' } := I.kept (t' := s.toks) fun b o e => hx b o (Nat.ne_of_lt (Heap.lt_size e)) e
  exact h pins _ σ H xs _ Q I1 (by simpa using rv) hw
end L3
namespace L3
open PySem PySem.Spec PyProof.Rows L2 PySem.Builtin PySem.Builtin.Str
section
variable {X : Cx}
def rSlS : V → Option Int → Option Int → Hp → VK → Prop := fun x lo hi H Q => ∃ z, x = .str z ∧ z.length ≤ sizeLine ∧ Q (.str (Txt.slice z lo hi)) H
theorem sl_str : SlR X rSlS := by
  intro pins s σ H x v vl vu lo hi sl Q I rx hs pl pu h
  obtain ⟨z, rfl, hz, q⟩ := h
  obtain ⟨t, rfl⟩ := rx
  refine ⟨"str", _, F.slot_str_getitem.lookup, typeIs_str _ _ _, ?_⟩
  have fin : ∀ t' k, EP X pins σ Q (.str (Txt.slice z lo hi) t') { s with toks := k } := fun t' k => ⟨.str _, H, I.tok k, ⟨t', rfl⟩, q⟩
  cases pl with
  | none =>
    cases pu with
    | none => exact wpAny_getItem_str_slice (l := none) (u := none) (st := none) hs rfl (post_val_or_str ⟨Nat.le_trans (Txt.slice_le z _ _) hz, fin⟩)
    | int j uj => exact wpAny_getItem_str_slice (l := none) (u := some (j, uj)) (st := none) hs rfl (post_val_or_str ⟨Nat.le_trans (Txt.slice_le z _ _) hz, fin⟩)
  | int i ui =>
    cases pu with
    | none => exact wpAny_getItem_str_slice (l := some (i, ui)) (u := none) (st := none) hs rfl (post_val_or_str ⟨Nat.le_trans (Txt.slice_le z _ _) hz, fin⟩)
    | int j uj => exact wpAny_getItem_str_slice (l := some (i, ui)) (u := some (j, uj)) (st := none) hs rfl (post_val_or_str ⟨Nat.le_trans (Txt.slice_le z _ _) hz, fin⟩)
def rStarts : V → List V → Hp → VK → Prop := fun x xs H Q => ∃ z y, x = .str z ∧ xs = [.str y] ∧ Q (.bl (Txt.startswith z y)) H
theorem mt_startswith : MtR X "str.startswith" rStarts := by
  intro pins s σ H x xs v us Q I rx rv h
  obtain ⟨z, y, rfl, rfl, q⟩ := h
  obtain ⟨t, rfl⟩ := rx
  obtain ⟨u, rfl, ru⟩ := rv.one
  obtain ⟨t', rfl⟩ := ru
  exact SC.startswith ⟨.bl _, H, I, rfl, q⟩
theorem vals_strs : ∀ l : List (Str × Tok), Vals ((l.map (·.1)).map V.str) (strValues l)
  | [] => .nil
  | p :: l => .cons ⟨p.2, rfl⟩ (vals_strs l)
def rSplit : V → List V → Hp → VK → Prop := fun x xs H Q => ∃ z y, x = .str z ∧ xs = [.str y] ∧ (y.length == 0) = false ∧ z.length + 2 ≤ sizeLine ∧ ∀ p, H p = none → Q (.ref p) (upd H p (.lst ((Txt.split z y).map V.str)))
theorem mt_split : MtR X "str.split" rSplit := by
  intro pins s σ H x xs v us Q I rx rv h
  obtain ⟨z, y, rfl, rfl, hy, hz, q⟩ := h
  obtain ⟨t, rfl⟩ := rx
  obtain ⟨u, rfl, ru⟩ := rv.one
  obtain ⟨t', rfl⟩ := ru
  have hle := split_le z y
  have fin : ∀ (l : List (Str × Tok)) (k : Nat), l.map (·.1) = Txt.split z y → EP X pins σ Q (.ref s.heap.objs.size) { s with heap := s.heap.push { cls := .type "list", data := .seq (strValues l).toArray }, toks := k } := fun l k e => by
    refine ⟨.ref s.heap.objs.size, _, I.laid (t' := k) (fun b o e => Heap.get?_push_of_some _ e) (Nat.le_refl _) (show ObjOk X.prog X.w _ _ _ (.lst ((Txt.split z y).map V.str)) from ⟨?_, strValues l, 0, ?_, Heap.get?_push_size _ rfl⟩), rfl, q _ (I.hok.fresh (Nat.le_refl _))⟩
    · rw [List.length_map]; omega
    · rw [← e]; exact vals_strs l
  cases h1 : (decide (z.length < y.length) || decide (strKind z < strKind y))
  · cases hf : (occurrences z y 0 z.length (z.length + 1)).isEmpty
    · have es : Txt.split z y = partsBetween z (occurrences z y 0 z.length (z.length + 1)) y.length := (if_neg (ne_true_of_eq_false h1)).trans (if_neg (ne_true_of_eq_false hf))
      refine call_meets F.slot_str_split (typeIs_str _ _ _) F.entry_str_split (F.args_str_split_2 _ _) (meets_str_split_sep z y t t' h1 hy hf (by omega) (by rw [← es]; omega)) ?_
      show wants _ _ _ { s with toks := _, heap := s.heap.push { cls := .type "list", data := .seq (strsFrom s.toks (partsBetween z (occurrences z y 0 z.length (z.length + 1)) y.length)).toArray } }
      rw [strsFrom_eq]
      exact fin _ _ ((numbered_texts _ _).trans es.symm)
    · exact call_meets F.slot_str_split (typeIs_str _ _ _) F.entry_str_split (F.args_str_split_2 _ _) (meets_str_split_not_found z y t t' h1 hy hf)
        (fin [(z, t)] s.toks ((if_neg (ne_true_of_eq_false h1)).trans (if_pos hf)).symm)
  · exact call_meets F.slot_str_split (typeIs_str _ _ _) F.entry_str_split (F.args_str_split_2 _ _) (meets_str_split_cannot_occur z y t t' h1)
      (fin [(z, t)] s.toks (if_pos h1).symm)
theorem strs_vals : ∀ {ys : List Str} {us : List Value}, Vals (ys.map V.str) us → ∃ l : List (Str × Tok), l.map (·.1) = ys ∧ us = strValues l
  | [], _, r => by cases r; exact ⟨[], rfl, rfl⟩
  | y :: ys, _, r => by
    cases r with
    | cons r1 r2 =>
      obtain ⟨t, rfl⟩ := r1
      obtain ⟨l, e, rfl⟩ := strs_vals r2
      exact ⟨(y, t) :: l, by simp [e], rfl⟩
def rJoin (K : PySem.W.Frag) : V → List V → Hp → VK → Prop := fun x xs H Q => ∃ z l ys, x = .str z ∧ xs = [.ref l] ∧ SqL K H l (ys.map V.str) ∧ JoinOk z ys = true ∧ Q (.str (Txt.join z ys)) H
theorem mt_join : MtR X "str.join" (rJoin X.K) := by
  intro pins s σ H x xs v us Q I rx rv h
  obtain ⟨z, l, ys, rfl, rfl, hq, hj, q⟩ := h
  obtain ⟨t, rfl⟩ := rx
  obtain ⟨u, rfl, ru⟩ := rv.one
  cases (show u = Value.ref l from ru)
  obtain ⟨its, rv', pl, _⟩ := I.list hq
  obtain ⟨ls, e, rfl⟩ := strs_vals rv'
  exact SC.join pl.isList e hj fun t' k => ⟨.str _, H, I.tok k, ⟨t', rfl⟩, q⟩
theorem call_intS : CallR X (.type "int") (fun xs H Q => ∃ x n, xs = [.str x] ∧ PySem.intText? x = some n ∧ x.length ≤ 640 ∧ Q (.int n) H) := by
  intro pins s σ H xs us Q I r h
  obtain ⟨x, n, rfl, hn, hl, q⟩ := h
  obtain ⟨u, rfl, ru⟩ := vals1 r
  obtain ⟨t, rfl⟩ := (show ∃ t, u = Value.str x t from ru)
  exact PySem.W.KIN.call_text hn hl ⟨.int n, H, I.tok _, ⟨_, rfl⟩, q⟩
def Its (z : Str) : It := ⟨fun i _ => i < z.length, fun i H x H' => H' = H ∧ ∃ c, z.cps[i]? = some c ∧ x = .str ⟨#[c]⟩, fun i _ => z.length ≤ i⟩
theorem turn_str {P : Program} {w : World} {K : PySem.W.Frag} {tg : Expr} (z : Str) (t : Tok) (it : Addr) : Turn P w K tg (Its z) [it] it (fun i h => h.IsStrIter it "str_ascii_iterator" z t i) where
  mem := by simp
  obj := fun i h st b hb => by
    have e : b = it := by simpa using hb
    subst e
    obtain ⟨o, e, c, d⟩ := st
    exact ⟨o, e, fun v z => by rw [d] at z; cases z⟩
  keep := fun i h h' st k => by
    obtain ⟨o, e, r⟩ := st
    exact ⟨o, k it (by simp) o e, r⟩
  item := by
    intro X hP hw hK hc i pins s σ H E I hf st hg
    subst hP hw hK
    obtain ⟨f0, f1, f2, f3, f4, f5⟩ := hf it (by simp)
    have hi : i < z.cps.size := hg
    refine wpAny_pyNext_ascii_item st (c := z.cps[i]) (by simp [hi]) fun h' st' sb => ?_
    have I1 := fun k => I.turned (h' := h') (t' := k) (fun b o hb e => (sb.2 b hb).trans e) f0 f1 f3 f4 f5
    obtain ⟨o, e, c, d⟩ := id st'
    exact ⟨_, rfl, go_of (s := { s with heap := h', toks := _ }) e c d (by decide) ⟨.str ⟨#[z.cps[i]]⟩, H, I1 _, ⟨_, rfl⟩, ⟨rfl, _, by simp [hi], rfl⟩, st', fun b hb => (hf b hb).1⟩⟩
  done := by
    intro X hP hw hK hc i pins s σ H E I hf st hg
    subst hP hw hK
    obtain ⟨f0, f1, f2, f3, f4, f5⟩ := hf it (by simp)
    have hi : z.cps.size ≤ i := hg
    exact wpAny_pyNext_ascii_end (I.ok.hd hc) st (by simp [hi]) fun h' eb => ⟨rfl, I.turned (t' := s.toks) (fun b o hb e => eb b o hb e) f0 f1 f3 f4 f5⟩
  self := fun _ _ _ _ _ st h => wpAny_pyIter_striter_ascii st h
def iStr (tl : TE) : TI := fun σ H R => tl σ H fun x H1 => ∃ z, x = .str z ∧ z.cps.all (· < 128) = true ∧ R (Its z) H1
theorem pi_str {tg l : Expr} {tl : TE} (hl : PE X l tl) : PI X tg l (iStr tl) := by
  intro pins s σ H R I h
  refine thn (hl pins s σ H _ I h) fun v s1 ⟨x, H1, I1, r1, q1⟩ => ?_
  obtain ⟨z, e, ha, q⟩ := q1
  subst e
  obtain ⟨t, rfl⟩ := (show ∃ t, v = Value.str z t from r1)
  refine wpAny_pyIter_ascii ha ?_
  refine ⟨s1.heap.objs.size, [s1.heap.objs.size], _, _, H1, rfl, I1.kept (t' := s1.toks) fun b o e => Heap.get?_push_of_some _ e, turn_str z t _, ⟨_, Heap.get?_push_size _ rfl, rfl, rfl⟩, fun b hb => ?_, q⟩
  have e : b = s1.heap.objs.size := by simpa using hb
  subst e
  exact I1.fpOk (Nat.le_refl _) (I1.hok.fresh (Nat.le_refl _))
end
section
variable {σ : L2.St} {H : Hp}
theorem compS {z : Str} {tt : TT} {te : TE} {Q : VK} {τ : L2.St} (Pv : Nat → List V → Hp → Prop) (h0 : Pv 0 [] H) (hl : ∀ i acc H, i ≤ z.length → Pv i acc H → acc.length ≤ sizeLine)
    (hs : ∀ i c acc H, z.cps[i]? = some c → Pv i acc H → ∀ R : List V → Hp → Prop, (∀ acc' H', Pv (i + 1) acc' H' → R acc' H') → tt (some (.str ⟨#[c]⟩) :: τ) H fun b H2 => if b = true then te (some (.str ⟨#[c]⟩) :: τ) H2 fun y H3 => R (acc ++ [y]) H3 else R acc H2)
    (hd : ∀ acc H p, Pv z.length acc H → H p = none → Q (.ref p) (upd H p (.lst acc))) :
    ∃ W : Nat → Nat → List V → Hp → Prop, (∃ m, W 0 m [] H) ∧ ∀ i m acc H, W i m acc H →
      ((Its z).stop i H ∧ acc.length ≤ sizeLine ∧ ∀ p, H p = none → Q (.ref p) (upd H p (.lst acc))) ∨
      ((Its z).go i H ∧ acc.length ≤ sizeLine ∧ ∀ v H', (Its z).yld i H v H' → tt (some v :: τ) H' fun b H2 =>
        if b = true then te (some v :: τ) H2 fun y H3 => ∃ m', m' < m ∧ W (i + 1) m' (acc ++ [y]) H3 else ∃ m', m' < m ∧ W (i + 1) m' acc H2) := by
  refine ⟨fun i m acc H => m = z.length - i ∧ i ≤ z.length ∧ Pv i acc H, ⟨z.length, by simp, Nat.zero_le _, h0⟩, ?_⟩
  rintro i m acc H ⟨rfl, hi, p⟩
  have hz := hl i acc H hi p
  by_cases hlt : i < z.length
  · refine .inr ⟨hlt, hz, fun v H' y => ?_⟩
    obtain ⟨e, c, hc, rfl⟩ := y
    subst e
    exact hs i c acc _ hc p (fun acc' H' => ∃ m', m' < z.length - i ∧ m' = z.length - (i + 1) ∧ i + 1 ≤ z.length ∧ Pv (i + 1) acc' H') fun acc' H' r => ⟨_, by omega, rfl, hlt, r⟩
  · have e : i = z.length := by omega
    subst e
    exact .inl ⟨Nat.le_refl _, hz, fun p' hp => hd acc H p' p hp⟩
theorem tcompS {j : Nat} {z : Str} {caps : List Nat} {tt : TT} {te : TE} {Q : VK} (hj : σ[j]? = some (some (.str z))) (ha : z.cps.all (· < 128) = true) (Pv : Nat → List V → Hp → Prop) (h0 : Pv 0 [] H) (hl : ∀ i acc H, i ≤ z.length → Pv i acc H → acc.length ≤ sizeLine)
    (hs : ∀ i c acc H, z.cps[i]? = some c → Pv i acc H → ∀ R : List V → Hp → Prop, (∀ acc' H', Pv (i + 1) acc' H' → R acc' H') → tt (some (.str ⟨#[c]⟩) :: capσ caps σ) H fun b H2 => if b = true then te (some (.str ⟨#[c]⟩) :: capσ caps σ) H2 fun y H3 => R (acc ++ [y]) H3 else R acc H2)
    (hd : ∀ acc H p, Pv z.length acc H → H p = none → Q (.ref p) (upd H p (.lst acc))) : tComp caps (iStr (tVar j)) tt te σ H Q :=
  ⟨_, hj, z, rfl, ha, compS (Q := Q) (τ := capσ caps σ) Pv h0 hl hs hd⟩
theorem comp_srcL {K : PySem.W.Frag} {tl : TE} {caps : List Nat} {tt : TT} {te : TE} {Q : VK} {xs : List V} (R : Addr → Hp → Prop) (h1 : ∀ k : VK, (∀ a H1, R a H1 → k (.ref a) H1) → tl σ H k)
    (h2 : ∀ a H1, R a H1 → ∃ Pv : Nat → List V → Hp → Prop, Pv 0 [] H1 ∧ (∀ i acc H, i ≤ xs.length → Pv i acc H → SqL K H a xs ∧ acc.length ≤ sizeLine) ∧
      (∀ i x acc H, xs[i]? = some x → Pv i acc H → ∀ R : List V → Hp → Prop, (∀ acc' H', Pv (i + 1) acc' H' → R acc' H') → tt (some x :: capσ caps σ) H fun b H2 => if b = true then te (some x :: capσ caps σ) H2 fun y H3 => R (acc ++ [y]) H3 else R acc H2) ∧
      (∀ acc H p, Pv xs.length acc H → H p = none → Q (.ref p) (upd H p (.lst acc)))) : tComp caps (iList K tl) tt te σ H Q :=
  h1 _ fun a H1 r =>
    let ⟨Pv, p0, p1, p2, p3⟩ := h2 a H1 r
    ⟨a, rfl, ⟨xs, (p1 0 [] H1 (Nat.zero_le _) p0).1⟩, compL (Q := Q) (τ := capσ caps σ) Pv p0 p1 p2 p3⟩
end
end L3
namespace Tx
open PySem PyProof.Rows PySem.NumText
def spl (c : Nat) : List Nat → List (List Nat)
  | [] => [[]]
  | x :: xs => if x = c then [] :: spl c xs else match spl c xs with
    | [] => [[x]]
    | p :: ps => (x :: p) :: ps
def jn (c : Nat) : List (List Nat) → List Nat
  | [] => []
  | [p] => p
  | p :: q :: r => p ++ c :: jn c (q :: r)
theorem spl_free {c : Nat} : ∀ {p : List Nat}, c ∉ p → spl c p = [p]
  | [], _ => rfl
  | x :: p, h => by
    simp only [List.mem_cons, not_or] at h
    unfold spl
    rw [if_neg (fun e => h.1 e.symm), spl_free h.2]
theorem spl_at {c : Nat} {xs : List Nat} : ∀ {p : List Nat}, c ∉ p → spl c (p ++ c :: xs) = p :: spl c xs
  | [], _ => by
    show spl c (c :: xs) = _
    rw [spl, if_pos rfl]
  | x :: p, h => by
    simp only [List.mem_cons, not_or] at h
    show spl c (x :: (p ++ c :: xs)) = _
    rw [spl, if_neg (fun e => h.1 e.symm), spl_at h.2]
theorem spl_jn {c : Nat} : ∀ {ps : List (List Nat)}, ps ≠ [] → (∀ p ∈ ps, c ∉ p) → spl c (jn c ps) = ps
  | [], h, _ => absurd rfl h
  | [p], _, h => spl_free (h p (by simp))
  | p :: q :: r, _, h => by
    show spl c (p ++ c :: jn c (q :: r)) = _
    rw [spl_at (h p (by simp)), spl_jn (by simp) fun x hx => h x (List.mem_cons_of_mem _ hx)]
theorem app_list (a y : Str) : (a ++ y).cps.toList = a.cps.toList ++ y.cps.toList := PySem.W.KT.app_list a y
theorem join_list (c : Nat) : ∀ ps : List Str, (Str.join ⟨#[c]⟩ ps).cps.toList = jn c (ps.map (·.cps.toList))
  | [] => rfl
  | [p] => rfl
  | p :: q :: r => by
    show (p ++ ⟨#[c]⟩ ++ Str.join ⟨#[c]⟩ (q :: r)).cps.toList = _
    rw [app_list, app_list, join_list c (q :: r)]
    show (p.cps.toList ++ [c]) ++ jn c _ = p.cps.toList ++ c :: jn c _
    simp
theorem split_list (x : Str) (c : Nat) : (Txt.split x ⟨#[c]⟩).map (·.cps.toList) = spl c x.cps.toList := by
  have h1 := StrLaws.join_split x ⟨#[c]⟩
  have h2 := StrLaws.split_free x c
  have h3 := split_pos x ⟨#[c]⟩
  have e : jn c ((Txt.split x ⟨#[c]⟩).map (·.cps.toList)) = x.cps.toList := by rw [← join_list, h1]
  rw [← e, spl_jn]
  · intro z
    have := congrArg List.length z
    simp at this
    rw [this] at h3; simp at h3
  · intro p hp
    obtain ⟨q, hq, rfl⟩ := List.mem_map.mp hp
    exact h2 q hq
theorem str_eq {a b : Str} (h : a.cps.toList = b.cps.toList) : a = b := by
  cases a; cases b
  simp at h
  simp [h]
def dg (m : Nat) : List Nat := (Nat.toDigits 10 m).map Char.toNat
def tx (n : Int) : List Nat := if n < 0 then 45 :: dg n.natAbs else dg n.natAbs
def T (n : Int) : Str := Str.ofString (toString n)
theorem T_list (n : Int) : (T n).cps.toList = tx n := by
  unfold T tx
  by_cases h : n < 0
  · rw [if_pos h, toString_neg h]
    obtain ⟨m, hm⟩ : ∃ m : Nat, 0 - n = (m : Int) := ⟨n.natAbs, by omega⟩
    rw [hm]
    have e : n.natAbs = m := by omega
    rw [e, signs_ofString, String.toList_append, List.map_append, ← signs_ofString (toString (m : Int)), PySem.W.KIN.signs_num]
    rfl
  · rw [if_neg h]
    obtain ⟨m, rfl⟩ := Int.eq_ofNat_of_zero_le (by omega : 0 ≤ n)
    rw [PySem.W.KIN.signs_num]
    rfl
theorem dg_digits (m : Nat) : AllDigits (dg m) := by
  intro c hc
  obtain ⟨ch, hch, e⟩ := List.mem_map.mp hc
  have r := digit_range (Nat.isDigit_of_mem_toDigits (by decide) (by decide) hch)
  rw [← e]; exact r
theorem dg_ne (m : Nat) : dg m ≠ [] := by
  intro e
  have h := tDigits_len_ge 10 m
  rw [List.map_eq_nil_iff.mp e] at h
  exact absurd h (by decide)
theorem dg_len {m k : Nat} (hk : 1 ≤ k) (h : m < 10 ^ k) : (dg m).length ≤ k := by
  unfold dg; rw [List.length_map]; exact digits10_le hk h
theorem dg_head (m : Nat) (h : m ≠ 0) : (dg m).head? ≠ some 48 := by
  induction m using Nat.strongRecOn with
  | _ m ih =>
    by_cases hm : m < 10
    · unfold dg
      rw [Nat.toDigits_of_lt_base hm]
      have : ∀ d, d < 10 → d ≠ 0 → ([Nat.digitChar d].map Char.toNat).head? ≠ some 48 := by decide
      exact this m hm h
    · have hr : m % 10 < 10 := Nat.mod_lt m (by decide)
      have t : Nat.toDigits 10 (m / 10) ++ Nat.toDigits 10 (m % 10) = Nat.toDigits 10 (10 * (m / 10) + m % 10) := Nat.toDigits_append_toDigits (by decide) (by omega) hr
      rw [Nat.div_add_mod] at t
      unfold dg
      rw [← t, List.map_append]
      have h2 := ih (m / 10) (by omega) (by omega)
      have h3 := dg_ne (m / 10)
      unfold dg at h2 h3
      cases hl : (Nat.toDigits 10 (m / 10)).map Char.toNat with
      | nil => exact absurd hl h3
      | cons a b => rw [hl] at h2; exact h2
def figs (l : List Nat) : List Nat := if l.head? = some 45 then l.tail else l
def dig (c : Nat) : Bool := decide (48 ≤ c) && decide (c ≤ 57)
def okN (l : List Nat) : Prop := 1 ≤ (figs l).length ∧ (figs l).length ≤ 30 ∧ (figs l).all dig = true
def canN (l : List Nat) : Prop := ¬ ((figs l).head? = some 48 ∧ l ≠ [48])
instance (l : List Nat) : Decidable (okN l) := by unfold okN; infer_instance
instance (l : List Nat) : Decidable (canN l) := by unfold canN; infer_instance
def valN (l : List Nat) : Int := if l.head? = some 45 then -(digitsVal (figs l) : Int) else (digitsVal (figs l) : Int)
def readN (l : List Nat) : Option Int := if okN l ∧ canN l then some (valN l) else none
theorem all_dig {l : List Nat} : l.all dig = true ↔ AllDigits l := by
  rw [List.all_eq_true]
  constructor
  · intro h c hc
    have := h c hc
    simpa [dig] using this
  · intro h c hc
    have := h c hc
    simpa [dig] using this
theorem figs_neg {l : List Nat} (h : l.head? = some 45) : l = 45 :: figs l := by
  unfold figs
  rw [if_pos h]
  cases l with
  | nil => simp at h
  | cons a b => simp at h; subst h; rfl
theorem figs_pos {l : List Nat} (h : l.head? ≠ some 45) : figs l = l := by unfold figs; rw [if_neg h]
theorem len_ok {l : List Nat} (h : okN l) : l.length ≤ 31 := by
  obtain ⟨h1, h2, _⟩ := h
  by_cases hs : l.head? = some 45
  · rw [figs_neg hs, List.length_cons]; omega
  · rw [figs_pos hs] at h2; omega
theorem int_of {x : Str} (h : okN x.cps.toList) : PySem.intText? x = some (valN x.cps.toList) ∧ x.length ≤ 640 := by
  have hl := len_ok h
  have hx : x.length ≤ 31 := by
    have e : x.cps.toList.length = x.length := Array.length_toList
    omega
  obtain ⟨h1, h2, h3⟩ := h
  have hd := all_dig.mp h3
  have hne : figs x.cps.toList ≠ [] := fun e => by rw [e] at h1; simp at h1
  refine ⟨?_, by omega⟩
  by_cases hs : x.cps.toList.head? = some 45
  · rw [intText_neg (figs_neg hs) hd hne (by omega)]
    unfold valN; rw [if_pos hs]
  · have ef := figs_pos hs
    rw [ef] at hd hne
    rw [intText_digits hd hne (by omega)]
    unfold valN; rw [if_neg hs, ef]
theorem back_char : ∀ c : Nat, 48 ≤ c → c ≤ 57 → (Char.ofNat c).toNat = c := by
  intro c h1 h2
  have : ∀ d, d < 58 → 48 ≤ d → (Char.ofNat d).toNat = d := by decide
  exact this c (by omega) h1
theorem map_back {l : List Nat} (h : AllDigits l) : (l.map Char.ofNat).map Char.toNat = l := by
  induction l with
  | nil => rfl
  | cons a b ih =>
    have h1 := h a (by simp)
    simp only [List.map_cons]
    rw [back_char a h1.1 h1.2, ih fun c hc => h c (by simp [hc])]
theorem dg_of {cs : List Nat} (h : AllDigits cs) (hne : cs ≠ []) (hc : cs.head? ≠ some 48 ∨ cs.length = 1) : dg (digitsVal cs) = cs := by
  unfold dg
  obtain ⟨a, b, rfl⟩ : ∃ a b, cs = a :: b := by
    cases cs with
    | nil => exact absurd rfl hne
    | cons a b => exact ⟨a, b, rfl⟩
  rw [toDigits_digitsVal b.length (a :: b) rfl h, map_back h]
  rcases hc with z | z
  · right
    have := h a (by simp)
    refine ⟨a, b, rfl, ?_⟩
    have : a ≠ 48 := fun e => z (by simp [e])
    omega
  · left
    simpa using z
theorem tx_val {l : List Nat} (h : okN l) (hc : canN l) : tx (valN l) = l := by
  obtain ⟨h1, h2, h3⟩ := h
  have hd := all_dig.mp h3
  have hne : figs l ≠ [] := fun e => by rw [e] at h1; simp at h1
  by_cases hs : l.head? = some 45
  · have hl := figs_neg hs
    have hz : (figs l).head? ≠ some 48 := fun e => hc ⟨e, fun z => by rw [z] at hs; simp at hs⟩
    have hp : 0 < digitsVal (figs l) := by
      obtain ⟨a, b, e⟩ : ∃ a b, figs l = a :: b := by
        cases e : figs l with
        | nil => exact absurd e hne
        | cons a b => exact ⟨a, b, rfl⟩
      rw [e]
      have := hd a (by rw [e]; simp)
      refine digitsVal_pos ?_
      have : a ≠ 48 := fun z => hz (by rw [e, z]; rfl)
      omega
    unfold tx valN
    rw [if_pos hs, if_pos (by omega)]
    have e : (-(digitsVal (figs l) : Int)).natAbs = digitsVal (figs l) := by omega
    rw [e, dg_of hd hne (.inl hz), ← hl]
  · have ef := figs_pos hs
    unfold tx valN
    rw [if_neg hs, if_neg (by omega), ef]
    have e : ((digitsVal l : Nat) : Int).natAbs = digitsVal l := by simp
    rw [ef] at hd hne
    rw [e, dg_of hd hne]
    by_cases hz : l.head? = some 48
    · right
      have : l = [48] := Classical.byContradiction fun z => hc ⟨by rw [ef]; exact hz, z⟩
      rw [this]; rfl
    · exact .inl hz
theorem tx_head (n : Int) : (tx n).head? = some 45 ↔ n < 0 := by
  unfold tx
  by_cases h : n < 0
  · rw [if_pos h]; exact ⟨fun _ => h, fun _ => rfl⟩
  · rw [if_neg h]
    constructor
    · intro z
      have hne := dg_ne n.natAbs
      cases e : dg n.natAbs with
      | nil => exact absurd e hne
      | cons a b =>
        rw [e] at z
        have := dg_digits n.natAbs a (by rw [e]; simp)
        simp at z; omega
    · intro z; exact absurd z h
theorem figs_tx (n : Int) : figs (tx n) = dg n.natAbs := by
  by_cases h : n < 0
  · unfold figs; rw [if_pos ((tx_head n).mpr h)]; unfold tx; rw [if_pos h]; rfl
  · rw [figs_pos fun z => h ((tx_head n).mp z)]; unfold tx; rw [if_neg h]
theorem ok_tx {n : Int} (h : n.natAbs < 10 ^ 30) : okN (tx n) := by
  unfold okN
  rw [figs_tx]
  have := dg_ne n.natAbs
  refine ⟨?_, dg_len (by decide) h, all_dig.mpr (dg_digits _)⟩
  cases e : dg n.natAbs with
  | nil => exact absurd e this
  | cons _ _ => simp
theorem can_tx (n : Int) : canN (tx n) := by
  unfold canN
  rw [figs_tx]
  rintro ⟨h1, h2⟩
  by_cases hn : n.natAbs = 0
  · have : n = 0 := by omega
    subst this
    exact h2 (by decide)
  · exact dg_head _ hn h1
theorem foldl_lt : ∀ (cs : List Nat) (a : Nat), AllDigits cs → cs.foldl (fun acc c => acc * 10 + (c - 48)) a < (a + 1) * 10 ^ cs.length
  | [], a, _ => by simp
  | c :: cs, a, h => by
    have h1 := foldl_lt cs (a * 10 + (c - 48)) fun d hd => h d (by simp [hd])
    have h2 := h c (by simp)
    have h3 : a * 10 + (c - 48) + 1 ≤ (a + 1) * 10 := by omega
    have h4 := Nat.mul_le_mul_right (10 ^ cs.length) h3
    have h5 : (a + 1) * 10 ^ (c :: cs).length = (a + 1) * 10 * 10 ^ cs.length := by rw [List.length_cons, Nat.pow_succ, Nat.mul_assoc, Nat.mul_comm (10 ^ cs.length) 10]
    rw [h5]
    exact Nat.lt_of_lt_of_le h1 h4
theorem digits_lt (cs : List Nat) (h : AllDigits cs) : digitsVal cs < 10 ^ cs.length := by
  have := foldl_lt cs 0 h
  rw [Nat.zero_add, Nat.one_mul] at this
  exact this
theorem val_lt {l : List Nat} (h : okN l) : (valN l).natAbs < 10 ^ 30 := by
  obtain ⟨h1, h2, h3⟩ := h
  have hd := digits_lt _ (all_dig.mp h3)
  have hp : 10 ^ (figs l).length ≤ 10 ^ 30 := Nat.pow_le_pow_right (by decide) h2
  unfold valN
  split <;> omega
theorem tx_val_iff {l : List Nat} (h : okN l) : tx (valN l) = l ↔ canN l := by
  constructor
  · intro e; rw [← e]; exact can_tx _
  · exact tx_val h
end Tx
namespace Tx
open PySem PyProof.Rows PySem.NumText
def FARL : List Nat := [102, 97, 114]
def readP (l : List Nat) : Option (Int × Int) :=
  if l = FARL then some (1, 0) else
  match (spl 47 l).mapM readN with
  | some [n] => some (n, 1)
  | some [n, m] => if 2 ≤ m ∧ Mx.GoodP n m then some (n, m) else none
  | _ => none
def readC (l : List Nat) : Option Mx.Ch :=
  match (spl 32 l).mapM readN with
  | some [a, b, c, d] => if Mx.GoodC ⟨a, b, c, d⟩ then some ⟨a, b, c, d⟩ else none
  | _ => none
theorem mapM_at {α β : Type} {f : α → Option β} : ∀ {l : List α} {ns : List β}, l.mapM f = some ns → l.length = ns.length ∧ ∀ (i : Nat) x, l[i]? = some x → ∃ n, ns[i]? = some n ∧ f x = some n
  | [], ns, h => by
    simp at h; subst h
    exact ⟨rfl, fun i x e => by simp at e⟩
  | a :: l, ns, h => by
    rw [List.mapM_cons] at h
    cases ha : f a with
    | none => rw [ha] at h; simp at h
    | some b =>
      cases hl : l.mapM f with
      | none => rw [ha, hl] at h; simp at h
      | some bs =>
        rw [ha, hl] at h
        simp at h
        subst h
        obtain ⟨h1, h2⟩ := mapM_at hl
        refine ⟨by simp [h1], fun i x e => ?_⟩
        cases i with
        | zero => simp at e; subst e; exact ⟨b, rfl, ha⟩
        | succ i => simpa using h2 i x (by simpa using e)
theorem starts_dash (x : Str) : Txt.startswith x "-" = decide (x.cps.toList.head? = some 45) := by
  obtain ⟨c⟩ := x
  obtain ⟨l⟩ := c
  cases l with
  | nil => rfl
  | cons a b =>
    show (decide (0 + 1 ≤ (a :: b).length) && ((a :: b).toArray.extract 0 (0 + 1) == #[45])) = _
    have e : ((a :: b).toArray.extract 0 (0 + 1)) = #[a] := by simp
    rw [e]
    simp only [List.length_cons, List.head?_cons, Option.some.injEq]
    have e2 : (#[a] == #[45]) = decide (a = 45) := by
      by_cases h : a = 45
      · subst h; rfl
      · rw [decide_eq_false h]
        simp [h]
    rw [e2]; simp
theorem slice_tail {x : Str} (h : x.cps.toList ≠ []) : (Txt.slice x (some 1) none).cps.toList = x.cps.toList.tail := by
  have hl : 1 ≤ x.length := by
    have e : x.cps.toList.length = x.length := Array.length_toList
    cases hx : x.cps.toList with
    | nil => exact absurd hx h
    | cons _ _ => rw [hx] at e; simp at e; omega
  rw [slice_from_eq (b := (x.length : Int)) (by decide) (by omega) rfl]
  have e : x.cps.toList.length = x.length := Array.length_toList
  show ((x.cps.toList.drop 1).take ((x.length : Int) - 1).toNat) = _
  rw [List.drop_one, List.take_of_length_le]
  rw [List.length_tail]; omega
theorem in_figs : ∀ c, c < 128 → (!(Builtin.Str.occurrences "0123456789" ⟨#[c]⟩ 0 10 1).isEmpty) = dig c := by decide +kernel
theorem dig_lt {c : Nat} (h : dig c = true) : c < 128 := by
  simp [dig] at h; omega
theorem ascii_of {x : Str} (h : ∀ c ∈ x.cps.toList, c < 128) : x.cps.all (· < 128) = true := by
  rw [Array.all_eq_true_iff_forall_mem]
  intro c hc
  exact decide_eq_true (h c (by simpa using hc))
theorem len_list (x : Str) : x.length = x.cps.toList.length := (Array.length_toList).symm
end Tx
namespace Cs
open PySem PySem.Spec PyProof.Rows L2 L3 Mx Tx
def spReadN (K : PySem.W.Frag) : Sp := fun vs H Q _ => ∃ (x : Str) (n : Int), vs = [.str x] ∧ readN x.cps.toList = some n ∧ ∀ H', Same H H' → Q (.int n) H'
def spReadP (K : PySem.W.Frag) : Sp := fun vs H Q _ => ∃ (x : Str) (p : Int × Int), vs = [.str x] ∧ x.length ≤ 1000 ∧ readP x.cps.toList = some p ∧ Out K H (pl p) Q
def spReadC (K : PySem.W.Frag) : Sp := fun vs H Q _ => ∃ (x : Str) (m : Ch), vs = [.str x] ∧ x.length ≤ 1000 ∧ readC x.cps.toList = some m ∧ Out K H (cl m) Q
theorem Bd.log {n : Int} (h : Bd 1900 n) : n.natAbs.log2 < 1920 := by
  by_cases h0 : n.natAbs = 0
  · rw [h0]; decide
  · exact Nat.lt_of_lt_of_le ((Nat.log2_lt h0).mpr h) (by decide)
theorem T_len {n : Int} (h : Bd 1900 n) : (T n).length ≤ 1921 := int_text_len_1921 (Bd.log h)
theorem str_mk {K : PySem.W.Frag} {h : Heap} {mg : Str → Option Value} {x : Str} {i : Str} {t : Tok} (X : K.In h) (G : h.Ns mainGlobals mg) (a : PySem.W.nsIn K mainGlobals x = some (some (.str i t))) : ∃ u, mg x = some u ∧ RelV (.str i) u :=
  ⟨_, PySem.W.mg_of X G a, ⟨_, rfl⟩⟩
theorem bd30 {n : Int} (h : n.natAbs < 10 ^ 30) : Bd 100 n := Nat.lt_of_lt_of_le h (by decide)
theorem bd30' {k : Nat} {n : Int} (h : Bd k n) (hk : k ≤ 64) : n.natAbs < 10 ^ 30 := Nat.lt_of_lt_of_le (h.mono hk) (by decide)
theorem readN_lt {l : List Nat} {n : Int} (h : readN l = some n) : n.natAbs < 10 ^ 30 := by
  unfold readN at h
  split at h
  · rename_i c
    cases h
    exact val_lt c.1
  · cases h
end Cs
namespace Tx
open PySem PyProof.Rows PySem.NumText
theorem tx_len {n : Int} (h : n.natAbs < 10 ^ 30) : (tx n).length ≤ 31 := len_ok (ok_tx h)
theorem app_len (a b : Str) : (a ++ b).length = a.length + b.length := by
  rw [len_list, len_list, len_list, app_list, List.length_append]
end Tx
namespace L2
open PySem PySem.Spec PyProof.Rows
theorem ObjOk.there {P : Program} {w : World} {H : Hp} {h : Heap} {a : Addr} {o : HO} (x : ObjOk P w H h a o) : ∃ ob, h.get? a = some ob := by
  cases o with
  | lst xs => obtain ⟨_, _, _, _, e⟩ := x; exact ⟨_, e⟩
  | tup xs => obtain ⟨_, _, _, ob, e, _⟩ := x; exact ⟨_, e⟩
  | dK kvs => obtain ⟨_, _, _, _, o, _, _, e, _⟩ := x; exact ⟨_, e⟩
  | dT kvs => obtain ⟨_, _, _, _, o, _, _, e, _⟩ := x; exact ⟨_, e⟩
  | set S n => obtain ⟨o, _, _, _, e, _⟩ := x; exact ⟨_, e⟩
  | ins C dx fs => obtain ⟨_, _, _, e, _⟩ := x; exact ⟨_, e⟩
  | own y => exact x
  | xd fs => obtain ⟨mA, ⟨od, es, ep, e, c⟩, r⟩ := x; exact ⟨_, e⟩
  | rng lo hi => obtain ⟨t, u, v, e⟩ := x; exact ⟨_, e⟩
  | frz ob u => exact ⟨_, x.1⟩
  | tbl ps => exact ⟨_, x⟩
  | met f y => exact ⟨_, x⟩
  | ext φ => exact x.2.1
end L2
namespace L4
open PySem PySem.Spec PyProof.Rows L2 L3
structure Cover (fs : List Addr) (h : Heap) (H' : Hp) (B : Heap) : Prop where
  trk : ∀ b u, H' b = some u → ∃ o, B.get? b = some o
  old : ∀ b o, h.get? b = some o → b ∉ fs → ∃ o', B.get? b = some o'
theorem un_fly {fs : List Addr} {H H1 : Hp} {h h1 h' B : Heap} (u : Un fs [] H H1 h h1) (hB : B.StaysIn h1) (hB' : B.StaysIn h') (c : Cover fs h H1 B) (sl : h1.UpToSlots h') (nf : ∀ b ∈ fs, ∀ o, h1.get? b = some o → ∀ vs, o.data ≠ .fields vs) : Un fs [] H H1 h h' where
  keep := fun b o e n hb _ => by
    have e1 := u.keep b o e n hb (by simp)
    obtain ⟨o', eB⟩ := c.old b o e hb
    have := hB b o' eB
    rw [e1] at this; cases this
    exact hB' b o eB
  slot := fun b o e n hb _ => by
    obtain ⟨s1, e1⟩ := u.slot b o e n hb (by simp)
    obtain ⟨s2, e2⟩ := sl b _ e1 (nf b hb _ e1)
    exact ⟨s2, e2⟩
  free := u.free
  there := fun b o e _ => by
    by_cases hb : b ∈ fs
    · obtain ⟨o1, e1⟩ := u.there b o e (by simp)
      obtain ⟨s2, e2⟩ := sl b _ e1 (nf b hb _ e1)
      exact ⟨_, e2⟩
    · obtain ⟨o', eB⟩ := c.old b o e hb
      exact ⟨o', hB' b o' eB⟩
  tups := u.tups
  frzs := u.frzs
  tbls := u.tbls
theorem hok_fly {P : Program} {w : World} {H1 : Hp} {h1 h' B : Heap} (x : HOk P w H1 h1) (hB : B.StaysIn h1) (hB' : B.StaysIn h') (t : ∀ b u, H1 b = some u → ∃ o, B.get? b = some o) : HOk P w H1 h' := fun a o e => by
  refine (x a o e).stay (fun b u hb q => ?_) (fun _ q => q) fun _ _ q => q
  have hH : ∃ u', H1 b = some u' := by
    rcases hb with rfl | hb
    · exact ⟨o, e⟩
    · exact ⟨_, hb⟩
  obtain ⟨u', hu⟩ := hH
  obtain ⟨o', eB⟩ := t b u' hu
  have := hB b o' eB
  rw [q] at this; cases this
  exact hB' b _ eB
structure Lies (P : Program) (w : World) (outer : List Env) (H : Hp) (s : Shared) (x C : Addr) (H' : Hp) (s' : Shared) : Prop where
  os : s'.os = s.os
  bare : AllBare s'.gens
  un : Un (frs outer) [] H H' s.heap s'.heap
  hok : HOk P w H' s'.heap
  fly : ∃ B a0, Heap.FlyingW B outer x (.ref C) a0 s'.heap ∧ Cover (frs outer) s.heap H' B
  free : H' x = none
  new : s.heap.get? x = none
def CXE (P : Program) (w : World) : CXT := fun outer H s E e s' => ∃ x C H', e = .ref x ∧ E (.ref C) none H' ∧ Lies P w outer H s x C H' s'
theorem funFrames_nf {h base : Heap} {l : List Env} (hl : h.FunFrames base l) : ∀ b ∈ frs l, ∀ o, h.get? b = some o → ∀ vs, o.data ≠ .fields vs := fun b hb o e => by
  obtain ⟨_, o', e', d⟩ := hl.mem hb
  rw [e] at e'; cases e'
  exact d
theorem funFrames_base {h base base' : Heap} : ∀ {l : List Env}, h.FunFrames base l → (∀ b ∈ frs l, base'.get? b = none) → h.FunFrames base' l
  | [], _, _ => trivial
  | env :: rest, ⟨hk, ⟨L, o, hf, hn, ho, hd⟩, hr⟩, k => by
    refine ⟨hk, ⟨L, o, hf, k L ?_, ho, hd⟩, funFrames_base hr fun b hb => k b ?_⟩
    · unfold frs; rw [List.filterMap_cons, hf]; exact List.mem_cons_self
    · unfold frs; rw [List.filterMap_cons, hf]; exact List.mem_cons_of_mem _ hb
section
variable {P : Program} {w : World} {K : PySem.W.Frag} {mg : Str → Option Value} {base : Heap} {N : List Str} {qual : Str} {scope : Scope} {f : Addr} {cd : Value} {A : Around} {outer : List Env} {s : Shared} {H : Hp} {E : XK}
theorem not_own {X : Cx} {pins : List (Addr × Obj)} {σ : L2.St} {H1 : Hp} {s1 : Shared} (I : Inv X pins σ H1 s1) {b : Addr} {o : Obj} (e : X.s₀.heap.get? b = some o) : b ≠ X.env.locals := fun z => by
  have h1 := Heap.lt_size e
  have h2 := I.ok.above
  rw [z] at h1
  exact Nat.lt_irrefl _ (Nat.lt_of_lt_of_le h1 h2)
theorem made_cx {pins : List (Addr × Obj)} {σ : L2.St} {H1 : Hp} {s1 : Shared} {h' : Heap} {x C : Addr} {args : List Value} {k : Nat} (I : Inv (cxOf (CXE P w) P w K mg base N qual scope f cd A outer s H E) pins σ H1 s1) (hE : E (.ref C) none H1) (hx : Heap.MadeExcOf s1.heap h' x (.ref C) args) :
    (cxOf (CXE P w) P w K mg base N qual scope f cd A outer s H E).xe (.ref x) { s1 with heap := h', toks := k } := by
  have hl : (envOfC qual scope s.heap.objs.size f cd).frame = some s.heap.objs.size := rfl
  have hfr : (A.deeper (envOfC qual scope s.heap.objs.size f cd)).frames = some (envOfC qual scope s.heap.objs.size f cd :: outer) := I.ok.frames
  have efs : frs (envOfC qual scope s.heap.objs.size f cd :: outer) = s.heap.objs.size :: frs outer := by
    show List.filterMap _ _ = _
    rw [List.filterMap_cons, hl]; rfl
  obtain ⟨B, hB⟩ : ∃ B, B = PySem.W.hideAll s1.heap (frs (envOfC qual scope s.heap.objs.size f cd :: outer)) := ⟨_, rfl⟩
  have stays : B.StaysIn s1.heap := fun b o e => by rw [hB] at e; exact PySem.W.of_hideAll _ e
  have ff : s1.heap.FunFrames B (envOfC qual scope s.heap.objs.size f cd :: outer) := funFrames_base I.stack fun b hb => by rw [hB]; exact PySem.W.hideAll_none _ hb
  have getB : ∀ {b o}, s1.heap.get? b = some o → b ∉ frs (envOfC qual scope s.heap.objs.size f cd :: outer) → B.get? b = some o := fun {b o} e n => by rw [hB]; exact PySem.W.hideAll_get _ e n
  refine wpAny_leaves_madeW (s := { s1 with heap := h', toks := k }) hfr hl stays ff hx fun h'' t fl' _ _ sl => ?_
  have trk : ∀ b u, H1 b = some u → ∃ o, B.get? b = some o := fun b u q => by
    have hlt := (I.hok b u q).lt
    have ex : ∃ o, s1.heap.get? b = some o := by
      cases e : s1.heap.get? b with
      | some o => exact ⟨o, rfl⟩
      | none =>
        exfalso
        have z := I.hok b u q
        have := ObjOk.there z
        obtain ⟨o, e'⟩ := this
        rw [e] at e'; cases e'
    obtain ⟨o, e⟩ := ex
    refine ⟨o, getB e fun hb => ?_⟩
    have := I.stkFree b hb
    rw [q] at this; cases this
  have cov : Cover (frs outer) s.heap H1 B := ⟨trk, fun b o e n => by
    obtain ⟨o1, e1⟩ := I.base.there b o e (by show b ∉ []; simp)
    refine ⟨o1, getB e1 ?_⟩
    rw [efs]
    intro z
    rcases List.mem_cons.mp z with z | z
    · exact not_own I e z
    · exact n z⟩
  have keep1 : B.StaysIn h' := fun b o e => hx.keeps b o (stays b o e)
  have u1 : Un (frs outer) [] H H1 s.heap s1.heap := I.base
  have u2 : Un (frs outer) [] H H1 s.heap h' := u1.trans (Un.kept fun b o e => hx.keeps b o e)
  refine ⟨x, C, H1, rfl, hE, ⟨I.os, I.bare, un_fly u2 keep1 fl'.1 cov sl (fun b hb o e => ?_), hok_fly (I.hok.kept fun b o e => hx.keeps b o e) keep1 fl'.1 trk, ⟨B, _, fl', cov⟩, ?_, ?_⟩⟩
  · have hm : b ∈ frs (envOfC qual scope s.heap.objs.size f cd :: outer) := by rw [efs]; exact List.mem_cons_of_mem _ hb
    obtain ⟨_, o', e', d⟩ := ff.mem hm
    have := hx.keeps b o' e'
    rw [e] at this; cases this
    exact d
  · cases q : H1 x with
    | none => rfl
    | some u =>
      obtain ⟨o, e⟩ := ObjOk.there (I.hok x u q)
      rw [hx.new] at e; cases e
  · cases q : s.heap.get? x with
    | none => rfl
    | some o =>
      obtain ⟨o1, e1⟩ := I.base.there x o q (by show x ∉ []; simp)
      rw [hx.new] at e1; cases e1
end
end L4
namespace L4
open PySem PySem.Spec PyProof.Rows L2 L3
abbrev VE : List Value := [.type "ValueError", .type "Exception", .type "BaseException", .type "object"]
theorem own_in {K : PySem.W.Frag} {h : Heap} {mg : Str → Option Value} {x : Str} {C : Addr} (X : K.In h) (b : mg x = some (.ref C)) (q : PySem.W.excIn K C VE "ValueError.__new__" = true) : OwnCls x C VE "ValueError.__new__" mg h := by
  refine ⟨b, ?_⟩
  unfold PySem.W.excIn at q
  split at q
  case h_2 => cases q
  rename_i d1 cdat slts look
  split at q
  case h_2 => cases q
  rename_i C1 mro1 a0 a1 a2 a3 n1 a5 em es
  simp only [Bool.and_eq_true, beq_iff_eq, Bool.not_eq_true'] at q
  obtain ⟨⟨⟨⟨⟨e1, e2⟩, e3⟩, e4⟩, e5⟩, e6⟩ := q
  subst e1 e2
  obtain ⟨c1, c2, c3, c4, c5, c6, c7, c8, c9, c10, c11⟩ := cdat
  dsimp only at em e3 e5 e6
  subst em e3
  have esl : slts = #[a0, a1, a2, a3, some (.builtin "ValueError.__new__"), a5] := by
    cases slts
    dsimp only at es
    rw [es]
  subst esl
  exact ⟨mro1, c4, c1, c5, c2, c6, c7, c8, c9, c10, d1, a0, a1, a2, a3, a5, _, X _ _ look, .of_isNs (PySem.W.isNs_of_in X e5), PySem.W.nsMap_none_of_in X e5 e6, PySem.W.tail_of_in X e4⟩
structure OwnX (K : PySem.W.Frag) (mg : Str → Option Value) (x : Str) (C : Addr) : Prop where
  bound : mg x = some (.ref C)
  exc : PySem.W.excIn K C VE "ValueError.__new__" = true
theorem OwnX.cls {K : PySem.W.Frag} {mg : Str → Option Value} {x : Str} {C : Addr} (O : OwnX K mg x C) {h : Heap} (X : K.In h) : OwnCls x C VE "ValueError.__new__" mg h := own_in X O.bound O.exc
def tRaise (C : Addr) (E : XK) (ta : TA) : TS := fun _ σ H => ta σ H fun vs H1 => vs.length = 1 ∧ E (.ref C) none H1
def MadeOk (X : Cx) (E : XK) : Prop := ∀ (pins : List (Addr × Obj)) (σ : L2.St) (H : Hp) (s : Shared) (h' : Heap) (y C : Addr) (args : List Value), Inv X pins σ H s → E (.ref C) none H → Heap.MadeExcOf s.heap h' y (.ref C) args → X.xe (.ref y) { s with heap := h' }
section
variable {X : Cx}
theorem tail_base {h : Heap} {bm : List Value} (T : OwnTail h VE bm) : bm.contains (.type "BaseException") = true := by
  rw [T.hasType (by decide : VE.contains (.type "BaseException") = true)]
theorem ps_raise {C : Addr} {x : Str} {np cpos pos : Pos} {e : Expr} {ta : TA} {E : XK} (hc : X.calm = true) (hm : MadeOk X E) (O : OwnX X.K X.mg x C) (hg : Gl X x) (ha : PA X [e] ta) (hd : (x == ("__debug__" : Str)) = false := by decide)
    (hs : starEach [e] X.env = [(false, eval e X.env)] := by rfl) :
    PS X (.Raise (some (.Call (.Name x np) [e] [] cpos)) none pos) (tRaise C E ta) := by
  intro pins s σ H D I h
  obtain ⟨bm, N, nm, q, bs, hdct, sn, sub, ab, col, dd, k0, k1, k2, k3, k5, mN, hC, hN, hni, T⟩ := (O.cls I.ok.mod.kin).obj
  refine wpAny_Raise_call_subU (C := C) (nm := nm) (q := q) (N := N) (bs := bs) (bm := bm) (hdct := hdct) (sn := sn) (sub := sub) (ab := ab) (col := col) (dd := dd) (k0 := k0) (k1 := k1) (k2 := k2) (k3 := k3) (k5 := k5) (mN := mN) PySem.F.excBase_ValueError (by decide) PySem.F.excBase_ValueError (tail_base T) (I.ok.hd hc) (by rw [hs]; rfl) hni ?_
  refine thn (pe_glob (v := .ref C) hg O.bound rfl hd pins s σ H (fun v H1 => v = .ref C ∧ ta σ H1 fun vs H2 => vs.length = 1 ∧ E (.ref C) none H2) I ⟨rfl, h⟩) fun u s1 ⟨v, H1, I1, r1, ev, q1⟩ => ?_
  subst ev
  cases r1
  refine ⟨rfl, ?_⟩
  have hA := ha cpos pins s1 σ H1 _ I1 q1
  rw [hs] at hA ⊢
  refine Calls.evalArgs_plain (thn hA fun us s2 ⟨vs, H2, I2, r2, hlen, q2⟩ => ?_)
  refine ⟨rfl, ?_, I2.bk _ _ hC, hN.keeps I2.bk, T.keeps I2.bk, fun h' y hy => hm pins σ H2 s2 h' y C us I2 q2 hy⟩
  show us.length ≤ sizeLine
  rw [← r2.length, hlen]; decide
end
end L4
namespace L4
open PySem PySem.Spec PyProof.Rows L2 L3
structure CalX (P : Program) (w : World) (K : PySem.W.Frag) (mg : Str → Option Value) (base : Heap) (k : Nat) (x : Str) (ps : List Str) (sp : Sp) : Prop where
  ex : ∃ f : Addr, PySem.W.keepIn K (.ref f) = true ∧ mg x = some (.ref f) ∧ (∀ vs H Q E, sp vs H Q E → vs.length = ps.length) ∧
    ∀ (A : Around) (outer : List Env) (s : Shared) (H : Hp) (us : List Value) (vs : List V) (Q : VK) (E : XK), Room k A → Env0 P w K mg base A outer s H → Vals vs us → sp vs H Q E →
      codeAny (model P w) A (.call (.ref f) ⟨us, []⟩) (CR (CXE P w) outer P w H s Q E) s
section
variable {P : Program} {w : World} {K : PySem.W.Frag} {mg : Str → Option Value} {base : Heap} {k : Nat} {x : Str} {ps : List Str} {sp sp' : Sp}
theorem CalX.mono {j : Nat} (c : CalX P w K mg base j x ps sp) (h : j ≤ k) : CalX P w K mg base k x ps sp := by
  obtain ⟨f, kp, m, l, run⟩ := c.ex
  exact ⟨f, kp, m, l, fun A outer s H us vs Q E hr e r q => run A outer s H us vs Q E (hr.mono h) e r q⟩
theorem cr_lift {outer : List Env} {H : Hp} {s : Shared} {Q : VK} {E : XK} {r : Result} {s' : Shared} (h : CR CX0 outer P w H s Q E r s') : CR (CXE P w) outer P w H s Q E r s' := by
  cases r with
  | error e => exact False.elim h
  | ok fl => cases fl <;> exact h
theorem CalX.of (c : Cal P w K mg base k x ps sp) : CalX P w K mg base k x ps sp := by
  obtain ⟨f, fd, F, b, kp, m⟩ := c.ex
  refine ⟨f, kp, m, F.len, fun A outer s H us vs Q E hr e r q => ?_⟩
  have kin : K.In s.heap := e.mod.kin.keeps fun b o z => (e.bs b o z).1
  have hl : (us ++ []).length = ps.length := by rw [List.append_nil, ← r.length]; exact F.len _ _ _ _ q
  have hb := b s us kin hl
  rw [List.append_nil] at hb
  exact codeAny_mono (F.run A outer s H ⟨us, []⟩ us vs Q E hr e hb r q) fun r s' z => cr_lift z
theorem CalX.or (a : CalX P w K mg base k x ps sp) (b : CalX P w K mg base k x ps sp') : CalX P w K mg base k x ps (fun vs H Q E => sp vs H Q E ∨ sp' vs H Q E) := by
  obtain ⟨f, kp, m, l, run⟩ := a.ex
  obtain ⟨f', kp', m', l', run'⟩ := b.ex
  rw [m] at m'; cases m'
  refine ⟨f, kp, m, fun vs H Q E q => ?_, fun A outer s H us vs Q E hr e r q => ?_⟩
  · rcases q with q | q
    · exact l vs H Q E q
    · exact l' vs H Q E q
  · rcases q with q | q
    · exact run A outer s H us vs Q E hr e r q
    · exact run' A outer s H us vs Q E hr e r q
theorem made_ok {N : List Str} {qual : Str} {scope : Scope} {f : Addr} {cd : Value} {A : Around} {outer : List Env} {s : Shared} {H : Hp} {E : XK} : MadeOk (cxOf (CXE P w) P w K mg base N qual scope f cd A outer s H E) E :=
  fun _ _ _ s1 _ _ _ _ I hE hx => made_cx (k := s1.toks) I hE hx
theorem _root_.L3.Def.calX {st : Stmt} {N : List Str} (F : Def K mg x st ps) (S : FnScope N ps (defScope st)) (len : ∀ vs H Q E, sp vs H Q E → vs.length = ps.length)
    (hbody : ∀ (f : Addr) (cdv : Value) (A : Around) (outer : List Env) (s : Shared) (H : Hp) (vs : List V) (Q : VK) (E : XK), Room k (A.deeper (envOfC x (defScope st) s.heap.objs.size f cdv)) → sp vs H Q E →
      ∃ t, PSs (cxOf (CXE P w) P w K mg base N x (defScope st) f cdv A outer s H E) (defBody st) t ∧ t { nx := fun _ H' => Q .non H', rt := Q } (start N vs) H) : CalX P w K mg base (k + 1) x ps sp := by
  obtain ⟨f, fd, Fn, hm, hb⟩ := F.ex
  have kp := Fn.kp
  obtain ⟨oc, od, kV, doc, pm, an, cdv, ct, osl, rfl, lk, hcd⟩ := Fn.ex
  have ok := fn_of (CX := CXE P w) (P := P) (w := w) (mg := mg) (base := base) lk hcd S len fun A outer s H vs Q E hr hsp => hbody f cdv A outer s H vs Q E hr hsp
  refine ⟨f, kp, hm, len, fun A outer s H us vs Q E hr e r q => ?_⟩
  have kin : K.In s.heap := e.mod.kin.keeps fun b o z => (e.bs b o z).1
  have hl : (us ++ []).length = ps.length := by rw [List.append_nil, ← r.length]; exact len _ _ _ _ q
  have hbb := hb s us kin hl
  rw [List.append_nil] at hbb
  exact ok.run A outer s H ⟨us, []⟩ us vs Q E hr e hbb r q
end
section
variable {X : Cx} {k : Nat} {x : Str} {ps : List Str} {sp : Sp} {E : XK} {e : Expr} {es : List Expr} {t : TA} {p pos : Pos}
theorem pe_callX (C : CalX X.prog X.w X.K X.mg X.base k x ps sp) (hr : Room k X.A) (hx : Passes (CXE X.prog X.w) X E) (ha : PA X (e :: es) t) (hg : Gl X x := by rfl) (hdb : (x == ("__debug__" : Str)) = false := by decide)
    (he : starEach (e :: es) X.env = (false, eval e X.env) :: starEach es X.env := by rfl) (hpl : (backTo pos (starEach es X.env)).any (·.1) = false := by rfl) :
    PE X (.Call (.Name x p) (e :: es) [] pos) (tCall sp [] E t) := by
  obtain ⟨f, kp, m, l, run⟩ := C.ex
  intro pins s σ H Q I h
  refine wpAny_Call_Name_kw (ld_glob I hg m ?_ hdb)
  refine PySem.W.callWith_K (h₀ := X.base) I.ok.mod.kin kp (thn (ha pos pins s σ H _ I h) fun us s1 ⟨vs, H1, I1, r, q⟩ => ⟨I1.kIn, ?_⟩) he hpl
  have q' : sp vs H1 Q E := by
    have z : sp (vs ++ []) H1 Q E := q
    rwa [List.append_nil] at z
  refine wpAny_call (codeAny_mono (run X.A X.stack s1 H1 us vs Q E hr I1.env0 r q') fun r s' hq => ?_)
  cases r with
  | error e => exact hx pins σ H1 s1 e s' I1 hq
  | ok fl =>
    cases fl with
    | ret u => exact I1.after hq
    | next => exact False.elim hq
    | brk => exact False.elim hq
    | cont => exact False.elim hq
end
end L4
namespace L4
open PySem PySem.Spec PyProof.Rows L2 L3
abbrev tried (X : Cx) (pn : List (Addr × Obj)) (E : Value → Shared → Prop) : Cx := { X with pn := pn, xe := E }
abbrev hand (X : Cx) (pn : List (Addr × Obj)) (x : Addr) : Cx := { X with A := X.A.mark (some (.ref x)), calm := false, pn := pn, xe := fun _ _ => False }
def excO (x C : Addr) : HO := .ext fun h => ∃ o vs, h.get? x = some o ∧ o.cls = .ref C ∧ o.data = .fields vs
section
variable {X : Cx} {pins pins' : List (Addr × Obj)} {σ : L2.St} {H : Hp} {s : Shared} {E : Value → Shared → Prop}
theorem inv_tried (I : Inv X pins σ H s) : Inv (tried X (X.pn ++ pins) E) [] σ H s := by
  have ok := I.ok
  refine ⟨⟨ok.mod, ok.kind, ok.glob, ok.blt, ok.above, ok.inj, ok.has, ok.cab, ok.hd, ok.frames, ok.stk, ok.exf, ok.bs, ok.bsz, ok.noex, ok.exfs, ok.funs, ok.frf⟩, I.os, I.bare, I.base, I.loc, I.cell, I.free, I.freeC, fun p hp => ?_, I.hok, I.len⟩
  have hp' : p ∈ (X.pn ++ pins) ++ [] := hp
  rw [List.append_nil] at hp'
  exact I.pin p hp'
theorem inv_untried (I : Inv (tried X (X.pn ++ pins) E) pins' σ H s) : Inv X pins σ H s := by
  have ok := I.ok
  refine ⟨⟨ok.mod, ok.kind, ok.glob, ok.blt, ok.above, ok.inj, ok.has, ok.cab, ok.hd, ok.frames, ok.stk, ok.exf, ok.bs, ok.bsz, ok.noex, ok.exfs, ok.funs, ok.frf⟩, I.os, I.bare, I.base, I.loc, I.cell, I.free, I.freeC, fun p hp => ?_, I.hok, I.len⟩
  exact I.pin p (List.mem_append_left _ hp)
theorem inv_hand {x : Addr} (I : Inv X pins σ H s) : Inv (hand X (X.pn ++ pins) x) [] σ H s := by
  have ok := I.ok
  refine ⟨⟨ok.mod, ok.kind, ok.glob, ok.blt, ok.above, ok.inj, ok.has, ok.cab, fun z => (by cases z), ok.frames, ok.stk, ok.exf, ok.bs, ok.bsz, ok.noex, ok.exfs, ok.funs, ok.frf⟩, I.os, I.bare, I.base, I.loc, I.cell, I.free, I.freeC, fun p hp => ?_, I.hok, I.len⟩
  have hp' : p ∈ (X.pn ++ pins) ++ [] := hp
  rw [List.append_nil] at hp'
  exact I.pin p hp'
theorem inv_unhand {x : Addr} (okX : X.Ok) (I : Inv (hand X (X.pn ++ pins) x) pins' σ H s) : Inv X pins σ H s := by
  refine ⟨okX, I.os, I.bare, I.base, I.loc, I.cell, I.free, I.freeC, fun p hp => ?_, I.hok, I.len⟩
  exact I.pin p (List.mem_append_left _ hp)
theorem inv_track {x C : Addr} (I : Inv X pins σ H s) (hn : H x = none) (h0 : X.s₀.heap.get? x = none) (hx : x ≠ X.env.locals) (hc : ∀ y c, X.env.cells.lookup y = some c → c ≠ x) (hp : ∀ p ∈ X.pn ++ pins, p.1 ≠ x)
    (ho : ∃ o vs, s.heap.get? x = some o ∧ o.cls = .ref C ∧ o.data = .fields vs) : Inv X pins σ (upd H x (excO x C)) s := by
  have nx : ∀ b u, H b = some u → b ≠ x := fun b u e z => by rw [z, hn] at e; cases e
  refine ⟨I.ok, I.os, I.bare, ⟨I.base.keep, I.base.slot, fun b o e n hb => ?_, I.base.there, fun b xs e => ?_, fun b o u e => ?_, fun b ps e => ?_⟩, I.loc, I.cell, ?_, fun y c e => ?_, fun p hpp => ?_, fun b u e => ?_, I.len⟩
  · have : b ≠ x := fun z => by rw [z, h0] at e; cases e
    rw [upd_ne this]; exact I.base.free b o e n hb
  · have := I.base.tups b xs e
    rw [upd_ne (nx b _ this)]; exact this
  · have := I.base.frzs b o u e
    rw [upd_ne (nx b _ this)]; exact this
  · obtain ⟨more, q⟩ := I.base.tbls b ps e
    exact ⟨more, by rw [upd_ne (nx b _ q)]; exact q⟩
  · rw [upd_ne hx.symm]; exact I.free
  · rw [upd_ne (hc y c e)]; exact I.freeC y c e
  · obtain ⟨e1, e2, e3, e4, e5⟩ := I.pin p hpp
    exact ⟨e1, by rw [upd_ne (hp p hpp)]; exact e2, e3, e4, e5⟩
  · by_cases hb : b = x
    · subst hb
      rw [upd_same] at e
      cases e
      obtain ⟨o, vs, e1, e2, e3⟩ := ho
      exact ⟨⟨o, vs, e1, e2, e3⟩, ⟨o, e1⟩, fun h1 h2 ⟨o, vs, a1, a2, a3⟩ k => ⟨o, vs, k o a1, a2, a3⟩⟩
    · rw [upd_ne hb] at e
      exact (I.hok b u e).stay (fun _ _ _ q => q) (fun c q => by rw [upd_ne (nx c _ q)]; exact q) fun c xs q => by rw [upd_ne (nx c _ q)]; exact q
theorem inv_forget {i : Nat} {n : Str} {m : Str → Option Value} {v : Option Value} {h' : Heap} {t : Nat} (I : Inv X pins σ H s) (hN : X.N.Nodup) (hi : X.N[i]? = some n) (hm : s.heap.Ns X.env.locals m)
    (hl : ∀ (j : Nat) (y : Str) (v' : V), X.N[j]? = some y → σ[j]? = some (some v') → Vis X.env.scope y → ∃ u, RelV v' u ∧ Look X.env s.heap m y u)
    (hn : h'.Ns X.env.locals (fun y => if y = n then v else m y)) (hs : Heap.SameBut X.env.locals s.heap h') : Inv X pins (σ.set i none) H { s with heap := h', toks := t } := by
  have cne := I.cne
  obtain ⟨oL, _, _, hoL, _⟩ := id hm
  have ne0 : ∀ {b o}, X.s₀.heap.get? b = some o → b ≠ X.env.locals := fun {b o} e => Nat.ne_of_lt (Nat.lt_of_lt_of_le (Heap.lt_size e) I.ok.above)
  have hiσ : i < σ.length := by rw [I.len]; exact (List.getElem?_eq_some_iff.mp hi).1
  refine ⟨I.ok, I.os, I.bare, ⟨fun b o e n hb hx => ?_, fun b o e n hb hx => ?_, I.base.free, fun b o e hx => ?_, I.base.tups, I.base.frzs, I.base.tbls⟩, ⟨_, hn, fun j y v' e1 e2 e3 => ?_⟩, fun y c e => ?_, I.free, I.freeC, fun p hp => ?_, fun b ob e => ?_, by simpa using I.len⟩
  · exact (hs.2 b (ne0 e)).trans (I.base.keep b o e n hb hx)
  · obtain ⟨sl, q⟩ := I.base.slot b o e n hb hx
    exact ⟨sl, (hs.2 b (ne0 e)).trans q⟩
  · obtain ⟨o', q⟩ := I.base.there b o e hx
    exact ⟨o', (hs.2 b (ne0 e)).trans q⟩
  · by_cases hj : j = i
    · subst hj
      rw [List.getElem?_set_self hiσ] at e2
      cases e2
    · rw [List.getElem?_set_ne (Ne.symm hj)] at e2
      obtain ⟨u', r', q⟩ := hl j y v' e1 e2 e3
      refine ⟨u', r', ?_⟩
      rcases q with ⟨k, e⟩ | ⟨k, c, e, z⟩
      · have : y ≠ n := fun e => hj (nodup_ix hN e1 (e ▸ hi))
        exact .inl ⟨k, by simp [this, e]⟩
      · exact .inr ⟨k, c, e, z.sameBut hs (cne y c e)⟩
  · obtain ⟨w', z⟩ := I.cell y c e
    exact ⟨w', z.sameBut hs (cne y c e)⟩
  · obtain ⟨e, n, ne, nf, d⟩ := I.pin p hp
    exact ⟨(hs.2 p.1 ne).trans e, n, ne, nf, d⟩
  · refine (I.hok b ob e).stay (fun c w' hc q => (hs.2 c ?_).trans q) (fun _ q => q) fun _ _ q => q
    rintro rfl
    rcases hc with rfl | hc
    · rw [I.free] at e; cases e
    · rw [I.free] at hc; cases hc
end
def tTry (i n : Nat) (Fit : Addr → Prop) (tb : XK → TS) (th : TS) : TS := fun D σ H => ∃ Ec : XK, tb Ec D σ H ∧ ∀ Cv d H', Ec Cv d H' → ∃ C, Cv = .ref C ∧ Fit C ∧ ∀ x, H' x = none →
  th { nx := fun σ' H'' => D.nx (σ'.set i none) H'', rt := D.rt, bk := fun σ' H'' => D.bk (σ'.set i none) H'', ct := fun σ' H'' => D.ct (σ'.set i none) H'' } ((List.replicate n none).set i (some (.ref x))) (upd H' x (excO x C))
section
variable {X : Cx}
theorem ps_try (hex : X.ex = []) {body suite : List Stmt} {b0 : Stmt} {i : Nat} {n cn : Str} {CL : Addr} {cp hp pos : Pos} {tb : XK → TS} {th : TS} (hst : X.stack = X.env :: X.outer ∧ X.env.frame = some X.env.locals) (hN : X.N.Nodup) (hi : X.N[i]? = some n)
    (hloc : X.env.scope.names.lookup n = some .local) (hg : Gl X cn) (hm : X.mg cn = some (.ref CL)) (hb : ∀ pn Ec E', Passes (CXE X.prog X.w) (tried X pn E') Ec → PSs (tried X pn E') body (tb Ec)) (hh : ∀ pn x, PSs (hand X pn x) (b0 :: suite) th)
    (hd : (cn == ("__debug__" : Str)) = false := by decide) :
    PS X (.Try body [.ExceptHandler (some (.Name cn cp)) (some n) (b0 :: suite) hp] [] [] pos) (tTry i X.N.length (fun C => PySem.W.exmOne X.K (.ref C) (.ref CL) = some true) tb th) := by
  intro pins s σ H D I h
  obtain ⟨Ec, hbody, hcat⟩ := h
  refine wpAny_Try_except ?_
  have okX := I.ok
  have hfr : X.A.frames = some (X.env :: X.outer) := by rw [I.ok.frames, hst.1]
  have hkind : X.env.kindOf n = some .local := hloc
  have hcls : (X.env.scope.kind == .class || (X.env.scope.kind == .module && X.env.locals != X.env.globals)) = false := by rw [I.ok.kind]; rfl
  obtain ⟨Et, hEt⟩ : ∃ Et : Value → Shared → Prop, Et = fun e s₁ => wpAny (model X.prog X.w) X.A (noteFrame e X.env) (fun _ s₂ => wpAny (model X.prog X.w) X.A (setFlight e none) (fun _ s₃ => wpAny (model X.prog X.w) X.A (handleBy e X.env [.ExceptHandler (some (.Name cn cp)) (some n) (b0 :: suite) hp]) (SP X pins D) X.xe s₃) X.xe s₂) X.xe s₁ := ⟨_, rfl⟩
  have pass : Passes (CXE X.prog X.w) (tried X (X.pn ++ pins) Et) Ec := by
    intro pins' σ' H1 s1 e s2 I1 hcx
    obtain ⟨x, C, H2, rfl, hE, L⟩ := hcx
    obtain ⟨B, a0, fl, cov⟩ := L.fly
    obtain ⟨C', eC, hOk, hth⟩ := hcat _ _ _ hE
    cases eC
    show Et (.ref x) s2
    rw [hEt]
    have stk : (tried X (X.pn ++ pins) Et).stack = X.env :: X.outer := hst.1
    have fl0 : Heap.FlyingW B (X.env :: X.outer) x (.ref C) a0 s2.heap := by rw [← stk]; exact fl
    refine wpAny_looks_onW hfr hst.2 fl0 fun h1 held sl1 => ?_
    refine wpAny_landsW held fun h2 fl2 sl2 => ?_
    have up := sl1.trans sl2
    have nf := funFrames_nf fl.2.2.1
    have un3 := un_fly L.un fl.1 fl2.1 cov up nf
    have hok3 := hok_fly L.hok fl.1 fl2.1 cov.trk
    have I3 : Inv (tried X (X.pn ++ pins) Et) pins' σ' H2 { s2 with heap := h2 } := I1.call' (s' := { s2 with heap := h2 }) L.os un3 hok3 L.bare (fun b z => absurd z (by simp))
    have J3 := inv_hand (x := x) (inv_untried I3)
    refine wpAny_handleBy_cons (codeAny_handlers_test (ld_glob J3 hg hm ?_ hd)) (by intro q; cases q)
    obtain ⟨oe, he, hce⟩ := fl2.there
    have LT : PySem.W.Looks (model X.prog X.w) h2 (typeOf (.ref x)) (.ref C) := hce ▸ (PySem.W.Looks.ld he).andThen .now
    refine (PySem.W.exm_one (M := model X.prog X.w) J3.kIn LT hOk).here ?_
    show codeAny _ _ _ _ _
    refine codeAny_handlers_suite_as ?_
    refine wpAny_setFlight_noneW fl2.1 fl2.2.2.1 fl2.2.2.2 fun h4 st4 ff4 tr4 k4 => ?_
    have up4 : h2.UpToSlots h4 := fun b o e z => ⟨o.slots, k4 b o e z⟩
    have un4 := un_fly L.un fl.1 st4 cov (up.trans up4) nf
    have hok4 := hok_fly L.hok fl.1 st4 cov.trk
    have I4 : Inv (tried X (X.pn ++ pins) Et) pins' σ' H2 { s2 with heap := h4 } := I1.call' (s' := { s2 with heap := h4 }) L.os un4 hok4 L.bare (fun b z => absurd z (by simp))
    have s1x : s1.heap.get? x = none := L.new
    have x0 : X.s₀.heap.get? x = none := by
      cases q : X.s₀.heap.get? x with
      | none => rfl
      | some o =>
        obtain ⟨o', e1⟩ := I1.base.there x o q (by show x ∉ X.ex; rw [hex]; simp)
        rw [s1x] at e1; cases e1
    have xl : x ≠ X.env.locals := fun z => by
      obtain ⟨m, hn, _⟩ := I1.loc
      obtain ⟨o, _, _, e, _⟩ := hn
      have e' : s1.heap.get? X.env.locals = some o := e
      rw [← z, s1x] at e'; cases e'
    have xc : ∀ y c, X.env.cells.lookup y = some c → c ≠ x := fun y c e z => by
      obtain ⟨v, o, e1, _⟩ := I1.cell y c e
      rw [z, s1x] at e1; cases e1
    have xp : ∀ p ∈ X.pn ++ pins, p.1 ≠ x := fun p hp z => by
      obtain ⟨e1, _⟩ := I1.pin p (List.mem_append_left _ hp)
      rw [z, s1x] at e1; cases e1
    obtain ⟨oe4, vs4, T4, oT4, ts4, he4, ⟨hc4, _⟩, hd4, _⟩ := tr4
    have J4 := inv_track (C := C) (inv_untried I4) L.free x0 xl xc xp ⟨oe4, vs4, he4, hc4, hd4⟩
    have J5 := inv_hand (x := x) J4
    refine store_ok2 (X := hand X (X.pn ++ pins) x) J5 hN hi (.inl hloc) (v := .ref x) (u := .ref x) rfl (fun s5 J6 _ => ?_) (.inr hloc)
    have J7 : Inv (hand X (X.pn ++ pins) x) [] ((List.replicate X.N.length none).set i (some (.ref x))) (upd H2 x (excO x C)) s5 := by
      refine J6.weak ?_ fun j v e => ?_
      · have := J6.len
        rw [List.length_set, List.length_replicate]
        exact this.symm
      · by_cases hj : j = i
        · subst hj
          have hlt : j < (List.replicate X.N.length (none : Option V)).length := by rw [List.length_replicate]; exact (List.getElem?_eq_some_iff.mp hi).1
          rw [List.getElem?_set_self hlt] at e
          cases e
          have hlt2 : j < σ'.length := by
            have : σ'.length = X.N.length := I1.len
            rw [this]; exact (List.getElem?_eq_some_iff.mp hi).1
          rw [List.getElem?_set_self hlt2]
        · rw [List.getElem?_set_ne (Ne.symm hj), List.getElem?_replicate] at e
          split at e <;> cases e
    refine wpAny_mono (hh (X.pn ++ pins) x [] s5 _ _ _ J7 (hth x L.free)) (fun fl6 s6 hs6 => ?_) (fun _ _ z => z.elim)
    have goes : ∀ {σ6 : L2.St} {H6 : Hp}, Inv (hand X (X.pn ++ pins) x) [] σ6 H6 s6 → (∀ s7, Inv X pins (σ6.set i none) H6 s7 → SP X pins D fl6 s7) →
        wpAny (model X.prog X.w) X.A (do bindName X.env n .none; unbindBehindTheSuite X.env n hp) (fun _ s₃ => SP X pins D fl6 s₃) X.xe s6 := fun {σ6 H6} K6 k => by
      obtain ⟨m, hn6, hl6⟩ := K6.loc
      exact wpAny_nameGoes_keeps hkind hn6 hcls fun h7 v hn7 hs7 => k _ (inv_forget (inv_unhand okX K6) hN hi hn6 hl6 hn7 hs7)
    cases fl6 with
    | next =>
      obtain ⟨σ6, H6, K6, q6⟩ := hs6
      exact goes K6 fun s7 I7 => ⟨_, H6, I7, q6⟩
    | brk =>
      obtain ⟨σ6, H6, K6, q6⟩ := hs6
      exact goes K6 fun s7 I7 => ⟨_, H6, I7, q6⟩
    | cont =>
      obtain ⟨σ6, H6, K6, q6⟩ := hs6
      exact goes K6 fun s7 I7 => ⟨_, H6, I7, q6⟩
    | ret u =>
      obtain ⟨v, σ6, H6, K6, r6, q6⟩ := hs6
      exact goes K6 fun s7 I7 => ⟨v, _, H6, I7, r6, q6⟩
  rw [← hEt]
  refine thn (hb (X.pn ++ pins) Ec Et pass [] s σ H D (inv_tried I) hbody) fun f s1 h1 => ?_
  cases f with
  | next =>
    obtain ⟨σ1, H1, K1, q1⟩ := h1
    exact wpAny_execs_nil ⟨σ1, H1, inv_untried K1, q1⟩
  | brk =>
    obtain ⟨σ1, H1, K1, q1⟩ := h1
    exact ⟨σ1, H1, inv_untried K1, q1⟩
  | cont =>
    obtain ⟨σ1, H1, K1, q1⟩ := h1
    exact ⟨σ1, H1, inv_untried K1, q1⟩
  | ret u =>
    obtain ⟨v, σ1, H1, K1, r1, q1⟩ := h1
    exact ⟨v, σ1, H1, inv_untried K1, r1, q1⟩
end
end L4
namespace L4
open PySem PySem.Spec PyProof.Rows L2 L3
structure ExcC (K : PySem.W.Frag) (C : Addr) : Prop where
  exc : PySem.W.excIn K C VE "ValueError.__new__" = true
  ga : PySem.W.findIn K (.ref C) "__getattribute__" = some (some (.builtin "BaseException.__getattribute__"))
  gx : PySem.W.findIn K (.ref C) "__getattr__" = some none
  cl : PySem.W.findIn K (.ref C) "__class__" = some (some (.builtin "object.__class__"))
section
variable {prog : Program} {w : World} {A : Around} {E : Value → Shared → Prop} {h : Heap} {g : Array GenState} {d : Drawn} {t : Nat} {os : OsState} {a : Addr} {o : Obj} {K : PySem.W.Frag} {C : Addr}
  {nm q : Str} {N : Addr} {bs bm : List Value} {hdct : Bool} {sn : List Str} {sub : List Value} {ab : Bool} {col : Option Bool} {dd : Option Addr} {k0 k1 k2 k3 k5 : Option Value}
theorem xclass_get {R : Result → Shared → Prop} (hC : h.get? C = some (excClassObj nm q C N bs bm hdct sn sub ab col dd k0 k1 k2 k3 k5 "ValueError.__new__")) (T : OwnTail h VE bm) (hx : h.get? a = some o) (hc : o.cls = .ref C)
    (hq : R (.ok (.ret (.ref C))) ⟨h, g, d, t, os⟩) : codeAny (model prog w) A (.call (.builtin "getset_descriptor.__get__") ⟨[.builtin "object.__class__", .ref a, .ref C], []⟩) R ⟨h, g, d, t, os⟩ := by
  have hT5 : (⟨h, g, d, t, os⟩ : Shared).TypeIs (.builtin "object.__class__") "getset_descriptor" := F.typeOf_object_class
  have hcB : (Value.ref C :: bm).contains (.type (".".intercalate ("object.__class__".cutAt '.').dropLast)) = true := by
    rw [F.owner_object_class, List.contains_cons, T.hasType (by decide : VE.contains (.type "object") = true)]; rfl
  refine codeAny_call_builtin F.slot_gs_get.plain F.entry_gs_get (F.slot_gs_get.check _ _ _ _ _ _ _ _ hT5 (F.args_gs_get _ _ _) ?_)
  repeat (any_goals (first | assumption | (with_reducible refine wpAny_loadPart_at hx ?_; rw [hc]) | (with_reducible refine wpAny_isSubtype_exc hC ?_; rw [hcB]) | wp_step))
  refine ⟨Code.quiet_builtin _ (by decide +kernel), codeAny_builtin F.entry_object_class ?_⟩
  repeat (any_goals (first | assumption | (with_reducible refine wpAny_loadPart_at hx ?_; rw [hc]) | wp_step))
theorem xclass_entry {tk : Tok} {Q : Fin → Shared → Prop} (X : K.In h) (Z : ExcC K C) (hC : h.get? C = some (excClassObj nm q C N bs bm hdct sn sub ab col dd k0 k1 k2 k3 k5 "ValueError.__new__")) (T : OwnTail h VE bm) (hx : h.get? a = some o) (hc : o.cls = .ref C)
    (hq : Q (.done (.ret (.ref C))) ⟨h, g, d, t, os⟩) : wpAny (model prog w) A (Builtin.«object.__getattribute__» ⟨[.ref a, .str "__class__" tk], []⟩) Q E ⟨h, g, d, t, os⟩ := by
  have hT5 : (⟨h, g, d, t, os⟩ : Shared).TypeIs (.builtin "object.__class__") "getset_descriptor" := F.typeOf_object_class
  have f5 := F.typeOf_object_class
  have f6 := F.slot_gs_get.lookup
  have f7 := F.slot_gs_set.lookup
  have L := PySem.W.looks_findIn (M := model prog w) X Z.cl
  repeat (any_goals (first | assumption | (with_reducible refine wpAny_loadPart_at hx ?_; rw [hc]) | with_reducible refine L.at ?_ | with_reducible refine wpAny_bind (L.at ?_) | wp_step))
  refine xclass_get hC T hx hc ?_
  repeat (any_goals (first | assumption | wp_step))
theorem xcheck {M : Model} {nameV : Value} {Q : Unit → Shared → Prop} (hC : h.get? C = some (excClassObj nm q C N bs bm hdct sn sub ab col dd k0 k1 k2 k3 k5 "ValueError.__new__")) (T : OwnTail h VE bm) (hx : h.get? a = some o) (hc : o.cls = .ref C)
    (hq : Q () ⟨h, g, d, t, os⟩) : wpAny M A (checkBuiltinCall "BaseException.__getattribute__" ⟨[.ref a, nameV], []⟩) Q E ⟨h, g, d, t, os⟩ := by
  have kindIs : builtinKind "BaseException.__getattribute__" = some .slot := by decide +kernel
  have splitIs : splitId "BaseException.__getattribute__" = some ("BaseException", "__getattribute__") := by decide +kernel
  have hcB : (Value.ref C :: bm).contains (.type "BaseException") = true := by rw [List.contains_cons, T.hasType (by decide : VE.contains (.type "BaseException") = true)]; rfl
  have argsFine := F.args_bexc_ga (.ref a) nameV
  simp only [checkBuiltinCall, kindIs, splitIs]
  refine wpAny_bind ?_
  unfold isInstance
  repeat (first | (with_reducible refine wpAny_loadPart_at hx ?_; rw [hc]) | (with_reducible refine wpAny_isSubtype_exc hC ?_; rw [hcB]) | wp_step)
  exact hq
theorem xclass_call {tk : Tok} {R : Result → Shared → Prop} (X : K.In h) (Z : ExcC K C) (hC : h.get? C = some (excClassObj nm q C N bs bm hdct sn sub ab col dd k0 k1 k2 k3 k5 "ValueError.__new__")) (T : OwnTail h VE bm) (hx : h.get? a = some o) (hc : o.cls = .ref C)
    (hq : R (.ok (.ret (.ref C))) ⟨h, g, d, t, os⟩) : codeAny (model prog w) A (.call (.builtin "BaseException.__getattribute__") ⟨[.ref a, .str "__class__" tk], []⟩) R ⟨h, g, d, t, os⟩ :=
  codeAny_call_builtin F.attr_ValueError.ga.plain F.entry_bexc_ga (xcheck hC T hx hc (xclass_entry X Z hC T hx hc hq))
theorem xclass_by {tk : Tok} {Q : Value → Shared → Prop} (X : K.In h) (Z : ExcC K C) (hC : h.get? C = some (excClassObj nm q C N bs bm hdct sn sub ab col dd k0 k1 k2 k3 k5 "ValueError.__new__")) (T : OwnTail h VE bm) (hx : h.get? a = some o) (hc : o.cls = .ref C)
    (hq : Q (.ref C) ⟨h, g, d, t, os⟩) : wpAny (model prog w) A (getAttrBy (.ref a) (.str "__class__" tk) false) Q E ⟨h, g, d, t, os⟩ := by
  have f3 := F.attr_ValueError.ga.bind (.ref a)
  have notObj : (Value.builtin "BaseException.__getattribute__" == Value.builtin "object.__getattribute__") = false := by decide +kernel
  have notOwn : (onTheHeap (Value.ref C) && Value.builtin "BaseException.__getattribute__" == Value.builtin "object.__getattribute__") = false := by rw [notObj]; rfl
  have L1 := PySem.W.looks_findIn (M := model prog w) X Z.ga
  have L2 := PySem.W.looks_findIn (M := model prog w) X Z.gx
  repeat (any_goals (first | assumption | (with_reducible refine wpAny_loadPart_at hx ?_; rw [hc]) | with_reducible refine L1.at ?_ | with_reducible refine L2.at ?_ | wp_step))
  refine xclass_call X Z hC T hx hc ?_
  repeat (any_goals (first | assumption | wp_step))
theorem xclass_attr {Q : Option Value → Shared → Prop} (X : K.In h) (Z : ExcC K C) (hC : h.get? C = some (excClassObj nm q C N bs bm hdct sn sub ab col dd k0 k1 k2 k3 k5 "ValueError.__new__")) (T : OwnTail h VE bm) (hx : h.get? a = some o) (hc : o.cls = .ref C)
    (hq : Q (some (.ref C)) ⟨h, g, d, t + 1, os⟩) : wpAny (model prog w) A (getAttr? (.ref a) "__class__") Q E ⟨h, g, d, t, os⟩ := by
  unfold getAttr? getAttrBy?
  repeat (any_goals (first | assumption | with_reducible apply xclass_by X Z hC T hx hc | wp_step))
end
end L4
namespace L4
open PySem PySem.Spec PyProof.Rows L2 L3
theorem exc_obj {K : PySem.W.Frag} {C : Addr} (q : PySem.W.excIn K C VE "ValueError.__new__" = true) : ∃ (d1 : Option Addr) (cd : ClassData) (sl : Array (Option Value)) (c : Value), K.lookup C = some ⟨c, d1, .cls cd, sl⟩ := by
  unfold PySem.W.excIn at q
  split at q
  · exact ⟨_, _, _, _, ‹_›⟩
  · cases q
theorem kitx_exc {K : PySem.W.Frag} {x C : Addr} (Z : ExcC K C) : PySem.W.KitX K (.ref x) (.ref C) (fun h => ∃ o, h.get? x = some o ∧ o.cls = .ref C) where
  ty := fun M h X ⟨o, h1, h2⟩ => h2 ▸ (PySem.W.Looks.ld h1).andThen .now
  it := fun _ _ X _ => by
    obtain ⟨d1, cd, sl, c, ho⟩ := exc_obj Z.exc
    intro A' Q' E' s' k q
    unfold isType loadHead
    exact wpAny_bind (wpAny_loadPart (k _ _ (X _ _ ho)) (wpAny_pure q))
  ne := fun h tp dd its n sl X htp => by
    obtain ⟨d1, cd, sl', c, ho⟩ := exc_obj Z.exc
    refine Bool.eq_false_iff.mpr fun q => ?_
    have e : C = tp := Value.ref.inj (beq_iff_eq.mp q)
    subst e
    have := X _ _ ho
    rw [htp] at this
    cases this
  ca := fun {prog w A E Q s} X p k => by
    obtain ⟨h, g, d, t, os⟩ := s
    obtain ⟨o, h1, h2⟩ := p
    have O := own_in (mg := fun _ => some (.ref C)) (x := "") X rfl Z.exc
    obtain ⟨bm, N, nm, q, bs, hdct, sn, sub, ab, col, dd, k0, k1, k2, k3, k5, mN, hC, hN, hni, T⟩ := O.obj
    exact xclass_attr X Z hC T h1 h2 k
section
variable {X : Cx}
inductive ClV : V → Value → Prop where
  | own (D : Addr) : ClV (.ref D) (.ref D)
  | ty (n : String) : ClV (.ty n) (.type n)
def rInstX (K : PySem.W.Frag) : List V → Hp → VK → Prop := fun xs H Q => ∃ x c C cv b, xs = [.ref x, c] ∧ H x = some (excO x C) ∧ ExcC K C ∧ ClV c cv ∧ PySem.W.kitOne K (.ref C) cv = some b ∧ Q (.bl b) H
theorem call_isinstX : CallR X (.builtin "isinstance") (rInstX X.K) := by
  intro pins s σ H xs us Q I rv h
  obtain ⟨x, c, C, cv, b, rfl, hx, Z, hc, e, q⟩ := h
  obtain ⟨u, cu, rfl, rx, rc⟩ := vals2 rv
  cases (show u = Value.ref x from rx)
  have ec : cu = cv := by cases hc <;> exact rc
  subst ec
  obtain ⟨⟨o, vs, h1, h2, _⟩, _⟩ := I.hok x _ hx
  exact PySem.W.kia_one (kitx_exc Z) I.kIn ⟨o, h1, h2⟩ e (fun z => nomatch z) fun tk => ⟨.bl b, H, I.tok tk, rfl, q⟩
def isTr : Value → Bool | .bool b => b | _ => false
theorem eqGives_tr (b : Bool) : MeetsSeq.EqGives (.bool b) (.bool true) (isTr (.bool b)) := by
  intro prog w A E s Q h
  refine PySem.SeqAt.EqAt.bool_bool b true prog w E Q ?_
  cases b <;> exact h
theorem vals_bl : ∀ {bs : List Bool} {us : List Value}, Vals (bs.map V.bl) us → us = bs.map Value.bool
  | [], _, r => by cases r; rfl
  | b :: bs, _, r => by
    cases r with
    | cons r1 r2 => cases (show _ = Value.bool b from r1); rw [vals_bl r2]; rfl
theorem eq_all {bs : List Bool} : ∀ y, y ∈ (bs.map Value.bool).toArray → MeetsSeq.EqGives y (.bool true) (isTr y) := fun y hy => by
  have : y ∈ bs.map Value.bool := by simpa using hy
  obtain ⟨b, _, rfl⟩ := List.mem_map.mp this
  exact eqGives_tr b
def rCountB : V → List V → Hp → VK → Prop := fun x xs H Q => ∃ (l : Addr) (bs : List Bool), x = .ref l ∧ xs = [.bl true] ∧ H l = some (.lst (bs.map V.bl)) ∧ Q (.int (bs.countP id : Nat)) H
theorem mt_countB : MtR X "list.count" rCountB := by
  intro pins s σ H x vs v us Q I rx rv h
  obtain ⟨l, bs, rfl, rfl, hH, q⟩ := h
  cases rx
  obtain ⟨u, rfl, ru⟩ := rv.one
  cases (show u = Value.bool true from ru)
  obtain ⟨z, its, n, r, hl, e⟩ := I.lstM hH
  cases vals_bl r
  refine call_meets PySem.F.slot_list_count ⟨_, e, rfl⟩ PySem.F.entry_list_count (PySem.F.args_list_count_2 _ _) (MeetsSeq.list_count l _ n (.bool true) isTr eq_all) ⟨e, ?_⟩
  refine ⟨.int _, H, I.tok _, ⟨_, rfl⟩, ?_⟩
  have : List.countP isTr (bs.map Value.bool).toArray.toList = bs.countP id := by
    rw [List.toList_toArray, List.countP_map]
    rfl
  rw [this]; exact q
def rIndexB : V → List V → Hp → VK → Prop := fun x xs H Q => ∃ (l : Addr) (bs : List Bool) (j : Nat), x = .ref l ∧ xs = [.bl true] ∧ H l = some (.lst (bs.map V.bl)) ∧ bs[j]? = some true ∧ (∀ m, m < j → bs[m]? = some false) ∧ Q (.int (j : Nat)) H
theorem mt_indexB : MtR X "list.index" rIndexB := by
  intro pins s σ H x vs v us Q I rx rv h
  obtain ⟨l, bs, j, rfl, rfl, hH, hj, hno, q⟩ := h
  cases rx
  obtain ⟨u, rfl, ru⟩ := rv.one
  cases (show u = Value.bool true from ru)
  obtain ⟨z, its, n, r, hl, e⟩ := I.lstM hH
  cases vals_bl r
  obtain ⟨hjl, hjt⟩ := List.getElem?_eq_some_iff.mp hj
  have hsz : (bs.map Value.bool).toArray.size = bs.length := by simp
  refine call_meets PySem.F.slot_list_index ⟨_, e, rfl⟩ PySem.F.entry_list_index (PySem.F.args_list_index_2 _ _)
    (MeetsSeq.list_index l _ n (.bool true) isTr eq_all j (by rw [hsz]; exact hjl) ?_ ?_ ?_) ⟨e, ?_⟩
  · have h1 : bs.length ≤ sizeLine := by simpa using z
    have h2 := PySem.sizeLine_eq
    rw [h2] at h1
    omega
  · simp [hjt, isTr]
  · intro m hm hlt
    have := hno m hlt
    obtain ⟨h1, h2⟩ := List.getElem?_eq_some_iff.mp this
    simp [h2, isTr]
  · exact ⟨.int _, H, I.tok _, ⟨_, rfl⟩, q⟩
end
structure RoomU (k : Nat) (A : Around) : Prop where
  dp : A.depth + 3 * k + 5 < recursionLimit
  un : A.units + 16 * k + 200 < cLine
theorem RoomU.deeper {k : Nat} {A : Around} (r : RoomU (k + 1) A) (env : Env) : RoomU k (A.deeper env) :=
  ⟨by have := r.dp; show A.depth + 1 + 3 * k + 5 < _; omega, by have := r.un; show A.units + 3 + 16 * k + 200 < _; omega⟩
theorem roomU_mark {k : Nat} {A : Around} {v : Option Value} (r : Room k A) : RoomU k (A.mark v) := ⟨r.dp, r.un⟩
abbrev cxU (P : Program) (w : World) (K : PySem.W.Frag) (mg : Str → Option Value) (base : Heap) (N : List Str) (qual : Str) (scope : Scope) (f : Addr) (cd : Value) (A : Around) (outer : List Env) (s : Shared) (H : Hp) (E : XK) : Cx :=
  { cxOf CX0 P w K mg base N qual scope f cd A outer s H E with calm := false }
structure CalU (P : Program) (w : World) (K : PySem.W.Frag) (mg : Str → Option Value) (base : Heap) (k : Nat) (x : Str) (ps : List Str) (sp : Sp) : Prop where
  ex : ∃ f : Addr, PySem.W.keepIn K (.ref f) = true ∧ mg x = some (.ref f) ∧ (∀ vs H Q E, sp vs H Q E → vs.length = ps.length) ∧
    ∀ (A : Around) (outer : List Env) (s : Shared) (H : Hp) (us : List Value) (vs : List V) (Q : VK) (E : XK), RoomU k A → Env0 P w K mg base A outer s H → Vals vs us → sp vs H Q E →
      codeAny (model P w) A (.call (.ref f) ⟨us, []⟩) (CR CX0 outer P w H s Q E) s
section
variable {P : Program} {w : World} {K : PySem.W.Frag} {mg : Str → Option Value} {base : Heap} {k : Nat} {x : Str} {ps : List Str} {sp : Sp}
abbrev calmA (A : Around) : Around := { A with handled := none }
theorem env0_mark {A : Around} {outer : List Env} {s : Shared} {H : Hp} (e : Env0 P w K mg base A outer s H) : Env0 P w K mg base (calmA A) outer s H := ⟨e.frames, e.mod, e.bs, e.bsz, e.funs, e.frf, e.hok, e.bare⟩
theorem inv_uncalm {N : List Str} {qual : Str} {scope : Scope} {f : Addr} {cd : Value} {A : Around} {outer : List Env} {s s1 : Shared} {H H1 : Hp} {E : XK} {pins : List (Addr × Obj)} {σ : L2.St} (e0 : Env0 P w K mg base A outer s H)
    (I : Inv (cxOf CX0 P w K mg base N qual scope f cd (calmA A) outer s H E) pins σ H1 s1) : Inv (cxU P w K mg base N qual scope f cd A outer s H E) pins σ H1 s1 := by
  have ok := I.ok
  exact ⟨⟨ok.mod, ok.kind, ok.glob, ok.blt, ok.above, ok.inj, ok.has, ok.cab, fun z => (by cases z), Around.frames_deeper e0.frames, ok.stk, ok.exf, ok.bs, ok.bsz, ok.noex, ok.exfs, ok.funs, ok.frf⟩, I.os, I.bare, I.base, I.loc, I.cell, I.free, I.freeC, I.pin, I.hok, I.len⟩
theorem RoomU.mono {j k : Nat} {A : Around} (r : RoomU k A) (h : j ≤ k) : RoomU j A := ⟨by have := r.dp; omega, by have := r.un; omega⟩
theorem CalU.mono {j : Nat} (c : CalU P w K mg base j x ps sp) (h : j ≤ k) : CalU P w K mg base k x ps sp := by
  obtain ⟨f, kp, m, l, run⟩ := c.ex
  exact ⟨f, kp, m, l, fun A outer s H us vs Q E hr e r q => run A outer s H us vs Q E (hr.mono h) e r q⟩
theorem _root_.L3.Def.calU {st : Stmt} {N : List Str} (F : Def K mg x st ps) (S : FnScope N ps (defScope st)) (len : ∀ vs H Q E, sp vs H Q E → vs.length = ps.length)
    (hbody : ∀ (f : Addr) (cdv : Value) (A : Around) (outer : List Env) (s : Shared) (H : Hp) (vs : List V) (Q : VK) (E : XK), RoomU k (A.deeper (envOfC x (defScope st) s.heap.objs.size f cdv)) → sp vs H Q E →
      ∃ t, PSs (cxU P w K mg base N x (defScope st) f cdv A outer s H E) (defBody st) t ∧ t { nx := fun _ H' => Q .non H', rt := Q } (start N vs) H) : CalU P w K mg base (k + 1) x ps sp := by
  obtain ⟨f, fd, Fn, hm, hb⟩ := F.ex
  have kp := Fn.kp
  obtain ⟨oc, od, kV, doc, pm, an, cdv, ct, osl, rfl, lk, hcd⟩ := Fn.ex
  refine ⟨f, kp, hm, len, fun A outer s H us vs Q E hr e0 r hsp => ?_⟩
  have KX : K.In s.heap := e0.mod.kin.keeps fun b o z => (e0.bs b o z).1
  have hl := len _ _ _ _ hsp
  have hl2 : (us ++ []).length = ps.length := by rw [List.append_nil, ← r.length]; exact hl
  have hbb := hb s us KX hl2
  rw [List.append_nil] at hbb
  have lim : s.heap.NoLimit := e0.mod.nolimit.keeps fun b o e => (e0.bs b o e).1
  have hkind : ∀ y ∈ ps.zip us, (defScope st).names.lookup y.1 = some .local ∨ ((defScope st).names.lookup y.1 = some .cell ∧ ((cellsFrom (s.heap.objs.size + 1) (defScope st).names []).lookup y.1).isSome = true) := fun ⟨n, v⟩ hy => by
    rcases S.par n (List.of_mem_zip hy).1 with q | q
    · exact .inl q
    · exact .inr ⟨q, PySem.W.cellsFrom_some _ _ _ (.inl q)⟩
  have hdep : A.depth < recursionLimit := by have := hr.dp; omega
  refine codeAny_call_function (by first | exact hdep | (have := hr.dp; omega)) (KX _ _ lk) rfl S.co S.gen rfl (PySem.W.codeRec_of KX hcd) (hbb _ _ _ _ ?_)
  refine wpAny_newFunctionEnv_cells S.kind hkind fun env he s1 xc => ?_
  subst he
  refine ⟨lim.keeps xc.toInCall.keep, codeAny_func ?_⟩
  obtain ⟨t, ht, hq⟩ := hbody f cdv A outer s H vs Q E (hr.deeper _) hsp
  have I := inv_uncalm e0 (inv_start (CX := CX0) (E := E) S rfl (env0_mark e0) hl r xc)
  refine wpAny_mono (ht [] s1 (start N vs) H _ I hq) (fun fl s' hs => ?_) fun e s' hs => hs
  have fin : ∀ {σ' : L2.St} {H' : Hp} {v : V} {u : Value}, Inv (cxU P w K mg base N x (defScope st) f cdv A outer s H E) [] σ' H' s' → RelV v u → Q v H' → CE outer P w H s Q u s' :=
    fun {σ' H' v u} J rv q => ⟨v, H', J.os, J.bare, J.base, J.hok, rv, q⟩
  cases fl with
  | ret u =>
    obtain ⟨v, σ', H', J, rv, q⟩ := hs
    exact fin J rv q
  | next =>
    obtain ⟨σ', H', J, q⟩ := hs
    exact fin (v := V.non) (u := Value.none) J rfl q
  | brk =>
    obtain ⟨_, _, _, q⟩ := hs
    exact False.elim q
  | cont =>
    obtain ⟨_, _, _, q⟩ := hs
    exact False.elim q
end
section
variable {X : Cx} {k : Nat} {x : Str} {ps : List Str} {sp : Sp} {E : XK} {e : Expr} {es : List Expr} {t : TA} {p pos : Pos}
theorem pe_callU (C : CalU X.prog X.w X.K X.mg X.base k x ps sp) (hr : RoomU k X.A) (ha : PA X (e :: es) t) (hg : Gl X x := by rfl) (hdb : (x == ("__debug__" : Str)) = false := by decide)
    (he : starEach (e :: es) X.env = (false, eval e X.env) :: starEach es X.env := by rfl) (hpl : (backTo pos (starEach es X.env)).any (·.1) = false := by rfl) :
    PE X (.Call (.Name x p) (e :: es) [] pos) (tCall sp [] E t) := by
  obtain ⟨f, kp, m, l, run⟩ := C.ex
  intro pins s σ H Q I h
  refine wpAny_Call_Name_kw (ld_glob I hg m ?_ hdb)
  refine PySem.W.callWith_K (h₀ := X.base) I.ok.mod.kin kp (thn (ha pos pins s σ H _ I h) fun us s1 ⟨vs, H1, I1, r, q⟩ => ⟨I1.kIn, ?_⟩) he hpl
  have q' : sp vs H1 Q E := by
    have z : sp (vs ++ []) H1 Q E := q
    rwa [List.append_nil] at z
  refine wpAny_call (codeAny_mono (run X.A X.stack s1 H1 us vs Q E hr I1.env0 r q') fun r s' hq => ?_)
  cases r with
  | error e => exact False.elim hq
  | ok fl =>
    cases fl with
    | ret u => exact I1.after hq
    | next => exact False.elim hq
    | brk => exact False.elim hq
    | cont => exact False.elim hq
end
end L4
namespace L4
open PySem PySem.Spec PyProof.Rows L2 L3
theorem un_comp {fs fs' ex : List Addr} {H H1 H2 : Hp} {h h1 h2 : Heap} (u1 : Un fs [] H H1 h h1) (u2 : Un fs' ex H1 H2 h1 h2) (sub : ∀ b ∈ fs, b ∈ fs') (old : ∀ b o, h.get? b = some o → b ∉ ex ∧ (b ∉ fs → b ∉ fs')) : Un fs [] H H2 h h2 := by
  refine ⟨fun b o e n hb hx => ?_, fun b o e n hb hx => ?_, fun b o e n hx => ?_, fun b o e hx => ?_, fun b xs q => u2.tups b xs (u1.tups b xs q), fun b o u q => u2.frzs b o u (u1.frzs b o u q), fun b ps q => ?_⟩
  · exact u2.keep b o (u1.keep b o e n hb hx) (u1.free b o e n hx) ((old b o e).2 hb) (old b o e).1
  · obtain ⟨sl1, e1⟩ := u1.slot b o e n hb hx
    obtain ⟨sl2, e2⟩ := u2.slot b _ e1 (u1.free b o e n hx) (sub b hb) (old b o e).1
    exact ⟨sl2, e2⟩
  · obtain ⟨o1, e1⟩ := u1.there b o e hx
    exact u2.free b o1 e1 (u1.free b o e n hx) (old b o e).1
  · obtain ⟨o1, e1⟩ := u1.there b o e hx
    exact u2.there b o1 e1 (old b o e).1
  · obtain ⟨m1, q1⟩ := u1.tbls b ps q
    obtain ⟨m2, q2⟩ := u2.tbls b _ q1
    exact ⟨m1 ++ m2, by rw [q2, Array.append_assoc]⟩
theorem un_fly2 {fs : List Addr} {H H1 : Hp} {h h1 h' B : Heap} (u : Un fs [] H H1 h h1) (hB : B.StaysIn h1) (hB' : B.StaysIn h') (c : Cover fs h H1 B) (sl : ∀ b ∈ fs, ∀ o, h1.get? b = some o → ∃ s2, h'.get? b = some { o with slots := s2 }) : Un fs [] H H1 h h' where
  keep := fun b o e n hb _ => by
    have e1 := u.keep b o e n hb (by simp)
    obtain ⟨o', eB⟩ := c.old b o e hb
    have := hB b o' eB
    rw [e1] at this; cases this
    exact hB' b o eB
  slot := fun b o e n hb _ => by
    obtain ⟨s1, e1⟩ := u.slot b o e n hb (by simp)
    obtain ⟨s2, e2⟩ := sl b hb _ e1
    exact ⟨s2, e2⟩
  free := u.free
  there := fun b o e _ => by
    by_cases hb : b ∈ fs
    · obtain ⟨o1, e1⟩ := u.there b o e (by simp)
      obtain ⟨s2, e2⟩ := sl b hb _ e1
      exact ⟨_, e2⟩
    · obtain ⟨o', eB⟩ := c.old b o e hb
      exact ⟨o', hB' b o' eB⟩
  tups := u.tups
  frzs := u.frzs
  tbls := u.tbls
section
variable {M : Model} {A : Around} {E : Value → Shared → Prop} {s : Shared}
structure Aloft (B : Heap) (l : List Env) (x : Addr) (cls a0 fl : Value) (h : Heap) : Prop where
  st : B.StaysIn h
  no : B.get? x = none
  ff : h.FunFrames B l
  tr : h.TracedAtW B x cls a0 fl
theorem setFlight_any {B : Heap} {l : List Env} {x : Addr} {cls a0 fl : Value} {fr : Option Addr} {Q : Unit → Shared → Prop} (R : Aloft B l x cls a0 fl s.heap)
    (h : ∀ h', Aloft B l x cls a0 (fr.elim .none fun f => rawInt f) h' → s.heap.UpToSlots h' → Q () { s with heap := h' }) : wpAny M A (setFlight (.ref x) fr) Q E s := by
  obtain ⟨hkb, hen, hl, oe, vs, T, oT, ts, he, hcls, hd, h1, hnT, hTe, hT, hdT, h3⟩ := R
  have hsz3 : 3 < ts.size := (Array.getElem?_eq_some_iff.mp h3).1
  have other : ∀ b, b ≠ T → (s.heap.update T (Obj.mapFields (·.setIfInBounds 3 (fr.elim Value.none fun f => rawInt f)))).get? b = s.heap.get? b :=
    fun b hb => Heap.get?_update_other _ _ (Ne.symm hb)
  have noRecord : ∀ b o, s.heap.get? b = some o → (∀ vs, o.data ≠ .fields vs) → b ≠ T := fun b o hb hnf q => by
    rw [q, hT] at hb; injection hb with hb; subst hb; exact hnf ts hdT
  unfold setFlight
  refine wpAny_bind (wpAny_field he hd h1 ?_)
  rw [if_pos (show (Value.ref T != Value.none) = true from by simp)]
  refine wpAny_setField hT hdT hsz3 (h _ ⟨fun b o hbo => (other b fun q => by rw [q, hnT] at hbo; cases hbo).trans (hkb b o hbo), hen,
    hl.of_keeps fun b o hb hnf => ⟨o, (other b (noRecord b o hb hnf)).trans hb, rfl⟩, ?_⟩ fun b o hb hnf => ⟨o.slots, (other b (noRecord b o hb hnf)).trans hb⟩)
  exact ⟨oe, vs, T, _, _, (other x (Ne.symm hTe)).trans he, hcls, hd, h1, hnT, hTe, Heap.get?_update_self _ hT (Obj.isFreed_of_fields (Obj.data_mapFields hdT _)), Obj.data_mapFields hdT _, by simp [hsz3]⟩
theorem leaving_any {B : Heap} {env : Env} {outer : List Env} {L x : Addr} {cls a0 fl : Value} {Q : Unit → Shared → Prop}
    (hfr : A.frames = some (env :: outer)) (hf : env.frame = some L) (R : Aloft B (env :: outer) x cls a0 fl s.heap)
    (hQ : ∀ h', Heap.FlyingW B outer x cls a0 h' → s.heap.UpToSlots h' → Q () { s with heap := h' }) : wpAny M A (leaving env (.ref x)) Q E s := by
  by_cases hfl : fl = rawInt L
  · subst hfl
    unfold leaving
    refine wpAny_bind (wpAny_noteFrame_againW hf R.tr ?_)
    refine wpAny_landsW ⟨R.st, R.no, R.ff, R.tr⟩ fun h' hfl sl => ?_
    obtain ⟨k1, k2, ⟨_, _, k3⟩, k4⟩ := hfl
    exact hQ h' ⟨k1, k2, k3, k4⟩ sl
  · obtain ⟨hkb, hen, hl, oe, vs, T, oT, ts, he, ⟨hcls, h0⟩, hd, h1, hnT, hTe, hT, hdT, h3⟩ := R
    subst hcls
    unfold leaving noteFrame
    simp only [hf]
    refine wpAny_bind (wpAny_bind (wpAny_field he hd h1 ?_))
    rw [if_pos (show (Value.ref T != Value.none) = true from by simp)]
    refine wpAny_bind (wpAny_field hT hdT h3 ?_)
    rw [if_neg (show ¬ ((fl == rawInt L) = true) from fun z => hfl (eq_of_beq z))]
    refine wpAny_bind (wpAny_setField hT hdT (Array.getElem?_eq_some_iff.mp h3).1 ?_)
    have other : ∀ b, b ≠ T → (s.heap.update T (Obj.mapFields (·.setIfInBounds 3 Value.none))).get? b = s.heap.get? b := fun b hb => Heap.get?_update_other _ _ (Ne.symm hb)
    have noRecord : ∀ b o, s.heap.get? b = some o → (∀ vs, o.data ≠ .fields vs) → b ≠ T := fun b o hb hnf q => by
      rw [q, hT] at hb; injection hb with hb; subst hb; exact hnf ts hdT
    refine wpAny_newEntryW hfr (hl.of_keeps fun b o hb hnf => ⟨o, (other b (noRecord b o hb hnf)).trans hb, rfl⟩) hf ((other x (Ne.symm hTe)).trans he)
      (fun b o hbo => (other b fun q => by rw [q, hnT] at hbo; cases hbo).trans (hkb b o hbo)) hen hd (Array.getElem?_eq_some_iff.mp h1).1 h0
      fun h' ⟨x1, ⟨_, _, x2⟩, x3, x4⟩ => hQ h' ⟨x1, hen, x2, x3⟩ fun b o hb hnf => x4 b o ((other b (noRecord b o hb hnf)).trans hb) hnf
theorem passOn_any {B : Heap} {l : List Env} {x : Addr} {cls a0 fl : Value} {cenv : Env} {what : String} {Q : Value → Shared → Prop} (R : Aloft B l x cls a0 fl s.heap)
    (h : ∀ h' fl', Aloft B l x cls a0 fl' h' → s.heap.UpToSlots h' → E (.ref x) { s with heap := h' }) : wpAny M A (PySem.passOn what (.ref x) cenv : Sem Value) Q E s := by
  obtain ⟨oe, vs, T, oT, ts, he, hcls, hd, h1, _⟩ := R.tr
  unfold PySem.passOn
  refine wpAny_bind (wpAny_field he hd h1 ?_)
  rw [if_neg (show ¬ ((Value.ref T == Value.none) = true) from by simp)]
  first
    | exact wpAny_bind (wpAny_pure (wpAny_bind (setFlight_any R fun h' R' hs => wpAny_throw (h h' _ R' hs))))
    | exact wpAny_bind (setFlight_any R fun h' R' hs => wpAny_throw (h h' _ R' hs))
end
section
variable {P : Program} {w : World} {K : PySem.W.Frag} {mg : Str → Option Value} {base : Heap} {N : List Str} {qual : Str} {scope : Scope} {f : Addr} {cd : Value} {A : Around} {outer : List Env} {s : Shared} {H : Hp} {E : XK}
theorem leaves_cx {B : Heap} {x C : Addr} {a0 fl : Value} {H2 : Hp} {s3 : Shared} (hfr : (A.deeper (envOfC qual scope s.heap.objs.size f cd)).frames = some (envOfC qual scope s.heap.objs.size f cd :: outer))
    (os : s3.os = s.os) (bare : AllBare s3.gens) (un : Un (frs outer) [] H H2 s.heap s3.heap) (hok : HOk P w H2 s3.heap) (R : Aloft B (envOfC qual scope s.heap.objs.size f cd :: outer) x (.ref C) a0 fl s3.heap)
    (cov : Cover (frs outer) s.heap H2 B) (free : H2 x = none) (new : s.heap.get? x = none) (hE : E (.ref C) none H2) : (cxOf (CXE P w) P w K mg base N qual scope f cd A outer s H E).xe (.ref x) s3 := by
  have hl : (envOfC qual scope s.heap.objs.size f cd).frame = some s.heap.objs.size := rfl
  refine leaving_any hfr hl R fun h' fl' sl => ?_
  refine ⟨x, C, H2, rfl, hE, ⟨os, bare, ?_, hok_fly hok R.st fl'.1 cov.trk, ⟨B, a0, fl', cov⟩, free, new⟩⟩
  refine un_fly un R.st fl'.1 cov sl fun b hb o e => ?_
  have hm : b ∈ frs (envOfC qual scope s.heap.objs.size f cd :: outer) := by
    show b ∈ List.filterMap _ _
    rw [List.filterMap_cons, hl]; exact List.mem_cons_of_mem _ hb
  exact funFrames_nf R.ff b hm o e
end
end L4
namespace L4
open PySem PySem.Spec PyProof.Rows L2 L3
theorem funFrames_turn {h h' base base' : Heap} : ∀ {l : List Env}, h.FunFrames base l → (∀ b ∈ frs l, base'.get? b = none) → (∀ b ∈ frs l, h'.get? b = h.get? b) → h'.FunFrames base' l
  | [], _, _, _ => trivial
  | env :: rest, ⟨hk, ⟨L, o, hf, hn, ho, hd⟩, hr⟩, k, k2 => by
    have hm : L ∈ frs (env :: rest) := by unfold frs; rw [List.filterMap_cons, hf]; exact List.mem_cons_self
    have up : ∀ b ∈ frs rest, b ∈ frs (env :: rest) := fun b hb => by unfold frs; rw [List.filterMap_cons, hf]; exact List.mem_cons_of_mem _ hb
    exact ⟨hk, ⟨L, o, hf, k L hm, (k2 L hm).trans ho, hd⟩, funFrames_turn hr (fun b hb => k b (up b hb)) fun b hb => k2 b (up b hb)⟩
def Zc (X : Cx) (scope : Scope) (cl : List (Str × Addr)) (C : Addr) : Value → Shared → Prop :=
  notedBy (model X.prog X.w) X.A (compEnvC scope cl C X.env) fun e s' => ∃ m, s'.heap.Ns C m ∧ ∀ h', Heap.SameBut C s'.heap h' → ∀ cenv : Env, cenv.locals = C → wpAny (model X.prog X.w) X.A (PySem.passOn "comprehension.variables-let-go" e cenv : Sem Value) (fun _ _ => False) X.xe { s' with heap := h' }
section
variable {P : Program} {w : World} {K : PySem.W.Frag} {mg : Str → Option Value} {base : Heap} {N : List Str} {qual : Str} {scope : Scope} {f : Addr} {cd : Value} {A : Around} {outer : List Env} {s : Shared} {H : Hp} {E : XK}
theorem passes_comp {X : Cx} (hX : X = cxOf (CXE P w) P w K mg base N qual scope f cd A outer s H E) {pins : List (Addr × Obj)} {σ : L2.St} {H2 : Hp} {s2 s₀ : Shared} {sc : Scope} {cl : List (Str × Addr)} {N' : List Str} {fp : List Addr} {D : Addr}
    (I2 : Inv X pins σ H2 s2) (f2 : ∀ b ∈ fp, FpOk X pins H2 b) (hD : D = s2.heap.objs.size) (h3 : s₀ = { s2 with heap := s2.heap.push { cls := .type "list", data := .seq (([] : List Value).toArray) } }) :
    Passes (CXE P w) (cxCompZ (Zc X sc cl (D + 1)) X sc cl (D + 1) N' s₀ H2 (D :: fp)) E := by
  intro pins' σ' H1 s1 e sE I h
  have hlX : X.env.frame = some X.env.locals := by rw [hX]; rfl
  have hst : X.stack = X.env :: outer := by rw [hX]; rfl
  have hexX : X.ex = [] := by rw [hX]; rfl
  have hfsX : X.fs = frs outer := by rw [hX]; rfl
  have hs0 : X.s₀ = s := by rw [hX]; rfl
  have hH0 : X.H₀ = H := by rw [hX]; rfl
  have hP : X.prog = P := by rw [hX]; rfl
  have hw : X.w = w := by rw [hX]; rfl
  have hfr : X.A.frames = some (X.env :: outer) := by rw [I2.ok.frames, hst]
  have hle : s.heap.objs.size ≤ X.env.locals := by rw [← hs0]; exact I2.ok.above
  have hlt : X.env.locals < D := by rw [hD]; exact I2.lt
  have efs : frs X.stack = X.env.locals :: frs outer := by
    rw [hst]; unfold frs; rw [List.filterMap_cons, hlX]
  obtain ⟨x, C', H3, rfl, hE, L⟩ := h
  obtain ⟨B, a0, fl, cov⟩ := L.fly
  have fl0 : Heap.FlyingW B (X.env :: outer) x (.ref C') a0 sE.heap := by rw [← hst]; exact fl
  show wpAny _ _ (noteFrame (.ref x) X.env) _ _ sE
  have ltO : ∀ b o, s.heap.get? b = some o → b < s.heap.objs.size := fun b o e => Heap.lt_size e
  have funs : s.heap.FunFrames X.base outer := by have z := I2.ok.funs; rw [hs0] at z; rw [hX] at z ⊢; exact z
  have fsLt : ∀ b ∈ frs X.stack, b < D := fun b hb => by
    rw [efs] at hb
    rcases List.mem_cons.mp hb with z | z
    · rw [z]; exact hlt
    · obtain ⟨_, o, ho, _⟩ := funs.mem z
      exact Nat.lt_trans (Nat.lt_of_lt_of_le (ltO b o ho) hle) hlt
  have nC : D + 1 ∉ frs X.stack := fun z => Nat.lt_irrefl _ (Nat.lt_trans (fsLt _ z) (Nat.lt_succ_self D))
  -- the block's own names
  obtain ⟨m, hm, _⟩ := I.loc
  obtain ⟨oC, esC, epC, hoC, hdC, hrC⟩ := hm
  have hoC1 : s1.heap.get? (D + 1) = some oC := hoC
  have hC1 : H1 (D + 1) = none := I.free
  have hoCE : sE.heap.get? (D + 1) = some oC := L.un.keep _ _ hoC1 hC1 nC (by simp)
  have hC3 : H3 (D + 1) = none := L.un.free _ _ hoC1 hC1 (by simp)
  obtain ⟨oB, hoB⟩ := cov.old _ _ hoC1 nC
  have eB : oB = oC := by
    have := fl.1 _ _ hoB
    rw [hoCE] at this; cases this; rfl
  subst eB
  have xC : x ≠ D + 1 := fun z => by
    have := L.new
    rw [z] at this
    rw [hoC1] at this; cases this
  refine wpAny_looks_onW hfr hlX fl0 fun h1 held sl1 => ?_
  refine ⟨m, ⟨oB, esC, epC, held.1 _ _ hoB, hdC, hrC⟩, fun h' sb cenv hcv => ?_⟩
  obtain ⟨B', hB'⟩ : ∃ B', B' = PySem.W.hideAll B [D + 1] := ⟨_, rfl⟩
  have ofB : ∀ {b o}, B'.get? b = some o → B.get? b = some o ∧ b ≠ D + 1 := fun {b o} e => by
    refine ⟨?_, fun z => ?_⟩
    · rw [hB'] at e; exact PySem.W.of_hideAll _ e
    · rw [hB', z, PySem.W.hideAll_none _ (List.mem_singleton.mpr rfl)] at e; cases e
  have toB : ∀ {b o}, B.get? b = some o → b ≠ D + 1 → B'.get? b = some o := fun {b o} e n => by
    rw [hB']; exact PySem.W.hideAll_get _ e fun z => n (List.mem_singleton.mp z)
  have noB : ∀ {b}, B.get? b = none → B'.get? b = none := fun {b} e => by
    cases q : B'.get? b with
    | none => rfl
    | some o => rw [(ofB q).1] at e; cases e
  have ffB : ∀ b ∈ frs X.stack, B.get? b = none := fun b hb => (fl.2.2.1.mem hb).1
  have stE : B'.StaysIn sE.heap := fun b o e => fl.1 b o (ofB e).1
  have R : Aloft B' X.stack x (.ref C') a0 (rawInt X.env.locals) h' := by
    refine ⟨fun b o e => (sb.2 b (ofB e).2).trans (held.1 b o (ofB e).1), noB held.2.1, ?_, ?_⟩
    · have ff : h1.FunFrames B X.stack := by rw [hst]; exact held.2.2.1
      exact funFrames_turn ff (fun b hb => noB (ffB b hb)) fun b hb => sb.2 b fun z => nC (z ▸ hb)
    · obtain ⟨oe, vs, T, oT, ts, he, hcls, hd, g1, hnT, hTe, hT, hdT, g3⟩ := held.2.2.2
      have TC : T ≠ D + 1 := fun z => by rw [z, hoB] at hnT; cases hnT
      exact ⟨oe, vs, T, oT, ts, (sb.2 x xC).trans he, hcls, hd, g1, noB hnT, hTe, (sb.2 T TC).trans hT, hdT, g3⟩
  refine passOn_any R fun h2 fl2 R2 sl2 => ?_
  -- from the entry of the def
  have nx : ∀ b o, s.heap.get? b = some o → b ∉ D :: fp := fun b o e z => by
    have hb := ltO b o e
    rcases List.mem_cons.mp z with z | z
    · rw [z] at hb; exact Nat.lt_irrefl _ (Nat.lt_of_lt_of_le (Nat.lt_trans hlt hb) hle)
    · rcases (f2 b z).2.2.2.1 with q | q
      · rw [hexX] at q; cases q
      · rw [hs0] at q; exact absurd hb (Nat.not_lt.mpr q)
  have nf : ∀ b o, s.heap.get? b = some o → b ∉ frs outer → b ∉ frs X.stack := fun b o e n z => by
    rw [efs] at z
    rcases List.mem_cons.mp z with z | z
    · have := ltO b o e
      rw [z] at this; exact Nat.lt_irrefl _ (Nat.lt_of_lt_of_le this hle)
    · exact n z
  have subf : ∀ b ∈ frs outer, b ∈ frs X.stack := fun b hb => by rw [efs]; exact List.mem_cons_of_mem _ hb
  have u1 : Un (frs outer) [] H H2 s.heap s2.heap := by
    have z := I2.base
    rw [hfsX, hexX, hH0, hs0] at z; exact z
  have u1' : Un (frs outer) [] H H2 s.heap s₀.heap := u1.trans (Un.kept fun b o e => by rw [h3]; exact Heap.get?_push_of_some _ e)
  have u2 : Un (frs X.stack) (D :: fp) H2 H1 s₀.heap s1.heap := I.base
  have u12 : Un (frs outer) [] H H1 s.heap s1.heap := un_comp u1' u2 subf fun b o e => ⟨nx b o e, nf b o e⟩
  have u123 : Un (frs outer) [] H H3 s.heap sE.heap := un_comp u12 L.un subf fun b o e => ⟨by simp, nf b o e⟩
  have cov' : Cover (frs outer) s.heap H3 B' := by
    refine ⟨fun b u q => ?_, fun b o e n => ?_⟩
    · obtain ⟨o, eo⟩ := cov.trk b u q
      exact ⟨o, toB eo fun z => by rw [z, hC3] at q; cases q⟩
    · obtain ⟨o1, e1⟩ := u12.there b o e (by simp)
      obtain ⟨o', e'⟩ := cov.old b o1 e1 (nf b o e n)
      exact ⟨o', toB e' fun z => by have := ltO b o e; rw [z] at this; exact Nat.lt_irrefl _ (Nat.lt_of_lt_of_le (Nat.lt_trans (Nat.lt_trans hlt (Nat.lt_succ_self D)) this) hle)⟩
  have un : Un (frs outer) [] H H3 s.heap h2 := un_fly2 u123 stE R2.st cov' fun b hb o e => by
    have hm := subf b hb
    have nfd := funFrames_nf fl.2.2.1 b hm o e
    obtain ⟨t1, e1⟩ := sl1 b o e nfd
    have e2 : h'.get? b = some { o with slots := t1 } := (sb.2 b fun z => nC (z ▸ hm)).trans e1
    obtain ⟨t2, e3⟩ := sl2 b _ e2 nfd
    exact ⟨t2, e3⟩
  have hos : sE.os = s.os := by
    have z1 := L.os
    have z2 : s1.os = s₀.os := I.os
    have z3 : s2.os = X.s₀.os := I2.os
    rw [z1, z2, h3]; rw [hs0] at z3; exact z3
  have hok2 : HOk P w H3 h2 := hok_fly L.hok stE R2.st cov'.trk
  have new : s.heap.get? x = none := by
    cases q : s.heap.get? x with
    | none => rfl
    | some o =>
      obtain ⟨o1, e1⟩ := u12.there x o q (by simp)
      rw [L.new] at e1; cases e1
  subst hX
  exact leaves_cx (s3 := { sE with heap := h2 }) hfr hos L.bare un hok2 R2 cov' L.free new hE
end
section
variable {X : Cx} {P : Program} {w : World} {K : PySem.W.Frag} {mg : Str → Option Value} {base : Heap} {N : List Str} {qual : Str} {scope : Scope} {f : Addr} {cd : Value} {A : Around} {outer : List Env} {s : Shared} {H : Hp} {E : XK}
variable {elt iter : Expr} {x : Str} {px pos : Pos} {ifs : List Expr} {scope' : Scope} {cn : List Str} {wi : TI} {te : TE} {tt : TT}
theorem pe_compX (caps : List Nat) {sc : Scope} (hX : X = cxOf (CXE P w) P w K mg base N qual scope f cd A outer s H E) (hsc : X.env.scope = sc) (S : CompScope sc scope' x cn) (hcap : caps.map (fun i => X.N[i]?) = cn.map some) (hc : X.calm = true)
    (hi : PI X (.Name x px) iter wi) (ht : ∀ Z cl C s₀ H₀ ex, PQ (cxCompZ Z X scope' cl C (x :: cn) s₀ H₀ ex) ifs tt)
    (he : ∀ Z cl C s₀ H₀ ex, Passes (CXE P w) (cxCompZ Z X scope' cl C (x :: cn) s₀ H₀ ex) E → PE (cxCompZ Z X scope' cl C (x :: cn) s₀ H₀ ex) elt te)
    (hs : ∀ v, foldedSetIterable iter X.env v = pure v := by intro _; rfl) :
    PE X (.ListComp elt [⟨.Name x px, iter, ifs, 0⟩] scope' pos) (tComp caps wi tt te) := by
  subst hsc
  intro pins s σ H Q I h
  have hhas : ∀ y ∈ scope'.names, y.2 = .free → ∃ c, X.env.cells.lookup y.1 = some c := fun y hy hk => I.ok.has y.1 (S.fr y hy hk)
  rw [eval_ListComp]
  refine wpAny_comprehension_free (use := none) rfl hs (closure_eq hhas) S.kind S.names (thn (hi pins s σ H _ I h) fun xv s1 h1 => thn h1 fun itv s2 h2 => ?_)
  obtain ⟨it, fp, tn, J, H2, rfl, I2, T, st2, f2, W, ⟨m0, w0⟩, turn⟩ := h2
  refine comp_runZ (Z := Zc X scope' _) (R := fun acc C => compPost (model X.prog X.w) X.A X.xe none (EP X pins σ Q) acc C) S rfl (caps_at hcap) (caps_len hcap) hc I2 T st2 f2 w0 turn
    (fun D s₀ hD h3 => he _ _ _ _ _ _ (passes_comp hX I2 f2 hD h3)) (fun D s₀ hD h3 => ht _ _ _ _ _ _) (fun D e s' hD z => z) ?_
  intro D C s' H' I' hm cf q
  obtain ⟨m, hm⟩ := hm
  refine ⟨m, hm, fun h' sb => ⟨.ref D, H', ?_, rfl, q⟩⟩
  exact I'.turned (t' := s'.toks) (fun b o hb e => (sb.2 b hb).trans e) cf.no cf.ne (.inr cf.up) cf.cells cf.pin
theorem ps_setcompX (caps : List Nat) {sc : Scope} {i : Nat} {y : Str} {py spos : Pos} (hX : X = cxOf (CXE P w) P w K mg base N qual scope f cd A outer s H E) (hsc : X.env.scope = sc) (S : CompScope sc scope' x cn) (hcap : caps.map (fun i => X.N[i]?) = cn.map some) (hc : X.calm = true)
    (hN : X.N.Nodup) (hi' : X.N[i]? = some y) (hy : Loc X.env.scope y) (hsw : swapsWith (.ListComp elt [⟨.Name x px, iter, ifs, 0⟩] scope' pos) (some (.Name y py)) spos.line X.env = pure true)
    (hi : PI X (.Name x px) iter wi) (ht : ∀ Z cl C s₀ H₀ ex, PQ (cxCompZ Z X scope' cl C (x :: cn) s₀ H₀ ex) ifs tt)
    (he : ∀ Z cl C s₀ H₀ ex, Passes (CXE P w) (cxCompZ Z X scope' cl C (x :: cn) s₀ H₀ ex) E → PE (cxCompZ Z X scope' cl C (x :: cn) s₀ H₀ ex) elt te)
    (hs : ∀ v, foldedSetIterable iter X.env v = pure v := by intro _; rfl) (hf : X.fn y = true ∨ X.env.scope.names.lookup y = some .local := by first | exact .inl rfl | exact .inr rfl | assumption) :
    PS X (.Assign [.Name y py] (.ListComp elt [⟨.Name x px, iter, ifs, 0⟩] scope' pos) spos) (tAsg (tComp caps wi tt te) (gName i)) := by
  subst hsc
  intro pins s σ H D I h
  have hhas : ∀ y ∈ scope'.names, y.2 = .free → ∃ c, X.env.cells.lookup y.1 = some c := fun y hy hk => I.ok.has y.1 (S.fr y hy hk)
  rw [exec_Assign_Name_used _ _ _ _ hsw]
  refine wpAny_bind (wpAny_standAt (wpAny_bind ?_))
  show wpAny _ X.A (do let _ ← comprehension (.ListComp elt [⟨.Name x px, iter, ifs, 0⟩] scope' pos) scope' X.env _ (newList []) false (eval iter X.env) (some (assign (.Name y py) X.env))) _ _ s
  refine wpAny_bind (wpAny_mono (wpAny_comprehension_free (use := some (assign (.Name y py) X.env)) (Q := fun _ s' => SP X pins D .next s') rfl hs (closure_eq hhas) S.kind S.names (thn (hi pins s σ H _ I h) fun xv s1 h1 => thn h1 fun itv s2 h2 => ?_))
    (fun _ s' hq => wpAny_pure (wpAny_pure hq)) fun _ _ e => e)
  obtain ⟨it, fp, tn, J, H2, rfl, I2, T, st2, f2, W, ⟨m0, w0⟩, turn⟩ := h2
  refine comp_runZ (Z := Zc X scope' _) (R := fun acc C => compPost (model X.prog X.w) X.A X.xe (some (assign (.Name y py) X.env)) (fun _ s' => SP X pins D .next s') acc C) (Qe := fun v H1 => gName i v σ H1 D.nx) S rfl (caps_at hcap) (caps_len hcap) hc I2 T st2 f2 w0 turn
    (fun D s₀ hD h3 => he _ _ _ _ _ _ (passes_comp hX I2 f2 hD h3)) (fun D s₀ hD h3 => ht _ _ _ _ _ _) (fun D e s' hD z => z) ?_
  intro L C s' H' I' hm cf q
  obtain ⟨m, hm⟩ := hm
  show wpAny _ _ (assign (.Name y py) X.env (.ref L)) _ _ s'
  refine wpAny_assign_Name (store_ok2 I' hN hi' hy (v := .ref L) (u := .ref L) rfl (fun s'' I'' hb => ?_) hf)
  obtain ⟨a, sb, ha⟩ := hb
  have neA : C ≠ a := by
    rcases ha with z | z
    · rw [z]; exact cf.ne
    · exact Ne.symm (cf.cells _ _ z)
  refine ⟨m, hm.sameBut sb neA, fun h' sb' => ⟨_, H', ?_, q⟩⟩
  exact I''.turned (t' := s''.toks) (fun b o hb e => (sb'.2 b hb).trans e) cf.no cf.ne (.inr cf.up) cf.cells cf.pin
end
end L4
namespace Tx
open PySem PyProof.Rows PySem.NumText
def Asc (x : Str) : Prop := ∀ c ∈ x.cps.toList, c < 128
theorem Asc.all {x : Str} (h : Asc x) : x.cps.all (· < 128) = true := ascii_of h
theorem asc_app {x y : Str} (h : Asc x) (k : Asc y) : Asc (x ++ y) := fun c hc => by
  rw [app_list] at hc
  rcases List.mem_append.mp hc with z | z
  · exact h c z
  · exact k c z
theorem asc_slice {x : Str} (h : Asc x) (l u : Option Int) : Asc (Txt.slice x l u) := by
  unfold Txt.slice
  split
  · exact h
  · intro c hc
    have hc' : c ∈ List.filterMap (fun i => x.cps[i]?) (PySem.Builtin.Str.strSliceIndices l u 1 x.length) := by simpa using hc
    obtain ⟨i, _, hi⟩ := List.mem_filterMap.mp hc'
    refine h c ?_
    rw [← Array.getElem?_toList] at hi
    exact List.mem_of_getElem? hi
theorem asc_tx (n : Int) : ∀ c ∈ tx n, c < 128 := fun c hc => by
  have key : ∀ m : Nat, ∀ c ∈ dg m, c < 128 := fun m c hc => by
    have := dg_digits m c hc
    omega
  unfold tx at hc
  split at hc
  · rcases List.mem_cons.mp hc with z | z
    · omega
    · exact key _ c z
  · exact key _ c hc
theorem asc_T (n : Int) : Asc (T n) := fun c hc => by rw [T_list] at hc; exact asc_tx n c hc
theorem asc_lit (x : Str) (h : x.cps.toList.all (· < 128) = true) : Asc x := fun c hc => of_decide_eq_true (List.all_eq_true.mp h c hc)
theorem asc_sub {x y : Str} {c : Nat} (h : Asc x) (k : y ∈ Txt.split x ⟨#[c]⟩) : Asc y := by
  have hl := split_list x c
  have key : ∀ (l : List Nat) (p : List Nat), p ∈ spl c l → ∀ d ∈ p, d ∈ l := by
    intro l
    induction l with
    | nil => intro p hp d hd; simp [spl] at hp; subst hp; exact hd
    | cons a l ih =>
      intro p hp d hd
      unfold spl at hp
      split at hp
      · rcases List.mem_cons.mp hp with z | z
        · subst z; cases hd
        · exact List.mem_cons_of_mem _ (ih p z d hd)
      · cases hs : spl c l with
        | nil =>
          rw [hs] at hp
          simp at hp; subst hp
          simp at hd; subst hd; exact List.mem_cons_self
        | cons q qs =>
          rw [hs] at hp
          simp only at hp
          rcases List.mem_cons.mp hp with z | z
          · subst z
            rcases List.mem_cons.mp hd with z | z
            · subst z; exact List.mem_cons_self
            · exact List.mem_cons_of_mem _ (ih q (by rw [hs]; exact List.mem_cons_self) d z)
          · exact List.mem_cons_of_mem _ (ih p (by rw [hs]; exact List.mem_cons_of_mem _ z) d hd)
  intro d hd
  refine h d (key x.cps.toList y.cps.toList ?_ d hd)
  rw [← hl]
  exact List.mem_map.mpr ⟨y, k, rfl⟩
theorem part_le {c : Nat} : ∀ (l : List Nat) (p : List Nat), p ∈ spl c l → p.length ≤ l.length := by
  intro l
  induction l with
  | nil => intro p hp; simp [spl] at hp; subst hp; simp
  | cons a l ih =>
    intro p hp
    unfold spl at hp
    split at hp
    · rcases List.mem_cons.mp hp with z | z
      · subst z; simp
      · have := ih p z; simp; omega
    · cases hs : spl c l with
      | nil => rw [hs] at hp; simp at hp; subst hp; simp
      | cons q qs =>
        rw [hs] at hp
        simp only at hp
        rcases List.mem_cons.mp hp with z | z
        · subst z
          have := ih q (by rw [hs]; exact List.mem_cons_self)
          simp; omega
        · have := ih p (by rw [hs]; exact List.mem_cons_of_mem _ z)
          simp; omega
theorem len_sub {x y : Str} {c : Nat} (k : y ∈ Txt.split x ⟨#[c]⟩) : y.length ≤ x.length := by
  rw [len_list, len_list]
  refine part_le (c := c) _ _ ?_
  rw [← split_list x c]
  exact List.mem_map.mpr ⟨y, k, rfl⟩
theorem mapM_snoc {α β : Type} {f : α → Option β} {a : α} {n : β} : ∀ {l : List α} {ns : List β}, l.mapM f = some ns → f a = some n → (l ++ [a]).mapM f = some (ns ++ [n])
  | [], ns, h, k => by simp at h; subst h; simp [k]
  | b :: l, ns, h, k => by
    rw [List.mapM_cons] at h
    cases hb : f b with
    | none => rw [hb] at h; simp at h
    | some m =>
      cases hl : l.mapM f with
      | none => rw [hb, hl] at h; simp at h
      | some ms =>
        rw [hb, hl] at h
        simp at h; subst h
        rw [List.cons_append, List.mapM_cons, hb, mapM_snoc hl k]; rfl
theorem slice_first (x : Str) : Txt.slice x none (some 1) = (Str.ofString "-") ↔ x.cps.toList.head? = some 45 := by
  obtain ⟨a⟩ := x
  obtain ⟨l⟩ := a
  cases l with
  | nil =>
    constructor
    · intro h
      exact absurd h (by decide)
    · intro h; cases h
  | cons a b =>
    have hc := PyProof.Rows.slice_closes_to (x := ⟨(a :: b).toArray⟩) (j := 1) ⟨by decide, by simp; omega⟩
    rw [eq_of_beq hc]
    have e : (⟨((((⟨(a :: b).toArray⟩ : Str).cps.toList.drop (0 : Int).toNat).take (1 - 0 : Int).toNat)).toArray⟩ : Str) = ⟨#[a]⟩ := by simp
    rw [e]
    simp only [List.head?_cons, Option.some.injEq]
    constructor
    · intro h
      have h2 : (#[a] : Array Nat) = #[45] := congrArg Str.cps h
      simpa using h2
    · intro h
      subst h; rfl
end Tx
namespace Cs
open PySem PySem.Spec PyProof.Rows L2 L3 L4 Mx Tx
section
variable {X : Cx}
def rMulS : R2 := fun x y H Q => ∃ z n, x = .str z ∧ y = .int n ∧ 1 ≤ n ∧ n ≤ 1000 ∧ z.length = 1 ∧ ∀ c, (∀ d ∈ c.cps.toList, d ∈ z.cps.toList) → c.length = n.toNat → Q (.str c) H
theorem foldl_app (z : Array Nat) : ∀ (k : Nat) (acc : Array Nat), (∀ d ∈ acc.toList, d ∈ z.toList) → (∀ d ∈ ((List.replicate k z).foldl (· ++ ·) acc).toList, d ∈ z.toList) ∧ ((List.replicate k z).foldl (· ++ ·) acc).size = acc.size + k * z.size
  | 0, acc, h => ⟨h, by simp⟩
  | k + 1, acc, h => by
    rw [List.replicate_succ, List.foldl_cons]
    obtain ⟨h1, h2⟩ := foldl_app z k (acc ++ z) (fun d hd => by
      rw [Array.toList_append] at hd
      rcases List.mem_append.mp hd with q | q
      · exact h d q
      · exact q)
    refine ⟨h1, ?_⟩
    rw [h2, Array.size_append, Nat.succ_mul]; omega
theorem op_mulS : OpR X (binaryOp .Mult) rMulS := by
  intro pins s σ H x y v u Q I rx ry h
  obtain ⟨z, n, rfl, rfl, h1, h2, hz, q⟩ := h
  obtain ⟨t, rfl⟩ := rx
  obtain ⟨t', rfl⟩ := ry
  have hsl : sizeLine = 2 ^ 26 ∨ 1000 ≤ sizeLine := .inr (by decide)
  obtain ⟨f1, f2⟩ := foldl_app z.cps n.toNat #[] (fun d hd => by simp at hd)
  refine PySem.P.mul_str (by
      rw [decide_eq_false (by omega : ¬ n < -(2 ^ 63 : Int)), decide_eq_false (by omega : ¬ n ≥ 2 ^ 63)]; rfl) (fun _ _ z' => ?_) (fun _ _ => ?_) ?_
  · rw [hz] at z'
    have : (1 : Int) ≤ (2 ^ 63 - 1) / n := by
      have : (1000 : Int) ≤ 2 ^ 63 - 1 := by decide
      exact (Int.le_ediv_iff_mul_le (by omega)).mpr (by omega)
    omega
  · rw [hz, Nat.one_mul]
    unfold PySem.Builtin.Str.tooLong
    refine decide_eq_false (Nat.not_lt.mpr (Nat.le_trans (show n.toNat ≤ 1000 by omega) (by decide)))
  · rw [if_neg (by omega)]
    split
    · rename_i hn
      have : n = 1 := by
        rw [hz] at hn; simpa using hn
      subst this
      exact ⟨.str z, H, I, ⟨t, rfl⟩, q z (fun d hd => hd) hz⟩
    · refine ⟨?_, ⟨.str _, H, I.tok _, ⟨_, rfl⟩, q _ (fun d hd => f1 d hd) ?_⟩⟩
      · show Array.size _ ≤ sizeLine
        rw [f2]
        have hz' : z.cps.size = 1 := hz
        rw [hz']
        refine Nat.le_trans (show (#[] : Array Nat).size + n.toNat * 1 ≤ 1000 from ?_) (by decide)
        simp; omega
      · show Array.size _ = n.toNat
        rw [f2]
        have hz' : z.cps.size = 1 := hz
        rw [hz']; simp
end
def numV : Option Int → V | none => .non | some n => .int n
theorem numV_flat (o : Option Int) : flatV (numV o) = true := by cases o <;> rfl
theorem spl_ne (c : Nat) (l : List Nat) : spl c l ≠ [] := by
  cases l with
  | nil => simp [spl]
  | cons a l =>
    unfold spl
    split
    · simp
    · split <;> simp
theorem nums_cases : ∀ ys : List Str, (inV .non (ys.map fun y => numV (readN y.cps.toList)) = true ∧ (ys.map (·.cps.toList)).mapM readN = none) ∨
    (inV .non (ys.map fun y => numV (readN y.cps.toList)) = false ∧ ∃ ns : List Int, (ys.map (·.cps.toList)).mapM readN = some ns ∧ (ys.map fun y => numV (readN y.cps.toList)) = ns.map V.int)
  | [] => .inr ⟨rfl, [], rfl, rfl⟩
  | y :: ys => by
    rw [List.map_cons, List.map_cons, List.mapM_cons]
    cases hy : readN y.cps.toList with
    | none => exact .inl ⟨rfl, rfl⟩
    | some n =>
      rcases nums_cases ys with ⟨h1, h2⟩ | ⟨h1, ns, h2, h3⟩
      · exact .inl ⟨h1, by rw [h2]; rfl⟩
      · exact .inr ⟨h1, n :: ns, by rw [h2]; rfl, by rw [h3]; rfl⟩
theorem nums_flat (ys : List Str) : (ys.map fun y => numV (readN y.cps.toList)).all flatV = true := by
  rw [List.all_eq_true]
  intro v hv
  obtain ⟨y, _, rfl⟩ := List.mem_map.mp hv
  exact numV_flat _
def IsOl (K : PySem.W.Frag) (H : Hp) (v : V) : Option (List Int) → Prop | none => v = .non | some l => Tp K H v l
def spReadNX (nn : Addr) : Sp := fun vs H _ E => ∃ x : Str, vs = [.str x] ∧ Asc x ∧ x.length ≤ 1000 ∧ readN x.cps.toList = none ∧ ∀ H', Same H H' → E (.ref nn) none H'
def spReadPX (nn : Addr) : Sp := fun vs H _ E => ∃ x : Str, vs = [.str x] ∧ Asc x ∧ x.length ≤ 1000 ∧ readP x.cps.toList = none ∧ ∀ H', Same H H' → E (.ref nn) none H'
def spReadCX (nn : Addr) : Sp := fun vs H _ E => ∃ x : Str, vs = [.str x] ∧ Asc x ∧ x.length ≤ 1000 ∧ readC x.cps.toList = none ∧ ∀ H', Same H H' → E (.ref nn) none H'
def spLawN : Sp := fun vs H Q _ => ∃ x : Str, vs = [.str x] ∧ Asc x ∧ x.length ≤ 1000 ∧ ∀ H', Same H H' → Q (numV (readN x.cps.toList)) H'
def spWrP (K : PySem.W.Frag) : Sp := fun vs H Q _ => ∃ x : Str, vs = [.str x] ∧ Asc x ∧ x.length ≤ 1000 ∧ ∀ v H', Same H H' → IsOl K H' v ((readP x.cps.toList).map pl) → Q v H'
def spWrC (K : PySem.W.Frag) : Sp := fun vs H Q _ => ∃ x : Str, vs = [.str x] ∧ Asc x ∧ x.length ≤ 1000 ∧ ∀ v H', Same H H' → IsOl K H' v ((readC x.cps.toList).map cl) → Q v H'
def spChanged : Sp := fun vs H Q _ => ∃ (x : Str) (c : Int), vs = [.str x, .int c] ∧ Asc x ∧ x.length ≤ 400 ∧ ∀ y, Asc y → y.length ≤ 2 * x.length + 1 → Q (.str y) H
abbrev whichN : List Str := ["change", "note", "point", "three", "times"]
structure KindOf (K : PySem.W.Frag) (nc nn np nth nt C : Addr) (j : Nat) : Prop where
  exc : ExcC K C
  ve : PySem.W.kitOne K (.ref C) (.type "ValueError") = some true
  k0 : PySem.W.kitOne K (.ref C) (.ref nc) = some (decide (j = 0))
  k1 : PySem.W.kitOne K (.ref C) (.ref nn) = some (decide (j = 1))
  k2 : PySem.W.kitOne K (.ref C) (.ref np) = some (decide (j = 2))
  k3 : PySem.W.kitOne K (.ref C) (.ref nth) = some (decide (j = 3))
  k4 : PySem.W.kitOne K (.ref C) (.ref nt) = some (decide (j = 4))
  lt : j < 5
def spWhich (K : PySem.W.Frag) (nc nn np nth nt : Addr) : Sp := fun vs H Q _ => ∃ (x C : Addr) (j : Nat) (t : Str), vs = [.ref x] ∧ H x = some (excO x C) ∧ KindOf K nc nn np nth nt C j ∧ whichN[j]? = some t ∧ ∀ H', Same H H' → Q (.str t) H'
def spAsked17 (K : PySem.W.Frag) : Sp := fun vs H Q _ => ∃ (x : Str) (way : Int), vs = [.int way, .str x] ∧ Asc x ∧ x.length ≤ 1000 ∧
  ∀ v H', Same H H' → (match (if way = 0 then (readP x.cps.toList).map pl else (readC x.cps.toList).map cl) with | none => v = .str "note" | some l => Tp K H' v l) → Q v H'
theorem len_3up {α : Type} {xs : List α} (h : 2 < xs.length) : ∃ a b c r, xs = a :: b :: c :: r := by
  match xs, h with
  | a :: b :: c :: r, _ => exact ⟨a, b, c, r, rfl⟩
theorem len_12 {α : Type} {xs : List α} (h0 : xs ≠ []) (h : ¬ 2 < xs.length) : (∃ n, xs = [n]) ∨ ∃ n m, xs = [n, m] := by
  match xs, h0, h with
  | [n], _, _ => exact .inl ⟨n, rfl⟩
  | [n, m], _, _ => exact .inr ⟨n, m, rfl⟩
  | a :: b :: c :: r, _, h => exact absurd (by simp only [List.length_cons]; omega) h
end Cs
namespace Cs
open PySem PySem.Spec PyProof.Rows L2 L3 L4 Mx Tx
theorem IsOl.mono {K : PySem.W.Frag} {H H' : Hp} {v : V} {o : Option (List Int)} (h : IsOl K H v o) (e : Same H H') : IsOl K H' v o := by
  cases o with
  | none => exact h
  | some l => exact L3.Tp.mono h e
theorem pick {xs : List V} {i : Int} {P : V → Prop} (h0 : 0 ≤ i) (h1 : i < (xs.length : Int)) (k : ∀ v ∈ xs, P v) : ∃ v, atI xs i = some v ∧ P v := by
  obtain ⟨v, e, m⟩ := at_any xs h0 h1
  exact ⟨v, e, k v m⟩
theorem pa_consC {X : Cx} {c : Const} {k : Tok} {p : Pos} {es : List Expr} {te : TE} {t : TA} (ha : PE X (.Constant c k p) te) (hr : PA X es t) : PA X (.Constant c k p :: es) (tCons te t) := pa_cons ha hr rfl
theorem inst_own {K : PySem.W.Frag} {x C D : Addr} {b : Bool} {H : Hp} {Q : VK} (hx : H x = some (excO x C)) (Z : ExcC K C) (k : PySem.W.kitOne K (.ref C) (.ref D) = some b) (q : Q (.bl b) H) : rInstX K [.ref x, .ref D] H Q := ⟨x, _, C, _, b, rfl, hx, Z, .own D, k, q⟩
theorem inst_ty {K : PySem.W.Frag} {x C : Addr} {n : String} {b : Bool} {H : Hp} {Q : VK} (hx : H x = some (excO x C)) (Z : ExcC K C) (k : PySem.W.kitOne K (.ref C) (.type n) = some b) (q : Q (.bl b) H) : rInstX K [.ref x, .ty n] H Q := ⟨x, _, C, _, b, rfl, hx, Z, .ty n, k, q⟩
theorem bt_ValueError : bootBuiltins "ValueError" = some (.type "ValueError") := by decide +kernel
structure ClsOk (K : PySem.W.Frag) (mg : Str → Option Value) (nc nn np nth nt le : Addr) : Prop where
  b_NoChange : mg "NoChange" = some (.ref nc)
  b_NoNote : mg "NoNote" = some (.ref nn)
  b_NoPoint : mg "NoPoint" = some (.ref np)
  b_NoThree : mg "NoThree" = some (.ref nth)
  b_NoTimes : mg "NoTimes" = some (.ref nt)
  b_LineError : mg "LineError" = some (.ref le)
  b_ValueError : mg "ValueError" = none
  kind : ∀ (C : Addr) (j : Nat), [nc, nn, np, nth, nt][j]? = some C → KindOf K nc nn np nth nt C j ∧ PySem.W.exmOne K (.ref C) (.ref le) = some true
section
variable {K : PySem.W.Frag} {mg : Str → Option Value} {nc nn np nth nt le : Addr}
theorem ClsOk.own (c : ClsOk K mg nc nn np nth nt le) {x : Str} {C : Addr} {j : Nat} (b : mg x = some (.ref C)) (h : [nc, nn, np, nth, nt][j]? = some C) : OwnX K mg x C := ⟨b, (c.kind C j h).1.exc.exc⟩
theorem kind_mk {C : Addr} {j : Nat} (h1 : PySem.W.excIn K C VE "ValueError.__new__" = true)
    (h2 : PySem.W.findIn K (.ref C) "__getattribute__" = some (some (.builtin "BaseException.__getattribute__"))) (h3 : PySem.W.findIn K (.ref C) "__getattr__" = some none) (h4 : PySem.W.findIn K (.ref C) "__class__" = some (some (.builtin "object.__class__")))
    (h5 : PySem.W.kitOne K (.ref C) (.type "ValueError") = some true) {b0 b1 b2 b3 b4 : Bool} (k0 : PySem.W.kitOne K (.ref C) (.ref nc) = some b0) (k1 : PySem.W.kitOne K (.ref C) (.ref nn) = some b1) (k2 : PySem.W.kitOne K (.ref C) (.ref np) = some b2) (k3 : PySem.W.kitOne K (.ref C) (.ref nth) = some b3) (k4 : PySem.W.kitOne K (.ref C) (.ref nt) = some b4)
    (lt : j < 5) (ex : PySem.W.exmOne K (.ref C) (.ref le) = some true) (e : [b0, b1, b2, b3, b4] = [decide (j = 0), decide (j = 1), decide (j = 2), decide (j = 3), decide (j = 4)]) : KindOf K nc nn np nth nt C j ∧ PySem.W.exmOne K (.ref C) (.ref le) = some true := by
  simp only [List.cons.injEq, and_true] at e
  obtain ⟨rfl, rfl, rfl, rfl, rfl⟩ := e
  exact ⟨⟨⟨h1, h2, h3, h4⟩, h5, k0, k1, k2, k3, k4, lt⟩, ex⟩
theorem cls_mk {h : Heap} (X : K.In h) (G : h.Ns mainGlobals mg) (a0 : PySem.W.nsIn K mainGlobals "NoChange" = some (some (.ref nc))) (a1 : PySem.W.nsIn K mainGlobals "NoNote" = some (some (.ref nn))) (a2 : PySem.W.nsIn K mainGlobals "NoPoint" = some (some (.ref np)))
    (a3 : PySem.W.nsIn K mainGlobals "NoThree" = some (some (.ref nth))) (a4 : PySem.W.nsIn K mainGlobals "NoTimes" = some (some (.ref nt))) (a5 : PySem.W.nsIn K mainGlobals "LineError" = some (some (.ref le))) (a6 : PySem.W.nsIn K mainGlobals "ValueError" = some none)
    (q0 : KindOf K nc nn np nth nt nc 0 ∧ PySem.W.exmOne K (.ref nc) (.ref le) = some true) (q1 : KindOf K nc nn np nth nt nn 1 ∧ PySem.W.exmOne K (.ref nn) (.ref le) = some true) (q2 : KindOf K nc nn np nth nt np 2 ∧ PySem.W.exmOne K (.ref np) (.ref le) = some true)
    (q3 : KindOf K nc nn np nth nt nth 3 ∧ PySem.W.exmOne K (.ref nth) (.ref le) = some true) (q4 : KindOf K nc nn np nth nt nt 4 ∧ PySem.W.exmOne K (.ref nt) (.ref le) = some true) : ∃ nc nn np nth nt le : Addr, ClsOk K mg nc nn np nth nt le := by
  refine ⟨nc, nn, np, nth, nt, le, PySem.W.mg_of X G a0, PySem.W.mg_of X G a1, PySem.W.mg_of X G a2, PySem.W.mg_of X G a3, PySem.W.mg_of X G a4, PySem.W.mg_of X G a5, PySem.W.mg_none_of X G a6, fun C j hj => ?_⟩
  match j, hj with
  | 0, hj => cases hj; exact q0
  | 1, hj => cases hj; exact q1
  | 2, hj => cases hj; exact q2
  | 3, hj => cases hj; exact q3
  | 4, hj => cases hj; exact q4
  | j + 5, hj => simp at hj
end
end Cs

namespace Lw
open PySem PySem.Spec PyProof.Rows L2 L3 L4 Mx Cs Tx
local macro_rules | `(tactic| walk_at "rd") => `(tactic| simp only [tSeq, tNext, tAsg, gName, tVar, tC, tCB, tCons, tNil, tOp, tUn, rI, rI0, rU, tRet, tIfS, tTest, tTup, tLst, tCall, tNot, tAnd, tOr, tIf, tDrop, tAndV, tOrV, tNotV, tNever, rIsB, rAllB, rInT, Bool.not_true, Bool.not_false, tB, tYes, rEq, rNe, scal_int, scal_bl, scal_str, rIxTI, rIxLI, rEqT, rIxL, gTupL, rIxT, tRaise, rMulS, tChain, rIn, rIxS, rSlS, rStarts, rSplit, rJoin, V.str.injEq, tSl, tPart, tNoPart, rSlL, cxOf_K, rSetL, gSub, gTup, gCons, gNil, rReverse, rAppend, tBM, tBM0, rCat, List.map_cons, CDiv, cDiv, cMul, CPow, List.getElem?_cons_zero, List.getElem?_cons_succ, List.set_cons_zero, List.set_cons_succ, List.cons_append, List.nil_append, List.append_nil, Option.some.injEq, V.int.injEq, V.ref.injEq, V.bl.injEq, V.ty.injEq, List.cons.injEq, exists_and_left, exists_eq_left', exists_eq_left, and_true, true_and, Option.join_some, capσ, eq_self, if_true, if_false, Bool.false_eq_true, decide_eq_true_eq, Bool.not_eq_true', decide_eq_false_iff_not, L2.start, List.map_cons, List.map_nil, List.length_cons, List.length_nil, List.replicate_succ, List.replicate_zero, Nat.reduceAdd, Nat.reduceSub, Nat.zero_add, List.replicate])
def top (i : Nat) : Stmt := PySem.Challenge.pw_crossline_k17_texts_refused.main.body.getD i (.Pass ⟨0, 0, 0, 0⟩)
abbrev s__law_cell_at : Stmt := top 23
abbrev s__law_next : Stmt := top 24
abbrev s__law_common : Stmt := top 25
abbrev s__law_point : Stmt := top 26
abbrev s__law_stir : Stmt := top 27
abbrev s__law_drawn_point : Stmt := top 28
abbrev s__law_plain : Stmt := top 30
abbrev s__law_turning : Stmt := top 33
abbrev s__law_after : Stmt := top 31
abbrev s__law_back : Stmt := top 34
abbrev s__law_change : Stmt := top 35
abbrev s__law_changed : Stmt := top 40
abbrev s__law_number : Stmt := top 37
abbrev s__law_written_point : Stmt := top 38
abbrev s__law_written_change : Stmt := top 39
abbrev s_read_number : Stmt := top 19
abbrev s_common_divisor : Stmt := top 9
abbrev s_lowest_point : Stmt := top 10
abbrev s_is_point : Stmt := top 11
abbrev s_read_point : Stmt := top 20
abbrev s_lowest_change : Stmt := top 13
abbrev s_is_change : Stmt := top 14
abbrev s_read_change : Stmt := top 21
abbrev s__law_which : Stmt := top 36
abbrev s__law_asked : Stmt := top 41
abbrev s_law : Stmt := top 42
section
variable {P : Program} {w : World} {K : PySem.W.Frag} {mg : Str → Option Value} {base : Heap} {nc nn np nth nt le : Addr}
theorem sc__law_cell_at : FnScope ["script", "k"] ["script", "k"] (defScope s__law_cell_at) := ⟨rfl, rfl, rfl, by decide +kernel, rfl, by decide +kernel, by decide +kernel⟩
set_option maxHeartbeats 4000000 in
theorem cal__law_cell_at (F : Def K mg "_law_cell_at" s__law_cell_at ["script", "k"]) (B : Blt mg) : Cal P w K mg base 1 "_law_cell_at" ["script", "k"] (spCell K) := by
  refine F.cal (k := 0) sc__law_cell_at (fun vs H Q E h => ?_) (fun f cdv A outer s H vs Q E hr h => ?_)
  · obtain ⟨a, ns, k, rfl, hq, hk, q⟩ := h
    rfl
  obtain ⟨a, ns, k, rfl, hq, hk, q⟩ := h
  have hu := hr.units
  have hu8 : (A.deeper (envOfC "_law_cell_at" (defScope s__law_cell_at) s.heap.objs.size f cdv)).units + 80 < cLine := by have := hr.un; omega
  refine ⟨_, (pss_cons (ps_if (pt_cmpR op_lt (pv 1) (pe_callB call_len_seq rfl B.len bt_len (pa_cons (pv 0) pa_nil)) (nomark _)) (pss_one (ps_ret (pe_ix ix_lstI (pv 0) (pv 1) (fun _ _ => rfl)))) pss_nil)
      (pss_one (ps_ret pe_int))), ?_⟩
  walk_at "rd"
  refine ⟨_, .inl hq, ?_⟩
  rw [List.length_map]
  refine ite2 (fun c => ?_) (fun c => ?_)
  · exact ⟨ns, ⟨a, rfl, hq⟩, _, cell_at hk c, q⟩
  · rw [cell_no (by omega)] at q
    exact q
theorem sc__law_next : FnScope ["script", "spot"] ["script", "spot"] (defScope s__law_next) := ⟨rfl, rfl, rfl, by decide +kernel, rfl, by decide +kernel, by decide +kernel⟩
set_option maxHeartbeats 4000000 in
theorem cal__law_next (F : Def K mg "_law_next" s__law_next ["script", "spot"]) (C__law_cell_at : Cal P w K mg base 1 "_law_cell_at" ["script", "k"] (spCell K)) : Cal P w K mg base 2 "_law_next" ["script", "spot"] (spNext K) := by
  refine F.cal (k := 1) sc__law_next (fun vs H Q E h => ?_) (fun f cdv A outer s H vs Q E hr h => ?_)
  · obtain ⟨a, b, ns, k, rfl, hs, hb, hk, q⟩ := h
    rfl
  obtain ⟨a, b, ns, k, rfl, hs, hb, hk, q⟩ := h
  have hu := hr.units
  have hu8 : (A.deeper (envOfC "_law_next" (defScope s__law_next) s.heap.objs.size f cdv)).units + 80 < cLine := by have := hr.un; omega
  refine ⟨_, (pss_cons (ps_asg (pe_op op_add (pe_ix ix_lstI (pv 1) pe_int (fun _ _ => rfl)) pe_int) (pg_sub (pv 1) pe_int set_list))
      (pss_one (ps_ret (pe_callC C__law_cell_at hr (pa_cons (pv 0) (pa_cons (pe_op op_sub (pe_ix ix_lstI (pv 1) pe_int (fun _ _ => rfl)) pe_int) pa_nil)))))), ?_⟩
  walk_at "rd"
  refine ⟨[k], ⟨b, rfl, SqL.of hb⟩, _, at0 _ _, _, hb, 0, rfl, ?_⟩
  refine ⟨[k + 1], ⟨b, rfl, SqL.of upd_same⟩, _, at0 _ _, ?_⟩
  refine ⟨a, ns, k + 1 - 1, rfl, (hs.upd hb).seq, by omega, ?_⟩
  have e : k + 1 - 1 = k := by omega
  rw [e]
  exact q
theorem sc__law_common : FnScope ["one", "other", "rest"] ["one", "other"] (defScope s__law_common) := ⟨rfl, rfl, rfl, by decide +kernel, rfl, by decide +kernel, by decide +kernel⟩
set_option maxHeartbeats 4000000 in
theorem cal__law_common (F : Def K mg "_law_common" s__law_common ["one", "other"]) (B : Blt mg) : Cal P w K mg base 1 "_law_common" ["one", "other"] spGcd := by
  refine F.cal (k := 0) sc__law_common (fun vs H Q E h => ?_) (fun f cdv A outer s H vs Q E hr h => ?_)
  · obtain ⟨a, b, rfl, q⟩ := h
    rfl
  obtain ⟨a, b, rfl, q⟩ := h
  have hu := hr.units
  have hu8 : (A.deeper (envOfC "_law_common" (defScope s__law_common) s.heap.objs.size f cdv)).units + 80 < cLine := by have := hr.un; omega
  refine ⟨_, (pss_cons (ps_set (i := 0) sc__law_common.nd rfl (Or.inl rfl) (pe_callB call_absN rfl B.abs bt_abs (pa_cons (pv 0) pa_nil)))
      (pss_cons (ps_set (i := 1) sc__law_common.nd rfl (Or.inl rfl) (pe_callB call_absN rfl B.abs bt_abs (pa_cons (pv 1) pa_nil)))
      (pss_cons (ps_while PassesOwn.never (pt_cmpR op_gt (pv 1) pe_int (nomark _)) (pss_cons (ps_set (i := 2) sc__law_common.nd rfl (Or.inl rfl) (pe_op op_modN (pv 0) (pv 1)))
      (pss_cons (ps_set (i := 0) sc__law_common.nd rfl (Or.inl rfl) (pv 1))
      (pss_one (ps_set (i := 1) sc__law_common.nd rfl (Or.inl rfl) (pv 2))))))
      (pss_one (ps_ret (pv 0)))))), ?_⟩
  walk_at "rd"
  refine while_of (fun n σ H' => ∃ (l s : Int) (r : Option V), σ = [some (.int l), some (.int s), r] ∧ 0 ≤ l ∧ 0 ≤ s ∧ Int.gcd l s = Int.gcd a b ∧ H' = H ∧ n = s.toNat) _
    ⟨_, _, _, rfl, by omega, by omega, rfl, rfl, rfl⟩ ?_
  rintro W' hW n σ H' ⟨l, s, r, rfl, hl, hs, hg, rfl, rfl⟩
  walk_at "rd"
  refine ite2 (fun c => ?_) (fun c => ?_)
  · refine ⟨fun σ' H' => ∃ m', m' < s.toNat ∧ W' m' σ' H', fun σ' H' h => h, ?_⟩
    have c' : s ≠ 0 := by omega
    obtain ⟨m0, m1⟩ := fmod_natAbs_lt hl hs c'
    walk_at "rd"
    exact ⟨c', _, (by omega : (l.fmod s).toNat < s.toNat), hW _ _ _ ⟨_, _, _, rfl, hs, m0, by rw [gcd_step c']; exact hg, rfl, rfl⟩⟩
  · have : s = 0 := by omega
    subst this
    have e : ((Int.gcd l 0 : Nat) : Int) = l := by simp; omega
    rw [← hg, e] at q
    exact q
theorem sc__law_point : FnScope ["top", "bottom", "both"] ["top", "bottom"] (defScope s__law_point) := ⟨rfl, rfl, rfl, by decide +kernel, rfl, by decide +kernel, by decide +kernel⟩
set_option maxHeartbeats 4000000 in
theorem cal__law_point (F : Def K mg "_law_point" s__law_point ["top", "bottom"]) (C__law_common : Cal P w K mg base 1 "_law_common" ["one", "other"] spGcd) : Cal P w K mg base 2 "_law_point" ["top", "bottom"] (spLawP K) := by
  refine F.cal (k := 1) sc__law_point (fun vs H Q E h => ?_) (fun f cdv A outer s H vs Q E hr h => ?_)
  · obtain ⟨x, y, rfl, hn, bx, by_, q⟩ := h
    rfl
  obtain ⟨x, y, rfl, hn, bx, by_, q⟩ := h
  have hu := hr.units
  have hu8 : (A.deeper (envOfC "_law_point" (defScope s__law_point) s.heap.objs.size f cdv)).units + 80 < cLine := by have := hr.un; omega
  refine ⟨_, (pss_cons (ps_set (i := 2) sc__law_point.nd rfl (Or.inl rfl) (pe_callC C__law_common hr (pa_cons (pv 0) (pa_cons (pv 1) pa_nil))))
      (pss_cons (ps_if (PW.pt (pw_or (pt_cmpR op_lt (pv 1) pe_int (nomark _)) (pw_or1 (PW.pt (pw_and (pt_cmpR op_eq (pv 1) pe_int (nomark _)) (pw_and1 (pt_cmpR op_lt (pv 0) pe_int (nomark _)))))))) (pss_one (ps_set (i := 2) sc__law_point.nd rfl (Or.inl rfl) (pe_un un_neg (pv 2)))) pss_nil)
      (pss_one (ps_ret (pe_tup (pa_cons (pe_op op_fdivB (pv 0) (pv 2)) (pa_cons (pe_op op_fdivB (pv 1) (pv 2)) pa_nil))))))), ?_⟩
  have hg : (Int.gcd x y : Int) ≠ 0 := fun e => by
    have := gcd_zero_iff.mp (show Int.gcd x y = 0 by omega)
    omega
  have hb : Bd 8000 (Int.gcd x y : Int) := (Bd.gcd bx by_).mono (by decide)
  rw [← lpt_eq hn] at q
  apply seq_det
  · intro k hk; walk_at "rd"; exact ⟨_, _, rfl, hk⟩
  refine seq_det (σ1 := [some (.int x), some (.int y), some (.int (if y < 0 ∨ (y = 0 ∧ x < 0) then -(Int.gcd x y : Int) else (Int.gcd x y : Int)))]) (H1 := H) (fun k hk => ?_) ?_
  · walk_at "rd"
    by_cases c1 : y < 0
    · rw [if_pos (Or.inl c1)] at hk
      simp only [c1, if_true]
      exact hk
    · by_cases c2 : y = 0
      · by_cases c3 : x < 0
        · rw [if_pos (Or.inr ⟨c2, c3⟩)] at hk
          simpa [c1, c2, c3] using hk
        · rw [if_neg (by omega)] at hk
          simpa [c1, c2, c3] using hk
      · rw [if_neg (by omega)] at hk
        simpa [c1, c2] using hk
  have hgg : (if y < 0 ∨ (y = 0 ∧ x < 0) then -(Int.gcd x y : Int) else (Int.gcd x y : Int)) ≠ 0 := by split <;> omega
  have hbb : Bd 8000 (if y < 0 ∨ (y = 0 ∧ x < 0) then -(Int.gcd x y : Int) else (Int.gcd x y : Int)) := by
    split
    · exact hb.neg
    · exact hb
  walk_at "rd"
  refine ⟨⟨hgg, hbb⟩, ⟨hgg, hbb⟩, (by show 2 ≤ sizeLine; decide), fun p hp => q _ _ (same_new hp _) ⟨p, rfl, SqT.of ?_⟩⟩
  rw [upd_same]; rfl
theorem sc__law_stir : FnScope ["seed"] ["seed"] (defScope s__law_stir) := ⟨rfl, rfl, rfl, by decide +kernel, rfl, by decide +kernel, by decide +kernel⟩
set_option maxHeartbeats 4000000 in
theorem cal__law_stir (F : Def K mg "_law_stir" s__law_stir ["seed"]) : Cal P w K mg base 1 "_law_stir" ["seed"] spStir := by
  refine F.cal (k := 0) sc__law_stir (fun vs H Q E h => ?_) (fun f cdv A outer s H vs Q E hr h => ?_)
  · obtain ⟨c, rfl, q⟩ := h
    rfl
  obtain ⟨c, rfl, q⟩ := h
  have hu := hr.units
  have hu8 : (A.deeper (envOfC "_law_stir" (defScope s__law_stir) s.heap.objs.size f cdv)).units + 80 < cLine := by have := hr.un; omega
  refine ⟨_, (pss_cons (ps_set (i := 0) sc__law_stir.nd rfl (Or.inl rfl) (pe_op op_mod (pe_op op_add (pv 0) pe_int) pe_int))
      (pss_one (ps_ret (pe_op op_mod (pe_op op_add (pe_op op_add (pe_op op_mulB (pv 0) (pv 0)) (pe_op op_mulB pe_int (pv 0))) pe_int) pe_int)))), ?_⟩
  have h0 : 0 ≤ (c + 7919) % 2147483647 := Int.emod_nonneg _ (by decide)
  have h1 : (c + 7919) % 2147483647 < 2147483647 := Int.emod_lt_of_pos _ (by decide)
  have hb : Bd 100000 ((c + 7919) % 2147483647) := Bd.mono (j := 31) (Bd.lit (by omega)) (by decide)
  walk_at "rd"
  exact ⟨by decide, ⟨hb, hb⟩, ⟨Bd.mono (j := 31) (Bd.lit (by decide)) (by decide), hb⟩, by decide, q⟩
theorem sc__law_drawn_point : FnScope ["cell", "seed", "wide", "far"] ["cell"] (defScope s__law_drawn_point) := ⟨rfl, rfl, rfl, by decide +kernel, rfl, by decide +kernel, by decide +kernel⟩
set_option maxHeartbeats 4000000 in
theorem cal__law_drawn_point (F : Def K mg "_law_drawn_point" s__law_drawn_point ["cell"]) (C__law_point : Cal P w K mg base 2 "_law_point" ["top", "bottom"] (spLawP K)) (C__law_stir : Cal P w K mg base 2 "_law_stir" ["seed"] spStir) : Cal P w K mg base 3 "_law_drawn_point" ["cell"] (spDrawn K) := by
  refine F.cal (k := 2) sc__law_drawn_point (fun vs H Q E h => ?_) (fun f cdv A outer s H vs Q E hr h => ?_)
  · obtain ⟨c, rfl, q⟩ := h
    rfl
  obtain ⟨c, rfl, q⟩ := h
  have hu := hr.units
  have hu8 : (A.deeper (envOfC "_law_drawn_point" (defScope s__law_drawn_point) s.heap.objs.size f cdv)).units + 80 < cLine := by have := hr.un; omega
  refine ⟨_, (pss_cons (ps_if (pt_cmpR op_eq (pe_op op_mod (pv 0) pe_int) pe_int (nomark _)) (pss_cons (ps_if (pt_cmpR op_eq (pe_op op_mod (pe_op op_fdiv (pv 0) pe_int) pe_int) pe_int (nomark _)) (pss_one (ps_ret (pe_tup (pa_cons pe_int (pa_cons pe_int pa_nil))))) pss_nil)
      (pss_one (ps_ret (pe_callC C__law_point hr (pa_cons (pe_op op_sub (pe_op op_mod (pe_op op_fdiv (pv 0) pe_int) pe_int) pe_int) (pa_cons (pe_op op_add pe_int (pe_op op_mod (pe_op op_fdiv (pv 0) pe_int) pe_int)) pa_nil)))))) pss_nil)
      (pss_cons (ps_set (i := 1) sc__law_drawn_point.nd rfl (Or.inl rfl) (pe_callC C__law_stir hr (pa_cons (pv 0) pa_nil)))
      (pss_cons (ps_if (pt_cmpR op_eq (pe_op op_mod (pe_op op_fdiv (pv 1) pe_int) pe_int) pe_int (nomark _)) (pss_one (ps_ret (pe_tup (pa_cons pe_int (pa_cons pe_int pa_nil))))) pss_nil)
      (pss_cons (ps_set (i := 2) sc__law_drawn_point.nd rfl (Or.inl rfl) (pe_ix ix_lstI (pe_lst (pa_cons pe_int (pa_cons pe_int (pa_cons pe_int (pa_cons pe_int pa_nil))))) (pe_op op_mod (pe_op op_fdiv (pv 1) pe_int) pe_int) (fun _ _ => rfl)))
      (pss_cons (ps_set (i := 3) sc__law_drawn_point.nd rfl (Or.inl rfl) (pe_callC C__law_stir hr (pa_cons (pv 1) pa_nil)))
      (pss_one (ps_ret (pe_callC C__law_point hr (pa_cons (pe_op op_sub (pe_op op_mod (pe_op op_fdiv (pv 3) pe_int) (pe_op op_add (pe_op op_mulB pe_int (pv 2)) pe_int)) (pv 2)) (pa_cons (pe_op op_add pe_int (pe_op op_mod (pe_op op_fdiv (pe_callC C__law_stir hr (pa_cons (pv 3) pa_nil)) pe_int) (pv 2))) pa_nil)))))))))), ?_⟩
  obtain ⟨hne, b1, b2⟩ := rawp_ok c
  have bd1 : Bd 4000 (rawp c).1 := Bd.mono (j := 10) (Bd.lit (Nat.lt_of_le_of_lt b1 (by decide))) (by decide)
  have bd2 : Bd 4000 (rawp c).2 := Bd.mono (j := 10) (Bd.lit (Nat.lt_of_le_of_lt b2 (by decide))) (by decide)
  have far : rawp c = (1, 0) → Out K H [1, 0] Q := fun e => by
    have h := q.npt e
    have e2 : pl (npt 1 0) = [1, 0] := by simp [pl, npt]
    rw [e2] at h; exact h
  refine seq_by (fun σ H' => σ = [some (.int c), none, none, none] ∧ H' = H ∧ c % 2 ≠ 0) (fun k hk => ?_) ?_
  · walk_at "rd"
    refine ⟨by decide, ?_⟩
    refine ite2 (fun c1 => ?_) (fun c1 => hk _ _ ⟨rfl, rfl, c1⟩)
    refine ⟨⟨by decide, by decide⟩, by decide, ?_⟩
    refine ite2 (fun c2 => ?_) (fun c2 => ?_)
    · exact ⟨by show 2 ≤ sizeLine; decide, fun p hp => far (by simp [rawp, c1, c2]) _ _ (same_new hp _) ⟨p, rfl, SqT.of upd_same⟩⟩
    · have e : rawp c = (c / 80 % 201 - 100, 1 + c / 16080 % 60) := by simp [rawp, c1, c2]
      rw [e] at hne bd1 bd2
      exact ⟨⟨by decide, by decide⟩, by decide, ⟨by decide, by decide⟩, by decide, _, _, rfl, hne, bd1, bd2, q.npt e⟩
  rintro σ H' ⟨rfl, rfl, c1⟩
  apply seq_det
  · intro k hk; walk_at "rd"; exact ⟨_, rfl, hk⟩
  refine seq_by (fun σ H'' => σ = [some (.int c), some (.int (stir c)), none, none] ∧ H'' = H' ∧ stir c / 7 % 9 ≠ 1) (fun k hk => ?_) ?_
  · walk_at "rd"
    refine ⟨⟨by decide, by decide⟩, by decide, ?_⟩
    refine ite2 (fun c2 => ?_) (fun c2 => hk _ _ ⟨rfl, rfl, c2⟩)
    exact ⟨by show 2 ≤ sizeLine; decide, fun p hp => far (by simp [rawp, c1, c2]) _ _ (same_new hp _) ⟨p, rfl, SqT.of upd_same⟩⟩
  rintro σ H'' ⟨rfl, rfl, c2⟩
  have e : rawp c = (stir (stir c) / 7 % (2 * wideOf (stir c / 63 % 4) + 1) - wideOf (stir c / 63 % 4), 1 + stir (stir (stir c)) / 7 % wideOf (stir c / 63 % 4)) := by simp [rawp, c1, c2]
  obtain ⟨w1, w2⟩ := wide_pos (stir c / 63 % 4)
  have hw : Bd 100000 (wideOf (stir c / 63 % 4)) := Bd.mono (j := 10) (Bd.lit (by omega)) (by decide)
  rw [e] at hne bd1 bd2
  refine seq_by (fun σ H1 => σ = [some (.int c), some (.int (stir c)), some (.int (wideOf (stir c / 63 % 4))), none] ∧ Same H'' H1) (fun k hk => ?_) ?_
  · walk_at "rd"
    refine ⟨by show 4 ≤ sizeLine; decide, fun p hp => ⟨⟨by decide, by decide⟩, by decide, [4, 9, 100, 1000], ⟨p, rfl, SqL.of upd_same⟩, _, wide_at (Int.emod_nonneg _ (by decide)) (Int.emod_lt_of_pos _ (by decide)), hk _ _ ⟨rfl, same_new hp _⟩⟩⟩
  rintro σ H1 ⟨rfl, g1⟩
  apply seq_det
  · intro k hk; walk_at "rd"; exact ⟨_, rfl, hk⟩
  walk_at "rd"
  refine ⟨⟨by decide, by decide⟩, ⟨Bd.mono (j := 2) (Bd.lit (by decide)) (by decide), hw⟩, by omega, _, rfl, ?_⟩
  walk_at "rd"
  exact ⟨⟨by decide, by decide⟩, by omega, _, _, rfl, hne, bd1, bd2, (q.npt e).from g1⟩
theorem sc__law_plain : FnScope ["numbers", "both", "number"] ["numbers"] (defScope s__law_plain) := ⟨rfl, rfl, rfl, by decide +kernel, rfl, by decide +kernel, by decide +kernel⟩
set_option maxHeartbeats 4000000 in
theorem cal__law_plain (F : Def K mg "_law_plain" s__law_plain ["numbers"]) (C__law_common : Cal P w K mg base 1 "_law_common" ["one", "other"] spGcd) (B : Blt mg) : Cal P w K mg base 2 "_law_plain" ["numbers"] (spPlain K) := by
  refine F.cal (k := 1) sc__law_plain (fun vs H Q E h => ?_) (fun f cdv A outer s H vs Q E hr h => ?_)
  · obtain ⟨a, m, rfl, hq, hd, hb, q⟩ := h
    rfl
  obtain ⟨a, m, rfl, hq, hd, hb, q⟩ := h
  have hu := hr.units
  have hu8 : (A.deeper (envOfC "_law_plain" (defScope s__law_plain) s.heap.objs.size f cdv)).units + 80 < cLine := by have := hr.un; omega
  refine ⟨_, (pss_cons (ps_set (i := 1) sc__law_plain.nd rfl (Or.inr rfl) pe_int)
      (pss_cons (ps_for PassesOwn.never rfl (pi_list (pv 0)) (pg_name (i := 2) sc__law_plain.nd rfl (Or.inl rfl)) (pss_one (ps_set (i := 1) sc__law_plain.nd rfl (Or.inr rfl) (pe_callC C__law_common hr (pa_cons (pv 1) (pa_cons (pv 2) pa_nil))))))
      (pss_cons (ps_if (pt_cmpR op_lt (pe_ix ix_lstI (pe_comp [] (sc := defScope s__law_plain) (cn := []) rfl ⟨rfl, by decide +kernel, rfl, by decide +kernel, by decide +kernel, by decide +kernel, by decide +kernel⟩ rfl rfl (pi_list (pv 0)) (fun _ _ _ _ _ => pq_one (pt_cmpR op_ne (pv 0) pe_int (nomark _))) (fun _ _ _ _ _ => (pv 0))) pe_int (fun _ _ => rfl)) pe_int (nomark _)) (pss_one (ps_set (i := 1) sc__law_plain.nd rfl (Or.inr rfl) (pe_un un_neg (pv 1)))) pss_nil)
      (pss_one (ps_ret (pe_callTy call_tuple_of rfl B.tuple bt_tuple (pa_cons (pe_comp [1] (sc := defScope s__law_plain) (cn := ["both"]) rfl ⟨rfl, by decide +kernel, rfl, by decide +kernel, by decide +kernel, by decide +kernel, by decide +kernel⟩ rfl rfl (pi_list (pv 0)) (fun _ _ _ _ _ => pq_nil) (fun _ _ _ _ _ => (pe_op op_fdivB (pv 0) (pv 1)))) pa_nil))))))), ?_⟩
  obtain ⟨g, hge⟩ : ∃ g, g = if (if m.a ≠ 0 then m.a else m.b) < 0 then -(g4 m) else g4 m := ⟨_, rfl⟩
  have hg : g ≠ 0 := by have := g4_ne hd; rw [hge]; split <;> omega
  have hbg : Bd 8000 g := by
    have h : Bd 8000 (g4 m) := (hb.gcd).mono (by decide)
    rw [hge]
    by_cases c : (if m.a ≠ 0 then m.a else m.b) < 0
    · rw [if_pos c]; exact h.neg
    · rw [if_neg c]; exact h
  have hf : cl (nch m) = (cl m).map (fun n => n.fdiv g) := by rw [hge]; rfl
  apply seq_det
  · intro k hk; walk_at "rd"; exact hk
  refine seq_by (fun σ H' => ∃ r : Option V, σ = [some (.ref a), some (.int (g4 m)), r] ∧ H' = H) (fun k hk => ?_) ?_
  · refine ⟨_, rfl, a, rfl, ⟨_, hq⟩, forL (xs := (cl m).map V.int) (fun i σ H' => ∃ (r : Option V), σ = [some (.ref a), some (.int (gI ((cl m).take i))), r] ∧ H' = H) ⟨_, rfl, rfl⟩ (fun i σ H' _ h => ?_) ?_ ?_⟩
    · obtain ⟨r, rfl, rfl⟩ := h
      exact hq
    · rintro Pv' hP i x σ H' hx ⟨r, rfl, rfl⟩
      obtain ⟨n, hn, rfl⟩ := map_at hx
      walk_at "rd"
      refine ⟨_, _, rfl, hP _ _ _ ⟨some (.int n), ?_, rfl⟩⟩
      rw [gI_step hn]
    · rintro σ H' ⟨r, rfl, rfl⟩
      exact hk _ _ ⟨r, rfl, rfl⟩
  rintro σ H' ⟨r, rfl, rfl⟩
  refine seq_by (fun σ H1 => σ = [some (.ref a), some (.int g), r] ∧ Same H' H1) (fun k hk => ?_) ?_
  · walk_at "rd"
    refine tcompL rfl hq (fun i acc H'' => acc = (((cl m).take i).filter fun n => decide (n ≠ 0)).map V.int ∧ H'' = H') ⟨rfl, rfl⟩ (fun i acc H'' hi h => ?_) ?_ ?_
    · obtain ⟨rfl, rfl⟩ := h
      refine ⟨hq, ?_⟩
      rw [List.length_map]
      exact Nat.le_trans (List.length_filter_le _ _) (by rw [List.length_take]; exact Nat.le_trans (Nat.min_le_right _ _) (by show 4 ≤ sizeLine; decide))
    · rintro i x acc H'' hx ⟨rfl, rfl⟩ R hR
      obtain ⟨n, hn, rfl⟩ := map_at hx
      walk_at "rd"
      refine ite2 (fun c => hR _ _ ⟨?_, rfl⟩) (fun c => hR _ _ ⟨?_, rfl⟩)
      · rw [List.take_add_one, hn]
        simp [c]
      · rw [List.take_add_one, hn]
        have c' : n = 0 := by simpa using c
        simp [c']
    · rintro acc H'' p ⟨rfl, rfl⟩ hp
      try walk_at "rd"
      refine ⟨_, Lp.of, _, first_filter (first_pos hd), ?_⟩
      refine ite2 (fun c => ?_) (fun c => ?_)
      · refine hk _ _ ⟨?_, same_new hp _⟩
        rw [hge, if_pos c]
      · refine hk _ _ ⟨?_, same_new hp _⟩
        rw [hge, if_neg c]
  rintro σ H1 ⟨rfl, g1⟩
  replace hq := g1.seq hq
  replace q := q.from g1

  walk_at "rd"
  refine tcompL rfl hq (fun i acc H'' => acc = ((cl m).take i).map (fun n => V.int (n.fdiv g)) ∧ H'' = H1) ⟨rfl, rfl⟩ (fun i acc H'' hi h => ?_) ?_ ?_
  · obtain ⟨rfl, rfl⟩ := h
    refine ⟨hq, ?_⟩
    rw [List.length_map, List.length_take]
    exact Nat.le_trans (Nat.min_le_right _ _) (by show 4 ≤ sizeLine; decide)
  · rintro i x acc H'' hx ⟨rfl, rfl⟩ R hR
    obtain ⟨n, hn, rfl⟩ := map_at hx
    simp only [capσ]
    walk_at "rd"
    refine ⟨⟨hg, hbg⟩, hR _ _ ⟨?_, rfl⟩⟩
    rw [List.take_add_one, hn]
    simp
  · rintro acc H'' p ⟨rfl, rfl⟩ hp
    walk_at "rd"
    refine ⟨_, .inl ⟨SqL.of upd_same, fun l hl => q _ _ (Same.trans (same_new hp _) (same_new hl _)) ⟨l, rfl, SqT.of ?_⟩⟩⟩
    rw [upd_same, hf, List.map_map]; rfl
theorem sc__law_turning : FnScope ["cell"] ["cell"] (defScope s__law_turning) := ⟨rfl, rfl, rfl, by decide +kernel, rfl, by decide +kernel, by decide +kernel⟩
set_option maxHeartbeats 4000000 in
theorem cal__law_turning (F : Def K mg "_law_turning" s__law_turning ["cell"]) : Cal P w K mg base 1 "_law_turning" ["cell"] (spTurning K) := by
  refine F.cal (k := 0) sc__law_turning (fun vs H Q E h => ?_) (fun f cdv A outer s H vs Q E hr h => ?_)
  · obtain ⟨c, rfl, q⟩ := h
    rfl
  obtain ⟨c, rfl, q⟩ := h
  have hu := hr.units
  have hu8 : (A.deeper (envOfC "_law_turning" (defScope s__law_turning) s.heap.objs.size f cdv)).units + 80 < cLine := by have := hr.un; omega
  refine ⟨_, (pss_one (ps_ret (pe_ix ix_list (pe_lst (pa_cons (pe_tup (pa_cons pe_int (pa_cons pe_int (pa_cons pe_int (pa_cons (pe_un un_neg pe_int) pa_nil))))) (pa_cons (pe_tup (pa_cons pe_int (pa_cons (pe_un un_neg pe_int) (pa_cons pe_int (pa_cons pe_int pa_nil))))) (pa_cons (pe_tup (pa_cons pe_int (pa_cons (pe_un un_neg pe_int) (pa_cons pe_int (pa_cons pe_int pa_nil))))) (pa_cons (pe_tup (pa_cons pe_int (pa_cons (pe_un un_neg pe_int) (pa_cons pe_int (pa_cons pe_int pa_nil))))) (pa_cons (pe_tup (pa_cons pe_int (pa_cons pe_int (pa_cons pe_int (pa_cons pe_int pa_nil))))) (pa_cons (pe_tup (pa_cons pe_int (pa_cons pe_int (pa_cons pe_int (pa_cons pe_int pa_nil))))) pa_nil))))))) (pe_op op_mod (pv 0) pe_int) (fun _ _ => rfl)))), ?_⟩
  have h0 := Int.emod_nonneg c (b := 6) (by decide)
  have h1 := Int.emod_lt_of_pos c (b := 6) (by decide)
  walk_at "rd"
  refine ⟨by show 4 ≤ sizeLine; decide, fun p0 n0 => ⟨by show 4 ≤ sizeLine; decide, fun p1 n1 => ⟨by show 4 ≤ sizeLine; decide, fun p2 n2 => ⟨by show 4 ≤ sizeLine; decide, fun p3 n3 => ⟨by show 4 ≤ sizeLine; decide, fun p4 n4 => ⟨by show 4 ≤ sizeLine; decide, fun p5 n5 =>
    ⟨by show 6 ≤ sizeLine; decide, fun l nl => ⟨by decide, ?_⟩⟩⟩⟩⟩⟩⟩⟩
  have g0 := same_new n0 (.tup [.int 1, .int 0, .int 0, .int (-1)])
  have g1 := same_new n1 (.tup [.int 0, .int (-1), .int 1, .int 1])
  have g2 := same_new n2 (.tup [.int 1, .int (-1), .int 1, .int 1])
  have g3 := same_new n3 (.tup [.int 1, .int (-1), .int 1, .int 2])
  have g4 := same_new n4 (.tup [.int 0, .int 1, .int 1, .int 0])
  have g5 := same_new n5 (.tup [.int 1, .int 1, .int 0, .int 1])
  have g6 := same_new nl (.lst [.ref p0, .ref p1, .ref p2, .ref p3, .ref p4, .ref p5])
  have g : Same H _ := g0.trans (g1.trans (g2.trans (g3.trans (g4.trans (g5.trans g6)))))
  have hc : c % 6 = 0 ∨ c % 6 = 1 ∨ c % 6 = 2 ∨ c % 6 = 3 ∨ c % 6 = 4 ∨ c % 6 = 5 := by omega
  rcases hc with e | e | e | e | e | e <;> rw [e]
  · exact ⟨_, SqL.of upd_same, _, rfl, q _ _ ⟨1, 0, 0, -1⟩ g ⟨p0, rfl, SqT.of (g6 _ _ (g5 _ _ (g4 _ _ (g3 _ _ (g2 _ _ (g1 _ _ upd_same))))))⟩ (by decide) ⟨by decide, by decide, by decide, by decide⟩⟩
  · exact ⟨_, SqL.of upd_same, _, rfl, q _ _ ⟨0, -1, 1, 1⟩ g ⟨p1, rfl, SqT.of (g6 _ _ (g5 _ _ (g4 _ _ (g3 _ _ (g2 _ _ upd_same)))))⟩ (by decide) ⟨by decide, by decide, by decide, by decide⟩⟩
  · exact ⟨_, SqL.of upd_same, _, rfl, q _ _ ⟨1, -1, 1, 1⟩ g ⟨p2, rfl, SqT.of (g6 _ _ (g5 _ _ (g4 _ _ (g3 _ _ upd_same))))⟩ (by decide) ⟨by decide, by decide, by decide, by decide⟩⟩
  · exact ⟨_, SqL.of upd_same, _, rfl, q _ _ ⟨1, -1, 1, 2⟩ g ⟨p3, rfl, SqT.of (g6 _ _ (g5 _ _ (g4 _ _ upd_same)))⟩ (by decide) ⟨by decide, by decide, by decide, by decide⟩⟩
  · exact ⟨_, SqL.of upd_same, _, rfl, q _ _ ⟨0, 1, 1, 0⟩ g ⟨p4, rfl, SqT.of (g6 _ _ (g5 _ _ upd_same))⟩ (by decide) ⟨by decide, by decide, by decide, by decide⟩⟩
  · exact ⟨_, SqL.of upd_same, _, rfl, q _ _ ⟨1, 1, 0, 1⟩ g ⟨p5, rfl, SqT.of (g6 _ _ upd_same)⟩ (by decide) ⟨by decide, by decide, by decide, by decide⟩⟩
theorem sc__law_after : FnScope ["one", "other", "rows"] ["one", "other"] (defScope s__law_after) := ⟨rfl, rfl, rfl, by decide +kernel, rfl, by decide +kernel, by decide +kernel⟩
set_option maxHeartbeats 4000000 in
theorem cal__law_after (F : Def K mg "_law_after" s__law_after ["one", "other"]) (C__law_plain : Cal P w K mg base 2 "_law_plain" ["numbers"] (spPlain K)) : Cal P w K mg base 3 "_law_after" ["one", "other"] (spLawAfter K) := by
  refine F.cal (k := 2) sc__law_after (fun vs H Q E h => ?_) (fun f cdv A outer s H vs Q E hr h => ?_)
  · obtain ⟨v, u, m, n, rfl, hv, hn, dm, dn, bm, bn, q⟩ := h
    rfl
  obtain ⟨v, u, m, n, rfl, hv, hn, dm, dn, bm, bn, q⟩ := h
  have hu := hr.units
  have hu8 : (A.deeper (envOfC "_law_after" (defScope s__law_after) s.heap.objs.size f cdv)).units + 80 < cLine := by have := hr.un; omega
  refine ⟨_, (pss_cons (ps_set (i := 2) sc__law_after.nd rfl (Or.inl rfl) (pe_lst (pa_cons (pe_op op_add (pe_op op_mulB (pe_ix ix_tupI (pv 0) pe_int (fun _ _ => rfl)) (pe_ix ix_tupI (pv 1) pe_int (fun _ _ => rfl))) (pe_op op_mulB (pe_ix ix_tupI (pv 0) pe_int (fun _ _ => rfl)) (pe_ix ix_tupI (pv 1) pe_int (fun _ _ => rfl)))) (pa_cons (pe_op op_add (pe_op op_mulB (pe_ix ix_tupI (pv 0) pe_int (fun _ _ => rfl)) (pe_ix ix_tupI (pv 1) pe_int (fun _ _ => rfl))) (pe_op op_mulB (pe_ix ix_tupI (pv 0) pe_int (fun _ _ => rfl)) (pe_ix ix_tupI (pv 1) pe_int (fun _ _ => rfl)))) pa_nil))))
      (pss_cons (ps_set (i := 2) sc__law_after.nd rfl (Or.inl rfl) (pe_op op_cat (pv 2) (pe_lst (pa_cons (pe_op op_add (pe_op op_mulB (pe_ix ix_tupI (pv 0) pe_int (fun _ _ => rfl)) (pe_ix ix_tupI (pv 1) pe_int (fun _ _ => rfl))) (pe_op op_mulB (pe_ix ix_tupI (pv 0) pe_int (fun _ _ => rfl)) (pe_ix ix_tupI (pv 1) pe_int (fun _ _ => rfl)))) (pa_cons (pe_op op_add (pe_op op_mulB (pe_ix ix_tupI (pv 0) pe_int (fun _ _ => rfl)) (pe_ix ix_tupI (pv 1) pe_int (fun _ _ => rfl))) (pe_op op_mulB (pe_ix ix_tupI (pv 0) pe_int (fun _ _ => rfl)) (pe_ix ix_tupI (pv 1) pe_int (fun _ _ => rfl)))) pa_nil)))))
      (pss_one (ps_ret (pe_callC C__law_plain hr (pa_cons (pv 2) pa_nil)))))), ?_⟩
  obtain ⟨a1, a2, a3, a4⟩ := bm.mono (show 1900 ≤ 100000 by decide)
  obtain ⟨b1, b2, b3, b4⟩ := bn.mono (show 1900 ≤ 100000 by decide)
  refine seq_by (fun σ H1 => ∃ p, σ = [some v, some u, some (.ref p)] ∧ H1 = upd H p (.lst [.int (m.a * n.a + m.c * n.b), .int (m.b * n.a + m.d * n.b)]) ∧ H p = none) (fun k hk => ?_) ?_
  · walk_at "rd"
    refine ⟨_, hv, _, at0 _ _, _, hn, _, at0 _ _, ⟨a1, b1⟩, _, hv, _, at2 _ _ _ _, _, hn, _, at1 _ _ _, ⟨a3, b2⟩, ?_⟩
    refine ⟨_, hv, _, at1 _ _ _, _, hn, _, at0 _ _, ⟨a2, b1⟩, _, hv, _, at3 _ _ _ _ _, _, hn, _, at1 _ _ _, ⟨a4, b2⟩, (by show 2 ≤ sizeLine; decide), fun p hp => hk _ _ ⟨p, rfl, rfl, hp⟩⟩
  rintro σ H1 ⟨p, rfl, rfl, hp⟩
  have g1 : Same H (upd H p (.lst [.int (m.a * n.a + m.c * n.b), .int (m.b * n.a + m.d * n.b)])) := same_new hp _
  refine seq_by (fun σ H2 => ∃ l, σ = [some v, some u, some (.ref l)] ∧ H2 l = some (.lst ((cl (mul m n)).map V.int)) ∧ Same H H2) (fun k hk => ?_) ?_
  · have hv1 := hv.mono g1
    have hn1 := hn.mono g1
    walk_at "rd"
    refine ⟨_, hv1, _, at0 _ _, _, hn1, _, at2 _ _ _ _, ⟨a1, b3⟩, _, hv1, _, at2 _ _ _ _, _, hn1, _, at3 _ _ _ _ _, ⟨a3, b4⟩, ?_⟩
    refine ⟨_, hv1, _, at1 _ _ _, _, hn1, _, at2 _ _ _ _, ⟨a2, b3⟩, _, hv1, _, at3 _ _ _ _ _, _, hn1, _, at3 _ _ _ _ _, ⟨a4, b4⟩, (by show 2 ≤ sizeLine; decide), fun p2 hp2 => ?_⟩
    refine ⟨_, (same_new hp2 _) _ _ upd_same, _, upd_same, (by show 4 ≤ sizeLine; decide), fun l hl => hk _ _ ⟨l, rfl, ?_, g1.trans ((same_new hp2 _).trans (same_new hl _))⟩⟩
    rw [upd_same]
    simp only [cl, mul, List.map_cons, List.map_nil, List.cons_append, List.nil_append, Int.mul_comm]
  rintro σ H2 ⟨l, rfl, hl, g2⟩
  walk_at "rd"
  exact ⟨l, mul m n, rfl, SqL.of hl, mul_ne dm dn, (bm.mul bn).mono (by decide), q.from g2⟩
theorem sc__law_back : FnScope ["change"] ["change"] (defScope s__law_back) := ⟨rfl, rfl, rfl, by decide +kernel, rfl, by decide +kernel, by decide +kernel⟩
set_option maxHeartbeats 4000000 in
theorem cal__law_back (F : Def K mg "_law_back" s__law_back ["change"]) (C__law_plain : Cal P w K mg base 2 "_law_plain" ["numbers"] (spPlain K)) : Cal P w K mg base 3 "_law_back" ["change"] (spLawBack K) := by
  refine F.cal (k := 2) sc__law_back (fun vs H Q E h => ?_) (fun f cdv A outer s H vs Q E hr h => ?_)
  · obtain ⟨v, m, rfl, hv, dm, bm, q⟩ := h
    rfl
  obtain ⟨v, m, rfl, hv, dm, bm, q⟩ := h
  have hu := hr.units
  have hu8 : (A.deeper (envOfC "_law_back" (defScope s__law_back) s.heap.objs.size f cdv)).units + 80 < cLine := by have := hr.un; omega
  refine ⟨_, (pss_one (ps_ret (pe_callC C__law_plain hr (pa_cons (pe_lst (pa_cons (pe_ix ix_tupI (pv 0) pe_int (fun _ _ => rfl)) (pa_cons (pe_un un_neg (pe_ix ix_tupI (pv 0) pe_int (fun _ _ => rfl))) (pa_cons (pe_un un_neg (pe_ix ix_tupI (pv 0) pe_int (fun _ _ => rfl))) (pa_cons (pe_ix ix_tupI (pv 0) pe_int (fun _ _ => rfl)) pa_nil))))) pa_nil)))), ?_⟩
  walk_at "rd"
  refine ⟨_, hv, _, at3 _ _ _ _ _, _, hv, _, at1 _ _ _, _, hv, _, at2 _ _ _ _, _, hv, _, at0 _ _, (by show 4 ≤ sizeLine; decide), fun p hp => ?_⟩
  exact ⟨p, adj m, rfl, SqL.of upd_same, by rw [det_adj]; exact dm, (bm.adj).mono (by decide), q.from (same_new hp _)⟩
theorem sc__law_change : FnScope ["script", "spot", "cell", "wide", "numbers", "k", "seed", "rest", "found", "turning"] ["script", "spot"] (defScope s__law_change) := ⟨rfl, rfl, rfl, by decide +kernel, rfl, by decide +kernel, by decide +kernel⟩
set_option maxHeartbeats 4000000 in
theorem cal__law_change (F : Def K mg "_law_change" s__law_change ["script", "spot"]) (C__law_next : Cal P w K mg base 3 "_law_next" ["script", "spot"] (spNext K)) (C__law_stir : Cal P w K mg base 3 "_law_stir" ["seed"] spStir) (C__law_plain : Cal P w K mg base 3 "_law_plain" ["numbers"] (spPlain K)) (C__law_turning : Cal P w K mg base 3 "_law_turning" ["cell"] (spTurning K)) (C__law_after : Cal P w K mg base 3 "_law_after" ["one", "other"] (spLawAfter K)) (C__law_back : Cal P w K mg base 3 "_law_back" ["change"] (spLawBack K)) (B : Blt mg) : Cal P w K mg base 4 "_law_change" ["script", "spot"] (spLawChange K) := by
  refine F.cal (k := 3) sc__law_change (fun vs H Q E h => ?_) (fun f cdv A outer s H vs Q E hr h => ?_)
  · obtain ⟨a, b, ns, kk, rfl, hs, hb, hk0, q⟩ := h
    rfl
  obtain ⟨a, b, ns, kk, rfl, hs, hb, hk0, q⟩ := h
  have hu := hr.units
  have hu8 : (A.deeper (envOfC "_law_change" (defScope s__law_change) s.heap.objs.size f cdv)).units + 80 < cLine := by have := hr.un; omega
  refine ⟨_, (pss_cons (ps_set (i := 2) sc__law_change.nd rfl (Or.inl rfl) (pe_callC C__law_next hr (pa_cons (pv 0) (pa_cons (pv 1) pa_nil))))
      (pss_cons (ps_set (i := 3) sc__law_change.nd rfl (Or.inl rfl) (pe_ix ix_lstI (pe_lst (pa_cons pe_int (pa_cons pe_int (pa_cons pe_int (pa_cons pe_int pa_nil))))) (pe_op op_mod (pv 2) pe_int) (fun _ _ => rfl)))
      (pss_cons (ps_set (i := 4) sc__law_change.nd rfl (Or.inl rfl) (pe_lst pa_nil))
      (pss_cons (ps_for PassesOwn.never rfl (pi_range1 rfl B.range (pa_cons pe_int pa_nil)) (pg_name (i := 5) sc__law_change.nd rfl (Or.inl rfl)) (pss_cons (ps_set (i := 6) sc__law_change.nd rfl (Or.inl rfl) (pe_callC C__law_stir hr (pa_cons (pe_op op_add (pv 2) (pe_op op_mulB pe_int (pv 5))) pa_nil)))
      (pss_one (ps_expr (pe_bm PySem.F.plainAttrs_list PySem.F.slot_list_append PySem.F.type_list_append mt_append (pv 4) (pa_cons (pe_op op_sub (pe_op op_mod (pe_op op_fdiv (pe_callC C__law_stir hr (pa_cons (pv 6) pa_nil)) pe_int) (pe_op op_add (pe_op op_mulB pe_int (pv 3)) pe_int)) (pv 3)) pa_nil))))))
      (pss_cons (ps_if (pt_cmpR op_eq (pe_op op_mod (pe_op op_fdiv (pv 2) pe_int) pe_int) pe_int (nomark _)) (pss_cons (ps_set (i := 7) sc__law_change.nd rfl (Or.inl rfl) (pe_op op_fdiv (pv 2) pe_int))
      (pss_one (ps_set (i := 4) sc__law_change.nd rfl (Or.inl rfl) (pe_lst (pa_cons (pe_op op_sub (pe_op op_mod (pv 7) pe_int) pe_int) (pa_cons (pe_op op_sub (pe_op op_mod (pe_op op_fdiv (pv 7) pe_int) pe_int) pe_int) (pa_cons (pe_op op_sub (pe_op op_mod (pe_op op_fdiv (pv 7) pe_int) pe_int) pe_int) (pa_cons (pe_op op_sub (pe_op op_mod (pe_op op_fdiv (pv 7) pe_int) pe_int) pe_int) pa_nil)))))))) (pss_one (ps_if (pt_cmpR op_eq (pe_op op_mod (pe_op op_fdiv (pv 2) pe_int) pe_int) pe_int (nomark _)) (pss_one (ps_asg pe_int (pg_sub (pv 4) (pe_op op_mod (pe_op op_fdiv (pv 2) pe_int) pe_int) set_list))) pss_nil)))
      (pss_cons (ps_if (pt_cmpR op_eq (pe_op op_mulB (pe_ix ix_lstI (pv 4) pe_int (fun _ _ => rfl)) (pe_ix ix_lstI (pv 4) pe_int (fun _ _ => rfl))) (pe_op op_mulB (pe_ix ix_lstI (pv 4) pe_int (fun _ _ => rfl)) (pe_ix ix_lstI (pv 4) pe_int (fun _ _ => rfl))) (nomark _)) (pss_one (ps_set (i := 4) sc__law_change.nd rfl (Or.inl rfl) (pe_lst (pa_cons (pe_op op_add pe_int (pe_op op_mod (pe_op op_fdiv (pv 2) pe_int) pe_int)) (pa_cons (pe_op op_sub (pe_op op_mod (pe_op op_fdiv (pv 2) pe_int) pe_int) pe_int) (pa_cons pe_int (pa_cons pe_int pa_nil))))))) pss_nil)
      (pss_cons (ps_set (i := 8) sc__law_change.nd rfl (Or.inl rfl) (pe_callC C__law_plain hr (pa_cons (pv 4) pa_nil)))
      (pss_cons (ps_if (PW.pt (pw_and (pt_cmpR op_eq (pe_op op_mod (pe_op op_fdiv (pv 2) pe_int) pe_int) pe_int (nomark _)) (pw_and1 (pt_cmpR op_eq (pe_op op_mod (pe_op op_fdiv (pv 2) pe_int) pe_int) pe_int (nomark _))))) (pss_cons (ps_set (i := 9) sc__law_change.nd rfl (Or.inl rfl) (pe_callC C__law_turning hr (pa_cons (pe_op op_fdiv (pv 2) pe_int) pa_nil)))
      (pss_one (ps_ret (pe_callC C__law_after hr (pa_cons (pe_callC C__law_after hr (pa_cons (pe_callC C__law_back hr (pa_cons (pv 8) pa_nil)) (pa_cons (pv 9) pa_nil))) (pa_cons (pv 8) pa_nil)))))) pss_nil)
      (pss_one (ps_ret (pv 8))))))))))), ?_⟩
  obtain ⟨B0, hB⟩ : ∃ B0, B0 = upd H b (.lst [.int (kk + 1)]) := ⟨_, rfl⟩
  rw [← hB] at q
  obtain ⟨c, hc⟩ : ∃ c, c = cellN ns kk := ⟨_, rfl⟩
  apply seq_det
  · intro k hk; walk_at "rd"; exact ⟨a, b, ns, kk, rfl, hs, hb, hk0, hk⟩
  rw [← hB, ← hc]
  -- wide
  refine seq_by (fun σ H1 => ∃ w : Int, 2 ≤ w ∧ w ≤ 1000 ∧ σ = [some (.ref a), some (.ref b), some (.int c), some (.int w), none, none, none, none, none, none] ∧ Same B0 H1) (fun k hk => ?_) ?_
  · walk_at "rd"
    obtain ⟨v, hv, hm⟩ := at_any [(2 : Int), 4, 30, 1000] (i := c % 4) (Int.emod_nonneg _ (by decide)) (Int.emod_lt_of_pos _ (by decide))
    refine ⟨by show 4 ≤ sizeLine; decide, fun p hp => ⟨by decide, [2, 4, 30, 1000], ⟨p, rfl, SqL.of upd_same⟩, v, hv, hk _ _ ⟨v, ?_, ?_, rfl, same_new hp _⟩⟩⟩
    · simp only [List.mem_cons, List.not_mem_nil, or_false] at hm; omega
    · simp only [List.mem_cons, List.not_mem_nil, or_false] at hm; omega
  rintro σ H1 ⟨w, w1, w2, rfl, g1⟩
  -- numbers = []
  refine seq_by (fun σ H2 => ∃ l, B0 l = none ∧ Same B0 H2 ∧ H2 l = some (.lst []) ∧ σ = [some (.ref a), some (.ref b), some (.int c), some (.int w), some (.ref l), none, none, none, none, none]) (fun k hk => ?_) ?_
  · walk_at "rd"
    exact ⟨by show 0 ≤ sizeLine; decide, fun p hp => hk _ _ ⟨p, g1.free hp, g1.trans (same_new hp _), upd_same, rfl⟩⟩
  rintro σ H2 ⟨l, nl, g2, hl, rfl⟩
  -- the loop
  refine seq_by (fun σ H3 => ∃ (m : Ch) (x y : Option V), BdC 10 m ∧ Same B0 H3 ∧ H3 l = some (.lst ((cl m).map V.int)) ∧ σ = [some (.ref a), some (.ref b), some (.int c), some (.int w), some (.ref l), x, y, none, none, none]) (fun k hk => ?_) ?_
  · refine ⟨4, rfl, by decide, by decide, forR (n := 4) (fun i σ H3 => ∃ (xs : List Int) (x y : Option V), xs.length = i ∧ (∀ n ∈ xs, Bd 10 n) ∧ Same B0 H3 ∧ H3 l = some (.lst (xs.map V.int)) ∧ σ = [some (.ref a), some (.ref b), some (.int c), some (.int w), some (.ref l), x, y, none, none, none])
      ⟨[], none, none, rfl, by simp, g2, hl, rfl⟩ ?_ ?_⟩
    · rintro Pv' hP i σ H3 hi ⟨xs, x, y, hxl, hxb, g3, hl3, rfl⟩
      have hw : Bd 100000 w := Bd.mono (j := 10) (Bd.lit (by omega)) (by decide)
      have hi' : Bd 100000 (0 + (i : Int)) := Bd.mono (j := 10) (Bd.lit (by omega)) (by decide)
      walk_at "rd"
      refine ⟨⟨Bd.mono (j := 10) (by decide) (by decide), hi'⟩, _, rfl, .inl ⟨rfl, _, SqL.of hl3⟩, _, rfl, _, rfl, ⟨by decide, by decide⟩, ⟨Bd.mono (j := 10) (by decide) (by decide), hw⟩, by omega, _, hl3, ?_,
        hP _ _ _ ⟨xs ++ [stir (stir (c + 31 * (0 + (i : Int)))) / 7 % (2 * w + 1) - w], _, _, by simp [hxl], fun n hn => ?_, same_upd g3 nl, ?_, rfl⟩⟩
      · rw [List.length_map]; exact small1000 (by omega)
      · rcases List.mem_append.mp hn with h | h
        · exact hxb n h
        · have e : n = stir (stir (c + 31 * (0 + (i : Int)))) / 7 % (2 * w + 1) - w := by simpa using h
          have h1 := Int.emod_nonneg (stir (stir (c + 31 * (0 + (i : Int)))) / 7) (b := 2 * w + 1) (by omega)
          have h2 := Int.emod_lt_of_pos (stir (stir (c + 31 * (0 + (i : Int)))) / 7) (b := 2 * w + 1) (by omega)
          exact Bd.lit (by omega)
      · rw [upd_same, List.map_append]; rfl
    · rintro σ H3 ⟨xs, x, y, hxl, hxb, g3, hl3, rfl⟩
      obtain ⟨m, rfl⟩ := list4 hxl
      exact hk _ _ ⟨m, x, y, .of_all hxb, g3, hl3, rfl⟩
  rintro σ H3 ⟨m, x, y, bm, g3, hl3, rfl⟩
  -- small ones, or a nought
  refine seq_by (fun σ H4 => ∃ (l' : Addr) (m' : Ch) (z : Option V), BdC 10 m' ∧ Same B0 H4 ∧ H4 l' = some (.lst ((cl m').map V.int)) ∧ σ = [some (.ref a), some (.ref b), some (.int c), some (.int w), some (.ref l'), x, y, z, none, none]) (fun k hk => ?_) ?_
  · walk_at "rd"
    refine ⟨⟨by decide, by decide⟩, by decide, ?_⟩
    refine ite2 (fun c1 => ?_) (fun c1 => ?_)
    · refine ⟨⟨by decide, by decide⟩, by decide, ⟨by decide, by decide⟩, by decide, ⟨by decide, by decide⟩, by decide, ⟨by decide, by decide⟩, by decide, (by show 4 ≤ sizeLine; decide), fun p hp => ?_⟩
      refine hk _ _ ⟨p, ⟨c / 8 % 41 - 20, c / 8 / 41 % 41 - 20, c / 8 / 1681 % 41 - 20, c / 8 / 68921 % 41 - 20⟩, _, ⟨Bd.lit ?_, Bd.lit ?_, Bd.lit ?_, Bd.lit ?_⟩, g3.trans (same_new hp _), upd_same, rfl⟩ <;> dsimp only <;> omega
    · refine ⟨⟨by decide, by decide⟩, by decide, ?_⟩
      refine ite2 (fun c2 => ?_) (fun c2 => hk _ _ ⟨l, m, _, bm, g3, hl3, rfl⟩)
      have i0 := Int.emod_nonneg (c / 40) (b := 4) (by decide)
      have i1 := Int.emod_lt_of_pos (c / 40) (b := 4) (by decide)
      obtain ⟨m', e, bm'⟩ := set_cl bm (j := (c / 40 % 4).toNat) (by omega) (n := 0) (by decide)
      refine ⟨⟨by decide, by decide⟩, by decide, _, hl3, (c / 40 % 4).toNat, ix_any i0 i1, hk _ _ ⟨l, m', _, bm', same_upd g3 nl, ?_, rfl⟩⟩
      rw [upd_same, e]
  rintro σ H4 ⟨l', m', z, bm', g4, hl4, rfl⟩
  -- none without an end
  refine seq_by (fun σ H5 => ∃ (l' : Addr) (m' : Ch), BdC 10 m' ∧ m'.det ≠ 0 ∧ Same B0 H5 ∧ H5 l' = some (.lst ((cl m').map V.int)) ∧ σ = [some (.ref a), some (.ref b), some (.int c), some (.int w), some (.ref l'), x, y, z, none, none]) (fun k hk => ?_) ?_
  · obtain ⟨d1, d2, d3, d4⟩ := bm'.mono (show 10 ≤ 100000 by decide)
    have hv : Lp K H4 (.ref l') (cl m') := ⟨l', rfl, SqL.of hl4⟩
    walk_at "rd"
    refine ⟨_, hv, _, at0 _ _, _, hv, _, at3 _ _ _ _ _, ⟨d1, d4⟩, _, hv, _, at1 _ _ _, _, hv, _, at2 _ _ _ _, ⟨d2, d3⟩, ?_⟩
    refine ite2 (fun c1 => ?_) (fun c1 => hk _ _ ⟨l', m', bm', by unfold Ch.det; omega, g4, hl4, rfl⟩)
    refine ⟨⟨by decide, by decide⟩, by decide, ⟨by decide, by decide⟩, by decide, (by show 4 ≤ sizeLine; decide), fun p hp => ?_⟩
    refine hk _ _ ⟨p, ⟨1 + c / 80 % 5, c / 400 % 7 - 3, 0, 1⟩, ⟨Bd.lit ?_, Bd.lit ?_, (show Bd 10 0 by decide), (show Bd 10 1 by decide)⟩, ?_, g4.trans (same_new hp _), upd_same, rfl⟩
    · dsimp only; omega
    · dsimp only; omega
    · unfold Ch.det; dsimp only; omega
  rintro σ H5 ⟨l5, m5, bm5, dm5, g5, hl5, rfl⟩
  refine seq_by (fun σ H6 => ∃ v, Same B0 H6 ∧ Tp K H6 v (cl (nch m5)) ∧ σ = [some (.ref a), some (.ref b), some (.int c), some (.int w), some (.ref l5), x, y, z, some v, none]) (fun k hk => ?_) ?_
  · walk_at "rd"
    exact ⟨l5, m5, rfl, SqL.of hl5, dm5, bm5.mono (by decide), fun v H6 g6 t6 => hk _ _ ⟨v, g5.trans g6, t6, rfl⟩⟩
  rintro σ H6 ⟨v, g6, t6, rfl⟩
  have gm := nch_goodC dm5
  have bm6 := bm5.nch dm5
  generalize nch m5 = m6 at t6 gm bm6
  refine seq_by (fun σ H7 => σ = [some (.ref a), some (.ref b), some (.int c), some (.int w), some (.ref l5), x, y, z, some v, none] ∧ H7 = H6) (fun k hk => ?_) ?_
  · have fin : spTurning K [.int (c / 4000)] H6 (fun u H7 => spLawBack K [v] H7 (fun u2 H8 => spLawAfter K [u2, u] H8 (fun u3 H9 => spLawAfter K [u3, v] H9 Q E0) E0) E0) E0 := by
      refine ⟨_, rfl, fun u H7 mt g7 t7 dt bt => ?_⟩
      refine ⟨v, m6, rfl, t6.mono g7, gm.det, bm6.mono (by decide), fun u2 H8 g8 t8 => ?_⟩
      have da : (adj m6).det ≠ 0 := by rw [det_adj]; exact gm.det
      have d8 := (nch_goodC da).det
      have b8 := (bm6.adj).nch da
      refine ⟨u2, u, _, mt, rfl, t8, t7.mono g8, d8, dt, b8.mono (by decide), bt.mono (by decide), fun u3 H9 g9 t9 => ?_⟩
      have d9 := mul_ne d8 dt
      have b9 := (b8.mul bt).nch d9
      have d9' := (nch_goodC d9).det
      refine ⟨u3, v, _, m6, rfl, t9, t6.mono (g7.trans (g8.trans g9)), d9', gm.det, b9.mono (by decide), bm6.mono (by decide), fun u4 H10 g10 t10 => ?_⟩
      have d10 := mul_ne d9' gm.det
      exact q u4 H10 _ (g6.trans (g7.trans (g8.trans (g9.trans g10)))) t10 (nch_goodC d10) (((b9.mul bm6).nch d10).mono (by decide))
    walk_at "rd"
    refine ⟨⟨by decide, by decide⟩, by decide, ?_⟩
    refine ite2 (fun c1 => ?_) (fun c1 => hk _ _ ⟨rfl, rfl⟩)
    refine ⟨⟨by decide, by decide⟩, by decide, ?_⟩
    refine ite2 (fun c1 => ?_) (fun c1 => hk _ _ ⟨rfl, rfl⟩)
    exact ⟨⟨by decide, by decide⟩, fin⟩
  rintro σ H7 ⟨rfl, rfl⟩
  walk_at "rd"
  exact q v H7 m6 g6 t6 gm (bm6.mono (by decide))
theorem sc__law_changed : FnScope ["text", "cell", "at", "sign"] ["text", "cell"] (defScope s__law_changed) := ⟨rfl, rfl, rfl, by decide +kernel, rfl, by decide +kernel, by decide +kernel⟩
set_option maxHeartbeats 4000000 in
theorem cal__law_changed (F : Def K mg "_law_changed" s__law_changed ["text", "cell"]) (B : Blt mg) : Cal P w K mg base 1 "_law_changed" ["text", "cell"] spChanged := by
  refine F.cal (k := 0) sc__law_changed (fun vs H Q E h => ?_) (fun f cdv A outer s H vs Q E hr h => ?_)
  · obtain ⟨x, c, rfl, ha, hxl, q⟩ := h
    rfl
  obtain ⟨x, c, rfl, ha, hxl, q⟩ := h
  have hu := hr.units
  have hu8 : (A.deeper (envOfC "_law_changed" (defScope s__law_changed) s.heap.objs.size f cdv)).units + 80 < cLine := by have := hr.un; omega
  refine ⟨_, (pss_cons (ps_set (i := 2) sc__law_changed.nd rfl (Or.inl rfl) (pe_op op_mod (pe_op op_fdiv (pv 1) pe_int) (pe_op op_add (pe_callB call_len_str rfl B.len bt_len (pa_cons (pv 0) pa_nil)) pe_int)))
      (pss_cons (ps_set (i := 3) sc__law_changed.nd rfl (Or.inl rfl) (pe_ix ix_str pe_str (pe_op op_mod (pe_op op_fdiv (pv 1) pe_int) pe_int) (fun _ _ => rfl)))
      (pss_cons (ps_if (pt_cmpR op_eq (pe_op op_mod (pv 1) pe_int) pe_int (nomark _)) (pss_one (ps_ret (pe_op op_add_str (pe_slice sl_str (pv 0) po_none (po_some (pv 2))) (pe_slice sl_str (pv 0) (po_some (pe_op op_add (pv 2) pe_int)) po_none)))) pss_nil)
      (pss_cons (ps_if (pt_cmpR op_eq (pe_op op_mod (pv 1) pe_int) pe_int (nomark _)) (pss_one (ps_ret (pe_op op_add_str (pe_op op_add_str (pe_slice sl_str (pv 0) po_none (po_some (pv 2))) (pv 3)) (pe_slice sl_str (pv 0) (po_some (pv 2)) po_none)))) pss_nil)
      (pss_one (ps_ret (pe_op op_add_str (pe_op op_add_str (pe_slice sl_str (pv 0) po_none (po_some (pv 2))) (pv 3)) (pe_slice sl_str (pv 0) (po_some (pe_op op_add (pv 2) pe_int)) po_none)))))))), ?_⟩
  have hxs : x.length ≤ sizeLine := Nat.le_trans hxl (by decide)
  have h0 := Int.emod_nonneg (c / 4096) (b := 21) (by decide)
  have h1 := Int.emod_lt_of_pos (c / 4096) (b := 21) (by decide)
  obtain ⟨sg, hs1, hs2⟩ := at_any (Str.ofString "0123456789/ -
	fa+_x.").cps.toList h0 (show _ < ((21 : Nat) : Int) from h1)
  have hsg : sg < 128 := by
    have hall : ∀ c ∈ (Str.ofString "0123456789/ -
	fa+_x.").cps.toList, c < 128 := by decide +kernel
    exact hall sg hs2
  have asg : Asc ⟨#[sg]⟩ := fun d hd => by
    have : d = sg := by simpa using hd
    rw [this]; exact hsg
  have lsg : (⟨#[sg]⟩ : Str).length = 1 := rfl
  have hsz : 1000 ≤ sizeLine := by decide
  have two : ∀ l u l' u', Q (.str (Txt.slice x l u ++ Txt.slice x l' u')) H ∧ (Txt.slice x l u).length + (Txt.slice x l' u').length ≤ sizeLine := fun l u l' u' => by
    have e1 := Txt.slice_le x l u
    have e2 := Txt.slice_le x l' u'
    exact ⟨q _ (asc_app (asc_slice ha _ _) (asc_slice ha _ _)) (by rw [app_len]; omega), by omega⟩
  have three : ∀ l u l' u', Q (.str (Txt.slice x l u ++ ⟨#[sg]⟩ ++ Txt.slice x l' u')) H ∧ (Txt.slice x l u).length + (⟨#[sg]⟩ : Str).length ≤ sizeLine ∧ (Txt.slice x l u ++ (⟨#[sg]⟩ : Str)).length + (Txt.slice x l' u').length ≤ sizeLine := fun l u l' u' => by
    have e1 := Txt.slice_le x l u
    have e2 := Txt.slice_le x l' u'
    refine ⟨q _ (asc_app (asc_app (asc_slice ha _ _) asg) (asc_slice ha _ _)) (by rw [app_len, app_len, lsg]; omega), by rw [lsg]; omega, by rw [app_len, lsg]; omega⟩
  walk_at "rd"
  refine ⟨by decide, hxs, by omega, by decide, by decide, (by decide +kernel), sg, hs1, by decide, ?_⟩
  split
  · exact ⟨hxs, hxs, (two _ _ _ _).2, (two _ _ _ _).1⟩
  · refine ⟨by decide, ?_⟩
    split
    · exact ⟨hxs, (three _ _ none none).2.1, hxs, (three _ _ _ _).2.2, (three _ _ _ _).1⟩
    · exact ⟨hxs, (three _ _ none none).2.1, hxs, (three _ _ _ _).2.2, (three _ _ _ _).1⟩
theorem sc__law_number : FnScope ["word", "figures"] ["word"] (defScope s__law_number) := ⟨rfl, rfl, rfl, by decide +kernel, rfl, by decide +kernel, by decide +kernel⟩
set_option maxHeartbeats 4000000 in
theorem cal__law_number (F : Def K mg "_law_number" s__law_number ["word"]) (B : Blt mg) : Cal P w K mg base 1 "_law_number" ["word"] spLawN := by
  refine F.cal (k := 0) sc__law_number (fun vs H Q E h => ?_) (fun f cdv A outer s H vs Q E hr h => ?_)
  · obtain ⟨x, rfl, ha, hxl, q⟩ := h
    rfl
  obtain ⟨x, rfl, ha, hxl, q⟩ := h
  have hu := hr.units
  have hu8 : (A.deeper (envOfC "_law_number" (defScope s__law_number) s.heap.objs.size f cdv)).units + 80 < cLine := by have := hr.un; omega
  refine ⟨_, (pss_cons (ps_set (i := 1) sc__law_number.nd rfl (Or.inl rfl) (pv 0))
      (pss_cons (ps_if (pt_cmpR op_eq (pe_slice sl_str (pv 0) po_none (po_some pe_int)) pe_str (nomark _)) (pss_one (ps_set (i := 1) sc__law_number.nd rfl (Or.inl rfl) (pe_slice sl_str (pv 0) (po_some pe_int) po_none))) pss_nil)
      (pss_cons (ps_if (PW.pt (pw_or (pt_not (pt_chain op_le op_le pe_int (pe_callB call_len_str rfl B.len bt_len (pa_cons (pv 1) pa_nil)) pe_int)) (pw_or1 (pt_cmpR op_gt (pe_callB call_len_seq rfl B.len bt_len (pa_cons (pe_comp [] (sc := defScope s__law_number) (cn := []) rfl ⟨rfl, by decide +kernel, rfl, by decide +kernel, by decide +kernel, by decide +kernel, by decide +kernel⟩ rfl rfl (pi_str (pv 1)) (fun _ _ _ _ _ => pq_one (pt_cmpR op_notIn_str (pv 0) pe_str rfl)) (fun _ _ _ _ _ => (pv 0))) pa_nil)) pe_int (nomark _))))) (pss_one (ps_ret pe_non)) pss_nil)
      (pss_cons (ps_if (PW.pt (pw_and (pt_cmpR op_eq (pe_ix ix_str (pv 1) pe_int (fun _ _ => rfl)) pe_str (nomark _)) (pw_and1 (pt_cmpR op_ne (pv 0) pe_str (nomark _))))) (pss_one (ps_ret pe_non)) pss_nil)
      (pss_one (ps_ret (pe_callTy call_intS rfl B.int bt_int (pa_cons (pv 0) pa_nil)))))))), ?_⟩
  have hxs : x.length ≤ sizeLine := Nat.le_trans hxl (by decide)
  apply seq_det
  · intro k hk; walk_at "rd"; exact hk
  refine seq_by (fun σ H1 => ∃ z : Str, H1 = H ∧ z.cps.toList = figs x.cps.toList ∧ σ = [some (.str x), some (.str z)]) (fun k hk => ?_) ?_
  · walk_at "rd"
    refine ⟨hxs, ?_⟩
    by_cases hs : x.cps.toList.head? = some 45
    · rw [if_pos ((slice_first x).mpr hs)]
      refine ⟨hxs, hk _ _ ⟨_, rfl, ?_, rfl⟩⟩
      rw [slice_tail (fun e => by rw [e] at hs; simp at hs)]
      unfold figs; rw [if_pos hs]
    · rw [if_neg (fun e => hs ((slice_first x).mp e))]
      exact hk _ _ ⟨x, rfl, (figs_pos hs).symm, rfl⟩
  rintro σ H1 ⟨z, rfl, hz, rfl⟩
  have hzl : z.length = (figs x.cps.toList).length := by rw [Tx.len_list, hz]
  have hfl : (figs x.cps.toList).length ≤ x.length := by
    rw [Tx.len_list]; unfold figs; split
    · rw [List.length_tail]; omega
    · exact Nat.le_refl _
  have hzs : z.length ≤ sizeLine := by rw [hzl]; exact Nat.le_trans hfl hxs
  have az : Asc z := fun c hc => by
    rw [hz] at hc
    unfold figs at hc
    split at hc
    · exact ha c (List.mem_of_mem_tail hc)
    · exact ha c hc
  have bad : ¬ okN x.cps.toList → ∀ H', Same H1 H' → Q .non H' := fun ho H' g => by
    have e0 : readN x.cps.toList = none := by unfold readN; rw [if_neg (fun h => ho h.1)]
    rw [e0] at q
    exact q H' g
  refine seq_by (fun σ H2 => (Same H1 H2 ∧ okN x.cps.toList) ∧ σ = [some (.str x), some (.str z)]) (fun k hk => ?_) ?_
  · walk_at "rd"
    refine ⟨hzs, ?_⟩
    by_cases h1 : (1 : Int) ≤ z.length
    case neg =>
      rw [if_neg h1]
      exact bad (fun h => h1 (by have := h.1; omega)) _ (Same.refl _)
    rw [if_pos h1]
    by_cases h2 : (z.length : Int) ≤ 30
    case neg =>
      rw [if_pos h2]
      exact bad (fun h => h2 (by have := h.2.1; omega)) _ (Same.refl _)
    rw [if_neg (fun h => h h2)]
    refine tcompS rfl az.all (fun i acc H2 => acc = ((z.cps.toList.take i).filter (fun c => !dig c)).map (fun c => V.str ⟨#[c]⟩) ∧ H2 = H1) ⟨rfl, rfl⟩ (fun i acc H2 hi h => ?_) ?_ ?_
    · obtain ⟨rfl, rfl⟩ := h
      rw [List.length_map]
      refine Nat.le_trans (List.length_filter_le _ _) ?_
      rw [List.length_take]
      exact Nat.le_trans (Nat.min_le_left _ _) (Nat.le_trans hi hzs)
    · rintro i c acc H2 hx ⟨rfl, rfl⟩ R hR
      rw [← Array.getElem?_toList] at hx
      have hc := az c (List.mem_of_getElem? hx)
      walk_at "rd"
      have e' : (!(Builtin.Str.occurrences ("0123456789" : Str) ⟨#[c]⟩ 0 ("0123456789" : Str).length 1).isEmpty) = dig c := in_figs c hc
      rw [e']
      cases hd : dig c with
      | true =>
        try walk_at "rd"
        refine hR _ _ ⟨?_, rfl⟩
        rw [List.take_add_one, hx, List.filter_append, List.map_append]
        simp [hd]
      | false =>
        try walk_at "rd"
        refine hR _ _ ⟨?_, rfl⟩
        rw [List.take_add_one, hx, List.filter_append, List.map_append]
        simp [hd]
    · rintro acc H2 p ⟨rfl, rfl⟩ hp
      try walk_at "rd"
      refine ⟨_, .inl (SqL.of upd_same), ?_⟩
      rw [Tx.len_list, List.take_length, List.length_map]
      by_cases hd : z.cps.toList.all dig = true
      · have e3 : z.cps.toList.filter (fun c => !dig c) = [] := by
          rw [List.filter_eq_nil_iff]
          intro c hc
          rw [List.all_eq_true.mp hd c hc]; decide
        rw [e3, if_neg (by simp)]
        refine hk _ _ ⟨⟨same_new hp _, ?_⟩, rfl⟩
        rw [hz] at hd
        exact ⟨by omega, by omega, hd⟩
      · have e3 : 0 < (z.cps.toList.filter (fun c => !dig c)).length := by
          rw [List.length_pos_iff]
          intro e
          refine hd (List.all_eq_true.mpr fun c hc => ?_)
          have := (List.filter_eq_nil_iff.mp e) c hc
          cases hdc : dig c with
          | true => rfl
          | false => rw [hdc] at this; exact absurd rfl this
        rw [if_pos (by omega)]
        refine bad (fun h => hd ?_) _ (same_new hp _)
        rw [hz]; exact h.2.2
  rintro σ H2 ⟨⟨g2, ho⟩, rfl⟩
  have hz0 : z.cps.toList ≠ [] := fun e => by
    have := ho.1
    rw [← hz, e] at this; simp at this
  obtain ⟨c, r, hcr⟩ : ∃ c r, z.cps.toList = c :: r := by
    cases e : z.cps.toList with
    | nil => exact absurd e hz0
    | cons c r => exact ⟨c, r, rfl⟩
  have hhd : (figs x.cps.toList).head? = some c := by rw [← hz, hcr]; rfl
  have hx0 : x = ("0" : Str) ↔ x.cps.toList = [48] := ⟨fun e => by rw [e]; rfl, fun e => str_eq e⟩
  refine seq_by (fun σ H3 => (H3 = H2 ∧ canN x.cps.toList) ∧ σ = [some (.str x), some (.str z)]) (fun k hk => ?_) ?_
  · walk_at "rd"
    refine ⟨hzs, c, by rw [hcr]; exact at0 _ _, ?_⟩
    have hc0 : ((⟨#[c]⟩ : Str) = ("0" : Str)) ↔ c = 48 := ⟨fun e => by
      have h2 : (#[c] : Array Nat) = #[48] := congrArg Str.cps e
      simpa using h2, fun e => by subst e; rfl⟩
    by_cases h1 : c = 48
    · rw [if_pos (hc0.mpr h1)]
      by_cases h2 : x = ("0" : Str)
      · rw [if_neg (fun h => h h2)]
        exact hk _ _ ⟨⟨rfl, fun h => h.2 (hx0.mp h2)⟩, rfl⟩
      · rw [if_pos h2]
        have e0 : readN x.cps.toList = none := by
          unfold readN
          rw [if_neg (fun h => h.2 ⟨by rw [hhd, h1], fun e => h2 (hx0.mpr e)⟩)]
        rw [e0] at q
        exact q _ g2
    · rw [if_neg (fun h => h1 (hc0.mp h))]
      refine hk _ _ ⟨⟨rfl, fun h => h1 ?_⟩, rfl⟩
      have := h.1
      rw [hhd] at this
      exact Option.some.inj this
  rintro σ H3 ⟨⟨rfl, hc⟩, rfl⟩
  obtain ⟨hi1, hi2⟩ := int_of ho
  walk_at "rd"
  refine ⟨_, hi1, hi2, ?_⟩
  have e : readN x.cps.toList = some (valN x.cps.toList) := by unfold readN; rw [if_pos ⟨ho, hc⟩]
  rw [e] at q
  exact q _ g2
theorem sc__law_written_point : FnScope ["text", "parts", "numbers"] ["text"] (defScope s__law_written_point) := ⟨rfl, rfl, rfl, by decide +kernel, rfl, by decide +kernel, by decide +kernel⟩
set_option maxHeartbeats 4000000 in
theorem cal__law_written_point (F : Def K mg "_law_written_point" s__law_written_point ["text"]) (C__law_number : Cal P w K mg base 1 "_law_number" ["word"] spLawN) (C__law_common : Cal P w K mg base 1 "_law_common" ["one", "other"] spGcd) (B : Blt mg) : Cal P w K mg base 2 "_law_written_point" ["text"] (spWrP K) := by
  refine F.cal (k := 1) sc__law_written_point (fun vs H Q E h => ?_) (fun f cdv A outer s H vs Q E hr h => ?_)
  · obtain ⟨x, rfl, ha, hxl, q⟩ := h
    rfl
  obtain ⟨x, rfl, ha, hxl, q⟩ := h
  have hu := hr.units
  have hu8 : (A.deeper (envOfC "_law_written_point" (defScope s__law_written_point) s.heap.objs.size f cdv)).units + 80 < cLine := by have := hr.un; omega
  refine ⟨_, (pss_cons (ps_if (pt_cmpR op_eq (pv 0) pe_str (nomark _)) (pss_one (ps_ret (pe_tup (pa_cons pe_int (pa_cons pe_int pa_nil))))) pss_nil)
      (pss_cons (ps_set (i := 1) sc__law_written_point.nd rfl (Or.inl rfl) (pe_bm PySem.F.plainAttrs_str PySem.F.slot_str_split PySem.F.type_str_split mt_split (pv 0) (pa_cons pe_str pa_nil)))
      (pss_cons (ps_setcomp [] (i := 2) (sc := defScope s__law_written_point) (cn := []) rfl ⟨rfl, by decide +kernel, rfl, by decide +kernel, by decide +kernel, by decide +kernel, by decide +kernel⟩ rfl rfl sc__law_written_point.nd rfl (Or.inl rfl) rfl (pi_list (pv 1)) (fun _ _ _ _ _ => pq_nil) (fun _ _ _ _ _ => (pe_callC C__law_number hr (pa_cons (pv 0) pa_nil))))
      (pss_cons (ps_if (PW.pt (pw_or (pt_cmpR op_in_seq pe_non (pv 2) rfl) (pw_or1 (pt_cmpR op_gt (pe_callB call_len_seq rfl B.len bt_len (pa_cons (pv 1) pa_nil)) pe_int (nomark _))))) (pss_one (ps_ret pe_non)) pss_nil)
      (pss_cons (ps_if (pt_cmpR op_eq (pe_callB call_len_seq rfl B.len bt_len (pa_cons (pv 1) pa_nil)) pe_int (nomark _)) (pss_one (ps_ret (pe_tup (pa_cons (pe_ix ix_lstI (pv 2) pe_int (fun _ _ => rfl)) (pa_cons pe_int pa_nil))))) pss_nil)
      (pss_cons (ps_if (PW.pt (pw_or (pt_cmpR op_lt (pe_ix ix_lstI (pv 2) pe_int (fun _ _ => rfl)) pe_int (nomark _)) (pw_or1 (pt_cmpR op_ne (pe_callC C__law_common hr (pa_cons (pe_ix ix_lstI (pv 2) pe_int (fun _ _ => rfl)) (pa_cons (pe_ix ix_lstI (pv 2) pe_int (fun _ _ => rfl)) pa_nil))) pe_int (nomark _))))) (pss_one (ps_ret pe_non)) pss_nil)
      (pss_one (ps_ret (pe_tup (pa_cons (pe_ix ix_lstI (pv 2) pe_int (fun _ _ => rfl)) (pa_cons (pe_ix ix_lstI (pv 2) pe_int (fun _ _ => rfl)) pa_nil))))))))))), ?_⟩
  have efar : ((("far" : Str)).cps.toList = FARL) := rfl
  by_cases h0 : x.cps.toList = FARL
  · refine seq_by (fun _ _ => False) (fun k hk => ?_) (fun _ _ h => h.elim)
    walk_at "rd"
    rw [if_pos (str_eq (h0.trans efar.symm))]
    have e : readP x.cps.toList = some (1, 0) := by unfold readP; rw [if_pos h0]
    rw [e] at q
    exact ⟨(by show 2 ≤ sizeLine; decide), fun p hp => q _ _ (same_new hp _) ⟨p, rfl, SqT.of upd_same⟩⟩
  apply seq_det
  · intro k hk; walk_at "rd"
    rw [if_neg (fun z => h0 (by rw [z]; exact efar))]
    exact hk

  have hle : (Txt.split x ⟨#[47]⟩).length ≤ x.length + 2 := split_le x _
  have hsl := split_list x 47
  have hsz : x.length + 2 ≤ sizeLine := Nat.le_trans (Nat.add_le_add_right hxl 2) (by decide)

  have erd : readP x.cps.toList = match (spl 47 x.cps.toList).mapM readN with
    | some [n] => some (n, 1)
    | some [n, m] => if 2 ≤ m ∧ GoodP n m then some (n, m) else none
    | _ => none := by unfold readP; exact if_neg h0
  refine seq_by (fun σ H1 => ∃ l, Same H H1 ∧ SqL K H1 l ((Txt.split x ⟨#[47]⟩).map V.str) ∧ σ = [some (.str x), some (.ref l), none]) (fun k hk => ?_) ?_
  · walk_at "rd"
    exact ⟨rfl, rfl, hsz, fun p hp => hk _ _ ⟨p, same_new hp _, SqL.of upd_same, rfl⟩⟩
  rintro σ H1 ⟨l, g1, hq, rfl⟩
  refine seq_by (fun σ H2 => ∃ l2, Same H1 H2 ∧ SqL K H2 l2 ((Txt.split x ⟨#[47]⟩).map fun y => numV (readN y.cps.toList)) ∧ σ = [some (.str x), some (.ref l), some (.ref l2)]) (fun k hk => ?_) ?_
  · walk_at "rd"
    refine tcompL rfl hq (fun i acc H2 => Same H1 H2 ∧ acc = ((Txt.split x ⟨#[47]⟩).take i).map fun y => numV (readN y.cps.toList)) ⟨Same.refl _, rfl⟩ (fun i acc H2 hi h => ?_) ?_ ?_
    · obtain ⟨g2, rfl⟩ := h
      refine ⟨g2.seq hq, ?_⟩
      rw [List.length_map, List.length_take]
      omega
    · rintro i v acc H2 hv ⟨g2, rfl⟩ R hR
      obtain ⟨y, hy, rfl⟩ := map_at hv
      have ym := List.mem_of_getElem? hy
      walk_at "rd"
      refine ⟨y, rfl, asc_sub ha ym, Nat.le_trans (len_sub ym) hxl, fun H3 g3 => hR _ _ ⟨g2.trans g3, ?_⟩⟩
      rw [List.take_add_one, hy, List.map_append]; rfl
    · rintro acc H2 p ⟨g2, rfl⟩ hp
      try walk_at "rd"
      rw [List.length_map, List.take_length]
      exact hk _ _ ⟨p, g2.trans (same_new hp _), SqL.of upd_same, rfl⟩
  rintro σ H2 ⟨l2, g2, hq2, rfl⟩
  have gg := g1.trans g2
  have hq' := g2.seq hq
  rcases nums_cases (Txt.split x ⟨#[47]⟩) with ⟨c1, c2⟩ | ⟨c1, ns, c2, c3⟩
  · refine seq_by (fun _ _ => False) (fun k hk => ?_) (fun _ _ h => h.elim)
    walk_at "rd"
    refine ⟨_, .inl hq2, rfl, nums_flat _, ?_⟩
    rw [c1]
    rw [hsl] at c2
    rw [c2] at erd
    rw [erd] at q
    try walk_at "rd"
    exact q _ _ gg rfl
  rw [c3] at hq2
  have hnl : ns.length = (Txt.split x ⟨#[47]⟩).length := by
    have := (mapM_at c2).1
    rw [List.length_map] at this; exact this.symm
  rw [hsl] at c2
  have hne : ns ≠ [] := fun e => spl_ne 47 x.cps.toList (by
    have := (mapM_at c2).1
    rw [e] at this
    exact List.length_eq_zero_iff.mp (by simpa using this))
  rw [c2] at erd
  by_cases h3 : 2 < ns.length
  · refine seq_by (fun _ _ => False) (fun k hk => ?_) (fun _ _ h => h.elim)
    walk_at "rd"
    refine ⟨_, .inl hq2, rfl, by rw [← c3]; exact nums_flat _, ?_⟩
    rw [← c3, c1]
    try walk_at "rd"
    refine ⟨_, .inl hq', ?_⟩
    rw [if_pos (by rw [List.length_map]; omega)]
    obtain ⟨a, b, c, r, rfl⟩ := len_3up h3
    have e2 : readP x.cps.toList = none := erd
    rw [e2] at q
    exact q _ _ gg rfl
  apply seq_det
  · intro k hk; walk_at "rd"
    refine ⟨_, .inl hq2, rfl, by rw [← c3]; exact nums_flat _, ?_⟩
    rw [← c3, c1]
    try walk_at "rd"
    refine ⟨_, .inl hq', ?_⟩
    rw [if_neg (by rw [List.length_map]; omega)]
    exact hk
  rcases len_12 hne h3 with ⟨n, rfl⟩ | ⟨n, m, rfl⟩
  · have e2 : readP x.cps.toList = some (n, 1) := erd
    rw [e2] at q
    refine seq_by (fun _ _ => False) (fun k hk => ?_) (fun _ _ h => h.elim)
    walk_at "rd"
    refine ⟨_, .inl hq', ?_⟩
    rw [if_pos (by rw [List.length_map, ← hnl]; rfl)]
    refine ⟨[n], ⟨l2, rfl, hq2⟩, _, at0 _ _, (by show 2 ≤ sizeLine; decide), fun a ha => ?_⟩
    exact q _ _ (gg.trans (same_new ha _)) ⟨a, rfl, SqT.of upd_same⟩
  · apply seq_det
    · intro k hk; walk_at "rd"
      refine ⟨_, .inl hq', ?_⟩
      rw [if_neg (by rw [List.length_map, ← hnl]; show ¬ ((2 : Nat) : Int) = 1; decide)]
      exact hk
    have tl : Lp K H2 (.ref l2) [n, m] := ⟨l2, rfl, hq2⟩
    replace erd : readP x.cps.toList = if 2 ≤ m ∧ GoodP n m then some (n, m) else none := erd
    by_cases hm : m < 2
    · rw [if_neg (fun h => by omega)] at erd
      rw [erd] at q
      refine seq_by (fun _ _ => False) (fun k hk => ?_) (fun _ _ h => h.elim)
      walk_at "rd"
      refine ⟨_, tl, _, at1 _ _ _, ?_⟩
      rw [if_pos hm]
      exact q _ _ gg rfl
    by_cases hg : Int.gcd n m = 1
    · rw [if_pos ⟨by omega, .inr ⟨by omega, hg⟩⟩] at erd
      rw [erd] at q
      apply seq_det
      · intro k hk; walk_at "rd"
        refine ⟨_, tl, _, at1 _ _ _, ?_⟩
        rw [if_neg hm]
        refine ⟨_, tl, _, at0 _ _, _, tl, _, at1 _ _ _, n, m, rfl, ?_⟩
        try walk_at "rd"
        rw [if_neg (by rw [hg]; simp)]
        exact hk
      walk_at "rd"
      refine ⟨_, tl, _, at0 _ _, _, tl, _, at1 _ _ _, (by show 2 ≤ sizeLine; decide), fun a ha => ?_⟩
      exact q _ _ (gg.trans (same_new ha _)) ⟨a, rfl, SqT.of upd_same⟩
    · rw [if_neg (fun h => by
        rcases h.2 with z | z
        · omega
        · exact hg z.2)] at erd
      rw [erd] at q
      refine seq_by (fun _ _ => False) (fun k hk => ?_) (fun _ _ h => h.elim)
      walk_at "rd"
      refine ⟨_, tl, _, at1 _ _ _, ?_⟩
      rw [if_neg hm]
      refine ⟨_, tl, _, at0 _ _, _, tl, _, at1 _ _ _, n, m, rfl, ?_⟩
      try walk_at "rd"
      rw [if_pos (by omega)]
      exact q _ _ gg rfl
theorem sc__law_written_change : FnScope ["text", "numbers", "a", "b", "c", "d"] ["text"] (defScope s__law_written_change) := ⟨rfl, rfl, rfl, by decide +kernel, rfl, by decide +kernel, by decide +kernel⟩
set_option maxHeartbeats 4000000 in
theorem cal__law_written_change (F : Def K mg "_law_written_change" s__law_written_change ["text"]) (C__law_number : Cal P w K mg base 3 "_law_number" ["word"] spLawN) (C__law_plain : Cal P w K mg base 3 "_law_plain" ["numbers"] (spPlain K)) (B : Blt mg) : Cal P w K mg base 4 "_law_written_change" ["text"] (spWrC K) := by
  refine F.cal (k := 3) sc__law_written_change (fun vs H Q E h => ?_) (fun f cdv A outer s H vs Q E hr h => ?_)
  · obtain ⟨x, rfl, ha, hxl, q⟩ := h
    rfl
  obtain ⟨x, rfl, ha, hxl, q⟩ := h
  have hu := hr.units
  have hu8 : (A.deeper (envOfC "_law_written_change" (defScope s__law_written_change) s.heap.objs.size f cdv)).units + 80 < cLine := by have := hr.un; omega
  refine ⟨_, (pss_cons (ps_setcomp [] (i := 1) (sc := defScope s__law_written_change) (cn := []) rfl ⟨rfl, by decide +kernel, rfl, by decide +kernel, by decide +kernel, by decide +kernel, by decide +kernel⟩ rfl rfl sc__law_written_change.nd rfl (Or.inl rfl) rfl (pi_list (pe_bm PySem.F.plainAttrs_str PySem.F.slot_str_split PySem.F.type_str_split mt_split (pv 0) (pa_cons pe_str pa_nil))) (fun _ _ _ _ _ => pq_nil) (fun _ _ _ _ _ => (pe_callC C__law_number hr (pa_cons (pv 0) pa_nil))))
      (pss_cons (ps_if (PW.pt (pw_or (pt_cmpR op_in_seq pe_non (pv 1) rfl) (pw_or1 (pt_cmpR op_ne (pe_callB call_len_seq rfl B.len bt_len (pa_cons (pv 1) pa_nil)) pe_int (nomark _))))) (pss_one (ps_ret pe_non)) pss_nil)
      (pss_cons (ps_asg (pv 1) (pg_tupL rfl (pgs_cons (pg_name (i := 2) sc__law_written_change.nd rfl (Or.inl rfl)) (pgs_cons (pg_name (i := 3) sc__law_written_change.nd rfl (Or.inl rfl)) (pgs_cons (pg_name (i := 4) sc__law_written_change.nd rfl (Or.inl rfl)) (pgs_cons (pg_name (i := 5) sc__law_written_change.nd rfl (Or.inl rfl)) pgs_nil))))))
      (pss_cons (ps_if (PW.pt (pw_or (pt_cmpR op_eq (pe_op op_mulB (pv 2) (pv 5)) (pe_op op_mulB (pv 3) (pv 4)) (nomark _)) (pw_or1 (pt_cmpR (op_neT hu) (pe_callC C__law_plain hr (pa_cons (pv 1) pa_nil)) (pe_tup (pa_cons (pv 2) (pa_cons (pv 3) (pa_cons (pv 4) (pa_cons (pv 5) pa_nil))))) (nomark _))))) (pss_one (ps_ret pe_non)) pss_nil)
      (pss_one (ps_ret (pe_tup (pa_cons (pv 2) (pa_cons (pv 3) (pa_cons (pv 4) (pa_cons (pv 5) pa_nil))))))))))), ?_⟩
  have hle : (Txt.split x ⟨#[32]⟩).length ≤ x.length + 2 := split_le x _
  have hsl := split_list x 32
  have hsz : x.length + 2 ≤ sizeLine := Nat.le_trans (Nat.add_le_add_right hxl 2) (by decide)

  refine seq_by (fun σ H2 => ∃ l2, Same H H2 ∧ SqL K H2 l2 ((Txt.split x ⟨#[32]⟩).map fun y => numV (readN y.cps.toList)) ∧ σ = [some (.str x), some (.ref l2), none, none, none, none]) (fun k hk => ?_) ?_
  · walk_at "rd"
    refine comp_srcL (xs := (Txt.split x ⟨#[32]⟩).map V.str) (fun l H1 => Same H H1 ∧ SqL K H1 l ((Txt.split x ⟨#[32]⟩).map V.str)) (fun k hk => ?_) ?_
    · walk_at "rd"
      exact ⟨rfl, rfl, hsz, fun p hp => hk _ _ ⟨same_new hp _, SqL.of upd_same⟩⟩
    · rintro l H1 ⟨g1, hq⟩
      refine ⟨fun i acc H2 => Same H1 H2 ∧ acc = ((Txt.split x ⟨#[32]⟩).take i).map fun y => numV (readN y.cps.toList), ⟨Same.refl _, rfl⟩, fun i acc H2 hi h => ?_, ?_, ?_⟩
      · obtain ⟨g2, rfl⟩ := h
        refine ⟨g2.seq hq, ?_⟩
        rw [List.length_map, List.length_take]
        omega
      · rintro i v acc H2 hv ⟨g2, rfl⟩ R hR
        obtain ⟨y, hy, rfl⟩ := map_at hv
        have ym := List.mem_of_getElem? hy
        walk_at "rd"
        refine ⟨y, rfl, asc_sub ha ym, Nat.le_trans (len_sub ym) hxl, fun H3 g3 => hR _ _ ⟨g2.trans g3, ?_⟩⟩
        rw [List.take_add_one, hy, List.map_append]; rfl
      · rintro acc H2 p ⟨g2, rfl⟩ hp
        try walk_at "rd"
        rw [List.length_map, List.take_length]
        exact hk _ _ ⟨p, g1.trans (g2.trans (same_new hp _)), SqL.of upd_same, rfl⟩
  rintro σ H2 ⟨l2, gg, hq2, rfl⟩
  rcases nums_cases (Txt.split x ⟨#[32]⟩) with ⟨c1, c2⟩ | ⟨c1, ns, c2, c3⟩
  · refine seq_by (fun _ _ => False) (fun k hk => ?_) (fun _ _ h => h.elim)
    walk_at "rd"
    refine ⟨_, .inl hq2, rfl, nums_flat _, ?_⟩
    rw [c1]
    rw [hsl] at c2
    have erd : readC x.cps.toList = none := by unfold readC; rw [c2]
    rw [erd] at q
    try walk_at "rd"
    exact q _ _ gg rfl
  have hf := nums_flat (Txt.split x ⟨#[32]⟩)
  rw [c3] at hq2 hf c1
  rw [hsl] at c2
  have hns := c2

  have lt30 : ∀ (i : Nat) n, ns[i]? = some n → n.natAbs < 10 ^ 30 := fun i n hn => by
    obtain ⟨h1, h2⟩ := mapM_at hns
    have hi : i < (spl 32 x.cps.toList).length := by rw [h1]; exact (List.getElem?_eq_some_iff.mp hn).1
    obtain ⟨n', hn', hr'⟩ := h2 i _ (List.getElem?_eq_getElem hi)
    rw [hn] at hn'; cases hn'
    exact readN_lt hr'

  by_cases h4 : ns.length = 4
  case neg =>
    refine seq_by (fun _ _ => False) (fun k hk => ?_) (fun _ _ h => h.elim)
    walk_at "rd"
    refine ⟨_, .inl hq2, rfl, hf, ?_⟩
    rw [c1]
    try walk_at "rd"
    refine ⟨_, .inl hq2, ?_⟩
    rw [if_pos (by rw [List.length_map]; omega)]
    have erd : readC x.cps.toList = none := by
      unfold readC; rw [c2]
      match ns, h4 with
      | [], _ => rfl
      | [_], _ => rfl
      | [_, _], _ => rfl
      | [_, _, _], _ => rfl
      | [_, _, _, _], h => exact absurd rfl h
      | _ :: _ :: _ :: _ :: _ :: _, _ => rfl
    rw [erd] at q
    exact q _ _ gg rfl
  match ns, h4, c1, c2, hq2, hf, lt30 with
  | [n1, n2, n3, n4], _, c1, c2, hq2, hf, lt30 =>
  have b : ∀ (i : Nat) n, [n1, n2, n3, n4][i]? = some n → Bd 4000 n := fun i n hn => (bd30 (lt30 i n hn)).mono (by decide)
  have b2 : ∀ (i : Nat) n, [n1, n2, n3, n4][i]? = some n → Bd 100000 n := fun i n hn => (b i n hn).mono (by decide)
  have erd : readC x.cps.toList = if GoodC ⟨n1, n2, n3, n4⟩ then some ⟨n1, n2, n3, n4⟩ else none := by unfold readC; rw [c2]
  apply seq_det
  · intro k hk; walk_at "rd"
    refine ⟨_, .inl hq2, rfl, hf, ?_⟩
    rw [c1]
    try walk_at "rd"
    refine ⟨_, .inl hq2, ?_⟩
    rw [if_neg (by simp)]
    exact hk
  apply seq_det
  · intro k hk; walk_at "rd"
    exact ⟨_, hq2, rfl, _, _, rfl, _, _, rfl, _, _, rfl, _, _, rfl, rfl, hk⟩
  have m1 : Bd 100000 n1 ∧ Bd 100000 n4 := ⟨b2 0 n1 rfl, b2 3 n4 rfl⟩
  have m2 : Bd 100000 n2 ∧ Bd 100000 n3 := ⟨b2 1 n2 rfl, b2 2 n3 rfl⟩
  refine seq_by (fun σ H3 => (Same H H3 ∧ GoodC ⟨n1, n2, n3, n4⟩) ∧ σ = [some (.str x), some (.ref l2), some (.int n1), some (.int n2), some (.int n3), some (.int n4)]) (fun k hk => ?_) ?_
  · walk_at "rd"
    refine ⟨m1, m2, ?_⟩
    by_cases hdet : n1 * n4 = n2 * n3
    · rw [if_pos hdet]
      rw [if_neg (fun g => g.1 hdet)] at erd
      rw [erd] at q
      exact q _ _ gg rfl
    rw [if_neg hdet]
    have hd : (⟨n1, n2, n3, n4⟩ : Ch).det ≠ 0 := by
      show n1 * n4 - n2 * n3 ≠ 0
      omega
    refine ⟨l2, ⟨n1, n2, n3, n4⟩, rfl, hq2, hd, ⟨b 0 n1 rfl, b 1 n2 rfl, b 2 n3 rfl, b 3 n4 rfl⟩, fun v H3 g3 t3 => ⟨(by show 4 ≤ sizeLine; decide), fun p hp => ⟨_, t3.mono (same_new hp _), [n1, n2, n3, n4], ⟨p, rfl, SqT.of upd_same⟩, ?_⟩⟩⟩
    have hcl : cl (nch ⟨n1, n2, n3, n4⟩) = [n1, n2, n3, n4] ↔ GoodC ⟨n1, n2, n3, n4⟩ := by
      rw [← nch_self_iff hd]
      generalize nch ⟨n1, n2, n3, n4⟩ = z
      obtain ⟨z1, z2, z3, z4⟩ := z
      simp [cl]
    by_cases hg : GoodC ⟨n1, n2, n3, n4⟩
    · rw [if_neg (fun h => h (hcl.mpr hg))]
      exact hk _ _ ⟨⟨gg.trans (g3.trans (same_new hp _)), hg⟩, rfl⟩
    · rw [if_pos (fun h => hg (hcl.mp h))]
      rw [if_neg hg] at erd
      rw [erd] at q
      exact q _ _ (gg.trans (g3.trans (same_new hp _))) rfl
  rintro σ H3 ⟨⟨g3, hg⟩, rfl⟩
  rw [if_pos hg] at erd
  rw [erd] at q
  walk_at "rd"
  exact ⟨(by show 4 ≤ sizeLine; decide), fun p hp => q _ _ (g3.trans (same_new hp _)) ⟨p, rfl, SqT.of upd_same⟩⟩
theorem sc_read_number : FnScope ["text", "figures", "number"] ["text"] (defScope s_read_number) := ⟨rfl, rfl, rfl, by decide +kernel, rfl, by decide +kernel, by decide +kernel⟩
set_option maxHeartbeats 4000000 in
theorem cal_read_number (F : Def K mg "read_number" s_read_number ["text"]) (B : Blt mg) {uG : Value} (c_FIGURES : mg "FIGURES" = some uG ∧ RelV (.str "0123456789") uG) {uX : Value} (c_MOST_FIGURES : mg "MOST_FIGURES" = some uX ∧ RelV (.int 30) uX) : Cal P w K mg base 1 "read_number" ["text"] (spReadN K) := by
  refine F.cal (k := 0) sc_read_number (fun vs H Q E h => ?_) (fun f cdv A outer s H vs Q E hr h => ?_)
  · obtain ⟨x, n, rfl, hrd, q⟩ := h
    rfl
  obtain ⟨x, n, rfl, hrd, q⟩ := h
  have hu := hr.units
  have hu8 : (A.deeper (envOfC "read_number" (defScope s_read_number) s.heap.objs.size f cdv)).units + 80 < cLine := by have := hr.un; omega
  refine ⟨_, (pss_cons (ps_set (i := 1) sc_read_number.nd rfl (Or.inl rfl) (pe_ifExp (pt_val (pe_bm PySem.F.plainAttrs_str PySem.F.slot_str_startswith PySem.F.type_str_startswith mt_startswith (pv 0) (pa_cons pe_str pa_nil))) (pe_slice sl_str (pv 0) (po_some pe_int) po_none) (pv 0)))
      (pss_cons (ps_if (PW.pt (pw_or (pt_cmpR op_lt (pe_callB call_len_str rfl B.len bt_len (pa_cons (pv 1) pa_nil)) pe_int (nomark _)) (pw_or1 (pt_cmpR op_gt (pe_callB call_len_str rfl B.len bt_len (pa_cons (pv 1) pa_nil)) (pe_glob rfl c_MOST_FIGURES.1 c_MOST_FIGURES.2) (nomark _))))) (pss_one ps_never) pss_nil)
      (pss_cons (ps_if (pt_not (pt_val (pe_callB (call_allB rfl) rfl B.all bt_all (pa_cons (pe_comp [] (sc := defScope s_read_number) (cn := []) rfl ⟨rfl, by decide +kernel, rfl, by decide +kernel, by decide +kernel, by decide +kernel, by decide +kernel⟩ rfl rfl (pi_str (pv 1)) (fun _ _ _ _ _ => pq_nil) (fun _ _ _ _ _ => (pe_cmpR op_in_str (pv 0) (pe_glob rfl c_FIGURES.1 c_FIGURES.2) rfl))) pa_nil)))) (pss_one ps_never) pss_nil)
      (pss_cons (ps_set (i := 2) sc_read_number.nd rfl (Or.inl rfl) (pe_callTy call_intS rfl B.int bt_int (pa_cons (pv 0) pa_nil)))
      (pss_cons (ps_if (pt_cmpR op_ne (pe_callTy call_str_int rfl B.str bt_str (pa_cons (pv 2) pa_nil)) (pv 0) (nomark _)) (pss_one ps_never) pss_nil)
      (pss_one (ps_ret (pv 2)))))))), ?_⟩
  unfold readN at hrd
  split at hrd
  case isFalse => cases hrd
  rename_i hok
  obtain ⟨ho, hc⟩ := hok
  cases hrd
  obtain ⟨hi1, hi2⟩ := int_of ho
  have hlen := len_ok ho
  have hxl : x.length ≤ 31 := by rw [Tx.len_list]; exact hlen
  have hxs : x.length ≤ sizeLine := Nat.le_trans hxl (by decide)
  refine seq_by (fun σ H1 => ∃ z : Str, H1 = H ∧ z.cps.toList = figs x.cps.toList ∧ σ = [some (.str x), some (.str z), none]) (fun k hk => ?_) ?_
  · walk_at "rd"
    refine ⟨rfl, ?_⟩
    rw [starts_dash]
    by_cases hs : x.cps.toList.head? = some 45
    · rw [decide_eq_true hs]
      walk_at "rd"
      refine ⟨hxs, hk _ _ ⟨_, rfl, ?_, rfl⟩⟩
      rw [slice_tail (fun e => by rw [e] at hs; simp at hs)]
      unfold figs; rw [if_pos hs]
    · rw [decide_eq_false hs]
      walk_at "rd"
      exact hk _ _ ⟨x, rfl, (figs_pos hs).symm, rfl⟩
  rintro σ H1 ⟨z, rfl, hz, rfl⟩
  obtain ⟨h1, h2, h3⟩ := ho
  have hzl : z.length = (figs x.cps.toList).length := by rw [Tx.len_list, hz]
  have hzs : z.length ≤ sizeLine := by rw [hzl]; exact Nat.le_trans h2 (by decide)
  apply seq_det
  · intro k hk; walk_at "rd"
    refine ⟨hzs, ?_⟩
    rw [if_neg (by omega)]
    refine ⟨hzs, ?_⟩
    rw [if_neg (by omega)]
    exact hk
  have hall : ∀ c ∈ z.cps.toList, dig c = true := by rw [hz]; exact List.all_eq_true.mp h3
  refine seq_by (fun σ H2 => Same H1 H2 ∧ σ = [some (.str x), some (.str z), none]) (fun k hk => ?_) ?_
  · walk_at "rd"
    refine tcompS rfl (ascii_of fun c hc => dig_lt (hall c hc)) (fun i acc H2 => acc = (List.replicate i true).map V.bl ∧ H2 = H1) ⟨rfl, rfl⟩ (fun i acc H2 hi h => ?_) ?_ ?_
    · obtain ⟨rfl, rfl⟩ := h
      rw [List.length_map, List.length_replicate]
      exact Nat.le_trans hi hzs
    · rintro i c acc H2 hx ⟨rfl, rfl⟩ R hR
      have hd := hall c (by rw [← Array.getElem?_toList] at hx; exact List.mem_of_getElem? hx)
      walk_at "rd"
      have e := in_figs c (dig_lt hd)
      rw [hd] at e
      refine hR _ _ ⟨?_, rfl⟩
      have e' : (!(Builtin.Str.occurrences ("0123456789" : Str) ⟨#[c]⟩ 0 ("0123456789" : Str).length 1).isEmpty) = true := e
      rw [e', List.replicate_succ', List.map_append]; rfl
    · rintro acc H2 p ⟨rfl, rfl⟩ hp
      try walk_at "rd"
      refine ⟨_, SqL.of upd_same, ?_⟩
      have e2 : (List.replicate z.length true).all id = true := by simp
      rw [e2]
      exact hk _ _ ⟨same_new hp _, rfl⟩
  rintro σ H2 ⟨g2, rfl⟩
  apply seq_det
  · intro k hk; walk_at "rd"
    exact ⟨_, hi1, hi2, hk⟩
  have hb : Bd 1900 (valN x.cps.toList) := (bd30 (val_lt ⟨h1, h2, h3⟩)).mono (by decide)
  apply seq_det
  · intro k hk; walk_at "rd"
    refine ⟨Bd.log hb, ?_⟩
    have e : T (valN x.cps.toList) = x := str_eq (by rw [T_list, tx_val ⟨h1, h2, h3⟩ hc])
    rw [if_neg (fun z => z e)]
    exact hk
  walk_at "rd"
  exact q _ g2
theorem sc_common_divisor : FnScope ["one", "other", "larger", "smaller", "rest"] ["one", "other"] (defScope s_common_divisor) := ⟨rfl, rfl, rfl, by decide +kernel, rfl, by decide +kernel, by decide +kernel⟩
set_option maxHeartbeats 4000000 in
theorem cal_common_divisor (F : Def K mg "common_divisor" s_common_divisor ["one", "other"]) (B : Blt mg) : Cal P w K mg base 1 "common_divisor" ["one", "other"] spGcd := by
  refine F.cal (k := 0) sc_common_divisor (fun vs H Q E h => ?_) (fun f cdv A outer s H vs Q E hr h => ?_)
  · obtain ⟨a, b, rfl, q⟩ := h
    rfl
  obtain ⟨a, b, rfl, q⟩ := h
  have hu := hr.units
  have hu8 : (A.deeper (envOfC "common_divisor" (defScope s_common_divisor) s.heap.objs.size f cdv)).units + 80 < cLine := by have := hr.un; omega
  refine ⟨_, (pss_cons (ps_set (i := 2) sc_common_divisor.nd rfl (Or.inl rfl) (pe_callB call_absN rfl B.abs bt_abs (pa_cons (pv 0) pa_nil)))
      (pss_cons (ps_set (i := 3) sc_common_divisor.nd rfl (Or.inl rfl) (pe_callB call_absN rfl B.abs bt_abs (pa_cons (pv 1) pa_nil)))
      (pss_cons (ps_while PassesOwn.never (pt_cmpR op_ne (pv 3) pe_int (nomark _)) (pss_cons (ps_set (i := 4) sc_common_divisor.nd rfl (Or.inl rfl) (pe_op op_modN (pv 2) (pv 3)))
      (pss_cons (ps_set (i := 2) sc_common_divisor.nd rfl (Or.inl rfl) (pv 3))
      (pss_one (ps_set (i := 3) sc_common_divisor.nd rfl (Or.inl rfl) (pv 4))))))
      (pss_one (ps_ret (pv 2)))))), ?_⟩
  walk_at "rd"
  refine while_of (fun n σ H' => ∃ (l s : Int) (r : Option V), σ = [some (.int a), some (.int b), some (.int l), some (.int s), r] ∧ 0 ≤ l ∧ 0 ≤ s ∧ Int.gcd l s = Int.gcd a b ∧ H' = H ∧ n = s.toNat) _
    ⟨_, _, _, rfl, by omega, by omega, rfl, rfl, rfl⟩ ?_
  rintro W' hW n σ H' ⟨l, s, r, rfl, hl, hs, hg, rfl, rfl⟩
  walk_at "rd"
  refine ite2 (fun c => ?_) (fun c => ?_)
  · refine ⟨fun σ' H' => ∃ m', m' < s.toNat ∧ W' m' σ' H', fun σ' H' h => h, ?_⟩
    have c' : s ≠ 0 := by omega
    obtain ⟨m0, m1⟩ := fmod_natAbs_lt hl hs c'
    walk_at "rd"
    exact ⟨c', _, (by omega : (l.fmod s).toNat < s.toNat), hW _ _ _ ⟨_, _, _, rfl, hs, m0, by rw [gcd_step c']; exact hg, rfl, rfl⟩⟩
  · have : s = 0 := by omega
    subst this
    have e : ((Int.gcd l 0 : Nat) : Int) = l := by simp; omega
    rw [← hg, e] at q
    exact q
theorem sc_lowest_point : FnScope ["top", "bottom", "divisor"] ["top", "bottom"] (defScope s_lowest_point) := ⟨rfl, rfl, rfl, by decide +kernel, rfl, by decide +kernel, by decide +kernel⟩
set_option maxHeartbeats 4000000 in
theorem cal_lowest_point (F : Def K mg "lowest_point" s_lowest_point ["top", "bottom"]) (C_common_divisor : Cal P w K mg base 1 "common_divisor" ["one", "other"] spGcd) {aF : Addr} (c_FAR : mg "FAR" = some (.ref aF) ∧ RelV (.ref aF) (Value.ref aF)) (kF : ∀ H, SqT K H aF [.int 1, .int 0]) : Cal P w K mg base 2 "lowest_point" ["top", "bottom"] (spLowP K) := by
  refine F.cal (k := 1) sc_lowest_point (fun vs H Q E h => ?_) (fun f cdv A outer s H vs Q E hr h => ?_)
  · obtain ⟨x, y, rfl, bx, by_, q⟩ := h
    rfl
  obtain ⟨x, y, rfl, bx, by_, q⟩ := h
  have hu := hr.units
  have hu8 : (A.deeper (envOfC "lowest_point" (defScope s_lowest_point) s.heap.objs.size f cdv)).units + 80 < cLine := by have := hr.un; omega
  refine ⟨_, (pss_cons (ps_if (pt_cmpR op_eq (pv 1) pe_int (nomark _)) (pss_one (ps_ret (pe_glob rfl c_FAR.1 c_FAR.2))) pss_nil)
      (pss_cons (ps_set (i := 2) sc_lowest_point.nd rfl (Or.inl rfl) (pe_callC C_common_divisor hr (pa_cons (pv 0) (pa_cons (pv 1) pa_nil))))
      (pss_cons (ps_if (pt_cmpR op_lt (pv 1) pe_int (nomark _)) (pss_one (ps_set (i := 2) sc_lowest_point.nd rfl (Or.inl rfl) (pe_un un_neg (pv 2)))) pss_nil)
      (pss_one (ps_ret (pe_tup (pa_cons (pe_op op_fdivB (pv 0) (pv 2)) (pa_cons (pe_op op_fdivB (pv 1) (pv 2)) pa_nil)))))))), ?_⟩
  walk_at "rd"
  refine ite2 (fun c => ?_) (fun c => ?_)
  · subst c
    have e : pl (npt x 0) = [1, 0] := by simp [pl, npt]
    refine q _ H (Same.refl H) ?_
    rw [e]
    exact ⟨aF, rfl, kF H⟩
  · have hg : (Int.gcd x y : Int) ≠ 0 := fun e => c (gcd_zero_iff.mp (show Int.gcd x y = 0 by omega)).2
    have hb : Bd 8000 (Int.gcd x y : Int) := (Bd.gcd bx by_).mono (by decide)
    refine ⟨x, y, rfl, ?_⟩
    refine ite2 (fun n => ?_) (fun n => ?_)
    · have e : npt x y = (x.fdiv (-(Int.gcd x y : Int)), y.fdiv (-(Int.gcd x y : Int))) := by simp [npt, c, n]
      refine ⟨_, rfl, ⟨by omega, hb.neg⟩, ⟨by omega, hb.neg⟩, (by show 2 ≤ sizeLine; decide), fun p hp => q _ _ (same_new hp _) ⟨p, rfl, SqT.of ?_⟩⟩
      rw [upd_same, e]; rfl
    · have e : npt x y = (x.fdiv (Int.gcd x y : Int), y.fdiv (Int.gcd x y : Int)) := by simp [npt, c, n]
      refine ⟨_, rfl, ⟨hg, hb⟩, _, rfl, ⟨hg, hb⟩, (by show 2 ≤ sizeLine; decide), fun p hp => q _ _ (same_new hp _) ⟨p, rfl, SqT.of ?_⟩⟩
      rw [upd_same, e]; rfl
theorem sc_is_point : FnScope ["point"] ["point"] (defScope s_is_point) := ⟨rfl, rfl, rfl, by decide +kernel, rfl, by decide +kernel, by decide +kernel⟩
set_option maxHeartbeats 4000000 in
theorem cal_is_point (F : Def K mg "is_point" s_is_point ["point"]) (C_lowest_point : Cal P w K mg base 2 "lowest_point" ["top", "bottom"] (spLowP K)) : Cal P w K mg base 3 "is_point" ["point"] (spIsP K) := by
  refine F.cal (k := 2) sc_is_point (fun vs H Q E h => ?_) (fun f cdv A outer s H vs Q E hr h => ?_)
  · obtain ⟨v, x, y, rfl, hv, bx, by_, q⟩ := h
    rfl
  obtain ⟨v, x, y, rfl, hv, bx, by_, q⟩ := h
  have hu := hr.units
  have hu8 : (A.deeper (envOfC "is_point" (defScope s_is_point) s.heap.objs.size f cdv)).units + 80 < cLine := by have := hr.un; omega
  refine ⟨_, (pss_one (ps_ret (pe_cmpR (op_eqT hu) (pe_callC C_lowest_point hr (pa_cons (pe_ix ix_tupI (pv 0) pe_int (fun _ _ => rfl)) (pa_cons (pe_ix ix_tupI (pv 0) pe_int (fun _ _ => rfl)) pa_nil))) (pv 0) (nomark _)))), ?_⟩
  walk_at "rd"
  refine ⟨_, hv, _, at0 _ _, _, hv, _, at1 _ _ _, ?_⟩
  refine ⟨x, y, rfl, bx, by_, fun v H' g t => ?_⟩
  refine ⟨_, t, _, hv.mono g, ?_⟩
  have e : decide (pl (npt x y) = [x, y]) = decide (GoodP x y) := by
    rw [decide_eq_decide, ← npt_self_iff]
    unfold pl
    generalize npt x y = z
    obtain ⟨z1, z2⟩ := z
    simp
  simp only [Bool.false_eq_true, if_false, e]
  exact q H' g
theorem sc_read_point : FnScope ["text", "numbers", "point"] ["text"] (defScope s_read_point) := ⟨rfl, rfl, rfl, by decide +kernel, rfl, by decide +kernel, by decide +kernel⟩
set_option maxHeartbeats 4000000 in
theorem cal_read_point (F : Def K mg "read_point" s_read_point ["text"]) (C_read_number : Cal P w K mg base 3 "read_number" ["text"] (spReadN K)) (C_is_point : Cal P w K mg base 3 "is_point" ["point"] (spIsP K)) (B : Blt mg) {aF : Addr} (c_FAR : mg "FAR" = some (.ref aF) ∧ RelV (.ref aF) (Value.ref aF)) (kF : ∀ H, SqT K H aF [.int 1, .int 0]) {uN : Value} (c_FAR_NOTE : mg "FAR_NOTE" = some uN ∧ RelV (.str "far") uN) : Cal P w K mg base 4 "read_point" ["text"] (spReadP K) := by
  refine F.cal (k := 3) sc_read_point (fun vs H Q E h => ?_) (fun f cdv A outer s H vs Q E hr h => ?_)
  · obtain ⟨x, p, rfl, hxl, hrd, q⟩ := h
    rfl
  obtain ⟨x, p, rfl, hxl, hrd, q⟩ := h
  have hu := hr.units
  have hu8 : (A.deeper (envOfC "read_point" (defScope s_read_point) s.heap.objs.size f cdv)).units + 80 < cLine := by have := hr.un; omega
  refine ⟨_, (pss_cons (ps_if (pt_cmpR op_eq (pv 0) (pe_glob rfl c_FAR_NOTE.1 c_FAR_NOTE.2) (nomark _)) (pss_one (ps_ret (pe_glob rfl c_FAR.1 c_FAR.2))) pss_nil)
      (pss_cons (ps_setcomp [] (i := 1) (sc := defScope s_read_point) (cn := []) rfl ⟨rfl, by decide +kernel, rfl, by decide +kernel, by decide +kernel, by decide +kernel, by decide +kernel⟩ rfl rfl sc_read_point.nd rfl (Or.inl rfl) rfl (pi_list (pe_bm PySem.F.plainAttrs_str PySem.F.slot_str_split PySem.F.type_str_split mt_split (pv 0) (pa_cons pe_str pa_nil))) (fun _ _ _ _ _ => pq_nil) (fun _ _ _ _ _ => (pe_callC C_read_number hr (pa_cons (pv 0) pa_nil))))
      (pss_cons (ps_if (pt_cmpR op_eq (pe_callB call_len_seq rfl B.len bt_len (pa_cons (pv 1) pa_nil)) pe_int (nomark _)) (pss_one (ps_ret (pe_tup (pa_cons (pe_ix ix_lstI (pv 1) pe_int (fun _ _ => rfl)) (pa_cons pe_int pa_nil))))) pss_nil)
      (pss_cons (ps_set (i := 2) sc_read_point.nd rfl (Or.inl rfl) (pe_callTy call_tuple_of rfl B.tuple bt_tuple (pa_cons (pv 1) pa_nil)))
      (pss_cons (ps_if (PW.pt (pw_or (pt_cmpR op_ne (pe_callB call_len_seq rfl B.len bt_len (pa_cons (pv 2) pa_nil)) pe_int (nomark _)) (pw_or (pt_cmpR op_lt (pe_ix ix_tupI (pv 2) pe_int (fun _ _ => rfl)) pe_int (nomark _)) (pw_or1 (pt_not (pt_val (pe_callC C_is_point hr (pa_cons (pv 2) pa_nil)))))))) (pss_one ps_never) pss_nil)
      (pss_one (ps_ret (pv 2)))))))), ?_⟩
  have efar : ((("far" : Str)).cps.toList = FARL) := rfl
  by_cases h0 : x.cps.toList = FARL
  · refine seq_by (fun _ _ => False) (fun k hk => ?_) (fun _ _ h => h.elim)
    walk_at "rd"
    rw [if_pos (str_eq (h0.trans efar.symm))]
    unfold readP at hrd
    rw [if_pos h0] at hrd
    cases hrd
    exact q _ _ (Same.refl _) ⟨aF, rfl, kF _⟩
  apply seq_det
  · intro k hk; walk_at "rd"
    rw [if_neg (fun z => h0 (by rw [z]; exact efar))]
    exact hk

  have hle : (Txt.split x ⟨#[47]⟩).length ≤ x.length + 2 := split_le x _
  have hsl := split_list x 47
  have hsz : x.length + 2 ≤ sizeLine := Nat.le_trans (Nat.add_le_add_right hxl 2) (by decide)
  have parts : ∀ ns, (spl 47 x.cps.toList).mapM readN = some ns → ns.length = (Txt.split x ⟨#[47]⟩).length ∧ ∀ (i : Nat) (v : V), ((Txt.split x ⟨#[47]⟩).map V.str)[i]? = some v → ∃ y n, v = .str y ∧ ns[i]? = some n ∧ readN y.cps.toList = some n := fun ns hns => by
    rw [← hsl] at hns
    obtain ⟨h1, h2⟩ := mapM_at hns
    rw [List.length_map] at h1
    refine ⟨h1.symm, fun i v hv => ?_⟩
    obtain ⟨y, hy, rfl⟩ := map_at hv
    obtain ⟨n, hn, hr2⟩ := h2 i y.cps.toList (by rw [List.getElem?_map, hy]; rfl)
    exact ⟨y, n, rfl, hn, hr2⟩

  unfold readP at hrd
  rw [if_neg h0] at hrd
  obtain ⟨ns, hns⟩ : ∃ ns, (spl 47 x.cps.toList).mapM readN = some ns := by
    cases e : (spl 47 x.cps.toList).mapM readN with
    | none => rw [e] at hrd; cases hrd
    | some ns => exact ⟨ns, rfl⟩
  obtain ⟨hnl, hpart⟩ := parts ns hns
  rw [hns] at hrd
  refine seq_by (fun σ H1 => ∃ l, Same H H1 ∧ H1 l = some (.lst (ns.map V.int)) ∧ σ = [some (.str x), some (.ref l), none]) (fun k hk => ?_) ?_
  · walk_at "rd"
    refine comp_srcL (xs := (Txt.split x ⟨#[47]⟩).map V.str) (fun l H1 => Same H H1 ∧ SqL K H1 l ((Txt.split x ⟨#[47]⟩).map V.str)) (fun k hk => ?_) ?_
    · walk_at "rd"
      exact ⟨rfl, rfl, hsz, fun p hp => hk _ _ ⟨same_new hp _, SqL.of upd_same⟩⟩
    · rintro l H1 ⟨g1, hq⟩
      refine ⟨fun i acc H2 => Same H1 H2 ∧ acc = (ns.take i).map V.int, ⟨Same.refl _, rfl⟩, fun i acc H2 hi h => ?_, ?_, ?_⟩
      · obtain ⟨g2, rfl⟩ := h
        refine ⟨g2.seq hq, ?_⟩
        rw [List.length_map, List.length_take]
        omega
      · rintro i v acc H2 hv ⟨g2, rfl⟩ R hR
        obtain ⟨y, n, rfl, hn, hr2⟩ := hpart i v hv
        walk_at "rd"
        refine ⟨y, n, rfl, hr2, fun H3 g3 => hR _ _ ⟨g2.trans g3, ?_⟩⟩
        rw [List.take_add_one, hn, List.map_append]; rfl
      · rintro acc H2 p ⟨g2, rfl⟩ hp
        try walk_at "rd"
        rw [List.length_map, ← hnl, List.take_length]
        exact hk _ _ ⟨p, g1.trans (g2.trans (same_new hp _)), upd_same, rfl⟩
  rintro σ H1 ⟨l, g1, hl, rfl⟩
  have hql := SqL.of (K := K) hl
  have lt30 : ∀ (i : Nat) n, ns[i]? = some n → n.natAbs < 10 ^ 30 := fun i n hn => by
    obtain ⟨h1, h2⟩ := mapM_at hns
    have hi : i < (spl 47 x.cps.toList).length := by rw [h1]; exact (List.getElem?_eq_some_iff.mp hn).1
    obtain ⟨n', hn', hr'⟩ := h2 i _ (List.getElem?_eq_getElem hi)
    rw [hn] at hn'; cases hn'
    exact readN_lt hr'
  match ns, hrd, hl, hql, lt30 with
  | [], hrd, _, _, _ => cases hrd
  | [n], hrd, hl, hql, _ =>
    cases hrd
    refine seq_by (fun _ _ => False) (fun k hk => ?_) (fun _ _ h => h.elim)
    walk_at "rd"
    refine ⟨_, .inl hql, ?_⟩
    rw [if_pos (show (([n].map V.int).length : Int) = 1 from rfl)]
    refine ⟨[n], ⟨l, rfl, hql⟩, _, at0 _ _, (by show 2 ≤ sizeLine; decide), fun a ha => ?_⟩
    exact q _ _ (g1.trans (same_new ha _)) ⟨a, rfl, SqT.of upd_same⟩
  | [n, m], hrd, hl, hql, lt30 =>
    simp only at hrd
    split at hrd
    case isFalse => cases hrd
    rename_i hg
    cases hrd
    apply seq_det
    · intro k hk; walk_at "rd"
      refine ⟨_, .inl hql, ?_⟩
      rw [if_neg (by simp)]
      exact hk
    refine seq_by (fun σ H2 => ∃ a, Same H1 H2 ∧ SqT K H2 a [.int n, .int m] ∧ σ = [some (.str x), some (.ref l), some (.ref a)]) (fun k hk => ?_) ?_
    · walk_at "rd"
      exact ⟨_, .inl ⟨hql, fun a ha => hk _ _ ⟨a, same_new ha _, SqT.of upd_same, rfl⟩⟩⟩
    rintro σ H2 ⟨a, g2, ha, rfl⟩
    have ta : Tp K H2 (.ref a) [n, m] := ⟨a, rfl, ha⟩
    refine seq_by (fun σ H3 => Same H2 H3 ∧ σ = [some (.str x), some (.ref l), some (.ref a)]) (fun k hk => ?_) ?_
    · walk_at "rd"
      refine ⟨_, .inr ha, ?_⟩
      rw [if_neg (by simp)]
      refine ⟨_, ta, _, at1 _ _ _, ?_⟩
      rw [if_neg (by omega)]
      refine ⟨.ref a, n, m, rfl, ta, (bd30 (lt30 0 n rfl)).mono (by decide), (bd30 (lt30 1 m rfl)).mono (by decide), fun H3 g3 => ?_⟩
      rw [decide_eq_true hg.2]
      walk_at "rd"
      exact hk _ _ ⟨g3, rfl⟩
    rintro σ H3 ⟨g3, rfl⟩
    walk_at "rd"
    exact q _ _ (g1.trans (g2.trans g3)) (ta.mono g3)
  | _ :: _ :: _ :: _, hrd, _, _, _ => cases hrd
set_option maxHeartbeats 4000000 in
theorem calx_read_number (F : Def K mg "read_number" s_read_number ["text"]) (C_read_number : Cal P w K mg base 1 "read_number" ["text"] (spReadN K)) (B : Blt mg) (cls : ClsOk K mg nc nn np nth nt le) {uG : Value} (c_FIGURES : mg "FIGURES" = some uG ∧ RelV (.str "0123456789") uG) {uX : Value} (c_MOST_FIGURES : mg "MOST_FIGURES" = some uX ∧ RelV (.int 30) uX) : CalX P w K mg base 2 "read_number" ["text"] (fun vs H Q E => (spReadN K) vs H Q E ∨ (spReadNX nn) vs H Q E) := by
  refine CalX.or (CalX.of (C_read_number.mono (by decide))) ?_
  refine F.calX (k := 1) sc_read_number (fun vs H Q E h => ?_) (fun f cdv A outer s H vs Q E hr h => ?_)
  · obtain ⟨x, rfl, ha, hxl, hrd, q⟩ := h
    rfl
  obtain ⟨x, rfl, ha, hxl, hrd, q⟩ := h
  have hu := hr.units
  have hu8 : (A.deeper (envOfC "read_number" (defScope s_read_number) s.heap.objs.size f cdv)).units + 80 < cLine := by have := hr.un; omega
  refine ⟨_, (pss_cons (ps_set (i := 1) sc_read_number.nd rfl (Or.inl rfl) (pe_ifExp (pt_val (pe_bm PySem.F.plainAttrs_str PySem.F.slot_str_startswith PySem.F.type_str_startswith mt_startswith (pv 0) (pa_cons pe_str pa_nil))) (pe_slice sl_str (pv 0) (po_some pe_int) po_none) (pv 0)))
      (pss_cons (ps_if (PW.pt (pw_or (pt_cmpR op_lt (pe_callB call_len_str rfl B.len bt_len (pa_cons (pv 1) pa_nil)) pe_int (nomark _)) (pw_or1 (pt_cmpR op_gt (pe_callB call_len_str rfl B.len bt_len (pa_cons (pv 1) pa_nil)) (pe_glob rfl c_MOST_FIGURES.1 c_MOST_FIGURES.2) (nomark _))))) (pss_one (ps_raise rfl made_ok (cls.own cls.b_NoNote (j := 1) rfl) rfl (pa_cons pe_str pa_nil))) pss_nil)
      (pss_cons (ps_if (pt_not (pt_val (pe_callB (call_allB rfl) rfl B.all bt_all (pa_cons (pe_comp [] (sc := defScope s_read_number) (cn := []) rfl ⟨rfl, by decide +kernel, rfl, by decide +kernel, by decide +kernel, by decide +kernel, by decide +kernel⟩ rfl rfl (pi_str (pv 1)) (fun _ _ _ _ _ => pq_nil) (fun _ _ _ _ _ => (pe_cmpR op_in_str (pv 0) (pe_glob rfl c_FIGURES.1 c_FIGURES.2) rfl))) pa_nil)))) (pss_one (ps_raise rfl made_ok (cls.own cls.b_NoNote (j := 1) rfl) rfl (pa_cons pe_str pa_nil))) pss_nil)
      (pss_cons (ps_set (i := 2) sc_read_number.nd rfl (Or.inl rfl) (pe_callTy call_intS rfl B.int bt_int (pa_cons (pv 0) pa_nil)))
      (pss_cons (ps_if (pt_cmpR op_ne (pe_callTy call_str_int rfl B.str bt_str (pa_cons (pv 2) pa_nil)) (pv 0) (nomark _)) (pss_one (ps_raise rfl made_ok (cls.own cls.b_NoNote (j := 1) rfl) rfl (pa_cons pe_str pa_nil))) pss_nil)
      (pss_one (ps_ret (pv 2)))))))), ?_⟩
  have hxs : x.length ≤ sizeLine := Nat.le_trans hxl (by decide)
  refine seq_by (fun σ H1 => ∃ z : Str, H1 = H ∧ z.cps.toList = figs x.cps.toList ∧ σ = [some (.str x), some (.str z), none]) (fun k hk => ?_) ?_
  · walk_at "rd"
    refine ⟨rfl, ?_⟩
    rw [starts_dash]
    by_cases hs : x.cps.toList.head? = some 45
    · rw [decide_eq_true hs]
      walk_at "rd"
      refine ⟨hxs, hk _ _ ⟨_, rfl, ?_, rfl⟩⟩
      rw [slice_tail (fun e => by rw [e] at hs; simp at hs)]
      unfold figs; rw [if_pos hs]
    · rw [decide_eq_false hs]
      walk_at "rd"
      exact hk _ _ ⟨x, rfl, (figs_pos hs).symm, rfl⟩
  rintro σ H1 ⟨z, rfl, hz, rfl⟩
  have hzl : z.length = (figs x.cps.toList).length := by rw [Tx.len_list, hz]
  have hfl : (figs x.cps.toList).length ≤ x.length := by
    rw [Tx.len_list]; unfold figs; split
    · rw [List.length_tail]; omega
    · exact Nat.le_refl _
  have hzs : z.length ≤ sizeLine := by rw [hzl]; exact Nat.le_trans hfl hxs
  have az : Asc z := fun c hc => by
    rw [hz] at hc
    unfold figs at hc
    split at hc
    · exact ha c (List.mem_of_mem_tail hc)
    · exact ha c hc
  by_cases hL : 1 ≤ z.length ∧ z.length ≤ 30
  case neg =>
    refine seq_by (fun _ _ => False) (fun k hk => ?_) (fun _ _ h => h.elim)
    walk_at "rd"
    refine ⟨hzs, ?_⟩
    by_cases h1 : (z.length : Int) < 1
    · rw [if_pos h1]
      exact q _ (Same.refl _)
    · rw [if_neg h1]
      refine ⟨hzs, ?_⟩
      rw [if_pos (by omega)]
      exact q _ (Same.refl _)
  apply seq_det
  · intro k hk; walk_at "rd"
    refine ⟨hzs, ?_⟩
    rw [if_neg (by omega)]
    refine ⟨hzs, ?_⟩
    rw [if_neg (by omega)]
    exact hk
  refine seq_by (fun σ H2 => (Same H1 H2 ∧ z.cps.toList.all dig = true) ∧ σ = [some (.str x), some (.str z), none]) (fun k hk => ?_) ?_
  · walk_at "rd"
    refine tcompS rfl az.all (fun i acc H2 => acc = ((z.cps.toList.take i).map dig).map V.bl ∧ H2 = H1) ⟨rfl, rfl⟩ (fun i acc H2 hi h => ?_) ?_ ?_
    · obtain ⟨rfl, rfl⟩ := h
      rw [List.length_map, List.length_map, List.length_take]
      exact Nat.le_trans (Nat.min_le_left _ _) (Nat.le_trans hi hzs)
    · rintro i c acc H2 hx ⟨rfl, rfl⟩ R hR
      rw [← Array.getElem?_toList] at hx
      have hc := az c (List.mem_of_getElem? hx)
      walk_at "rd"
      have e := in_figs c hc
      refine hR _ _ ⟨?_, rfl⟩
      have e' : (!(Builtin.Str.occurrences ("0123456789" : Str) ⟨#[c]⟩ 0 ("0123456789" : Str).length 1).isEmpty) = dig c := e
      rw [e', List.take_add_one, hx, List.map_append, List.map_append]; rfl
    · rintro acc H2 p ⟨rfl, rfl⟩ hp
      try walk_at "rd"
      refine ⟨_, SqL.of upd_same, ?_⟩
      have e2 : (List.map dig (List.take z.length z.cps.toList)).all id = z.cps.toList.all dig := by
        rw [Tx.len_list, List.take_length, List.all_map]; rfl
      rw [e2]
      cases hd : z.cps.toList.all dig with
      | true =>
        try walk_at "rd"
        exact hk _ _ ⟨⟨same_new hp _, hd⟩, rfl⟩
      | false =>
        try walk_at "rd"
        exact q _ (same_new hp _)
  rintro σ H2 ⟨⟨g2, hd⟩, rfl⟩
  have ho : okN x.cps.toList := by
    rw [hz] at hd
    exact ⟨by omega, by omega, hd⟩
  have hc : ¬ canN x.cps.toList := fun hc => by
    unfold readN at hrd
    rw [if_pos ⟨ho, hc⟩] at hrd; cases hrd
  obtain ⟨hi1, hi2⟩ := int_of ho
  apply seq_det
  · intro k hk; walk_at "rd"
    exact ⟨_, hi1, hi2, hk⟩
  have hb : Bd 1900 (valN x.cps.toList) := (bd30 (val_lt ho)).mono (by decide)
  refine seq_by (fun _ _ => False) (fun k hk => ?_) (fun _ _ h => h.elim)
  walk_at "rd"
  refine ⟨Bd.log hb, ?_⟩
  have e : T (valN x.cps.toList) ≠ x := fun z => hc ((tx_val_iff ho).mp (by rw [← T_list, z]))
  rw [if_pos (show ¬ (Str.ofString (toString (valN x.cps.toList)) = x) from e)]
  exact q _ g2
set_option maxHeartbeats 4000000 in
theorem calx_read_point (F : Def K mg "read_point" s_read_point ["text"]) (C_read_point : Cal P w K mg base 4 "read_point" ["text"] (spReadP K)) (X_read_number : CalX P w K mg base 4 "read_number" ["text"] (fun vs H Q E => (spReadN K) vs H Q E ∨ (spReadNX nn) vs H Q E)) (C_is_point : Cal P w K mg base 4 "is_point" ["point"] (spIsP K)) (B : Blt mg) (cls : ClsOk K mg nc nn np nth nt le) {aF : Addr} (c_FAR : mg "FAR" = some (.ref aF) ∧ RelV (.ref aF) (Value.ref aF)) (kF : ∀ H, SqT K H aF [.int 1, .int 0]) {uN : Value} (c_FAR_NOTE : mg "FAR_NOTE" = some uN ∧ RelV (.str "far") uN) : CalX P w K mg base 5 "read_point" ["text"] (fun vs H Q E => (spReadP K) vs H Q E ∨ (spReadPX nn) vs H Q E) := by
  refine CalX.or (CalX.of (C_read_point.mono (by decide))) ?_
  refine F.calX (k := 4) sc_read_point (fun vs H Q E h => ?_) (fun f cdv A outer s H vs Q E hr h => ?_)
  · obtain ⟨x, rfl, ha, hxl, hrd, q⟩ := h
    rfl
  obtain ⟨x, rfl, ha, hxl, hrd, q⟩ := h
  have hu := hr.units
  have hu8 : (A.deeper (envOfC "read_point" (defScope s_read_point) s.heap.objs.size f cdv)).units + 80 < cLine := by have := hr.un; omega
  refine ⟨_, (pss_cons (ps_if (pt_cmpR op_eq (pv 0) (pe_glob rfl c_FAR_NOTE.1 c_FAR_NOTE.2) (nomark _)) (pss_one (ps_ret (pe_glob rfl c_FAR.1 c_FAR.2))) pss_nil)
      (pss_cons (ps_setcompX [] (i := 1) (sc := defScope s_read_point) (cn := []) rfl rfl ⟨rfl, by decide +kernel, rfl, by decide +kernel, by decide +kernel, by decide +kernel, by decide +kernel⟩ rfl rfl sc_read_point.nd rfl (Or.inl rfl) rfl (pi_list (pe_bm PySem.F.plainAttrs_str PySem.F.slot_str_split PySem.F.type_str_split mt_split (pv 0) (pa_cons pe_str pa_nil))) (fun _ _ _ _ _ _ => pq_nil) (fun _ _ _ _ _ _ hp => (pe_callX X_read_number hr hp (pa_cons (pv 0) pa_nil))))
      (pss_cons (ps_if (pt_cmpR op_eq (pe_callB call_len_seq rfl B.len bt_len (pa_cons (pv 1) pa_nil)) pe_int (nomark _)) (pss_one (ps_ret (pe_tup (pa_cons (pe_ix ix_lstI (pv 1) pe_int (fun _ _ => rfl)) (pa_cons pe_int pa_nil))))) pss_nil)
      (pss_cons (ps_set (i := 2) sc_read_point.nd rfl (Or.inl rfl) (pe_callTy call_tuple_of rfl B.tuple bt_tuple (pa_cons (pv 1) pa_nil)))
      (pss_cons (ps_if (PW.pt (pw_or (pt_cmpR op_ne (pe_callB call_len_seq rfl B.len bt_len (pa_cons (pv 2) pa_nil)) pe_int (nomark _)) (pw_or (pt_cmpR op_lt (pe_ix ix_tupI (pv 2) pe_int (fun _ _ => rfl)) pe_int (nomark _)) (pw_or1 (pt_not (pt_val (pe_callC C_is_point hr (pa_cons (pv 2) pa_nil)))))))) (pss_one (ps_raise rfl made_ok (cls.own cls.b_NoNote (j := 1) rfl) rfl (pa_cons pe_str pa_nil))) pss_nil)
      (pss_one (ps_ret (pv 2)))))))), ?_⟩
  have efar : ((("far" : Str)).cps.toList = FARL) := rfl
  have h0 : x.cps.toList ≠ FARL := fun e => by unfold readP at hrd; rw [if_pos e] at hrd; cases hrd
  apply seq_det
  · intro k hk; walk_at "rd"
    rw [if_neg (fun z => h0 (by rw [z]; exact efar))]
    exact hk
  unfold readP at hrd
  rw [if_neg h0] at hrd

  have hle : (Txt.split x ⟨#[47]⟩).length ≤ x.length + 2 := split_le x _
  have hsl := split_list x 47
  have hsz : x.length + 2 ≤ sizeLine := Nat.le_trans (Nat.add_le_add_right hxl 2) (by decide)

  refine seq_by (fun σ H1 => ∃ l, ∃ ns : List Int, (Same H H1 ∧ (spl 47 x.cps.toList).mapM readN = some ns) ∧ H1 l = some (.lst (ns.map V.int)) ∧ σ = [some (.str x), some (.ref l), none]) (fun k hk => ?_) ?_
  · walk_at "rd"

    refine comp_srcL (xs := (Txt.split x ⟨#[47]⟩).map V.str) (fun l H1 => Same H H1 ∧ SqL K H1 l ((Txt.split x ⟨#[47]⟩).map V.str)) (fun k hk => ?_) ?_
    · walk_at "rd"
      exact ⟨rfl, rfl, hsz, fun p hp => hk _ _ ⟨same_new hp _, SqL.of upd_same⟩⟩
    · rintro l H1 ⟨g1, hq⟩
      refine ⟨fun i acc H2 => ∃ ns : List Int, Same H1 H2 ∧ acc = ns.map V.int ∧ (((Txt.split x ⟨#[47]⟩).map (·.cps.toList)).take i).mapM readN = some ns, ⟨[], Same.refl _, rfl, rfl⟩, fun i acc H2 hi h => ?_, ?_, ?_⟩
      · obtain ⟨ns, g2, rfl, hm⟩ := h
        refine ⟨g2.seq hq, ?_⟩
        have e1 := (mapM_at hm).1
        rw [List.length_take, List.length_map] at e1
        rw [List.length_map] at hi
        rw [List.length_map]
        omega
      · rintro i v acc H2 hv ⟨ns, g2, rfl, hm⟩ R hR
        obtain ⟨y, hy, rfl⟩ := map_at hv
        have ym := List.mem_of_getElem? hy
        walk_at "rd"
        cases e : readN y.cps.toList with
        | none => exact .inr ⟨y, rfl, asc_sub ha ym, Nat.le_trans (len_sub ym) hxl, e, fun H3 g3 => q _ (g1.trans (g2.trans g3))⟩
        | some n =>
          refine .inl ⟨y, n, rfl, e, fun H3 g3 => hR _ _ ⟨ns ++ [n], g2.trans g3, by simp, ?_⟩⟩
          rw [List.take_add_one, List.getElem?_map, hy]
          exact mapM_snoc hm e
      · rintro acc H2 p ⟨ns, g2, rfl, hm⟩ hp
        try walk_at "rd"
        rw [List.length_map, List.take_of_length_le (by rw [List.length_map]; exact Nat.le_refl _), hsl] at hm

        exact hk _ _ ⟨p, ns, ⟨g1.trans (g2.trans (same_new hp _)), hm⟩, upd_same, rfl⟩
  rintro σ H1 ⟨l, ns, ⟨g1, hns⟩, hl, rfl⟩
  have hql := SqL.of (K := K) hl

  have lt30 : ∀ (i : Nat) n, ns[i]? = some n → n.natAbs < 10 ^ 30 := fun i n hn => by
    obtain ⟨h1, h2⟩ := mapM_at hns
    have hi : i < (spl 47 x.cps.toList).length := by rw [h1]; exact (List.getElem?_eq_some_iff.mp hn).1
    obtain ⟨n', hn', hr'⟩ := h2 i _ (List.getElem?_eq_getElem hi)
    rw [hn] at hn'; cases hn'
    exact readN_lt hr'

  rw [hns] at hrd
  by_cases h1 : ns.length = 1
  · obtain ⟨n, rfl⟩ := List.length_eq_one_iff.mp h1
    cases hrd
  apply seq_det
  · intro k hk; walk_at "rd"
    refine ⟨_, .inl hql, ?_⟩
    rw [if_neg (by rw [List.length_map]; omega)]
    exact hk
  refine seq_by (fun σ H2 => ∃ a, Same H1 H2 ∧ SqT K H2 a (ns.map V.int) ∧ σ = [some (.str x), some (.ref l), some (.ref a)]) (fun k hk => ?_) ?_
  · walk_at "rd"
    exact ⟨_, .inl ⟨hql, fun a ha => hk _ _ ⟨a, same_new ha _, SqT.of upd_same, rfl⟩⟩⟩
  rintro σ H2 ⟨a, g2, hta, rfl⟩
  have ta : Tp K H2 (.ref a) ns := ⟨a, rfl, hta⟩
  refine seq_by (fun _ _ => False) (fun k hk => ?_) (fun _ _ h => h.elim)
  walk_at "rd"
  refine ⟨_, .inr hta, ?_⟩
  by_cases h2 : ns.length = 2
  · match ns, h2, hrd, hta, ta, lt30 with
    | [n, m], _, hrd, hta, ta, lt30 =>
    rw [if_neg (by simp)]
    refine ⟨_, ta, _, at1 _ _ _, ?_⟩
    by_cases hm : m < 2
    · rw [if_pos hm]
      exact q _ (g1.trans g2)
    · rw [if_neg hm]
      refine ⟨.ref a, n, m, rfl, ta, (bd30 (lt30 0 n rfl)).mono (by decide), (bd30 (lt30 1 m rfl)).mono (by decide), fun H3 g3 => ?_⟩
      have hg : ¬ GoodP n m := fun hg => by
        simp only at hrd
        rw [if_pos ⟨by omega, hg⟩] at hrd; cases hrd
      rw [decide_eq_false hg]
      walk_at "rd"
      exact q _ (g1.trans (g2.trans g3))
  · rw [if_pos (by rw [List.length_map]; omega)]
    exact q _ (g1.trans g2)
theorem sc_lowest_change : FnScope ["numbers", "divisor", "number", "first"] ["numbers"] (defScope s_lowest_change) := ⟨rfl, rfl, rfl, by decide +kernel, rfl, by decide +kernel, by decide +kernel⟩
set_option maxHeartbeats 4000000 in
theorem cal_lowest_change (F : Def K mg "lowest_change" s_lowest_change ["numbers"]) (C_common_divisor : Cal P w K mg base 1 "common_divisor" ["one", "other"] spGcd) (B : Blt mg) : Cal P w K mg base 2 "lowest_change" ["numbers"] (spLowC K) := by
  refine F.cal (k := 1) sc_lowest_change (fun vs H Q E h => ?_) (fun f cdv A outer s H vs Q E hr h => ?_)
  · obtain ⟨v, m, rfl, ⟨a, rfl, hq⟩, hd, hb, q⟩ := h
    rfl
  obtain ⟨v, m, rfl, ⟨a, rfl, hq⟩, hd, hb, q⟩ := h
  have hu := hr.units
  have hu8 : (A.deeper (envOfC "lowest_change" (defScope s_lowest_change) s.heap.objs.size f cdv)).units + 80 < cLine := by have := hr.un; omega
  refine ⟨_, (pss_cons (ps_set (i := 1) sc_lowest_change.nd rfl (Or.inr rfl) pe_int)
      (pss_cons (ps_for PassesOwn.never rfl (pi_tup (pv 0)) (pg_name (i := 2) sc_lowest_change.nd rfl (Or.inl rfl)) (pss_one (ps_set (i := 1) sc_lowest_change.nd rfl (Or.inr rfl) (pe_callC C_common_divisor hr (pa_cons (pv 1) (pa_cons (pv 2) pa_nil))))))
      (pss_cons (ps_set (i := 3) sc_lowest_change.nd rfl (Or.inl rfl) (pe_ifExp (pt_cmpR op_ne (pe_ix ix_tupI (pv 0) pe_int (fun _ _ => rfl)) pe_int (nomark _)) (pe_ix ix_tupI (pv 0) pe_int (fun _ _ => rfl)) (pe_ix ix_tupI (pv 0) pe_int (fun _ _ => rfl))))
      (pss_cons (ps_if (pt_cmpR op_lt (pv 3) pe_int (nomark _)) (pss_one (ps_set (i := 1) sc_lowest_change.nd rfl (Or.inr rfl) (pe_un un_neg (pv 1)))) pss_nil)
      (pss_one (ps_ret (pe_callTy call_tuple_of rfl B.tuple bt_tuple (pa_cons (pe_comp [1] (sc := defScope s_lowest_change) (cn := ["divisor"]) rfl ⟨rfl, by decide +kernel, rfl, by decide +kernel, by decide +kernel, by decide +kernel, by decide +kernel⟩ rfl rfl (pi_tup (pv 0)) (fun _ _ _ _ _ => pq_nil) (fun _ _ _ _ _ => (pe_op op_fdivB (pv 0) (pv 1)))) pa_nil)))))))), ?_⟩
  have hv : Tp K H (.ref a) (cl m) := ⟨a, rfl, hq⟩
  obtain ⟨g, hge⟩ : ∃ g, g = if (if m.a ≠ 0 then m.a else m.b) < 0 then -(g4 m) else g4 m := ⟨_, rfl⟩
  have hg : g ≠ 0 := by have := g4_ne hd; rw [hge]; split <;> omega
  have hbg : Bd 8000 g := by
    have h : Bd 8000 (g4 m) := (hb.gcd).mono (by decide)
    rw [hge]
    by_cases c : (if m.a ≠ 0 then m.a else m.b) < 0
    · rw [if_pos c]; exact h.neg
    · rw [if_neg c]; exact h
  have hf : cl (nch m) = (cl m).map (fun n => n.fdiv g) := by rw [hge]; rfl
  apply seq_det
  · intro k hk; walk_at "rd"; exact hk
  refine seq_by (fun σ H' => ∃ r : Option V, σ = [some (.ref a), some (.int (g4 m)), r, none] ∧ H' = H) (fun k hk => ?_) ?_
  · refine ⟨_, rfl, a, rfl, ⟨_, hq⟩, forT (xs := (cl m).map V.int) (fun i σ H' => ∃ (r : Option V), σ = [some (.ref a), some (.int (gI ((cl m).take i))), r, none] ∧ H' = H) ⟨_, rfl, rfl⟩ (fun i σ H' _ h => ?_) ?_ ?_⟩
    · obtain ⟨r, rfl, rfl⟩ := h
      exact hq
    · rintro Pv' hP i x σ H' hx ⟨r, rfl, rfl⟩
      obtain ⟨n, hn, rfl⟩ := map_at hx
      walk_at "rd"
      refine ⟨_, _, rfl, hP _ _ _ ⟨some (.int n), ?_, rfl⟩⟩
      rw [gI_step hn]
    · rintro σ H' ⟨r, rfl, rfl⟩
      exact hk _ _ ⟨r, rfl, rfl⟩
  rintro σ H' ⟨r, rfl, rfl⟩
  refine seq_det (σ1 := [some (.ref a), some (.int (g4 m)), r, some (.int (if m.a ≠ 0 then m.a else m.b))]) (H1 := H') (fun k hk => ?_) ?_
  · walk_at "rd"
    refine ⟨_, hv, _, at0 _ _, ?_⟩
    refine ite2 (fun c => ?_) (fun c => ?_)
    · refine ⟨_, hv, _, at0 _ _, ?_⟩
      rw [if_pos (by simpa using c)] at hk; exact hk
    · refine ⟨_, hv, _, at1 _ _ _, ?_⟩
      rw [if_neg (by simpa using c)] at hk; exact hk
  refine seq_det (σ1 := [some (.ref a), some (.int g), r, some (.int (if m.a ≠ 0 then m.a else m.b))]) (H1 := H') (fun k hk => ?_) ?_
  · walk_at "rd"
    refine ite2 (fun c => ?_) (fun c => ?_)
    · rw [hge, if_pos c] at hk; exact hk
    · rw [hge, if_neg c] at hk; exact hk

  walk_at "rd"
  refine tcompT rfl hq (fun i acc H'' => acc = ((cl m).take i).map (fun n => V.int (n.fdiv g)) ∧ H'' = H') ⟨rfl, rfl⟩ (fun i acc H'' hi h => ?_) ?_ ?_
  · obtain ⟨rfl, rfl⟩ := h
    refine ⟨hq, ?_⟩
    rw [List.length_map, List.length_take]
    exact Nat.le_trans (Nat.min_le_right _ _) (by show 4 ≤ sizeLine; decide)
  · rintro i x acc H'' hx ⟨rfl, rfl⟩ R hR
    obtain ⟨n, hn, rfl⟩ := map_at hx
    simp only [capσ]
    walk_at "rd"
    refine ⟨⟨hg, hbg⟩, hR _ _ ⟨?_, rfl⟩⟩
    rw [List.take_add_one, hn]
    simp
  · rintro acc H'' p ⟨rfl, rfl⟩ hp
    walk_at "rd"
    refine ⟨_, .inl ⟨SqL.of upd_same, fun l hl => q _ _ (Same.trans (same_new hp _) (same_new hl _)) ⟨l, rfl, SqT.of ?_⟩⟩⟩
    rw [upd_same, hf, List.map_map]; rfl
theorem sc_is_change : FnScope ["change"] ["change"] (defScope s_is_change) := ⟨rfl, rfl, rfl, by decide +kernel, rfl, by decide +kernel, by decide +kernel⟩
set_option maxHeartbeats 4000000 in
theorem cal_is_change (F : Def K mg "is_change" s_is_change ["change"]) (C_lowest_change : Cal P w K mg base 2 "lowest_change" ["numbers"] (spLowC K)) : Cal P w K mg base 3 "is_change" ["change"] (spIsC K) := by
  refine F.cal (k := 2) sc_is_change (fun vs H Q E h => ?_) (fun f cdv A outer s H vs Q E hr h => ?_)
  · obtain ⟨v, m, rfl, hv, hb, q⟩ := h
    rfl
  obtain ⟨v, m, rfl, hv, hb, q⟩ := h
  have hu := hr.units
  have hu8 : (A.deeper (envOfC "is_change" (defScope s_is_change) s.heap.objs.size f cdv)).units + 80 < cLine := by have := hr.un; omega
  refine ⟨_, (pss_cons (ps_if (pt_cmpR op_eq (pe_op op_mulB (pe_ix ix_tupI (pv 0) pe_int (fun _ _ => rfl)) (pe_ix ix_tupI (pv 0) pe_int (fun _ _ => rfl))) (pe_op op_mulB (pe_ix ix_tupI (pv 0) pe_int (fun _ _ => rfl)) (pe_ix ix_tupI (pv 0) pe_int (fun _ _ => rfl))) (nomark _)) (pss_one (ps_ret pe_bl)) pss_nil)
      (pss_one (ps_ret (pe_cmpR (op_eqT hu) (pe_callC C_lowest_change hr (pa_cons (pv 0) pa_nil)) (pv 0) (nomark _))))), ?_⟩
  obtain ⟨b1, b2, b3, b4⟩ := id hb
  walk_at "rd"
  refine ⟨_, hv, _, at0 _ _, _, hv, _, at3 _ _ _ _ _, ⟨b1.mono (by decide), b4.mono (by decide)⟩, _, hv, _, at1 _ _ _, _, hv, _, at2 _ _ _ _, ⟨b2.mono (by decide), b3.mono (by decide)⟩, ?_⟩
  refine ite2 (fun c => ?_) (fun c => ?_)
  · have e : decide (GoodC m) = false := decide_eq_false fun h => h.1 c
    rw [e] at q
    exact q H (Same.refl H)
  · have hd : m.det ≠ 0 := by unfold Ch.det; omega
    refine ⟨v, m, rfl, hv, hd, hb, fun v' H' g t => ⟨_, t, _, hv.mono g, ?_⟩⟩
    have e : decide (cl (nch m) = cl m) = decide (GoodC m) := by
      rw [decide_eq_decide, ← nch_self_iff hd]
      exact cl_inj
    have h := q H' g
    rw [← e] at h
    exact h
theorem sc_read_change : FnScope ["text", "change"] ["text"] (defScope s_read_change) := ⟨rfl, rfl, rfl, by decide +kernel, rfl, by decide +kernel, by decide +kernel⟩
set_option maxHeartbeats 4000000 in
theorem cal_read_change (F : Def K mg "read_change" s_read_change ["text"]) (C_read_number : Cal P w K mg base 3 "read_number" ["text"] (spReadN K)) (C_is_change : Cal P w K mg base 3 "is_change" ["change"] (spIsC K)) (B : Blt mg) : Cal P w K mg base 4 "read_change" ["text"] (spReadC K) := by
  refine F.cal (k := 3) sc_read_change (fun vs H Q E h => ?_) (fun f cdv A outer s H vs Q E hr h => ?_)
  · obtain ⟨x, m, rfl, hxl, hrd, q⟩ := h
    rfl
  obtain ⟨x, m, rfl, hxl, hrd, q⟩ := h
  have hu := hr.units
  have hu8 : (A.deeper (envOfC "read_change" (defScope s_read_change) s.heap.objs.size f cdv)).units + 80 < cLine := by have := hr.un; omega
  refine ⟨_, (pss_cons (ps_set (i := 1) sc_read_change.nd rfl (Or.inl rfl) (pe_callTy call_tuple_of rfl B.tuple bt_tuple (pa_cons (pe_comp [] (sc := defScope s_read_change) (cn := []) rfl ⟨rfl, by decide +kernel, rfl, by decide +kernel, by decide +kernel, by decide +kernel, by decide +kernel⟩ rfl rfl (pi_list (pe_bm PySem.F.plainAttrs_str PySem.F.slot_str_split PySem.F.type_str_split mt_split (pv 0) (pa_cons pe_str pa_nil))) (fun _ _ _ _ _ => pq_nil) (fun _ _ _ _ _ => (pe_callC C_read_number hr (pa_cons (pv 0) pa_nil)))) pa_nil)))
      (pss_cons (ps_if (PW.pt (pw_or (pt_cmpR op_ne (pe_callB call_len_seq rfl B.len bt_len (pa_cons (pv 1) pa_nil)) pe_int (nomark _)) (pw_or1 (pt_not (pt_val (pe_callC C_is_change hr (pa_cons (pv 1) pa_nil))))))) (pss_one ps_never) pss_nil)
      (pss_one (ps_ret (pv 1))))), ?_⟩
  have hle : (Txt.split x ⟨#[32]⟩).length ≤ x.length + 2 := split_le x _
  have hsl := split_list x 32
  have hsz : x.length + 2 ≤ sizeLine := Nat.le_trans (Nat.add_le_add_right hxl 2) (by decide)
  have parts : ∀ ns, (spl 32 x.cps.toList).mapM readN = some ns → ns.length = (Txt.split x ⟨#[32]⟩).length ∧ ∀ (i : Nat) (v : V), ((Txt.split x ⟨#[32]⟩).map V.str)[i]? = some v → ∃ y n, v = .str y ∧ ns[i]? = some n ∧ readN y.cps.toList = some n := fun ns hns => by
    rw [← hsl] at hns
    obtain ⟨h1, h2⟩ := mapM_at hns
    rw [List.length_map] at h1
    refine ⟨h1.symm, fun i v hv => ?_⟩
    obtain ⟨y, hy, rfl⟩ := map_at hv
    obtain ⟨n, hn, hr2⟩ := h2 i y.cps.toList (by rw [List.getElem?_map, hy]; rfl)
    exact ⟨y, n, rfl, hn, hr2⟩

  unfold readC at hrd
  obtain ⟨ns, hns⟩ : ∃ ns, (spl 32 x.cps.toList).mapM readN = some ns := by
    cases e : (spl 32 x.cps.toList).mapM readN with
    | none => rw [e] at hrd; cases hrd
    | some ns => exact ⟨ns, rfl⟩
  obtain ⟨hnl, hpart⟩ := parts ns hns
  rw [hns] at hrd
  refine seq_by (fun σ H1 => ∃ a, Same H H1 ∧ SqT K H1 a (ns.map V.int) ∧ σ = [some (.str x), some (.ref a)]) (fun k hk => ?_) ?_
  · walk_at "rd"
    refine comp_srcL (xs := (Txt.split x ⟨#[32]⟩).map V.str) (fun l H1 => Same H H1 ∧ SqL K H1 l ((Txt.split x ⟨#[32]⟩).map V.str)) (fun k hk => ?_) ?_
    · walk_at "rd"
      exact ⟨rfl, rfl, hsz, fun p hp => hk _ _ ⟨same_new hp _, SqL.of upd_same⟩⟩
    · rintro l H1 ⟨g1, hq⟩
      refine ⟨fun i acc H2 => Same H1 H2 ∧ acc = (ns.take i).map V.int, ⟨Same.refl _, rfl⟩, fun i acc H2 hi h => ?_, ?_, ?_⟩
      · obtain ⟨g2, rfl⟩ := h
        refine ⟨g2.seq hq, ?_⟩
        rw [List.length_map, List.length_take]
        omega
      · rintro i v acc H2 hv ⟨g2, rfl⟩ R hR
        obtain ⟨y, n, rfl, hn, hr2⟩ := hpart i v hv
        walk_at "rd"
        refine ⟨y, n, rfl, hr2, fun H3 g3 => hR _ _ ⟨g2.trans g3, ?_⟩⟩
        rw [List.take_add_one, hn, List.map_append]; rfl
      · rintro acc H2 p ⟨g2, rfl⟩ hp
        try walk_at "rd"
        rw [List.length_map, ← hnl, List.take_length]
        refine ⟨_, .inl ⟨SqL.of upd_same, fun a ha => hk _ _ ⟨a, g1.trans (g2.trans ((same_new hp _).trans (same_new ha _))), SqT.of upd_same, rfl⟩⟩⟩
  rintro σ H1 ⟨a, g1, ha, rfl⟩
  have lt30 : ∀ (i : Nat) n, ns[i]? = some n → n.natAbs < 10 ^ 30 := fun i n hn => by
    obtain ⟨h1, h2⟩ := mapM_at hns
    have hi : i < (spl 32 x.cps.toList).length := by rw [h1]; exact (List.getElem?_eq_some_iff.mp hn).1
    obtain ⟨n', hn', hr'⟩ := h2 i _ (List.getElem?_eq_getElem hi)
    rw [hn] at hn'; cases hn'
    exact readN_lt hr'
  match ns, hrd, ha, lt30 with
  | [n1, n2, n3, n4], hrd, ha, lt30 =>
    simp only at hrd
    split at hrd
    case isFalse => cases hrd
    rename_i hg
    cases hrd
    have ta : Tp K H1 (.ref a) (cl ⟨n1, n2, n3, n4⟩) := ⟨a, rfl, ha⟩
    have b : ∀ (i : Nat) n, [n1, n2, n3, n4][i]? = some n → Bd 4000 n := fun i n hn => (bd30 (lt30 i n hn)).mono (by decide)
    refine seq_by (fun σ H3 => Same H1 H3 ∧ σ = [some (.str x), some (.ref a)]) (fun k hk => ?_) ?_
    · walk_at "rd"
      refine ⟨_, .inr ha, ?_⟩
      rw [if_neg (by simp)]
      refine ⟨.ref a, ⟨n1, n2, n3, n4⟩, rfl, ta, ⟨b 0 n1 rfl, b 1 n2 rfl, b 2 n3 rfl, b 3 n4 rfl⟩, fun H3 g3 => ?_⟩
      rw [decide_eq_true hg]
      walk_at "rd"
      exact hk _ _ ⟨g3, rfl⟩
    rintro σ H3 ⟨g3, rfl⟩
    walk_at "rd"
    exact q _ _ (g1.trans g3) (ta.mono g3)
  | [], hrd, _, _ => cases hrd
  | [_], hrd, _, _ => cases hrd
  | [_, _], hrd, _, _ => cases hrd
  | [_, _, _], hrd, _, _ => cases hrd
  | _ :: _ :: _ :: _ :: _ :: _, hrd, _, _ => cases hrd
set_option maxHeartbeats 4000000 in
theorem calx_read_change (F : Def K mg "read_change" s_read_change ["text"]) (C_read_change : Cal P w K mg base 4 "read_change" ["text"] (spReadC K)) (X_read_number : CalX P w K mg base 4 "read_number" ["text"] (fun vs H Q E => (spReadN K) vs H Q E ∨ (spReadNX nn) vs H Q E)) (C_is_change : Cal P w K mg base 4 "is_change" ["change"] (spIsC K)) (B : Blt mg) (cls : ClsOk K mg nc nn np nth nt le) : CalX P w K mg base 5 "read_change" ["text"] (fun vs H Q E => (spReadC K) vs H Q E ∨ (spReadCX nn) vs H Q E) := by
  refine CalX.or (CalX.of (C_read_change.mono (by decide))) ?_
  refine F.calX (k := 4) sc_read_change (fun vs H Q E h => ?_) (fun f cdv A outer s H vs Q E hr h => ?_)
  · obtain ⟨x, rfl, ha, hxl, hrd, q⟩ := h
    rfl
  obtain ⟨x, rfl, ha, hxl, hrd, q⟩ := h
  have hu := hr.units
  have hu8 : (A.deeper (envOfC "read_change" (defScope s_read_change) s.heap.objs.size f cdv)).units + 80 < cLine := by have := hr.un; omega
  refine ⟨_, (pss_cons (ps_set (i := 1) sc_read_change.nd rfl (Or.inl rfl) (pe_callTy call_tuple_of rfl B.tuple bt_tuple (pa_cons (pe_compX [] (sc := defScope s_read_change) (cn := []) rfl rfl ⟨rfl, by decide +kernel, rfl, by decide +kernel, by decide +kernel, by decide +kernel, by decide +kernel⟩ rfl rfl (pi_list (pe_bm PySem.F.plainAttrs_str PySem.F.slot_str_split PySem.F.type_str_split mt_split (pv 0) (pa_cons pe_str pa_nil))) (fun _ _ _ _ _ _ => pq_nil) (fun _ _ _ _ _ _ hp => (pe_callX X_read_number hr hp (pa_cons (pv 0) pa_nil)))) pa_nil)))
      (pss_cons (ps_if (PW.pt (pw_or (pt_cmpR op_ne (pe_callB call_len_seq rfl B.len bt_len (pa_cons (pv 1) pa_nil)) pe_int (nomark _)) (pw_or1 (pt_not (pt_val (pe_callC C_is_change hr (pa_cons (pv 1) pa_nil))))))) (pss_one (ps_raise rfl made_ok (cls.own cls.b_NoNote (j := 1) rfl) rfl (pa_cons pe_str pa_nil))) pss_nil)
      (pss_one (ps_ret (pv 1))))), ?_⟩
  have hle : (Txt.split x ⟨#[32]⟩).length ≤ x.length + 2 := split_le x _
  have hsl := split_list x 32
  have hsz : x.length + 2 ≤ sizeLine := Nat.le_trans (Nat.add_le_add_right hxl 2) (by decide)

  unfold readC at hrd
  refine seq_by (fun σ H1 => ∃ a, ∃ ns : List Int, (Same H H1 ∧ (spl 32 x.cps.toList).mapM readN = some ns) ∧ SqT K H1 a (ns.map V.int) ∧ σ = [some (.str x), some (.ref a)]) (fun k hk => ?_) ?_
  · walk_at "rd"

    refine comp_srcL (xs := (Txt.split x ⟨#[32]⟩).map V.str) (fun l H1 => Same H H1 ∧ SqL K H1 l ((Txt.split x ⟨#[32]⟩).map V.str)) (fun k hk => ?_) ?_
    · walk_at "rd"
      exact ⟨rfl, rfl, hsz, fun p hp => hk _ _ ⟨same_new hp _, SqL.of upd_same⟩⟩
    · rintro l H1 ⟨g1, hq⟩
      refine ⟨fun i acc H2 => ∃ ns : List Int, Same H1 H2 ∧ acc = ns.map V.int ∧ (((Txt.split x ⟨#[32]⟩).map (·.cps.toList)).take i).mapM readN = some ns, ⟨[], Same.refl _, rfl, rfl⟩, fun i acc H2 hi h => ?_, ?_, ?_⟩
      · obtain ⟨ns, g2, rfl, hm⟩ := h
        refine ⟨g2.seq hq, ?_⟩
        have e1 := (mapM_at hm).1
        rw [List.length_take, List.length_map] at e1
        rw [List.length_map] at hi
        rw [List.length_map]
        omega
      · rintro i v acc H2 hv ⟨ns, g2, rfl, hm⟩ R hR
        obtain ⟨y, hy, rfl⟩ := map_at hv
        have ym := List.mem_of_getElem? hy
        walk_at "rd"
        cases e : readN y.cps.toList with
        | none => exact .inr ⟨y, rfl, asc_sub ha ym, Nat.le_trans (len_sub ym) hxl, e, fun H3 g3 => q _ (g1.trans (g2.trans g3))⟩
        | some n =>
          refine .inl ⟨y, n, rfl, e, fun H3 g3 => hR _ _ ⟨ns ++ [n], g2.trans g3, by simp, ?_⟩⟩
          rw [List.take_add_one, List.getElem?_map, hy]
          exact mapM_snoc hm e
      · rintro acc H2 p ⟨ns, g2, rfl, hm⟩ hp
        try walk_at "rd"
        rw [List.length_map, List.take_of_length_le (by rw [List.length_map]; exact Nat.le_refl _), hsl] at hm

        refine ⟨_, .inl ⟨SqL.of upd_same, fun a ha => hk _ _ ⟨a, ns, ⟨g1.trans (g2.trans ((same_new hp _).trans (same_new ha _))), hm⟩, SqT.of upd_same, rfl⟩⟩⟩
  rintro σ H1 ⟨a, ns, ⟨g1, hns⟩, hta, rfl⟩

  have lt30 : ∀ (i : Nat) n, ns[i]? = some n → n.natAbs < 10 ^ 30 := fun i n hn => by
    obtain ⟨h1, h2⟩ := mapM_at hns
    have hi : i < (spl 32 x.cps.toList).length := by rw [h1]; exact (List.getElem?_eq_some_iff.mp hn).1
    obtain ⟨n', hn', hr'⟩ := h2 i _ (List.getElem?_eq_getElem hi)
    rw [hn] at hn'; cases hn'
    exact readN_lt hr'

  rw [hns] at hrd
  refine seq_by (fun _ _ => False) (fun k hk => ?_) (fun _ _ h => h.elim)
  walk_at "rd"
  refine ⟨_, .inr hta, ?_⟩
  by_cases h4 : ns.length = 4
  · match ns, h4, hrd, hta, lt30 with
    | [n1, n2, n3, n4], _, hrd, hta, lt30 =>
    have ta : Tp K H1 (.ref a) (cl ⟨n1, n2, n3, n4⟩) := ⟨a, rfl, hta⟩
    have b : ∀ (i : Nat) n, [n1, n2, n3, n4][i]? = some n → Bd 4000 n := fun i n hn => (bd30 (lt30 i n hn)).mono (by decide)
    rw [if_neg (by simp)]
    refine ⟨.ref a, ⟨n1, n2, n3, n4⟩, rfl, ta, ⟨b 0 n1 rfl, b 1 n2 rfl, b 2 n3 rfl, b 3 n4 rfl⟩, fun H3 g3 => ?_⟩
    have hg : ¬ GoodC ⟨n1, n2, n3, n4⟩ := fun hg => by
      simp only at hrd
      rw [if_pos hg] at hrd; cases hrd
    rw [decide_eq_false hg]
    walk_at "rd"
    exact q _ (g1.trans g3)
  · rw [if_pos (by rw [List.length_map]; omega)]
    exact q _ g1
theorem sc__law_which : FnScope ["e", "told"] ["e"] (defScope s__law_which) := ⟨rfl, rfl, rfl, by decide +kernel, rfl, by decide +kernel, by decide +kernel⟩
set_option maxHeartbeats 4000000 in
theorem calu__law_which (F : Def K mg "_law_which" s__law_which ["e"]) (B : Blt mg) (cls : ClsOk K mg nc nn np nth nt le) : CalU P w K mg base 1 "_law_which" ["e"] (spWhich K nc nn np nth nt) := by
  refine F.calU (k := 0) sc__law_which (fun vs H Q E h => ?_) (fun f cdv A outer s H vs Q E hr h => ?_)
  · obtain ⟨x, C, j, t, rfl, hx, kd, ht, q⟩ := h
    rfl
  obtain ⟨x, C, j, t, rfl, hx, kd, ht, q⟩ := h
  have hu8 : (A.deeper (envOfC "_law_which" (defScope s__law_which) s.heap.objs.size f cdv)).units + 80 < cLine := by have := hr.un; omega
  refine ⟨_, (pss_cons (ps_set (i := 1) sc__law_which.nd rfl (Or.inl rfl) (pe_lst (pa_cons (pe_callB call_isinstX rfl B.isinstance bt_isinstance (pa_cons (pv 0) (pa_cons (pe_glob (v := .ref _) rfl cls.b_NoChange rfl) pa_nil))) (pa_cons (pe_callB call_isinstX rfl B.isinstance bt_isinstance (pa_cons (pv 0) (pa_cons (pe_glob (v := .ref _) rfl cls.b_NoNote rfl) pa_nil))) (pa_cons (pe_callB call_isinstX rfl B.isinstance bt_isinstance (pa_cons (pv 0) (pa_cons (pe_glob (v := .ref _) rfl cls.b_NoPoint rfl) pa_nil))) pa_nil)))))
      (pss_cons (ps_set (i := 1) sc__law_which.nd rfl (Or.inl rfl) (pe_op op_cat (pv 1) (pe_lst (pa_cons (pe_callB call_isinstX rfl B.isinstance bt_isinstance (pa_cons (pv 0) (pa_cons (pe_glob (v := .ref _) rfl cls.b_NoThree rfl) pa_nil))) (pa_cons (pe_callB call_isinstX rfl B.isinstance bt_isinstance (pa_cons (pv 0) (pa_cons (pe_glob (v := .ref _) rfl cls.b_NoTimes rfl) pa_nil))) pa_nil)))))
      (pss_cons (ps_if (PW.pt (pw_or (pt_not (pt_val (pe_callB call_isinstX rfl B.isinstance bt_isinstance (pa_cons (pv 0) (pa_cons (pe_bltn (v := .ty "ValueError") rfl cls.b_ValueError bt_ValueError rfl) pa_nil))))) (pw_or1 (pt_cmpR op_ne (pe_bm PySem.F.plainAttrs_list PySem.F.slot_list_count PySem.F.type_list_count mt_countB (pv 1) (pa_cons pe_bl pa_nil)) pe_int (nomark _))))) (pss_one (ps_ret pe_str)) pss_nil)
      (pss_one (ps_ret (pe_ix ix_list (pe_lst (pa_cons pe_str (pa_cons pe_str (pa_cons pe_str (pa_cons pe_str (pa_cons pe_str pa_nil)))))) (pe_bm PySem.F.plainAttrs_list PySem.F.slot_list_index PySem.F.type_list_index mt_indexB (pv 1) (pa_cons pe_bl pa_nil)) (fun _ _ => rfl))))))), ?_⟩
  refine seq_by (fun σ H1 => ∃ l, Same H H1 ∧ H1 l = some (.lst ([decide (j = 0), decide (j = 1), decide (j = 2)].map V.bl)) ∧ σ = [some (.ref x), some (.ref l)]) (fun k hk => ?_) ?_
  · walk_at "rd"
    refine inst_own hx kd.exc kd.k0 (inst_own hx kd.exc kd.k1 (inst_own hx kd.exc kd.k2 ?_))
    try walk_at "rd"
    refine ⟨(by show 3 ≤ sizeLine; decide), fun p hp => hk _ _ ⟨p, same_new hp _, upd_same, rfl⟩⟩
  rintro σ H1 ⟨l, g1, hl, rfl⟩
  have hx1 : H1 x = some (excO x C) := g1 _ _ hx
  refine seq_by (fun σ H2 => ∃ l, Same H H2 ∧ H2 l = some (.lst ([decide (j = 0), decide (j = 1), decide (j = 2), decide (j = 3), decide (j = 4)].map V.bl)) ∧ σ = [some (.ref x), some (.ref l)]) (fun k hk => ?_) ?_
  · walk_at "rd"
    refine inst_own hx1 kd.exc kd.k3 (inst_own hx1 kd.exc kd.k4 ?_)
    try walk_at "rd"
    refine ⟨(by show 2 ≤ sizeLine; decide), fun p hp => ⟨_, same_new hp _ _ _ hl, _, upd_same, (by show 5 ≤ sizeLine; decide), fun p2 hp2 => hk _ _ ⟨p2, g1.trans ((same_new hp _).trans (same_new hp2 _)), upd_same, rfl⟩⟩⟩
  rintro σ H2 ⟨l2, g2, hl2, rfl⟩
  have hx2 : H2 x = some (excO x C) := g2 _ _ hx
  have hc : ([decide (j = 0), decide (j = 1), decide (j = 2), decide (j = 3), decide (j = 4)].countP id : Nat) = 1 := by
    have := kd.lt
    rcases j with _ | _ | _ | _ | _ | j
    all_goals first | rfl | omega
  apply seq_det
  · intro k hk; walk_at "rd"
    refine inst_ty hx2 kd.exc kd.ve ?_
    walk_at "rd"
    refine ⟨.inl ⟨rfl, _, SqL.of hl2⟩, l2, _, rfl, rfl, hl2, ?_⟩
    rw [hc]
    refine ⟨rfl, ?_⟩
    rw [if_neg (fun z => z rfl)]
    exact hk
  walk_at "rd"
  refine ⟨(by show 5 ≤ sizeLine; decide), fun p hp => ⟨.inl ⟨rfl, _, SqL.of (same_new hp _ _ _ hl2)⟩, l2, _, j, rfl, rfl, same_new hp _ _ _ hl2, ?_, ?_, _, (j : Int), rfl, SqL.of upd_same, .str t, ?_, q _ (g2.trans (same_new hp _))⟩⟩
  · have := kd.lt
    rcases j with _ | _ | _ | _ | _ | j
    all_goals first | rfl | omega
  · intro m hm
    have := kd.lt
    rcases j with _ | _ | _ | _ | _ | j
    all_goals first | omega | (rcases m with _ | _ | _ | _ | _ | m; all_goals first | rfl | omega)
  · have := kd.lt
    rcases j with _ | _ | _ | _ | _ | j
    all_goals first | (cases ht; rfl) | omega
theorem sc__law_asked : FnScope ["way", "text", "told", "e"] ["way", "text"] (defScope s__law_asked) := ⟨rfl, rfl, rfl, by decide +kernel, rfl, by decide +kernel, by decide +kernel⟩
set_option maxHeartbeats 4000000 in
theorem cal__law_asked (F : Def K mg "_law_asked" s__law_asked ["way", "text"]) (X_read_point : CalX P w K mg base 6 "read_point" ["text"] (fun vs H Q E => (spReadP K) vs H Q E ∨ (spReadPX nn) vs H Q E)) (X_read_change : CalX P w K mg base 6 "read_change" ["text"] (fun vs H Q E => (spReadC K) vs H Q E ∨ (spReadCX nn) vs H Q E)) (U__law_which : CalU P w K mg base 6 "_law_which" ["e"] (spWhich K nc nn np nth nt)) (cls : ClsOk K mg nc nn np nth nt le) : Cal P w K mg base 7 "_law_asked" ["way", "text"] (spAsked17 K) := by
  refine F.cal (k := 6) sc__law_asked (fun vs H Q E h => ?_) (fun f cdv A outer s H vs Q E hr h => ?_)
  · obtain ⟨x, way, rfl, ha, hxl, q⟩ := h
    rfl
  obtain ⟨x, way, rfl, ha, hxl, q⟩ := h
  have hu := hr.units
  have hu8 : (A.deeper (envOfC "_law_asked" (defScope s__law_asked) s.heap.objs.size f cdv)).units + 80 < cLine := by have := hr.un; omega
  refine ⟨_, (pss_cons (ps_set (i := 2) sc__law_asked.nd rfl (Or.inl rfl) pe_non)
      (pss_cons (ps_try rfl (i := 3) ⟨rfl, rfl⟩ sc__law_asked.nd rfl rfl rfl cls.b_LineError (fun pn Ec E hp => (pss_one (ps_set (i := 2) sc__law_asked.nd rfl (Or.inl rfl) (pe_ifExp (pt_cmpR op_eq (pv 0) pe_int (nomark _)) (pe_callX X_read_point hr hp (pa_cons (pv 1) pa_nil)) (pe_callX X_read_change hr hp (pa_cons (pv 1) pa_nil)))))) (fun pn xa => (pss_one (ps_set (i := 2) sc__law_asked.nd rfl (Or.inl rfl) (pe_callU (E := fun _ _ _ => False) U__law_which (roomU_mark hr) (pa_cons (pv 3) pa_nil))))))
      (pss_one (ps_ret (pv 2))))), ?_⟩
  apply seq_det
  · intro k hk; walk_at "rd"; exact hk
  refine seq_by (fun σ H1 => ∃ (v : V) (a b c : Option V), Same H H1 ∧ (match (if way = 0 then (readP x.cps.toList).map pl else (readC x.cps.toList).map cl) with | none => v = .str "note" | some l => Tp K H1 v l) ∧ σ = [a, b, some v, c]) (fun k hk => ?_) ?_
  · refine ⟨fun Cv _ H' => Cv = .ref nn ∧ Same H H' ∧ (if way = 0 then (readP x.cps.toList).map pl else (readC x.cps.toList).map cl) = none, ?_, ?_⟩
    · walk_at "rd"
      by_cases hw : way = 0
      · rw [if_pos hw]
        rw [if_pos hw] at hk
        cases e : readP x.cps.toList with
        | none => exact .inr ⟨x, rfl, ha, hxl, e, fun H' g => ⟨rfl, g, by rw [if_pos hw]; rfl⟩⟩
        | some p =>
          rw [e] at hk
          exact .inl ⟨x, p, rfl, hxl, e, fun v H' g t => hk _ _ ⟨v, _, _, _, g, t, rfl⟩⟩
      · rw [if_neg hw]
        rw [if_neg hw] at hk
        cases e : readC x.cps.toList with
        | none => exact .inr ⟨x, rfl, ha, hxl, e, fun H' g => ⟨rfl, g, by rw [if_neg hw]; rfl⟩⟩
        | some p =>
          rw [e] at hk
          exact .inl ⟨x, p, rfl, hxl, e, fun v H' g t => hk _ _ ⟨v, _, _, _, g, t, rfl⟩⟩
    · rintro Cv _ H' ⟨rfl, g, hn⟩
      refine ⟨nn, rfl, (cls.kind nn 1 rfl).2, fun y hy => ?_⟩
      show tAsg _ _ _ ((List.replicate 4 none).set 3 (some (V.ref y))) _
      walk_at "rd"
      refine ⟨y, nn, 1, "note", rfl, upd_same, (cls.kind nn 1 rfl).1, rfl, fun H2 g2 => ?_⟩
      rw [hn] at hk
      exact hk _ _ ⟨_, _, _, _, g.trans ((same_new hy _).trans g2), rfl, rfl⟩
  rintro σ H1 ⟨v, a, b, c, g1, hv, rfl⟩
  walk_at "rd"
  exact q _ _ g1 hv
theorem sc_law : FnScope ["script", "spot", "cell", "point", "change", "texts", "turn", "long", "some", "dues", "way", "found", "due"] ["script"] (defScope s_law) := ⟨rfl, rfl, rfl, by decide +kernel, rfl, by decide +kernel, by decide +kernel⟩
seal L2.PE L2.PA L2.PS L2.PSs L2.PT in
set_option maxHeartbeats 4000000 in
theorem ok_law {f : Addr} {fd : FuncData} (F : Fun K "law" "law" s_law f fd) (C__law_cell_at : Cal P w K mg base 8 "_law_cell_at" ["script", "k"] (spCell K)) (C__law_next : Cal P w K mg base 8 "_law_next" ["script", "spot"] (spNext K)) (C__law_drawn_point : Cal P w K mg base 8 "_law_drawn_point" ["cell"] (spDrawn K)) (C__law_change : Cal P w K mg base 8 "_law_change" ["script", "spot"] (spLawChange K)) (C__law_changed : Cal P w K mg base 8 "_law_changed" ["text", "cell"] spChanged) (C__law_written_point : Cal P w K mg base 8 "_law_written_point" ["text"] (spWrP K)) (C__law_written_change : Cal P w K mg base 8 "_law_written_change" ["text"] (spWrC K)) (C__law_asked : Cal P w K mg base 8 "_law_asked" ["way", "text"] (spAsked17 K)) (B : Blt mg) : FnOk P w K mg base CX0 9 f fd ["script"] (spLaw K) := by
  refine F.ok (k := 8) sc_law (fun vs H Q E h => ?_) (fun cdv A outer s H vs Q E hr h => ?_)
  · obtain ⟨a, ns, rfl, hs, q⟩ := h
    rfl
  obtain ⟨a, ns, rfl, hs, q⟩ := h
  have hu := hr.units
  have hu8 : (A.deeper (envOfC "law" (defScope s_law) s.heap.objs.size f cdv)).units + 80 < cLine := by have := hr.un; omega
  refine ⟨_, (pss_cons (ps_set (i := 1) sc_law.nd rfl (Or.inl rfl) (pe_lst (pa_consC pe_int pa_nil)))
      (pss_cons (ps_set (i := 2) sc_law.nd rfl (Or.inl rfl) (pe_callC C__law_cell_at hr (pa_cons (pv 0) (pa_consC pe_int pa_nil))))
      (pss_cons (ps_set (i := 3) sc_law.nd rfl (Or.inl rfl) (pe_callC C__law_drawn_point hr (pa_cons (pe_callC C__law_next hr (pa_cons (pv 0) (pa_cons (pv 1) pa_nil))) pa_nil)))
      (pss_cons (ps_set (i := 4) sc_law.nd rfl (Or.inl rfl) (pe_callC C__law_change hr (pa_cons (pv 0) (pa_cons (pv 1) pa_nil))))
      (pss_cons (ps_set (i := 5) sc_law.nd rfl (Or.inl rfl) (pe_lst (pa_cons (pe_op op_add_str (pe_op op_add_str (pe_callTy call_str_int rfl B.str bt_str (pa_cons (pe_ix ix_tupI (pv 3) pe_int (fun _ _ => rfl)) pa_nil)) pe_str) (pe_callTy call_str_int rfl B.str bt_str (pa_cons (pe_ix ix_tupI (pv 3) pe_int (fun _ _ => rfl)) pa_nil))) (pa_cons (pe_bm PySem.F.plainAttrs_str PySem.F.slot_str_join PySem.F.type_str_join mt_join pe_str (pa_cons (pe_comp [] (sc := defScope s_law) (cn := []) rfl ⟨rfl, by decide +kernel, rfl, by decide +kernel, by decide +kernel, by decide +kernel, by decide +kernel⟩ rfl rfl (pi_tup (pv 4)) (fun _ _ _ _ _ => pq_nil) (fun _ _ _ _ _ => (pe_callTy call_str_int rfl B.str bt_str (pa_cons (pv 0) pa_nil)))) pa_nil)) pa_nil))))
      (pss_cons (ps_if (pt_cmpR op_lt (pe_ix ix_tupI (pv 3) pe_int (fun _ _ => rfl)) pe_int (nomark _)) (pss_one (ps_asg (pe_ix ix_list (pe_lst (pa_consC pe_str (pa_cons (pe_callTy call_str_int rfl B.str bt_str (pa_cons (pe_ix ix_tupI (pv 3) pe_int (fun _ _ => rfl)) pa_nil)) pa_nil))) (pe_ix ix_tupI (pv 3) pe_int (fun _ _ => rfl)) (fun _ _ => rfl)) (pg_sub (pv 5) pe_int set_list))) pss_nil)
      (pss_cons (ps_for PassesOwn.never rfl (pi_range1 rfl B.range (pa_cons (pe_op op_add pe_int (pe_op op_mod (pv 2) pe_int)) pa_nil)) (pg_name (i := 6) sc_law.nd rfl (Or.inr rfl)) (pss_one (ps_setcomp [0, 6] (i := 5) (sc := defScope s_law) (cn := ["script", "turn"]) rfl ⟨rfl, by decide +kernel, rfl, by decide +kernel, by decide +kernel, by decide +kernel, by decide +kernel⟩ rfl rfl sc_law.nd rfl (Or.inl rfl) rfl (pi_list (pv 5)) (fun _ _ _ _ _ => pq_nil) (fun _ _ _ _ _ => (pe_callC C__law_changed hr (pa_cons (pv 0) (pa_cons (pe_op op_mod (pe_callC C__law_cell_at hr (pa_cons (pv 1) (pa_cons (pe_op op_add pe_int (pv 2)) pa_nil))) (pe_op op_pow pe_int pe_int)) pa_nil)))))))
      (pss_cons (ps_if (pt_cmpR op_eq (pe_op op_mod (pe_op op_fdiv (pv 2) pe_int) pe_int) pe_int (nomark _)) (pss_cons (ps_set (i := 7) sc_law.nd rfl (Or.inl rfl) (pe_op op_add_str pe_str (pe_op op_mulS pe_str (pe_op op_add pe_int (pe_op op_mod (pe_op op_fdiv (pv 2) pe_int) pe_int)))))
      (pss_cons (ps_set (i := 8) sc_law.nd rfl (Or.inl rfl) (pe_lst (pa_consC pe_str (pa_consC pe_str (pa_consC pe_str (pa_consC pe_str (pa_consC pe_str (pa_consC pe_str (pa_consC pe_str (pa_consC pe_str (pa_consC pe_str (pa_consC pe_str (pa_consC pe_str (pa_consC pe_str (pa_consC pe_str (pa_consC pe_str (pa_consC pe_str pa_nil)))))))))))))))))
      (pss_cons (ps_set (i := 8) sc_law.nd rfl (Or.inl rfl) (pe_op op_cat (pv 8) (pe_lst (pa_cons (pv 7) (pa_cons (pe_op op_add_str pe_str (pv 7)) (pa_cons (pe_op op_add_str pe_str (pv 7)) (pa_consC pe_str (pa_consC pe_str (pa_consC pe_str (pa_consC pe_str (pa_consC pe_str pa_nil)))))))))))
      (pss_one (ps_asg (pe_ix ix_list (pv 8) (pe_op op_mod (pe_op op_fdiv (pv 2) pe_int) pe_int) (fun _ _ => rfl)) (pg_sub (pv 5) pe_int set_list)))))) pss_nil)
      (pss_cons (ps_if (pt_cmpR op_eq (pe_op op_mod (pe_op op_fdiv (pv 2) pe_int) pe_int) pe_int (nomark _)) (pss_cons (ps_set (i := 8) sc_law.nd rfl (Or.inl rfl) (pe_lst (pa_consC pe_str (pa_consC pe_str (pa_consC pe_str (pa_consC pe_str (pa_consC pe_str (pa_consC pe_str (pa_consC pe_str (pa_consC pe_str (pa_consC pe_str (pa_consC pe_str pa_nil))))))))))))
      (pss_cons (ps_set (i := 8) sc_law.nd rfl (Or.inl rfl) (pe_op op_cat (pv 8) (pe_lst (pa_consC pe_str (pa_consC pe_str (pa_consC pe_str (pa_consC pe_str (pa_consC pe_str (pa_consC pe_str (pa_consC pe_str (pa_consC pe_str pa_nil)))))))))))
      (pss_one (ps_asg (pe_ix ix_list (pv 8) (pe_op op_mod (pe_op op_fdiv (pv 2) pe_int) pe_int) (fun _ _ => rfl)) (pg_sub (pv 5) pe_int set_list))))) pss_nil)
      (pss_cons (ps_set (i := 9) sc_law.nd rfl (Or.inl rfl) (pe_lst (pa_cons (pe_callC C__law_written_point hr (pa_cons (pe_ix ix_list (pv 5) pe_int (fun _ _ => rfl)) pa_nil)) (pa_cons (pe_callC C__law_written_change hr (pa_cons (pe_ix ix_list (pv 5) pe_int (fun _ _ => rfl)) pa_nil)) pa_nil))))
      (pss_cons (ps_for PassesOwn.never rfl (pi_range1 rfl B.range (pa_consC pe_int pa_nil)) (pg_name (i := 10) sc_law.nd rfl (Or.inl rfl)) (pss_cons (ps_set (i := 11) sc_law.nd rfl (Or.inl rfl) (pe_callC C__law_asked hr (pa_cons (pv 10) (pa_cons (pe_ix ix_list (pv 5) (pv 10) (fun _ _ => rfl)) pa_nil))))
      (pss_cons (ps_set (i := 12) sc_law.nd rfl (Or.inl rfl) (pe_ix ix_list (pv 9) (pv 10) (fun _ _ => rfl)))
      (pss_cons (ps_if (pt_cmpR op_isN (pv 12) pe_non (nomark _)) (pss_one (ps_set (i := 12) sc_law.nd rfl (Or.inl rfl) pe_str)) pss_nil)
      (pss_one (ps_if (PW.pt (pw_or (pt_cmpR (OpR.or (op_neT hu) op_ne) (pv 11) (pv 12) (nomark _)) (pw_or1 (pt_cmpR (OpR.or (op_neT hu) op_ne) (pe_callC C__law_asked hr (pa_cons (pv 10) (pa_cons (pe_ix ix_list (pv 5) (pv 10) (fun _ _ => rfl)) pa_nil))) (pv 12) (nomark _))))) (pss_one (ps_ret pe_bl)) pss_nil))))))
      (pss_one (ps_ret pe_bl))))))))))))), ?_⟩
  obtain ⟨cc, hcc⟩ : ∃ cc, cc = cellN ns 0 := ⟨_, rfl⟩
  refine seq_by (fun σ H1 => ∃ b, Scr K H1 a ns ∧ H1 b = some (.lst [.int 3]) ∧ σ = [some (.ref a), some (.ref b), none, none, none, none, none, none, none, none, none, none, none]) (fun k hk => ?_) ?_
  · walk_at "rd"
    exact ⟨by show 1 ≤ sizeLine; decide, fun p hp => hk _ _ ⟨p, hs.mono (same_new hp _), upd_same, rfl⟩⟩
  rintro σ H1 ⟨b, hs1, hb1, rfl⟩
  apply seq_det
  · intro k hk; walk_at "rd"
    refine ⟨a, ns, 0, rfl, hs1.seq, by decide, ?_⟩
    rw [← hcc]; exact hk
  refine seq_by (fun σ H2 => ∃ v c, Scr K H2 a ns ∧ H2 b = some (.lst [.int 4]) ∧ Tp K H2 v (pl (dp c)) ∧ σ = [some (.ref a), some (.ref b), some (.int cc), some v, none, none, none, none, none, none, none, none, none]) (fun k hk => ?_) ?_
  · walk_at "rd"
    refine ⟨a, b, ns, 3, rfl, hs1, hb1, by decide, _, rfl, fun v H2 g2 t2 => hk _ _ ⟨v, _, (hs1.upd hb1).mono g2, g2 _ _ upd_same, t2, rfl⟩⟩
  rintro σ H2 ⟨v, c, hs2, hb2, tv2, rfl⟩
  refine seq_by (fun σ H3 => ∃ u m, Scr K H3 a ns ∧ Tp K H3 v (pl (dp c)) ∧ Tp K H3 u (cl m) ∧ BdC 24 m ∧ σ = [some (.ref a), some (.ref b), some (.int cc), some v, some u, none, none, none, none, none, none, none, none]) (fun k hk => ?_) ?_
  · walk_at "rd"
    refine ⟨a, b, ns, 4, rfl, hs2, hb2, by decide, fun u H3 m g3 t3 gm bm => hk _ _ ⟨u, m, (hs2.upd hb2).mono g3, ?_, t3, bm, rfl⟩⟩
    exact (Cs.Tp.upd tv2 hb2).mono g3
  rintro σ H3 ⟨u, m, hs3, tv3, tu3, bm, rfl⟩
  obtain ⟨bp1, bp2⟩ := dp_bd c
  have gp := dp_good c
  generalize dp c = p at tv3 bp1 bp2 gp
  have c1 := bp1.mono (show 10 ≤ 1900 by decide)
  have c2 := bp2.mono (show 10 ≤ 1900 by decide)
  have l1 : (T p.1).length ≤ 31 := by rw [Tx.len_list, T_list]; exact tx_len (bd30' bp1 (by decide))
  have l2 : (T p.2).length ≤ 31 := by rw [Tx.len_list, T_list]; exact tx_len (bd30' bp2 (by decide))
  have hsl : (("/" : Str)).length = 1 := rfl
  obtain ⟨ua, rfl, hq⟩ := tu3
  have ball := (bm.mono (show 24 ≤ 1900 by decide)).all
  refine seq_by (fun σ H4 => ∃ l t0 t1, Same H3 H4 ∧ H4 l = some (.lst [.str t0, .str t1]) ∧ (Asc t0 ∧ t0.length ≤ 127) ∧ (Asc t1 ∧ t1.length ≤ 127) ∧ σ = [some (.ref a), some (.ref b), some (.int cc), some v, some (.ref ua), some (.ref l), none, none, none, none, none, none, none]) (fun k hk => ?_) ?_
  · walk_at "rd"
    refine ⟨_, tv3, _, at0 _ _, Bd.log c1, ?_, _, tv3, _, at1 _ _ _, Bd.log c2, ?_, rfl, ?_⟩
    · show (T p.1).length + (("/" : Str)).length ≤ sizeLine
      rw [hsl]; exact Nat.le_trans (Nat.add_le_add_right l1 1) (by decide)
    · show (T p.1 ++ ("/" : Str)).length + (T p.2).length ≤ sizeLine
      rw [app_len, hsl]; exact Nat.le_trans (Nat.add_le_add (Nat.add_le_add_right l1 1) l2) (by decide)
    refine tcompT rfl hq (fun i acc H2 => acc = ((cl m).take i).map (fun n => V.str (T n)) ∧ H2 = H3) ⟨rfl, rfl⟩ (fun i acc H2 hi h => ?_) ?_ ?_
    · obtain ⟨rfl, rfl⟩ := h
      refine ⟨hq, ?_⟩
      rw [List.length_map]
      exact Nat.le_trans (by rw [List.length_take]; exact Nat.min_le_right _ _) (by show 4 ≤ sizeLine; decide)
    · rintro i x acc H2 hx ⟨rfl, rfl⟩ R hR
      obtain ⟨n, hn, rfl⟩ := map_at hx
      walk_at "rd"
      refine ⟨Bd.log (ball n (List.mem_of_getElem? hn)), hR _ _ ⟨?_, rfl⟩⟩
      rw [List.take_add_one, hn, List.map_append]; rfl
    · rintro acc H2 p' ⟨rfl, rfl⟩ hp'
      try walk_at "rd"
      have e : ((cl m).take ((cl m).map V.int).length).map (fun n => V.str (T n)) = ((cl m).map T).map V.str := by
        rw [List.length_map, List.take_length, List.map_map]; rfl
      refine ⟨(cl m).map T, ?_, ?_, ?_⟩
      · rw [e]; exact SqL.of upd_same
      · have := StrLaws.joinFits (sep := " ") (texts := (cl m).map T) (B := 1921) (fun y hy => by
          obtain ⟨n, hn, rfl⟩ := List.mem_map.mp hy
          exact T_len (ball n hn)) (by simp [cl]; decide)
        unfold JoinOk
        rw [this]; rfl
      · have ej : (Txt.join (" " : Str) ((cl m).map T)).cps.toList = jn 32 [tx m.a, tx m.b, tx m.c, tx m.d] := by
          show (Builtin.Str.glued ⟨#[32]⟩ ((cl m).map T)).cps.toList = _
          rw [StrLaws.glued_eq_join, Tx.join_list]
          simp only [cl, List.map_cons, List.map_nil, T_list]
        refine ⟨by show 2 ≤ sizeLine; decide, fun p2 hp2 => hk _ _ ⟨p2, _, _, (same_new hp' _).trans (same_new hp2 _), upd_same, ⟨asc_app (asc_app (asc_T _) (asc_lit _ rfl)) (asc_T _), ?_⟩, ⟨fun d hd => ?_, ?_⟩, rfl⟩⟩
        · show (T p.1 ++ ("/" : Str) ++ T p.2).length ≤ 127
          rw [app_len, app_len, hsl]; omega
        · rw [ej] at hd
          simp only [jn, List.mem_append, List.mem_cons] at hd
          have k1 := asc_tx m.a d
          have k2 := asc_tx m.b d
          have k3 := asc_tx m.c d
          have k4 := asc_tx m.d d
          rcases hd with h | h | h | h | h | h | h
          all_goals first | exact k1 h | exact k2 h | exact k3 h | exact k4 h | omega
        · rw [Tx.len_list, ej]
          have k1 := tx_len (bd30' bm.1 (by decide))
          have k2 := tx_len (bd30' bm.2.1 (by decide))
          have k3 := tx_len (bd30' bm.2.2.1 (by decide))
          have k4 := tx_len (bd30' bm.2.2.2 (by decide))
          simp only [jn, List.length_append, List.length_cons]
          omega
  rintro σ H4 ⟨l, t0, t1, g4, hl4, ⟨a0, n0⟩, ⟨a1, n1⟩, rfl⟩
  have hs4 := hs3.mono g4
  have tv4 := tv3.mono g4
  refine seq_by (fun σ H5 => ∃ l t0 t1, Scr K H5 a ns ∧ H5 l = some (.lst [.str t0, .str t1]) ∧ (Asc t0 ∧ t0.length ≤ 127) ∧ (Asc t1 ∧ t1.length ≤ 127) ∧ σ = [some (.ref a), some (.ref b), some (.int cc), some v, some (.ref ua), some (.ref l), none, none, none, none, none, none, none]) (fun k hk => ?_) ?_
  · walk_at "rd"
    refine ⟨_, tv4, p.2, at1 _ _ _, ?_⟩
    by_cases h2 : p.2 < 2
    case neg =>
      rw [if_neg h2]
      exact hk _ _ ⟨l, t0, t1, hs4, hl4, ⟨a0, n0⟩, ⟨a1, n1⟩, rfl⟩
    rw [if_pos h2]
    refine ⟨_, tv4, p.1, at0 _ _, Bd.log c1, by show 2 ≤ sizeLine; decide, fun q1 hq1 => ?_⟩
    have e1 := same_new hq1 (.lst [V.str (Str.ofString "far"), V.str (Str.ofString (toString p.1))])
    have hl5 := e1 _ _ hl4
    have fin : ∀ t : Str, Asc t → t.length ≤ 127 → k [some (V.ref a), some (V.ref b), some (V.int cc), some v, some (V.ref ua), some (V.ref l), none, none, none, none, none, none, none] (upd (upd H4 q1 (.lst [V.str (Str.ofString "far"), V.str (Str.ofString (toString p.1))])) l (.lst ([V.str t0, V.str t1].set 0 (V.str t)))) := fun t ht hn =>
      hk _ _ ⟨l, t, t1, (hs4.mono e1).upd hl5, upd_same, ⟨ht, hn⟩, ⟨a1, n1⟩, rfl⟩
    rcases gp with ⟨z1, z2⟩ | ⟨z1, z2⟩
    · refine ⟨_, tv4.mono e1, p.2, at1 _ _ _, _, SqL.of upd_same, _, (by rw [z1]; exact at0 _ _), _, hl5, 0, rfl, fin _ (asc_lit _ rfl) (by decide)⟩
    · have z3 : p.2 = 1 := by omega
      refine ⟨_, tv4.mono e1, p.2, at1 _ _ _, _, SqL.of upd_same, _, (by rw [z3]; exact at1 _ _ _), _, hl5, 0, rfl, fin (T p.1) (asc_T _) (by omega)⟩
  clear hl4 a0 n0 a1 n1 tv4 hs4
  rintro σ H5 ⟨l, t0, t1, hs5, hl5, ⟨a0, n0⟩, ⟨a1, n1⟩, rfl⟩
  have hc2 : cc % 2 = 0 ∨ cc % 2 = 1 := by omega
  refine seq_by (fun σ H6 => ∃ l t0 t1 x, H6 l = some (.lst [.str t0, .str t1]) ∧ (Asc t0 ∧ t0.length ≤ 511) ∧ (Asc t1 ∧ t1.length ≤ 511) ∧ σ = [some (.ref a), some (.ref b), some (.int cc), some v, some (.ref ua), some (.ref l), x, none, none, none, none, none, none]) (fun k hk => ?_) ?_
  · refine ⟨.int cc, rfl, cc, 2, rfl, rfl, (by show (0 : Int) < 2; decide), 1, cc % 2, rfl, rfl, 1 + cc % 2, rfl, by omega, by omega, forR (n := (1 + cc % 2).toNat) (fun i σ H6 => ∃ l t0 t1 x, i ≤ 2 ∧ Scr K H6 a ns ∧ H6 l = some (.lst [.str t0, .str t1]) ∧ (Asc t0 ∧ t0.length ≤ 2 ^ (7 + i) - 1) ∧ (Asc t1 ∧ t1.length ≤ 2 ^ (7 + i) - 1) ∧ σ = [some (.ref a), some (.ref b), some (.int cc), some v, some (.ref ua), some (.ref l), x, none, none, none, none, none, none]) ⟨l, t0, t1, none, by decide, hs5, hl5, ⟨a0, n0⟩, ⟨a1, n1⟩, rfl⟩ ?_ ?_⟩
    · rintro Pv' hP i σ H6 hi ⟨l, t0, t1, x, hi2, hs6, hl6, ⟨b0, m0⟩, ⟨b1, m1⟩, rfl⟩
      have hi1 : i = 0 ∨ i = 1 := by omega
      walk_at "rd"
      refine tcompL rfl (SqL.of hl6) (fun j acc H7 => H7 = H6 ∧ ∃ ys : List Str, acc = ys.map V.str ∧ ys.length = j ∧ ∀ y ∈ ys, Asc y ∧ y.length ≤ 2 ^ (7 + (i + 1)) - 1) ⟨rfl, [], rfl, rfl, by simp⟩ (fun j acc H7 hj h => ?_) ?_ ?_
      · obtain ⟨rfl, ys, rfl, hl, _⟩ := h
        refine ⟨SqL.of hl6, ?_⟩
        rw [List.length_map, hl]
        exact Nat.le_trans hj (by show 2 ≤ sizeLine; decide)
      · rintro j w acc H7 hw ⟨rfl, ys, rfl, hl, hy⟩ R hR
        obtain ⟨t, rfl, at_, nt_⟩ : ∃ t, w = .str t ∧ Asc t ∧ t.length ≤ 2 ^ (7 + i) - 1 := by
          match j, hw with
          | 0, hw => cases hw; exact ⟨t0, rfl, b0, m0⟩
          | 1, hw => cases hw; exact ⟨t1, rfl, b1, m1⟩
          | j + 2, hw => simp at hw
        walk_at "rd"
        have hp7 : (2 : Nat) ^ (7 + i) - 1 ≤ 255 ∧ 2 * (2 ^ (7 + i) - 1) + 1 ≤ 2 ^ (7 + (i + 1)) - 1 := by
          rcases hi1 with rfl | rfl <;> decide
        refine ⟨a, ns, _, rfl, hs6.seq, by omega, ⟨by decide, by decide, by decide⟩, _, rfl, by decide, t, _, rfl, at_, by omega, fun y ay ny => hR _ _ ⟨rfl, ys ++ [y], by simp, by simp [hl], ?_⟩⟩
        intro z hz
        rcases List.mem_append.mp hz with h | h
        · exact hy z h
        · have : z = y := by simpa using h
          subst this
          exact ⟨ay, by omega⟩
      · rintro acc H7 q1 ⟨rfl, ys, rfl, hl, hy⟩ hq1
        try walk_at "rd"
        have hl' : ys.length = 2 := hl
        match ys, hl', hy with
        | [y0, y1], _, hy =>
          refine hP _ _ _ ⟨q1, y0, y1, _, by omega, hs6.mono (same_new hq1 _), upd_same, hy y0 (by simp), hy y1 (by simp), rfl⟩
    · rintro σ H6 ⟨l, t0, t1, x, hi2, hs6, hl6, ⟨b0, m0⟩, ⟨b1, m1⟩, rfl⟩
      refine hk _ _ ⟨l, t0, t1, x, hl6, ⟨b0, ?_⟩, ⟨b1, ?_⟩, rfl⟩
      · rcases hc2 with h | h <;> rw [h] at m0 <;> exact Nat.le_trans m0 (by decide)
      · rcases hc2 with h | h <;> rw [h] at m1 <;> exact Nat.le_trans m1 (by decide)
  clear hl5 a0 n0 a1 n1 hs5
  rintro σ H6 ⟨l, t0, t1, x, hl6, ⟨a0, n0⟩, ⟨a1, n1⟩, rfl⟩
  refine seq_by (fun σ H7 => ∃ l t0 t1 x y z, H7 l = some (.lst [.str t0, .str t1]) ∧ (Asc t0 ∧ t0.length ≤ 511) ∧ (Asc t1 ∧ t1.length ≤ 511) ∧ σ = [some (.ref a), some (.ref b), some (.int cc), some v, some (.ref ua), some (.ref l), x, y, z, none, none, none, none]) (fun k hk => ?_) ?_
  · walk_at "rd"
    refine ⟨by decide, by decide, ?_⟩
    by_cases h : cc / 2 % 4 = 1
    case neg =>
      rw [if_neg h]
      exact hk _ _ ⟨l, t0, t1, x, _, _, hl6, ⟨a0, n0⟩, ⟨a1, n1⟩, rfl⟩
    rw [if_pos h]
    refine ⟨by decide, by decide, by omega, by omega, rfl, fun c hc hcl => ?_⟩
    have hc30 : c.length ≤ 30 := by omega
    have ac : Asc c := fun d hd => by
      have : d ∈ ([48] : List Nat) := hc d hd
      simp at this
      omega
    have hone : (Str.ofString "1").length = 1 := rfl
    have hb30 : 1000 ≤ sizeLine := by decide
    have al : Asc (Str.ofString "1" ++ c) := asc_app (asc_lit _ rfl) ac
    have nl : (Str.ofString "1" ++ c).length ≤ 31 := by rw [app_len, hone]; omega
    generalize Str.ofString "1" ++ c = lg at al nl
    refine ⟨by rw [hone]; omega, by decide, fun p1 hp1 => ⟨?_, ?_, by decide, fun p2 hp2 => ⟨_, same_new hp2 _ _ _ upd_same, _, upd_same, (by show 23 ≤ sizeLine; decide), fun p3 hp3 => ?_⟩⟩⟩
    · have : (Str.ofString "-").length = 1 := rfl
      omega
    · have : (Str.ofString "1/").length = 2 := rfl
      omega
    have hl8 := same_new hp2 (.lst [V.str lg, V.str (Str.ofString "-" ++ lg), V.str (Str.ofString "1/" ++ lg), V.str (Str.ofString "1 /2"), V.str (Str.ofString "0/5"), V.str (Str.ofString "/"), V.str (Str.ofString "-"), V.str (Str.ofString "5/1")]) _ _ (same_new hp1 _ _ _ hl6)
    refine ⟨by decide, by decide, _, SqL.of upd_same, pick (by omega) (by show _ < ((23 : Nat) : Int); omega) fun w hw => ?_⟩
    obtain ⟨t, rfl, at_, nt_⟩ : ∃ t, w = V.str t ∧ Asc t ∧ t.length ≤ 511 := by
      have hm1 : (Str.ofString "-").length = 1 := rfl
      have hm2 : (Str.ofString "1/").length = 2 := rfl
      simp only [List.cons_append, List.nil_append, List.mem_cons, List.not_mem_nil, or_false] at hw
      rcases hw with rfl | rfl | rfl | rfl | rfl | rfl | rfl | rfl | rfl | rfl | rfl | rfl | rfl | rfl | rfl | rfl | rfl | rfl | rfl | rfl | rfl | rfl | rfl
      all_goals first
        | exact ⟨_, rfl, asc_lit _ rfl, by decide⟩
        | exact ⟨_, rfl, al, by omega⟩
        | exact ⟨_, rfl, asc_app (asc_lit _ rfl) al, by rw [app_len]; omega⟩
    exact ⟨_, same_new hp3 _ _ _ hl8, 0, rfl, hk _ _ ⟨l, t, t1, x, _, _, upd_same, ⟨at_, nt_⟩, ⟨a1, n1⟩, rfl⟩⟩
  clear hl6 a0 n0 a1 n1
  rintro σ H7 ⟨l, t0, t1, x, y, z, hl7, ⟨a0, n0⟩, ⟨a1, n1⟩, rfl⟩
  refine seq_by (fun σ H8 => ∃ l t0 t1 x y z, H8 l = some (.lst [.str t0, .str t1]) ∧ (Asc t0 ∧ t0.length ≤ 511) ∧ (Asc t1 ∧ t1.length ≤ 511) ∧ σ = [some (.ref a), some (.ref b), some (.int cc), some v, some (.ref ua), some (.ref l), x, y, z, none, none, none, none]) (fun k hk => ?_) ?_
  · walk_at "rd"
    refine ⟨by decide, by decide, ?_⟩
    by_cases h : cc / 2 % 4 = 2
    case neg =>
      rw [if_neg h]
      exact hk _ _ ⟨l, t0, t1, x, _, _, hl7, ⟨a0, n0⟩, ⟨a1, n1⟩, rfl⟩
    rw [if_pos h]
    refine ⟨by decide, fun p1 hp1 => ⟨by decide, fun p2 hp2 => ⟨_, same_new hp2 _ _ _ upd_same, _, upd_same, (by show 18 ≤ sizeLine; decide), fun p3 hp3 => ?_⟩⟩⟩
    refine ⟨by decide, by decide, _, SqL.of upd_same, pick (by omega) (by show _ < ((18 : Nat) : Int); omega) fun w hw => ?_⟩
    obtain ⟨t, rfl, at_, nt_⟩ : ∃ t, w = V.str t ∧ Asc t ∧ t.length ≤ 511 := by
      simp only [List.cons_append, List.nil_append, List.mem_cons, List.not_mem_nil, or_false] at hw
      rcases hw with rfl | rfl | rfl | rfl | rfl | rfl | rfl | rfl | rfl | rfl | rfl | rfl | rfl | rfl | rfl | rfl | rfl | rfl
      all_goals exact ⟨_, rfl, asc_lit _ rfl, by decide⟩
    exact ⟨_, same_new hp3 _ _ _ (same_new hp2 _ _ _ (same_new hp1 _ _ _ hl7)), 1, rfl, hk _ _ ⟨l, t0, t, x, _, _, upd_same, ⟨a0, n0⟩, ⟨at_, nt_⟩, rfl⟩⟩
  clear hl7 a0 n0 a1 n1
  rintro σ H8 ⟨l, t0, t1, x, y, z, hl8, ⟨a0, n0⟩, ⟨a1, n1⟩, rfl⟩
  have hq8 := SqL.of (K := K) hl8
  refine seq_by (fun σ H9 => ∃ (d : Addr) (v0 v1 : V), Same H8 H9 ∧ SqL K H9 d [v0, v1] ∧ IsOl K H9 v0 ((readP t0.cps.toList).map pl) ∧ IsOl K H9 v1 ((readC t1.cps.toList).map cl) ∧ σ = [some (.ref a), some (.ref b), some (.int cc), some v, some (.ref ua), some (.ref l), x, y, z, some (.ref d), none, none, none]) (fun k hk => ?_) ?_
  · walk_at "rd"
    refine ⟨_, hq8, _, at0 _ _, t0, rfl, a0, by omega, fun v0 H9 g9 i0 => ⟨_, g9.seq hq8, _, at1 _ _ _, t1, rfl, a1, by omega, fun v1 H10 g10 i1 => ⟨by show 2 ≤ sizeLine; decide, fun p' hp' => hk _ _ ⟨p', v0, v1, g9.trans (g10.trans (same_new hp' _)), SqL.of upd_same, (Cs.IsOl.mono i0 (g10.trans (same_new hp' _))), Cs.IsOl.mono i1 (same_new hp' _), rfl⟩⟩⟩⟩
  rintro σ H9 ⟨d, v0, v1, g9, hd9, i0, i1, rfl⟩
  have hq9 := g9.seq hq8
  refine seq_by (fun σ H10 => True) (fun k hk => ?_) ?_
  · refine ⟨2, rfl, by decide, by decide, forR (n := 2) (fun i σ H10 => ∃ x1 x2 x3, Same H9 H10 ∧ σ = [some (.ref a), some (.ref b), some (.int cc), some v, some (.ref ua), some (.ref l), x, y, z, some (.ref d), x1, x2, x3]) ⟨_, _, _, Same.refl _, rfl⟩ ?_ ?_⟩
    · rintro Pv' hP i σ H10 hi ⟨x1, x2, x3, g10, rfl⟩
      obtain ⟨tt, vd, o, k1, k2, ka, kn, ko, kd⟩ : ∃ (tt : Str) (vd : V) (o : Option (List Int)), atI [V.str t0, V.str t1] (0 + (i : Int)) = some (.str tt) ∧ atI [v0, v1] (0 + (i : Int)) = some vd ∧ Asc tt ∧ tt.length ≤ 1000 ∧ (if (0 + (i : Int)) = 0 then (readP tt.cps.toList).map pl else (readC tt.cps.toList).map cl) = o ∧ IsOl K H9 vd o := by
        match i, hi with
        | 0, _ => exact ⟨t0, v0, _, at0 _ _, at0 _ _, a0, by omega, if_pos rfl, i0⟩
        | 1, _ => exact ⟨t1, v1, _, at1 _ _ _, at1 _ _ _, a1, by omega, if_neg (by decide), i1⟩
      have ask : ∀ (H' : Hp) (R : VK), (∀ f1 H'', Same H' H'' → (match o with | none => f1 = V.str "note" | some l => Tp K H'' f1 l) → R f1 H'') → spAsked17 K [V.int (0 + (i : Int)), V.str tt] H' R E0 := fun H' R hR =>
        ⟨tt, _, rfl, ka, kn, fun f1 H'' g h => hR f1 H'' g (by rw [ko] at h; exact h)⟩
      walk_at "rd"
      refine ⟨_, g10.seq hq9, _, k1, ask _ _ fun f1 H11 g11 h11 => ⟨_, (g10.trans g11).seq hd9, vd, k2, ?_⟩⟩
      have g11' := g10.trans g11
      cases o with
      | none =>
        have e1 : f1 = V.str "note" := h11
        have e2 : vd = .non := kd
        subst e1 e2
        rw [if_pos rfl]
        refine .inr ⟨rfl, ?_⟩
        rw [if_neg (fun h => h rfl)]
        refine ⟨_, g11'.seq hq9, _, k1, ask _ _ fun f2 H12 g12 h12 => ?_⟩
        have e3 : f2 = V.str "note" := h12
        subst e3
        refine .inr ⟨rfl, ?_⟩
        rw [if_neg (fun h => h rfl)]
        exact hP _ _ _ ⟨_, _, _, g11'.trans g12, rfl⟩
      | some L =>
        have e1 : Tp K H11 f1 L := h11
        have e2 : Tp K H9 vd L := kd
        have hn : vd ≠ .non := fun h => by
          obtain ⟨z, hz, _⟩ := e2
          rw [h] at hz; cases hz
        rw [if_neg hn]
        refine .inl ⟨L, e1, L, e2.mono g11', ?_⟩
        rw [if_neg (fun h => h rfl)]
        refine ⟨_, g11'.seq hq9, _, k1, ask _ _ fun f2 H12 g12 h12 => ?_⟩
        have e3 : Tp K H12 f2 L := h12
        refine .inl ⟨L, e3, L, e2.mono (g11'.trans g12), ?_⟩
        rw [if_neg (fun h => h rfl)]
        exact hP _ _ _ ⟨_, _, _, g11'.trans g12, rfl⟩
    · rintro σ H10 _
      exact hk _ _ trivial
  rintro σ H10 _
  walk_at "rd"
  exact q _
end
theorem law_mk {K : PySem.W.Frag} {h : Heap} {mg : Str → Option Value} {f : Addr} {oc : Value} {od an : Option Addr} {osl : Array (Option Value)} {kV doc pm cdv ct : Value} (X : K.In h) (G : h.Ns mainGlobals mg)
    (a : PySem.W.nsIn K mainGlobals "law" = some (some (.ref f))) (l : K.lookup f = some ⟨oc, od, .func (PySem.W.fnOf "law" "law" (defArgs s_law) (defBody s_law) (defScope s_law) .none kV doc pm an cdv ct), osl⟩) (c : PySem.W.codeIn K cdv "law" = true) (k : PySem.W.keepIn K (.ref f) = true) :
    ∃ (f : Addr) (fd : FuncData), Fun K "law" "law" s_law f fd ∧ mg "law" = some (.ref f) ∧ ∀ (s : Shared) (v : Value), BindsTo s fd ⟨[v], []⟩ [("script", v)] :=
  ⟨f, _, fun_mk l c k, PySem.W.mg_of X G a, fun s v => .of_eq rfl⟩
theorem fin {P : Program} {w : World} {K : PySem.W.Frag} {mg : Str → Option Value} {fa nc nn np nth nt le : Addr} (hfa : mg "law" = some (.ref fa)) (B : Blt mg)
    (D__law_cell_at : Def K mg "_law_cell_at" s__law_cell_at ["script", "k"])
    (D__law_next : Def K mg "_law_next" s__law_next ["script", "spot"])
    (D__law_common : Def K mg "_law_common" s__law_common ["one", "other"])
    (D__law_point : Def K mg "_law_point" s__law_point ["top", "bottom"])
    (D__law_stir : Def K mg "_law_stir" s__law_stir ["seed"])
    (D__law_drawn_point : Def K mg "_law_drawn_point" s__law_drawn_point ["cell"])
    (D__law_plain : Def K mg "_law_plain" s__law_plain ["numbers"])
    (D__law_turning : Def K mg "_law_turning" s__law_turning ["cell"])
    (D__law_after : Def K mg "_law_after" s__law_after ["one", "other"])
    (D__law_back : Def K mg "_law_back" s__law_back ["change"])
    (D__law_change : Def K mg "_law_change" s__law_change ["script", "spot"])
    (D__law_changed : Def K mg "_law_changed" s__law_changed ["text", "cell"])
    (D__law_number : Def K mg "_law_number" s__law_number ["word"])
    (D__law_written_point : Def K mg "_law_written_point" s__law_written_point ["text"])
    (D__law_written_change : Def K mg "_law_written_change" s__law_written_change ["text"])
    (D_read_number : Def K mg "read_number" s_read_number ["text"])
    (D_common_divisor : Def K mg "common_divisor" s_common_divisor ["one", "other"])
    (D_lowest_point : Def K mg "lowest_point" s_lowest_point ["top", "bottom"])
    (D_is_point : Def K mg "is_point" s_is_point ["point"])
    (D_read_point : Def K mg "read_point" s_read_point ["text"])
    (D_lowest_change : Def K mg "lowest_change" s_lowest_change ["numbers"])
    (D_is_change : Def K mg "is_change" s_is_change ["change"])
    (D_read_change : Def K mg "read_change" s_read_change ["text"])
    (D__law_which : Def K mg "_law_which" s__law_which ["e"])
    (D__law_asked : Def K mg "_law_asked" s__law_asked ["way", "text"])
    (cls : ClsOk K mg nc nn np nth nt le)
    {aF : Addr} (c_FAR : mg "FAR" = some (.ref aF) ∧ RelV (.ref aF) (Value.ref aF)) (kF : ∀ H, SqT K H aF [.int 1, .int 0])
    {uN : Value} (c_FAR_NOTE : mg "FAR_NOTE" = some uN ∧ RelV (.str "far") uN)
    {uG : Value} (c_FIGURES : mg "FIGURES" = some uG ∧ RelV (.str "0123456789") uG)
    {uX : Value} (c_MOST_FIGURES : mg "MOST_FIGURES" = some uX ∧ RelV (.int 30) uX)
    (FL : ∃ (f : Addr) (fd : FuncData), Fun K "law" "law" s_law f fd ∧ mg "law" = some (.ref f) ∧ ∀ (s : Shared) (v : Value), BindsTo s fd ⟨[v], []⟩ [("script", v)]) :
    ∃ fd : FuncData, (∀ (s : Shared) (u : Value), BindsTo s fd ⟨[u], []⟩ [("script", u)]) ∧ ∀ base : Heap, K.In base → base.Ns mainGlobals mg → FnOk P w K mg base CX0 9 fa fd ["script"] (spLaw K) := by
  obtain ⟨f, fd, F, m, b⟩ := FL
  cases hfa.symm.trans m
  refine ⟨fd, b, fun base _ _ => ?_⟩
  have c__law_cell_at : Cal P w K mg base 1 "_law_cell_at" ["script", "k"] (spCell K) := cal__law_cell_at D__law_cell_at B
  have c__law_next : Cal P w K mg base 2 "_law_next" ["script", "spot"] (spNext K) := cal__law_next D__law_next (c__law_cell_at.mono (by decide))
  have c__law_common : Cal P w K mg base 1 "_law_common" ["one", "other"] spGcd := cal__law_common D__law_common B
  have c__law_point : Cal P w K mg base 2 "_law_point" ["top", "bottom"] (spLawP K) := cal__law_point D__law_point (c__law_common.mono (by decide))
  have c__law_stir : Cal P w K mg base 1 "_law_stir" ["seed"] spStir := cal__law_stir D__law_stir
  have c__law_drawn_point : Cal P w K mg base 3 "_law_drawn_point" ["cell"] (spDrawn K) := cal__law_drawn_point D__law_drawn_point (c__law_point.mono (by decide)) (c__law_stir.mono (by decide))
  have c__law_plain : Cal P w K mg base 2 "_law_plain" ["numbers"] (spPlain K) := cal__law_plain D__law_plain (c__law_common.mono (by decide)) B
  have c__law_turning : Cal P w K mg base 1 "_law_turning" ["cell"] (spTurning K) := cal__law_turning D__law_turning
  have c__law_after : Cal P w K mg base 3 "_law_after" ["one", "other"] (spLawAfter K) := cal__law_after D__law_after (c__law_plain.mono (by decide))
  have c__law_back : Cal P w K mg base 3 "_law_back" ["change"] (spLawBack K) := cal__law_back D__law_back (c__law_plain.mono (by decide))
  have c__law_change : Cal P w K mg base 4 "_law_change" ["script", "spot"] (spLawChange K) := cal__law_change D__law_change (c__law_next.mono (by decide)) (c__law_stir.mono (by decide)) (c__law_plain.mono (by decide)) (c__law_turning.mono (by decide)) (c__law_after.mono (by decide)) (c__law_back.mono (by decide)) B
  have c__law_changed : Cal P w K mg base 1 "_law_changed" ["text", "cell"] spChanged := cal__law_changed D__law_changed B
  have c__law_number : Cal P w K mg base 1 "_law_number" ["word"] spLawN := cal__law_number D__law_number B
  have c__law_written_point : Cal P w K mg base 2 "_law_written_point" ["text"] (spWrP K) := cal__law_written_point D__law_written_point (c__law_number.mono (by decide)) (c__law_common.mono (by decide)) B
  have c__law_written_change : Cal P w K mg base 4 "_law_written_change" ["text"] (spWrC K) := cal__law_written_change D__law_written_change (c__law_number.mono (by decide)) (c__law_plain.mono (by decide)) B
  have c_read_number : Cal P w K mg base 1 "read_number" ["text"] (spReadN K) := cal_read_number D_read_number B c_FIGURES c_MOST_FIGURES
  have c_common_divisor : Cal P w K mg base 1 "common_divisor" ["one", "other"] spGcd := cal_common_divisor D_common_divisor B
  have c_lowest_point : Cal P w K mg base 2 "lowest_point" ["top", "bottom"] (spLowP K) := cal_lowest_point D_lowest_point (c_common_divisor.mono (by decide)) c_FAR kF
  have c_is_point : Cal P w K mg base 3 "is_point" ["point"] (spIsP K) := cal_is_point D_is_point (c_lowest_point.mono (by decide))
  have c_read_point : Cal P w K mg base 4 "read_point" ["text"] (spReadP K) := cal_read_point D_read_point (c_read_number.mono (by decide)) (c_is_point.mono (by decide)) B c_FAR kF c_FAR_NOTE
  have x_read_number : CalX P w K mg base 2 "read_number" ["text"] (fun vs H Q E => (spReadN K) vs H Q E ∨ (spReadNX nn) vs H Q E) := calx_read_number D_read_number (c_read_number.mono (by decide)) B cls c_FIGURES c_MOST_FIGURES
  have x_read_point : CalX P w K mg base 5 "read_point" ["text"] (fun vs H Q E => (spReadP K) vs H Q E ∨ (spReadPX nn) vs H Q E) := calx_read_point D_read_point (c_read_point.mono (by decide)) (x_read_number.mono (by decide)) (c_is_point.mono (by decide)) B cls c_FAR kF c_FAR_NOTE
  have c_lowest_change : Cal P w K mg base 2 "lowest_change" ["numbers"] (spLowC K) := cal_lowest_change D_lowest_change (c_common_divisor.mono (by decide)) B
  have c_is_change : Cal P w K mg base 3 "is_change" ["change"] (spIsC K) := cal_is_change D_is_change (c_lowest_change.mono (by decide))
  have c_read_change : Cal P w K mg base 4 "read_change" ["text"] (spReadC K) := cal_read_change D_read_change (c_read_number.mono (by decide)) (c_is_change.mono (by decide)) B
  have x_read_change : CalX P w K mg base 5 "read_change" ["text"] (fun vs H Q E => (spReadC K) vs H Q E ∨ (spReadCX nn) vs H Q E) := calx_read_change D_read_change (c_read_change.mono (by decide)) (x_read_number.mono (by decide)) (c_is_change.mono (by decide)) B cls
  have u__law_which : CalU P w K mg base 1 "_law_which" ["e"] (spWhich K nc nn np nth nt) := calu__law_which D__law_which B cls
  have c__law_asked : Cal P w K mg base 7 "_law_asked" ["way", "text"] (spAsked17 K) := cal__law_asked D__law_asked (x_read_point.mono (by decide)) (x_read_change.mono (by decide)) (u__law_which.mono (by decide)) cls
  exact ok_law F (c__law_cell_at.mono (by decide)) (c__law_next.mono (by decide)) (c__law_drawn_point.mono (by decide)) (c__law_change.mono (by decide)) (c__law_changed.mono (by decide)) (c__law_written_point.mono (by decide)) (c__law_written_change.mono (by decide)) (c__law_asked.mono (by decide)) B
end Lw
open PySem PySem.W PyProof.Rows
set_option maxRecDepth 100000 in
set_option maxHeartbeats 0 in
theorem PySem.Challenge.cw_crossline_k17_texts_refused_holds : PySem.Challenge.rw_crossline_k17_texts_refused.Holds := by
  w_on; o_law; k_head; (case hw => w_witness2)
  k_fill
  refine L2.walk_of (l := PySem.Challenge.rw_crossline_k17_texts_refused) (n := 63) (k := 9) (x := "script") (CX := fun _ => L2.CX0) (sp := fun w => Cs.spLaw _) rfl (by decide) rfl ⟨rfl, by decide, by decide⟩ (fun w h Y => PySem.W.kIn_of Y) ?F (fun w H a ns hl hO hS => ⟨a, ns, rfl, Cs.Only.scr hS hO, fun _ => rfl⟩) (fun _ _ _ _ _ z => z)
  case F =>
    intro w mg fa h KX G hmg
    have D__law_cell_at : L3.Def (L2.KOf KX) mg "_law_cell_at" Lw.s__law_cell_at ["script", "k"] := by
      dsimp only [L2.KOf]
      refine' L3.def_mk KX G ?a ?l ?c ?k (fun _ _ _ _ _ _ us hl => match us, hl with | [_, _], _ => rfl)
      (case a => k_is); (case l => k_is); (case c => k_is); (case k => k_is)
    have D__law_next : L3.Def (L2.KOf KX) mg "_law_next" Lw.s__law_next ["script", "spot"] := by
      dsimp only [L2.KOf]
      refine' L3.def_mk KX G ?a ?l ?c ?k (fun _ _ _ _ _ _ us hl => match us, hl with | [_, _], _ => rfl)
      (case a => k_is); (case l => k_is); (case c => k_is); (case k => k_is)
    have D__law_common : L3.Def (L2.KOf KX) mg "_law_common" Lw.s__law_common ["one", "other"] := by
      dsimp only [L2.KOf]
      refine' L3.def_mk KX G ?a ?l ?c ?k (fun _ _ _ _ _ _ us hl => match us, hl with | [_, _], _ => rfl)
      (case a => k_is); (case l => k_is); (case c => k_is); (case k => k_is)
    have D__law_point : L3.Def (L2.KOf KX) mg "_law_point" Lw.s__law_point ["top", "bottom"] := by
      dsimp only [L2.KOf]
      refine' L3.def_mk KX G ?a ?l ?c ?k (fun _ _ _ _ _ _ us hl => match us, hl with | [_, _], _ => rfl)
      (case a => k_is); (case l => k_is); (case c => k_is); (case k => k_is)
    have D__law_stir : L3.Def (L2.KOf KX) mg "_law_stir" Lw.s__law_stir ["seed"] := by
      dsimp only [L2.KOf]
      refine' L3.def_mk KX G ?a ?l ?c ?k (fun _ _ _ _ _ _ us hl => match us, hl with | [_], _ => rfl)
      (case a => k_is); (case l => k_is); (case c => k_is); (case k => k_is)
    have D__law_drawn_point : L3.Def (L2.KOf KX) mg "_law_drawn_point" Lw.s__law_drawn_point ["cell"] := by
      dsimp only [L2.KOf]
      refine' L3.def_mk KX G ?a ?l ?c ?k (fun _ _ _ _ _ _ us hl => match us, hl with | [_], _ => rfl)
      (case a => k_is); (case l => k_is); (case c => k_is); (case k => k_is)
    have D__law_plain : L3.Def (L2.KOf KX) mg "_law_plain" Lw.s__law_plain ["numbers"] := by
      dsimp only [L2.KOf]
      refine' L3.def_mk KX G ?a ?l ?c ?k (fun _ _ _ _ _ _ us hl => match us, hl with | [_], _ => rfl)
      (case a => k_is); (case l => k_is); (case c => k_is); (case k => k_is)
    have D__law_turning : L3.Def (L2.KOf KX) mg "_law_turning" Lw.s__law_turning ["cell"] := by
      dsimp only [L2.KOf]
      refine' L3.def_mk KX G ?a ?l ?c ?k (fun _ _ _ _ _ _ us hl => match us, hl with | [_], _ => rfl)
      (case a => k_is); (case l => k_is); (case c => k_is); (case k => k_is)
    have D__law_after : L3.Def (L2.KOf KX) mg "_law_after" Lw.s__law_after ["one", "other"] := by
      dsimp only [L2.KOf]
      refine' L3.def_mk KX G ?a ?l ?c ?k (fun _ _ _ _ _ _ us hl => match us, hl with | [_, _], _ => rfl)
      (case a => k_is); (case l => k_is); (case c => k_is); (case k => k_is)
    have D__law_back : L3.Def (L2.KOf KX) mg "_law_back" Lw.s__law_back ["change"] := by
      dsimp only [L2.KOf]
      refine' L3.def_mk KX G ?a ?l ?c ?k (fun _ _ _ _ _ _ us hl => match us, hl with | [_], _ => rfl)
      (case a => k_is); (case l => k_is); (case c => k_is); (case k => k_is)
    have D__law_change : L3.Def (L2.KOf KX) mg "_law_change" Lw.s__law_change ["script", "spot"] := by
      dsimp only [L2.KOf]
      refine' L3.def_mk KX G ?a ?l ?c ?k (fun _ _ _ _ _ _ us hl => match us, hl with | [_, _], _ => rfl)
      (case a => k_is); (case l => k_is); (case c => k_is); (case k => k_is)
    have D__law_changed : L3.Def (L2.KOf KX) mg "_law_changed" Lw.s__law_changed ["text", "cell"] := by
      dsimp only [L2.KOf]
      refine' L3.def_mk KX G ?a ?l ?c ?k (fun _ _ _ _ _ _ us hl => match us, hl with | [_, _], _ => rfl)
      (case a => k_is); (case l => k_is); (case c => k_is); (case k => k_is)
    have D__law_number : L3.Def (L2.KOf KX) mg "_law_number" Lw.s__law_number ["word"] := by
      dsimp only [L2.KOf]
      refine' L3.def_mk KX G ?a ?l ?c ?k (fun _ _ _ _ _ _ us hl => match us, hl with | [_], _ => rfl)
      (case a => k_is); (case l => k_is); (case c => k_is); (case k => k_is)
    have D__law_written_point : L3.Def (L2.KOf KX) mg "_law_written_point" Lw.s__law_written_point ["text"] := by
      dsimp only [L2.KOf]
      refine' L3.def_mk KX G ?a ?l ?c ?k (fun _ _ _ _ _ _ us hl => match us, hl with | [_], _ => rfl)
      (case a => k_is); (case l => k_is); (case c => k_is); (case k => k_is)
    have D__law_written_change : L3.Def (L2.KOf KX) mg "_law_written_change" Lw.s__law_written_change ["text"] := by
      dsimp only [L2.KOf]
      refine' L3.def_mk KX G ?a ?l ?c ?k (fun _ _ _ _ _ _ us hl => match us, hl with | [_], _ => rfl)
      (case a => k_is); (case l => k_is); (case c => k_is); (case k => k_is)
    have D_read_number : L3.Def (L2.KOf KX) mg "read_number" Lw.s_read_number ["text"] := by
      dsimp only [L2.KOf]
      refine' L3.def_mk KX G ?a ?l ?c ?k (fun _ _ _ _ _ _ us hl => match us, hl with | [_], _ => rfl)
      (case a => k_is); (case l => k_is); (case c => k_is); (case k => k_is)
    have D_common_divisor : L3.Def (L2.KOf KX) mg "common_divisor" Lw.s_common_divisor ["one", "other"] := by
      dsimp only [L2.KOf]
      refine' L3.def_mk KX G ?a ?l ?c ?k (fun _ _ _ _ _ _ us hl => match us, hl with | [_, _], _ => rfl)
      (case a => k_is); (case l => k_is); (case c => k_is); (case k => k_is)
    have D_lowest_point : L3.Def (L2.KOf KX) mg "lowest_point" Lw.s_lowest_point ["top", "bottom"] := by
      dsimp only [L2.KOf]
      refine' L3.def_mk KX G ?a ?l ?c ?k (fun _ _ _ _ _ _ us hl => match us, hl with | [_, _], _ => rfl)
      (case a => k_is); (case l => k_is); (case c => k_is); (case k => k_is)
    have D_is_point : L3.Def (L2.KOf KX) mg "is_point" Lw.s_is_point ["point"] := by
      dsimp only [L2.KOf]
      refine' L3.def_mk KX G ?a ?l ?c ?k (fun _ _ _ _ _ _ us hl => match us, hl with | [_], _ => rfl)
      (case a => k_is); (case l => k_is); (case c => k_is); (case k => k_is)
    have D_read_point : L3.Def (L2.KOf KX) mg "read_point" Lw.s_read_point ["text"] := by
      dsimp only [L2.KOf]
      refine' L3.def_mk KX G ?a ?l ?c ?k (fun _ _ _ _ _ _ us hl => match us, hl with | [_], _ => rfl)
      (case a => k_is); (case l => k_is); (case c => k_is); (case k => k_is)
    have D_lowest_change : L3.Def (L2.KOf KX) mg "lowest_change" Lw.s_lowest_change ["numbers"] := by
      dsimp only [L2.KOf]
      refine' L3.def_mk KX G ?a ?l ?c ?k (fun _ _ _ _ _ _ us hl => match us, hl with | [_], _ => rfl)
      (case a => k_is); (case l => k_is); (case c => k_is); (case k => k_is)
    have D_is_change : L3.Def (L2.KOf KX) mg "is_change" Lw.s_is_change ["change"] := by
      dsimp only [L2.KOf]
      refine' L3.def_mk KX G ?a ?l ?c ?k (fun _ _ _ _ _ _ us hl => match us, hl with | [_], _ => rfl)
      (case a => k_is); (case l => k_is); (case c => k_is); (case k => k_is)
    have D_read_change : L3.Def (L2.KOf KX) mg "read_change" Lw.s_read_change ["text"] := by
      dsimp only [L2.KOf]
      refine' L3.def_mk KX G ?a ?l ?c ?k (fun _ _ _ _ _ _ us hl => match us, hl with | [_], _ => rfl)
      (case a => k_is); (case l => k_is); (case c => k_is); (case k => k_is)
    have D__law_which : L3.Def (L2.KOf KX) mg "_law_which" Lw.s__law_which ["e"] := by
      dsimp only [L2.KOf]
      refine' L3.def_mk KX G ?a ?l ?c ?k (fun _ _ _ _ _ _ us hl => match us, hl with | [_], _ => rfl)
      (case a => k_is); (case l => k_is); (case c => k_is); (case k => k_is)
    have D__law_asked : L3.Def (L2.KOf KX) mg "_law_asked" Lw.s__law_asked ["way", "text"] := by
      dsimp only [L2.KOf]
      refine' L3.def_mk KX G ?a ?l ?c ?k (fun _ _ _ _ _ _ us hl => match us, hl with | [_, _], _ => rfl)
      (case a => k_is); (case l => k_is); (case c => k_is); (case k => k_is)
    have FL : ∃ (f : PySem.Addr) (fd : PySem.FuncData), L2.Fun (L2.KOf KX) "law" "law" Lw.s_law f fd ∧ mg "law" = some (.ref f) ∧ ∀ (s : PySem.Shared) (v : PySem.Value), PySem.BindsTo s fd ⟨[v], []⟩ [("script", v)] := by
      dsimp only [L2.KOf]
      refine' Lw.law_mk KX G ?a ?l ?c ?k
      (case a => k_is); (case l => k_is); (case c => k_is); (case k => k_is)
    have B : L3.Blt mg := by
      refine' ⟨PySem.W.mg_none_of KX G ?b0, PySem.W.mg_none_of KX G ?b1, PySem.W.mg_none_of KX G ?b2, PySem.W.mg_none_of KX G ?b3, PySem.W.mg_none_of KX G ?b4, PySem.W.mg_none_of KX G ?b5, PySem.W.mg_none_of KX G ?b6, PySem.W.mg_none_of KX G ?b7, PySem.W.mg_none_of KX G ?b8, PySem.W.mg_none_of KX G ?b9, PySem.W.mg_none_of KX G ?b10, PySem.W.mg_none_of KX G ?b11, PySem.W.mg_none_of KX G ?b12⟩
      (case b0 => k_is); (case b1 => k_is); (case b2 => k_is); (case b3 => k_is); (case b4 => k_is); (case b5 => k_is); (case b6 => k_is); (case b7 => k_is); (case b8 => k_is); (case b9 => k_is); (case b10 => k_is); (case b11 => k_is); (case b12 => k_is)
    have CLS : ∃ nc nn np nth nt le : PySem.Addr, Cs.ClsOk (L2.KOf KX) mg nc nn np nth nt le := by
      dsimp only [L2.KOf]
      refine' Cs.cls_mk KX G ?a0 ?a1 ?a2 ?a3 ?a4 ?a5 ?a6 (Cs.kind_mk ?p0_0 ?p0_1 ?p0_2 ?p0_3 ?p0_4 ?p0_5 ?p0_6 ?p0_7 ?p0_8 ?p0_9 (by decide) ?p0_10 rfl) (Cs.kind_mk ?p1_0 ?p1_1 ?p1_2 ?p1_3 ?p1_4 ?p1_5 ?p1_6 ?p1_7 ?p1_8 ?p1_9 (by decide) ?p1_10 rfl) (Cs.kind_mk ?p2_0 ?p2_1 ?p2_2 ?p2_3 ?p2_4 ?p2_5 ?p2_6 ?p2_7 ?p2_8 ?p2_9 (by decide) ?p2_10 rfl) (Cs.kind_mk ?p3_0 ?p3_1 ?p3_2 ?p3_3 ?p3_4 ?p3_5 ?p3_6 ?p3_7 ?p3_8 ?p3_9 (by decide) ?p3_10 rfl) (Cs.kind_mk ?p4_0 ?p4_1 ?p4_2 ?p4_3 ?p4_4 ?p4_5 ?p4_6 ?p4_7 ?p4_8 ?p4_9 (by decide) ?p4_10 rfl)
      (case a0 => k_is); (case a1 => k_is); (case a2 => k_is); (case a3 => k_is); (case a4 => k_is); (case a5 => k_is); (case a6 => k_is)
      (case p0_0 => k_exc); (case p0_1 => k_is); (case p0_2 => k_is); (case p0_3 => k_is); (case p0_4 => kit_is); (case p0_5 => kit_is); (case p0_6 => kit_is); (case p0_7 => kit_is); (case p0_8 => kit_is); (case p0_9 => kit_is); (case p0_10 => kts_exm)
      (case p1_0 => k_exc); (case p1_1 => k_is); (case p1_2 => k_is); (case p1_3 => k_is); (case p1_4 => kit_is); (case p1_5 => kit_is); (case p1_6 => kit_is); (case p1_7 => kit_is); (case p1_8 => kit_is); (case p1_9 => kit_is); (case p1_10 => kts_exm)
      (case p2_0 => k_exc); (case p2_1 => k_is); (case p2_2 => k_is); (case p2_3 => k_is); (case p2_4 => kit_is); (case p2_5 => kit_is); (case p2_6 => kit_is); (case p2_7 => kit_is); (case p2_8 => kit_is); (case p2_9 => kit_is); (case p2_10 => kts_exm)
      (case p3_0 => k_exc); (case p3_1 => k_is); (case p3_2 => k_is); (case p3_3 => k_is); (case p3_4 => kit_is); (case p3_5 => kit_is); (case p3_6 => kit_is); (case p3_7 => kit_is); (case p3_8 => kit_is); (case p3_9 => kit_is); (case p3_10 => kts_exm)
      (case p4_0 => k_exc); (case p4_1 => k_is); (case p4_2 => k_is); (case p4_3 => k_is); (case p4_4 => kit_is); (case p4_5 => kit_is); (case p4_6 => kit_is); (case p4_7 => kit_is); (case p4_8 => kit_is); (case p4_9 => kit_is); (case p4_10 => kts_exm)
    obtain ⟨nc, nn, np, nth, nt, le, cls⟩ := CLS
    have CF : ∃ aF, (mg "FAR" = some (.ref aF) ∧ L2.RelV (.ref aF) (Value.ref aF)) ∧ ∀ H, L2.SqT (L2.KOf KX) H aF [.int 1, .int 0] := by
      dsimp only [L2.KOf]
      refine' Cs.far_mk KX G ?a ?l
      (case a => k_is); (case l => k_is)
    obtain ⟨aF, c_FAR, kF⟩ := CF
    have CuN : ∃ u, mg "FAR_NOTE" = some u ∧ L2.RelV (.str "far") u := by
      refine' Cs.str_mk KX G ?a
      (case a => k_is)
    obtain ⟨uN, c_FAR_NOTE⟩ := CuN
    have CuG : ∃ u, mg "FIGURES" = some u ∧ L2.RelV (.str "0123456789") u := by
      refine' Cs.str_mk KX G ?a
      (case a => k_is)
    obtain ⟨uG, c_FIGURES⟩ := CuG
    have CuX : ∃ u, mg "MOST_FIGURES" = some u ∧ L2.RelV (.int 30) u := by
      refine' Cs.int_mk KX G ?a
      (case a => k_is)
    obtain ⟨uX, c_MOST_FIGURES⟩ := CuX
    exact Lw.fin hmg B D__law_cell_at D__law_next D__law_common D__law_point D__law_stir D__law_drawn_point D__law_plain D__law_turning D__law_after D__law_back D__law_change D__law_changed D__law_number D__law_written_point D__law_written_change D_read_number D_common_divisor D_lowest_point D_is_point D_read_point D_lowest_change D_is_change D_read_change D__law_which D__law_asked cls c_FAR kF c_FAR_NOTE c_FIGURES c_MOST_FIGURES FL
#print axioms PySem.Challenge.cw_crossline_k17_texts_refused_holds
