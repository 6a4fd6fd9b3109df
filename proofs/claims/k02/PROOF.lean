import PyProof.Rows.All
import Wide.All
import OpenK.AllK
import Wide.FinOn
import Lean
import PyProof.EqAt
import PyProof.EqKinds
import PyProof.TupleCall
import PySem.Challenge.RW_crossline_k02_refused
set_option Elab.async false
set_option linter.all false
set_option maxRecDepth 100000
namespace Lh
open PySem PySem.W PyProof.Rows
abbrev pw := PySem.Challenge.pw_crossline_k02_refused
def top (i : Nat) : Stmt := PySem.Challenge.pw_crossline_k02_refused.main.body.getD i (.Pass ⟨0, 0, 0, 0⟩)
noncomputable def vw : Program := { PySem.Challenge.pw_crossline_k02_refused with main := { PySem.Challenge.pw_crossline_k02_refused.main with body := [top 1, top 2, top 3, top 4, top 5, top 6, top 8, top 9, top 10, top 11, top 12, top 14, top 15, top 16, top 17, top 18, top 19, top 20, top 21, top 22, top 23, top 24, top 25, top 26, top 27, top 28, top 29, top 30, top 32, top 33, top 34, top 36, top 37, top 38, top 40, top 41, top 42, top 43, top 44, top 45, top 46, top 47, top 49, top 50, top 51, top 52, top 53, top 54, top 55, top 56, top 57, top 58, top 59, top 60, top 61, top 62, top 63, top 64, top 65, top 66, top 67, top 68, top 69] } }
noncomputable def S0 (w : World) (os : OsState) : Shared := ⟨boot_heap w.params, #[], boot_drawn, boot_toks, os⟩
noncomputable def xt : Shared → Bool := fun s => xlAt vw [] s && recOk (RowW.records (OpenRow.toRowW (OpenLaw.row PySem.Challenge.rw_crossline_k02_refused))) s
theorem map_pair {α β γ : Type} {x : Option α} {f : α → β} {g : α → γ} {a : β} {b : γ} (h1 : x.map f = some a) (h2 : x.map g = some b) : x.map (fun s => (f s, g s)) = some (a, b) := by
  cases x with
  | none => cases h1
  | some s => cases h1; cases h2; rfl
theorem top_once {p : Program} {w : World} {N n : Nat} {a : Option Value} {s0 s1 : Shared} (z1 : (s0.heap.isNs mainGlobals && s0.gens.size == 0) = true) (z2 : s0.heap.objs.size = n) (z3 : s0.heap.nsMap mainGlobals "__annotations__" = a)
    (r : topRun treeTable p w n a N s0 (topStub p) = some s1) (c : (staticsOk (importedModules p.main.body) s0.heap s1.heap && namesBound p s1.heap && gensDone s1 && laidKept s0.heap s1.heap) = true) : topFrom treeTable p w N s0 = some s1 := by
  subst z2 z3
  simp only [topFrom, z1, r, Option.bind_some, c]
theorem left_of {p q : Program} {loose : List Str} {Xt : Shared → Bool} {α : Type} {Yf : Shared → α} {Ya : World → α} {N : Nat} {g0 : Bool}
    (o : ∀ w : World, (fencedOpening treeTable p w N).map (fun s => (s.heap, s.gens, s.drawn, s.toks)) = some (boot_heap w.params, Array.mk [], boot_drawn, boot_toks))
    (z : ∀ w : World, ((boot_heap w.params).isNs mainGlobals && (Array.mk ([] : List GenState)).size == 0, (boot_heap w.params).objs.size, (boot_heap w.params).nsMap mainGlobals "__annotations__") = (true, 11, some (.ref 6)))
    (g : ∀ w os, (topRun treeTable p w 11 (some (.ref 6)) N (S0 w os) (topStub p)).map (fun s => staticsOk (importedModules p.main.body) (boot_heap w.params) s.heap && namesBound p s.heap && gensDone s && laidKept (boot_heap w.params) s.heap) = some true)
    (h : ∀ w os, (topRun treeTable p w 11 (some (.ref 6)) N (S0 w os) (topStub p)).map (fun s => (openSeen q loose (importedModules p.main.body) Xt g0 s, Yf s)) = some (openGood q loose, Ya w)) : LeftO p q loose Xt Yf Ya N g0 := fun w => by
  have ho := o w
  have hz := z w
  cases hf : fencedOpening treeTable p w N with
  | none => rw [hf] at ho; cases ho
  | some s0 =>
    rw [hf, Option.map_some, Option.some.injEq] at ho
    have es : s0 = S0 w s0.os := by
      cases s0
      simp only [Prod.mk.injEq] at ho
      simp only [S0, ho]
    cases hr : topRun treeTable p w 11 (some (.ref 6)) N (S0 w s0.os) (topStub p) with
    | none => have hg := g w s0.os; rw [hr] at hg; cases hg
    | some s1 =>
      have hg := g w s0.os
      have hh := h w s0.os
      rw [hr] at hg hh
      have hc := Option.some.inj hg
      have ht := top_once (s0 := S0 w s0.os) (congrArg (fun x => x.1) hz) (congrArg (fun x => x.2.1) hz) (congrArg (fun x => x.2.2) hz) hr hc
      rw [← es] at ht
      simp only [openEnds, hf, Option.bind_some, ht]
      exact hh
theorem size_ok (w : World) : ((boot_heap w.params).isNs mainGlobals && (Array.mk ([] : List GenState)).size == 0, (boot_heap w.params).objs.size, (boot_heap w.params).nsMap mainGlobals "__annotations__") = (true, 11, some (.ref 6)) := by kernel_rfl
theorem seen_ok (w : World) (os : OsState) : (topRun treeTable pw w 11 (some (.ref 6)) 6024 (S0 w os) (topStub pw)).map (fun s => openSeen vw [] (importedModules pw.main.body) xt true s) = some (openGood vw []) := by
  rw [PySem.W.Fast.te14082659384304107361, PySem.W.Fast.te14364793385576792824, PySem.W.Fast.te4187177175401517315]
  kernel_rfl
theorem go_ok (w : World) (os : OsState) : (topRun treeTable pw w 11 (some (.ref 6)) 6024 (S0 w os) (topStub pw)).map (fun s => staticsOk (importedModules pw.main.body) (boot_heap w.params) s.heap && namesBound pw s.heap && gensDone s && laidKept (boot_heap w.params) s.heap) = some true := by
  rw [PySem.W.Fast.te14082659384304107361, PySem.W.Fast.te14364793385576792824]
  kernel_rfl
set_option hygiene false in
local macro_rules | `(tactic| o_head $H) => `(tactic| (refine holds_open (q := vw) (loose := []) (Xt := xt) (XP := XL vw []) (Yf := Hook.obs $H) (Ya := Hook.val $H) (YP := Hook.says $H) (N := 6024) ?hl (Hook.of $H) (Hook.keeps $H) (fun s e => xl_of s (Bool.and_eq_true_iff.mp e).1) XL.keeps (by rfl) (by rfl) (by rfl) (fun s e => recFacts_of (Bool.and_eq_true_iff.mp e).2) (by rfl) (by assumption) (by decide +kernel) ⟨rfl, rfl, rfl, rfl, rfl, by decide +kernel⟩ ?hw ?hc; (case hl => exact left_of (boot_open (by kernel_rfl) (by decide) (fun s => by kernel_rfl)) size_ok go_ok fun w os => map_pair (seen_ok w os) (by kernel_rfl))))
set_option maxHeartbeats 0 in
open_top hd for PySem.Challenge.rw_crossline_k02_refused
end Lh
namespace L2
open PySem PySem.Spec PyProof.Rows
abbrev Key := Sum Int Str
def keyIs : Key → Value → Bool
  | .inl k, v => Value.isInt k v
  | .inr x, v => Value.isStrOf x v
def keyH (w : World) : Key → Int
  | .inl k => hashInt k
  | .inr x => hashStr w x
theorem keyIs_shape : ∀ {k : Key} {v : Value}, keyIs k v = true → (∃ i t, k = Sum.inl i ∧ v = Value.int i t) ∨ (∃ x t, k = Sum.inr x ∧ v = Value.str x t)
  | .inl i, v, h => by
    obtain ⟨t, e⟩ := Value.isInt_shape (k := i) (v := v) h
    exact .inl ⟨i, t, rfl, e⟩
  | .inr x, v, h => by
    obtain ⟨t, e⟩ := Value.isStrOf_shape (x := x) (v := v) h
    exact .inr ⟨x, t, rfl, e⟩
theorem key_ll (a b : Int) : decide ((Sum.inl a : Key) = Sum.inl b) = (a == b) := by
  by_cases e : a = b
  · subst e; simp
  · have h : ¬ (Sum.inl a : Key) = Sum.inl b := fun q => e (Sum.inl.inj q)
    rw [decide_eq_false h]
    exact (beq_eq_false_iff_ne.mpr e).symm
theorem key_rr (a b : Str) : decide ((Sum.inr a : Key) = Sum.inr b) = decide (a = b) := by
  by_cases e : a = b
  · subst e; simp
  · have h : ¬ (Sum.inr a : Key) = Sum.inr b := fun q => e (Sum.inr.inj q)
    rw [decide_eq_false h, decide_eq_false e]
theorem key_lr (a : Int) (b : Str) : decide ((Sum.inl a : Key) = Sum.inr b) = false := decide_eq_false (fun q => nomatch q)
theorem key_rl (a : Str) (b : Int) : decide ((Sum.inr a : Key) = Sum.inl b) = false := decide_eq_false (fun q => nomatch q)
def mixKind (prog : Program) (w : World) : PySem.KeyKind prog w Key where
  is := keyIs
  hash := keyH w
  inj := fun v a b ha hb => by
    rcases keyIs_shape ha with ⟨i, t, rfl, rfl⟩ | ⟨x, t, rfl, rfl⟩
    · rcases keyIs_shape hb with ⟨j, u, rfl, e⟩ | ⟨y, u, rfl, e⟩
      · injection e with e1 _; rw [e1]
      · exact nomatch e
    · rcases keyIs_shape hb with ⟨j, u, rfl, e⟩ | ⟨y, u, rfl, e⟩
      · exact nomatch e
      · injection e with e1 _; rw [e1]
  byValue := fun k v h => by
    rcases keyIs_shape h with ⟨i, t, rfl, rfl⟩ | ⟨x, t, rfl, rfl⟩ <;> rfl
  pyHash := fun hv h => by
    rcases keyIs_shape hv with ⟨i, t, rfl, rfl⟩ | ⟨x, t, rfl, rfl⟩
    · exact wpAny_pyHash_int h
    · exact wpAny_pyHash_str h
  eqBool := fun hu hv h => by
    rcases keyIs_shape hu with ⟨i, t, rfl, rfl⟩ | ⟨x, t, rfl, rfl⟩
    · rcases keyIs_shape hv with ⟨j, u, rfl, rfl⟩ | ⟨y, u, rfl, rfl⟩
      · rw [key_ll] at h; exact wpAny_eqBool_int h
      · rw [key_lr] at h; exact SeqAt.EqAt.int_str i t y u _ _ _ _ h
    · rcases keyIs_shape hv with ⟨j, u, rfl, rfl⟩ | ⟨y, u, rfl, rfl⟩
      · rw [key_rl] at h; exact SeqAt.EqAt.str_int x t j u _ _ _ _ h
      · rw [key_rr] at h; exact wpAny_eqBool_str h
  «strs» := fun k x t v h => by
    rcases keyIs_shape h with ⟨i, u, rfl, e⟩ | ⟨y, u, rfl, e⟩
    · exact nomatch e
    · injection e with e1 _
      subst e1
      cases v <;> rfl
end L2
namespace L2
open PySem PySem.Spec PyProof.Rows
inductive V where
  | non | bl (b : Bool) | int (i : Int) | str (x : Str) | byt (b : Array UInt8) | flt (b : UInt64) | ref (a : Addr) | ty (n : String)
  deriving DecidableEq
def RelV : V → Value → Prop
  | .non, u => u = Value.none
  | .bl b, u => u = Value.bool b
  | .int i, u => ∃ t, u = Value.int i t
  | .str x, u => ∃ t, u = Value.str x t
  | .byt b, u => ∃ t, u = Value.bytes b t
  | .flt b, u => ∃ t, u = Value.float b t
  | .ref a, u => u = Value.ref a
  | .ty n, u => u = Value.type n
abbrev Vals : List V → List Value → Prop := Paired RelV
theorem Vals.length {xs : List V} {us : List Value} (r : Vals xs us) : xs.length = us.length := Paired.length r
theorem Vals.get : ∀ {xs : List V} {us : List Value} {i : Nat} {x : V}, Vals xs us → xs[i]? = some x → ∃ u, us[i]? = some u ∧ RelV x u
  | _, _, _, _, .nil, e => by simp at e
  | _, _, 0, _, .cons r _, e => by simp at e; subst e; exact ⟨_, rfl, r⟩
  | _, _, i + 1, x, .cons _ t, e => by
    obtain ⟨u, h1, h2⟩ := Vals.get (i := i) (x := x) t (by simpa using e)
    exact ⟨u, by simpa using h1, h2⟩
theorem Vals.set {x : V} {u : Value} (r : RelV x u) : ∀ {xs : List V} {us : List Value} (i : Nat), Vals xs us → Vals (xs.set i x) (us.set i u)
  | _, _, _, .nil => .nil
  | _, _, 0, .cons _ t => .cons r t
  | _, _, i + 1, .cons q t => .cons q (Vals.set r i t)
theorem Vals.append : ∀ {xs ys : List V} {us ws : List Value}, Vals xs us → Vals ys ws → Vals (xs ++ ys) (us ++ ws)
  | _, _, _, _, .nil, s => s
  | _, _, _, _, .cons r t, s => .cons r (Vals.append t s)
theorem Vals.take : ∀ {xs : List V} {us : List Value} (n : Nat), Vals xs us → Vals (xs.take n) (us.take n)
  | _, _, 0, _ => .nil
  | _, _, _ + 1, .nil => .nil
  | _, _, n + 1, .cons r t => .cons r (Vals.take n t)
theorem Vals.drop : ∀ {xs : List V} {us : List Value} (n : Nat), Vals xs us → Vals (xs.drop n) (us.drop n)
  | _, _, 0, r => r
  | _, _, _ + 1, .nil => .nil
  | _, _, n + 1, .cons _ t => Vals.drop n t
def RelO : Option V → Option Value → Prop
  | some v, some u => RelV v u
  | none, none => True
  | _, _ => False
def KV {κ : Type} : List (κ × V) → List (κ × Value) → Prop := Paired fun (p : κ × V) (q : κ × Value) => p.1 = q.1 ∧ RelV p.2 q.2
def kV : Key → V
  | .inl i => .int i
  | .inr x => .str x
inductive HO where
  /-- a list -/
  | lst (xs : List V)
  /-- a tuple (never changes) -/
  | tup (xs : List V)
  /-- a dict whose keys are ints and texts; one whose keys are tuples of ints and texts (the empty one is both) -/
  | dK (kvs : List (Key × V)) | dT (kvs : List (List Key × V))
  /-- a set of ints: its members, its size -/
  | set (S : Int → Bool) (n : Nat)
  /-- an instance of the class at C, its dict at dx, its attributes -/
  | ins (C dx : Addr) (fs : List (Str × V))
  /-- the dict of the instance at x -/
  | own (x : Addr)
  /-- the dict of an exception -/
  | xd (fs : List (Str × V))
  /-- a bound method, f of x -/
  | met (f x : Addr)
  /-- a range object lo, lo + 1, .. below hi -/
  | rng (lo hi : Int)
  /-- a thing that is known to the object (the script; a dict while a loop walks it): read, never written while it is so -/
  | frz (o : Obj) (u : HO)
  /-- a code object's table -/
  | tbl (ps : Array Value)
  /-- any other thing, by what is true of its one object (a def of one's own: SetO a S n := HO.ext fun h => ..) -/
  | ext (φ : Heap → Prop)
abbrev Hp := Addr → Option HO
def upd (H : Hp) (a : Addr) (o : HO) : Hp := fun b => if b = a then some o else H b
theorem upd_same {H : Hp} {a : Addr} {o : HO} : upd H a o a = some o := by unfold upd; rw [if_pos rfl]
theorem upd_ne {H : Hp} {a b : Addr} {o : HO} (h : b ≠ a) : upd H a o b = H b := by unfold upd; rw [if_neg h]
theorem ne_of {H : Hp} {a b : Addr} {o u : HO} (h : H a = some o) (h' : H b = some u) (d : o ≠ u) : a ≠ b := by
  intro e; subst e; rw [h] at h'; exact d (Option.some.inj h')
theorem ne_of_none {H : Hp} {a b : Addr} {o : HO} (h : H a = some o) (h' : H b = none) : a ≠ b := by
  intro e; subst e; rw [h] at h'; cases h'
section
variable (P : Program) (w : World)
def ObjOk (H : Hp) (h : Heap) (a : Addr) : HO → Prop
  | .lst xs => xs.length ≤ sizeLine ∧ ∃ (its : List Value) (n : Nat), Vals xs its ∧ h.get? a = some { cls := .type "list", data := .seq its.toArray n }
  | .tup xs => xs.length ≤ sizeLine ∧ ∃ its : List Value, Vals xs its ∧ IsTup h a its.toArray
  | .dK kvs => kvs.length ≤ sizeLine ∧ (a == sysModules) = false ∧ ∃ vs, KV kvs vs ∧ h.DictOf (mixKind P w) a vs
  | .dT kvs => kvs.length ≤ sizeLine ∧ (a == sysModules) = false ∧ ∃ xs : List (List Key × Addr × Value),
      Paired (fun (p : List Key × V) (q : List Key × Addr × Value) => p.1 = q.1 ∧ H q.2.1 = some (.tup (p.1.map kV)) ∧ RelV p.2 q.2.2) kvs xs ∧
      ∃ o es ep, h.get? a = some o ∧ o.ExactDict ∧ o.data = .dict es ep ∧ es.toList = xs.map (entryOfKey (tupleKind (mixKind P w))) ∧ (xs.map (·.1)).Nodup
  | .set S n => h.SetOf (intKind P w) a S n
  | .ins C dx fs => H dx = some (.own a) ∧ fs.length ≤ 1000 ∧ dx ≠ a ∧ h.get? a = some (PySem.W.instObj C dx) ∧
      ∃ mA, h.Ns1 dx mA ∧ (∀ f, RelO (fs.lookup f) (mA f)) ∧ PySem.Within mA (fs.map (·.1))
  | .own _ => ∃ o, h.get? a = some o
  | .xd fs => ∃ mA, h.Ns1 a mA ∧ ∀ f, RelO (fs.lookup f) (mA f)
  | .rng lo hi => ∃ t u v, h.get? a = some { cls := .type "range", data := .fields #[.int lo t, .int hi u, .int 1 v] }
  | .frz o u => h.get? a = some o ∧ ObjOk H h a u
  | .tbl ps => h.get? a = some { cls := .none, data := .fields ps }
  | .met f x => h.get? a = some (PySem.W.methodObj (.ref f) (.ref x))
  | .ext φ => φ h ∧ (∃ o, h.get? a = some o) ∧ ∀ h1 h2 : Heap, φ h1 → (∀ o, h1.get? a = some o → h2.get? a = some o) → φ h2
def HOk (H : Hp) (h : Heap) : Prop := ∀ a o, H a = some o → ObjOk P w H h a o
end
section
variable {P : Program} {w : World} {H H' : Hp} {h h' : Heap} {a : Addr} {o : HO}
theorem ObjOk.lt (x : ObjOk P w H h a o) : a < h.objs.size := by
  cases o with
  | lst xs => obtain ⟨_, _, _, _, e⟩ := x; exact Heap.lt_size e
  | tup xs => obtain ⟨_, _, _, p⟩ := x; exact p.lt
  | dK kvs => obtain ⟨_, _, _, _, o, _, _, e, _⟩ := x; exact Heap.lt_size e
  | dT kvs => obtain ⟨_, _, _, _, o, _, _, e, _⟩ := x; exact Heap.lt_size e
  | set S n => obtain ⟨o, _, _, _, e, _⟩ := x; exact Heap.lt_size e
  | ins C dx fs => obtain ⟨_, _, _, e, _⟩ := x; exact Heap.lt_size e
  | own y => obtain ⟨_, e⟩ := x; exact Heap.lt_size e
  | xd fs => obtain ⟨_, ⟨_, _, _, e, _⟩, _⟩ := x; exact Heap.lt_size e
  | rng lo hi => obtain ⟨_, _, _, e⟩ := x; exact Heap.lt_size e
  | frz ob u => obtain ⟨e, _⟩ := x; exact Heap.lt_size e
  | tbl ps => exact Heap.lt_size (show h.get? a = some _ from x)
  | met f y => exact Heap.lt_size (show h.get? a = some _ from x)
  | ext φ => obtain ⟨_, ⟨_, e⟩, _⟩ := x; exact Heap.lt_size e
theorem Paired.mapP {α β : Type} {F G : α → β → Prop} : ∀ {l₁ : List α} {l₂ : List β}, Paired F l₁ l₂ → (∀ a b, F a b → G a b) → Paired G l₁ l₂
  | _, _, .nil, _ => .nil
  | _, _, .cons r t, f => .cons (f _ _ r) (Paired.mapP t f)
theorem ObjOk.stay (x : ObjOk P w H h a o) (k : ∀ b u, (b = a ∨ H b = some (.own a)) → h.get? b = some u → h'.get? b = some u)
    (ho : ∀ b, H b = some (.own a) → H' b = some (.own a)) (ht : ∀ b xs, H b = some (.tup xs) → H' b = some (.tup xs)) : ObjOk P w H' h' a o := by
  induction o with
  | lst xs => obtain ⟨z, its, n, r, e⟩ := x; exact ⟨z, its, n, r, k _ _ (.inl rfl) e⟩
  | tup xs => obtain ⟨z, its, r, ob, e, c⟩ := x; exact ⟨z, its, r, ob, k _ _ (.inl rfl) e, c⟩
  | dK kvs => obtain ⟨z, y, vs, r, ob, es, ep, e, c⟩ := x; exact ⟨z, y, vs, r, ob, es, ep, k _ _ (.inl rfl) e, c⟩
  | dT kvs =>
    obtain ⟨z, y, xs, r, ob, es, ep, e, c⟩ := x
    exact ⟨z, y, xs, Paired.mapP r fun p q z => ⟨z.1, ht _ _ z.2.1, z.2.2⟩, ob, es, ep, k _ _ (.inl rfl) e, c⟩
  | set S n => obtain ⟨ob, es, ep, t, e, c⟩ := x; exact ⟨ob, es, ep, t, k _ _ (.inl rfl) e, c⟩
  | ins C dx fs =>
    obtain ⟨d, z, ne, e, mA, ⟨od, es, ep, e2, c⟩, r⟩ := x
    exact ⟨ho _ d, z, ne, k _ _ (.inl rfl) e, mA, ⟨od, es, ep, k _ _ (.inr d) e2, c⟩, r⟩
  | own y => obtain ⟨ob, e⟩ := x; exact ⟨ob, k _ _ (.inl rfl) e⟩
  | xd fs => obtain ⟨mA, ⟨od, es, ep, e, c⟩, r⟩ := x; exact ⟨mA, ⟨od, es, ep, k _ _ (.inl rfl) e, c⟩, r⟩
  | rng lo hi => obtain ⟨t, u, v, e⟩ := x; exact ⟨t, u, v, k _ _ (.inl rfl) e⟩
  | frz ob u ih => obtain ⟨e, q⟩ := x; exact ⟨k _ _ (.inl rfl) e, ih q⟩
  | tbl ps =>
    have e : h.get? a = some { cls := .none, data := .fields ps } := x
    show h'.get? a = some { cls := .none, data := .fields ps }
    exact k a _ (.inl rfl) e
  | met f y =>
    have e : h.get? a = some (PySem.W.methodObj (.ref f) (.ref y)) := x
    show h'.get? a = some (PySem.W.methodObj (.ref f) (.ref y))
    exact k a _ (.inl rfl) e
  | ext φ => obtain ⟨p, ⟨o, e⟩, st⟩ := x; exact ⟨st _ _ p fun o q => k _ _ (.inl rfl) q, ⟨o, k _ _ (.inl rfl) e⟩, st⟩
theorem HOk.lt (x : HOk P w H h) (e : H a = some o) : a < h.objs.size := (x a o e).lt
theorem HOk.fresh (x : HOk P w H h) (e : h.objs.size ≤ a) : H a = none := by
  cases q : H a with
  | none => rfl
  | some u => exact absurd (Nat.lt_of_lt_of_le (x.lt q) e) (Nat.lt_irrefl _)
theorem HOk.kept (x : HOk P w H h) (k : ∀ b u, h.get? b = some u → h'.get? b = some u) : HOk P w H h' := fun a o e =>
  (x a o e).stay (fun b u _ q => k b u q) (fun _ q => q) fun _ _ q => q
theorem HOk.laid (x : HOk P w H h) (k : ∀ b u, h.get? b = some u → h'.get? b = some u) (hp : h.objs.size ≤ a) (new : ObjOk P w (upd H a o) h' a o) : HOk P w (upd H a o) h' := fun b u e => by
  have hn := x.fresh hp
  by_cases hb : b = a
  · subst hb; rw [upd_same] at e; cases e; exact new
  · rw [upd_ne hb] at e
    exact (x b u e).stay (fun c v _ q => k c v q) (fun c q => by rw [upd_ne (ne_of_none q hn)]; exact q) fun c xs q => by rw [upd_ne (ne_of_none q hn)]; exact q
end
def Rd (H : Hp) (a : Addr) (u : HO) : Prop := H a = some u ∨ ∃ o, H a = some (.frz o u)
theorem Rd.ok {P : Program} {w : World} {H : Hp} {h : Heap} {a : Addr} {u : HO} (r : Rd H a u) (x : HOk P w H h) : ObjOk P w H h a u := by
  rcases r with r | ⟨o, r⟩
  · exact x a u r
  · obtain ⟨_, q⟩ := x a _ r
    exact q
def Mut : Option HO → Prop
  | some (.lst _) => True
  | some (.dK _) => True
  | some (.dT _) => True
  | some (.set _ _) => True
  | some (.ins _ _ _) => True
  | some (.ext _) => True
  | _ => False
section
variable {P : Program} {w : World} {H : Hp} {h h' : Heap} {x e : Addr} {o' : HO}
theorem HOk.write (ok : HOk P w H h) (mu : Mut (H x)) (he : e = x ∨ H e = some (.own x)) (k : ∀ b u, b ≠ e → h.get? b = some u → h'.get? b = some u) (heo : ∃ u, h'.get? e = some u)
    (new : ObjOk P w (upd H x o') h' x o') : HOk P w (upd H x o') h' := fun b u q => by
  have nown : ∀ c y, H c = some (.own y) → c ≠ x := fun c y r z => by subst z; rw [r] at mu; exact mu
  have ntup : ∀ c xs, H c = some (.tup xs) → c ≠ x := fun c xs r z => by subst z; rw [r] at mu; exact mu
  by_cases hb : b = x
  · subst hb; rw [upd_same] at q; cases q; exact new
  · rw [upd_ne hb] at q
    by_cases hbe : b = e
    · have q' : H b = some (.own x) := by
        rcases he with z | z
        · exact absurd (hbe.trans z) hb
        · rw [hbe]; exact z
      rw [q] at q'; cases q'
      obtain ⟨v, hv⟩ := heo
      exact ⟨v, by rw [hbe]; exact hv⟩
    · refine (ok b u q).stay (fun c v hc r => k c v ?_ r) (fun c r => by rw [upd_ne (nown c b r)]; exact r) fun c xs r => by rw [upd_ne (ntup c xs r)]; exact r
      rcases hc with rfl | hc
      · exact hbe
      · rintro rfl
        rcases he with z | z
        · exact nown c b hc z
        · rw [hc] at z; cases z; exact hb rfl
end
structure Un (fs ex : List Addr) (H H' : Hp) (h h' : Heap) : Prop where
  keep : ∀ b o, h.get? b = some o → H b = none → b ∉ fs → b ∉ ex → h'.get? b = some o
  slot : ∀ b o, h.get? b = some o → H b = none → b ∈ fs → b ∉ ex → ∃ sl, h'.get? b = some { o with slots := sl }
  free : ∀ b o, h.get? b = some o → H b = none → b ∉ ex → H' b = none
  there : ∀ b o, h.get? b = some o → b ∉ ex → ∃ o', h'.get? b = some o'
  tups : ∀ b xs, H b = some (.tup xs) → H' b = some (.tup xs)
  frzs : ∀ b o u, H b = some (.frz o u) → H' b = some (.frz o u)
  tbls : ∀ b ps, H b = some (.tbl ps) → ∃ more, H' b = some (.tbl (ps ++ more))
section
variable {fs fs' ex ex' : List Addr} {H H1 H2 : Hp} {h h1 h2 h' : Heap} {a x e : Addr} {o : HO}
theorem Un.any (u : Un fs ex H H1 h h1) {b : Addr} {ob : Obj} (q : h.get? b = some ob) (n : H b = none) (hx : b ∉ ex) : ∃ sl, h1.get? b = some { ob with slots := sl } := by
  by_cases hb : b ∈ fs
  · exact u.slot b ob q n hb hx
  · exact ⟨ob.slots, u.keep b ob q n hb hx⟩
theorem Un.trans (a : Un fs ex H H1 h h1) (b : Un fs ex H1 H2 h1 h2) : Un fs ex H H2 h h2 where
  keep := fun c ob q n hc hx => b.keep c ob (a.keep c ob q n hc hx) (a.free c ob q n hx) hc hx
  slot := fun c ob q n hc hx => by
    obtain ⟨sl, e1⟩ := a.slot c ob q n hc hx
    obtain ⟨sl', e2⟩ := b.slot c _ e1 (a.free c ob q n hx) hc hx
    exact ⟨sl', e2⟩
  free := fun c ob q n hx => by
    obtain ⟨o', e1⟩ := a.there c ob q hx
    exact b.free c o' e1 (a.free c ob q n hx) hx
  there := fun c ob q hx => by
    obtain ⟨o', e1⟩ := a.there c ob q hx
    exact b.there c o' e1 hx
  tups := fun c xs q => b.tups c xs (a.tups c xs q)
  frzs := fun c ob xs q => b.frzs c ob xs (a.frzs c ob xs q)
  tbls := fun c ps q => by
    obtain ⟨m1, e1⟩ := a.tbls c ps q
    obtain ⟨m2, e2⟩ := b.tbls c _ e1
    exact ⟨m1 ++ m2, by rw [e2, Array.append_assoc]⟩
theorem Un.kept (k : ∀ b u, h.get? b = some u → h'.get? b = some u) : Un fs ex H H h h' :=
  ⟨fun b ob q _ _ _ => k b ob q, fun b ob q _ _ _ => ⟨ob.slots, k b ob q⟩, fun _ _ _ n _ => n, fun b ob q _ => ⟨ob, k b ob q⟩, fun _ _ q => q, fun _ _ _ q => q, fun _ ps q => ⟨#[], by rw [q]; simp⟩⟩
theorem Un.refl : Un fs ex H H h h := Un.kept fun _ _ q => q
theorem Un.laid (k : ∀ b u, h.get? b = some u → h'.get? b = some u) (hp : h.objs.size ≤ a) (hn : H a = none) : Un fs ex H (upd H a o) h h' where
  keep := fun b u q _ _ _ => k b u q
  slot := fun b u q _ _ _ => ⟨u.slots, k b u q⟩
  free := fun b u q n _ => by rw [upd_ne (Nat.ne_of_lt (Nat.lt_of_lt_of_le (Heap.lt_size q) hp))]; exact n
  there := fun b u q _ => ⟨u, k b u q⟩
  tups := fun b xs q => by rw [upd_ne (ne_of_none q hn)]; exact q
  frzs := fun b u xs q => by rw [upd_ne (ne_of_none q hn)]; exact q
  tbls := fun b ps q => ⟨#[], by rw [upd_ne (ne_of_none q hn), q]; simp⟩
theorem Un.write (mu : Mut (H x)) (he : e = x ∨ H e = some (.own x)) (k : ∀ b u, b ≠ e → h.get? b = some u → h'.get? b = some u) (heo : ∃ u, h'.get? e = some u) : Un fs ex H (upd H x o) h h' := by
  have hx : ∀ b, H b = none → b ≠ x := fun b n z => by subst z; rw [n] at mu; exact mu
  have hb : ∀ b, H b = none → b ≠ e := fun b n z => by
    subst z
    rcases he with r | r
    · exact hx b n r
    · rw [n] at r; cases r
  have hm : ∀ b u, H b = some u → ¬ Mut (some u) → b ≠ x := fun b u q nm z => by subst z; rw [q] at mu; exact nm mu
  refine ⟨fun b u q n _ _ => k b u (hb b n) q, fun b u q n _ _ => ⟨u.slots, k b u (hb b n) q⟩, fun b u q n _ => by rw [upd_ne (hx b n)]; exact n, fun b u q _ => ?_,
    fun b xs q => by rw [upd_ne (hm b _ q fun z => z)]; exact q, fun b u xs q => by rw [upd_ne (hm b _ q fun z => z)]; exact q, fun b ps q => ⟨#[], by rw [upd_ne (hm b _ q fun z => z), q]; simp⟩⟩
  by_cases hbe : b = e
  · subst hbe; exact heo
  · exact ⟨u, k b u hbe q⟩
end
def trk (h : Heap) (H : Hp) : List Addr := (List.range h.objs.size).filter fun a => (H a).isSome
def hidT (h : Heap) (H : Hp) : Heap := PySem.W.hideAll h (trk h H)
theorem hidT_size (h : Heap) (H : Hp) : (hidT h H).objs.size = h.objs.size := PySem.W.hideAll_size _ _
theorem hidT_get {h : Heap} {H : Hp} {b : Addr} {o : Obj} (e : h.get? b = some o) (n : H b = none) : (hidT h H).get? b = some o :=
  PySem.W.hideAll_get _ e fun hm => by
    have q : (H b).isSome = true := (List.mem_filter.mp hm).2
    rw [n] at q; simp at q
theorem of_hidT {h : Heap} {H : Hp} {b : Addr} {o : Obj} (e : (hidT h H).get? b = some o) : h.get? b = some o ∧ H b = none := by
  have e' : h.get? b = some o := PySem.W.of_hideAll (trk h H) e
  refine ⟨e', ?_⟩
  cases q : H b with
  | none => rfl
  | some x =>
    have hm : b ∈ trk h H := List.mem_filter.mpr ⟨List.mem_range.mpr (Heap.lt_size e'), by simp [q]⟩
    have z : (hidT h H).get? b = none := PySem.W.hideAll_none (trk h H) hm
    rw [z] at e; cases e
def allNews (g h : Heap) (L : Addr) : List (Addr × Obj) := (List.range h.objs.size).filterMap fun a => if a = L ∨ (g.get? a).isSome = true then none else (h.get? a).map fun o => (a, o)
def rest (g h : Heap) (L d : Addr) : List (Addr × Obj) := (allNews g h L).filter fun p => decide (p.1 ≠ d)
end L2
namespace L2
open PySem PySem.Spec PyProof.Rows
structure Mod (K : PySem.W.Frag) (mg : Str → Option Value) (base : Heap) : Prop where
  kin : K.In base
  glob : base.Ns mainGlobals mg
  blt : ∃ mb, base.Ns builtinsNs mb ∧ ∀ x : Str, x ≠ "__name__" → mb x = bootBuiltins x
  nolimit : base.NoLimit
structure Cx where
  prog : Program
  w : World
  K : PySem.W.Frag
  mg : Str → Option Value
  base : Heap
  A : Around
  N : List Str
  s₀ : Shared
  H₀ : Hp
  env : Env
  outer : List Env
  stack : List Env
  ex : List Addr
  fn : Str → Bool
  calm : Bool
  pn : List (Addr × Obj)
  xe : Value → Shared → Prop
def frs (l : List Env) : List Addr := l.filterMap (·.frame)
abbrev Cx.fs (X : Cx) : List Addr := frs X.outer
def Vis (sc : Scope) (x : Str) : Prop := sc.names.lookup x = some .local ∨ sc.names.lookup x = some .cell ∨ sc.names.lookup x = some .free
def Loc (sc : Scope) (x : Str) : Prop := sc.names.lookup x = some .local ∨ sc.names.lookup x = some .cell
def Look (env : Env) (h : Heap) (m : Str → Option Value) (x : Str) (u : Value) : Prop :=
  (env.kindOf x = some .local ∧ m x = some u) ∨ ((env.kindOf x = some .cell ∨ env.kindOf x = some .free) ∧ ∃ c, env.cells.lookup x = some c ∧ h.IsCell c (some u))
structure Cx.Ok (X : Cx) : Prop where
  mod : Mod X.K X.mg X.base
  kind : X.env.scope.kind = .function
  glob : X.env.globals = mainGlobals
  blt : X.env.builtins = builtinsNs
  above : X.s₀.heap.objs.size ≤ X.env.locals
  inj : ∀ x y c, X.env.cells.lookup x = some c → X.env.cells.lookup y = some c → x = y
  has : ∀ x, (X.env.kindOf x = some .cell ∨ X.env.kindOf x = some .free) → ∃ c, X.env.cells.lookup x = some c
  cab : ∀ x c, X.fn x = true → X.env.cells.lookup x = some c → X.s₀.heap.objs.size ≤ c
  hd : X.calm = true → X.A.handled = none
  frames : X.A.frames = some X.stack
  stk : X.stack = X.outer ∨ (X.stack = X.env :: X.outer ∧ X.env.frame = some X.env.locals)
  exf : ∀ b ∈ X.ex, b ≠ X.env.locals ∧ ∀ x c, X.env.cells.lookup x = some c → c ≠ b
  bs : ∀ b o, X.base.get? b = some o → X.s₀.heap.get? b = some o ∧ X.H₀ b = none
  bsz : X.base.objs.size ≤ X.s₀.heap.objs.size
  noex : ∀ b o, X.base.get? b = some o → b ∉ X.ex
  exfs : ∀ b ∈ X.ex, b ∉ X.fs
  funs : X.s₀.heap.FunFrames X.base X.outer
  frf : ∀ b ∈ X.fs, X.H₀ b = none
structure Inv (X : Cx) (pins : List (Addr × Obj)) (σ : List (Option V)) (H : Hp) (s : Shared) : Prop where
  ok : X.Ok
  os : s.os = X.s₀.os
  bare : AllBare s.gens
  base : Un X.fs X.ex X.H₀ H X.s₀.heap s.heap
  loc : ∃ m, s.heap.Ns X.env.locals m ∧ ∀ (i : Nat) (x : Str) (v : V), X.N[i]? = some x → σ[i]? = some (some v) → Vis X.env.scope x → ∃ u, RelV v u ∧ Look X.env s.heap m x u
  cell : ∀ x c, X.env.cells.lookup x = some c → ∃ v, s.heap.IsCell c v
  free : H X.env.locals = none
  freeC : ∀ x c, X.env.cells.lookup x = some c → H c = none
  pin : ∀ p ∈ X.pn ++ pins, s.heap.get? p.1 = some p.2 ∧ H p.1 = none ∧ p.1 ≠ X.env.locals ∧ p.1 ∉ X.fs ∧ ∀ v, p.2.data ≠ .cell v
  hok : HOk X.prog X.w H s.heap
  len : σ.length = X.N.length
section
variable {X : Cx} {pins : List (Addr × Obj)} {σ : List (Option V)} {H H' : Hp} {s : Shared} {h' : Heap}
theorem Cx.Ok.nofr (ok : X.Ok) {b : Addr} {o : Obj} (e : X.base.get? b = some o) : b ∉ X.fs := fun hb => by
  have := (ok.funs.mem hb).1
  rw [e] at this; cases this
theorem Inv.bs (I : Inv X pins σ H s) : ∀ b o, X.base.get? b = some o → s.heap.get? b = some o ∧ H b = none := fun b o e =>
  ⟨I.base.keep b o (I.ok.bs b o e).1 (I.ok.bs b o e).2 (I.ok.nofr e) (I.ok.noex b o e), I.base.free b o (I.ok.bs b o e).1 (I.ok.bs b o e).2 (I.ok.noex b o e)⟩
theorem Inv.bk (I : Inv X pins σ H s) : ∀ b o, X.base.get? b = some o → s.heap.get? b = some o := fun b o e => (I.bs b o e).1
theorem Inv.mod (I : Inv X pins σ H s) : Mod X.K X.mg X.base := I.ok.mod
theorem Inv.kIn (I : Inv X pins σ H s) : X.K.In s.heap := I.ok.mod.kin.keeps I.bk
theorem Inv.lt (I : Inv X pins σ H s) : X.env.locals < s.heap.objs.size := let ⟨_, hn, _⟩ := I.loc; hn.lt
theorem Inv.sz (I : Inv X pins σ H s) : X.s₀.heap.objs.size ≤ s.heap.objs.size := Nat.le_trans I.ok.above (Nat.le_of_lt I.lt)
theorem Inv.nofs (I : Inv X pins σ H s) {a : Addr} (h : s.heap.objs.size ≤ a) : a ∉ X.fs := fun hb => by
  obtain ⟨_, o, ho, _⟩ := I.ok.funs.mem hb
  exact absurd (Nat.lt_of_lt_of_le (Heap.lt_size ho) (Nat.le_trans I.sz h)) (Nat.lt_irrefl _)
theorem Inv.cne (I : Inv X pins σ H s) : ∀ x c, X.env.cells.lookup x = some c → c ≠ X.env.locals := fun x c e z => by
  obtain ⟨v, o, ho, hd⟩ := I.cell x c e
  obtain ⟨m, ⟨o', es, ep, ho', hd', _⟩, _⟩ := I.loc
  rw [z, ho'] at ho; cases ho; rw [hd'] at hd; cases hd
theorem Inv.funs (I : Inv X pins σ H s) : s.heap.FunFrames X.base X.outer := by
  have all : ∀ (l : List Env), (∀ b ∈ frs l, b ∈ X.fs) → X.s₀.heap.FunFrames X.base l → s.heap.FunFrames X.base l := by
    intro l
    induction l with
    | nil => intro _ _; trivial
    | cons env r ih =>
      intro hs hl
      obtain ⟨hk, ⟨L, o, hf, hn, ho, hd⟩, hr⟩ := hl
      have hL : L ∈ X.fs := hs L (by unfold frs; rw [List.filterMap_cons, hf]; exact List.mem_cons_self)
      obtain ⟨sl, e⟩ := I.base.slot L o ho (I.ok.frf L hL) hL fun z => I.ok.exfs L z hL
      exact ⟨hk, ⟨L, _, hf, hn, e, hd⟩, ih (fun b hb => hs b (by unfold frs; rw [List.filterMap_cons, hf]; exact List.mem_cons_of_mem _ hb)) hr⟩
  exact all X.outer (fun _ hb => hb) I.ok.funs
theorem Inv.stack (I : Inv X pins σ H s) : s.heap.FunFrames X.base X.stack := by
  rcases I.ok.stk with e | ⟨e, hf⟩
  · rw [e]; exact I.funs
  · rw [e]
    obtain ⟨m, hn, _⟩ := I.loc
    refine .cons (by rw [I.ok.kind]; decide) hf hn ?_ I.funs
    exact Heap.get?_none_of_le (Nat.le_trans I.ok.bsz I.ok.above)
theorem Inv.stkSub (I : Inv X pins σ H s) : ∀ b ∈ frs X.stack, b ∈ X.env.locals :: X.fs := fun b hb => by
  rcases I.ok.stk with e | ⟨e, hf⟩
  · rw [e] at hb; exact List.mem_cons_of_mem _ hb
  · rw [e] at hb
    unfold frs at hb
    rw [List.filterMap_cons, hf] at hb
    exact hb
theorem Inv.stkFree (I : Inv X pins σ H s) : ∀ b ∈ frs X.stack, H b = none := fun b hb => by
  rcases List.mem_cons.mp (I.stkSub b hb) with e | hb
  · rw [e]; exact I.free
  · obtain ⟨_, o, ho, _⟩ := I.ok.funs.mem hb
    exact I.base.free b o ho (I.ok.frf b hb) fun z => I.ok.exfs b z hb
theorem Inv.step {g' : Array GenState} {t' : Nat} {d' : Drawn} {ch : List Addr} (I : Inv X pins σ H s)
    (hch : ∀ b ∈ ch, (b ∈ X.ex ∨ X.s₀.heap.objs.size ≤ b) ∧ b ≠ X.env.locals ∧ (∀ x c, X.env.cells.lookup x = some c → c ≠ b) ∧ ∀ p ∈ X.pn ++ pins, p.1 ≠ b)
    (keep : ∀ b o, b ≠ X.env.locals → b ∉ X.fs → b ∉ ch → s.heap.get? b = some o → H b = none → h'.get? b = some o)
    (slot : ∀ b o, b ≠ X.env.locals → b ∈ X.fs → b ∉ ch → s.heap.get? b = some o → H b = none → ∃ sl, h'.get? b = some { o with slots := sl }) (free : ∀ b o, b ∉ ch → s.heap.get? b = some o → H b = none → H' b = none)
    (there : ∀ b o, b ∉ ch → s.heap.get? b = some o → ∃ o', h'.get? b = some o')
    (tups : ∀ b xs, H b = some (.tup xs) → H' b = some (.tup xs)) (frzs : ∀ b o u, H b = some (.frz o u) → H' b = some (.frz o u)) (tbls : ∀ b ps, H b = some (.tbl ps) → ∃ more, H' b = some (.tbl (ps ++ more)))
    (ns : ∀ m, s.heap.Ns X.env.locals m → h'.Ns X.env.locals m) (hok : HOk X.prog X.w H' h') (hg : AllBare g') :
    Inv X pins σ H' { s with heap := h', gens := g', drawn := d', toks := t' } := by
  have neL : ∀ b o, X.s₀.heap.get? b = some o → b ≠ X.env.locals := fun b o e => Nat.ne_of_lt (Nat.lt_of_lt_of_le (Heap.lt_size e) I.ok.above)
  have neC : ∀ b o, X.s₀.heap.get? b = some o → b ∉ X.ex → b ∉ ch := fun b o e hx hb => by
    rcases (hch b hb).1 with z | z
    · exact hx z
    · exact absurd (Nat.lt_of_lt_of_le (Heap.lt_size e) z) (Nat.lt_irrefl _)
  have cellK : ∀ x c, X.env.cells.lookup x = some c → ∀ v, s.heap.IsCell c v → h'.IsCell c v := fun x c e v ⟨o, ho, hd⟩ => by
    have nch : c ∉ ch := fun z => (hch c z).2.2.1 x c e rfl
    by_cases hc : c ∈ X.fs
    · obtain ⟨sl, q⟩ := slot c o (I.cne x c e) hc nch ho (I.freeC x c e)
      exact ⟨_, q, hd⟩
    · exact ⟨o, keep c o (I.cne x c e) hc nch ho (I.freeC x c e), hd⟩
  refine ⟨I.ok, I.os, hg, ⟨fun b o e n hb hx => ?_, fun b o e n hb hx => ?_, fun b o e n hx => ?_, fun b o e hx => ?_, fun b xs e => tups b xs (I.base.tups b xs e), fun b o xs e => frzs b o xs (I.base.frzs b o xs e), fun b ps e => ?_⟩, ?_, fun x c e => ?_, ?_, fun x c e => ?_, fun p hp => ?_, hok, I.len⟩
  · exact keep b o (neL b o e) hb (neC b o e hx) (I.base.keep b o e n hb hx) (I.base.free b o e n hx)
  · obtain ⟨sl, e1⟩ := I.base.slot b o e n hb hx
    obtain ⟨sl', e2⟩ := slot b _ (neL b o e) hb (neC b o e hx) e1 (I.base.free b o e n hx)
    exact ⟨sl', e2⟩
  · obtain ⟨o', e1⟩ := I.base.there b o e hx
    exact free b o' (neC b o e hx) e1 (I.base.free b o e n hx)
  · obtain ⟨o', e1⟩ := I.base.there b o e hx
    exact there b o' (neC b o e hx) e1
  · obtain ⟨m1, e1⟩ := I.base.tbls b ps e
    obtain ⟨m2, e2⟩ := tbls b _ e1
    exact ⟨m1 ++ m2, by rw [e2, Array.append_assoc]⟩
  · obtain ⟨m, hn, hl⟩ := I.loc
    refine ⟨m, ns m hn, fun i x v e1 e2 e3 => ?_⟩
    obtain ⟨u, r, l⟩ := hl i x v e1 e2 e3
    refine ⟨u, r, ?_⟩
    rcases l with l | ⟨k, c, e, z⟩
    · exact .inl l
    · exact .inr ⟨k, c, e, cellK x c e _ z⟩
  · obtain ⟨v, z⟩ := I.cell x c e
    exact ⟨v, cellK x c e v z⟩
  · obtain ⟨m, ⟨o, _, _, ho, _⟩, _⟩ := I.loc
    exact free _ o (fun z => (hch _ z).2.1 rfl) ho I.free
  · obtain ⟨v, o, ho, hd⟩ := I.cell x c e
    exact free c o (fun z => (hch c z).2.2.1 x c e rfl) ho (I.freeC x c e)
  · obtain ⟨e, n, ne, nf, d⟩ := I.pin p hp
    have nch : p.1 ∉ ch := fun z => (hch p.1 z).2.2.2 p hp rfl
    exact ⟨keep p.1 p.2 ne nf nch e n, free p.1 p.2 nch e n, ne, nf, d⟩
theorem Inv.un {t' : Nat} (I : Inv X pins σ H s) (u : Un X.fs [] H H' s.heap h') (hok : HOk X.prog X.w H' h') : Inv X pins σ H' { s with heap := h', toks := t' } := by
  obtain ⟨m, ⟨o, es, ep, ho, r⟩, _⟩ := id I.loc
  obtain ⟨sl, hL⟩ := u.any ho I.free (by simp)
  exact I.step (g' := s.gens) (d' := s.drawn) (ch := []) (fun _ z => nomatch z) (fun b o _ hb _ e n => u.keep b o e n hb (by simp)) (fun b o _ hb _ e n => u.slot b o e n hb (by simp)) (fun b o _ e n => u.free b o e n (by simp)) (fun b o _ e => u.there b o e (by simp)) u.tups u.frzs u.tbls (fun m' hm => by
    obtain ⟨o', es', ep', ho', r'⟩ := hm
    rw [ho] at ho'; cases ho'
    exact ⟨_, es', ep', hL, r'⟩) hok I.bare
theorem Inv.call {g' : Array GenState} {t' : Nat} {d' : Drawn} {ch : List Addr} (I : Inv X pins σ H s) (u : Un (frs X.stack) ch H H' s.heap h') (hok : HOk X.prog X.w H' h') (hg : AllBare g')
    (hch : ∀ b ∈ ch, (b ∈ X.ex ∨ X.s₀.heap.objs.size ≤ b) ∧ b ≠ X.env.locals ∧ (∀ x c, X.env.cells.lookup x = some c → c ≠ b) ∧ ∀ p ∈ X.pn ++ pins, p.1 ≠ b) :
    Inv X pins σ H' { s with heap := h', gens := g', drawn := d', toks := t' } := by
  obtain ⟨m, ⟨o, es, ep, ho, r⟩, _⟩ := id I.loc
  obtain ⟨sl, hL⟩ := u.any ho I.free fun z => (hch _ z).2.1 rfl
  exact I.step (ch := ch) hch (fun b o hL hb hc e n => u.keep b o e n (fun z => (List.mem_cons.mp (I.stkSub b z)).elim hL hb) hc) (fun b o _ _ hc e n => u.any e n hc) (fun b o hc e n => u.free b o e n hc) (fun b o hc e => u.there b o e hc) u.tups u.frzs u.tbls (fun m' hm => by
    obtain ⟨o', es', ep', ho', r'⟩ := hm
    rw [ho] at ho'; cases ho'
    exact ⟨_, es', ep', hL, r'⟩) hok hg
theorem Inv.turned {t' : Nat} {it : Addr} (I : Inv X pins σ H s) (k : ∀ b o, b ≠ it → s.heap.get? b = some o → h'.get? b = some o) (hn : H it = none) (hL : it ≠ X.env.locals)
    (h1 : it ∈ X.ex ∨ X.s₀.heap.objs.size ≤ it) (h2 : ∀ x c, X.env.cells.lookup x = some c → c ≠ it) (h3 : ∀ p ∈ X.pn ++ pins, p.1 ≠ it) : Inv X pins σ H { s with heap := h', toks := t' } := by
  have nit : ∀ b u, H b = some u → b ≠ it := fun b u e z => by rw [z, hn] at e; cases e
  refine I.step (g' := s.gens) (d' := s.drawn) (ch := [it]) (fun b hb => ?_) (fun b o _ _ hc e _ => k b o (fun z => hc (by simp [z])) e) (fun b o _ _ hc e _ => ⟨o.slots, k b o (fun z => hc (by simp [z])) e⟩) (fun _ _ _ _ n => n)
    (fun b o hc e => ⟨o, k b o (fun z => hc (by simp [z])) e⟩) (fun _ _ e => e) (fun _ _ _ e => e) (fun b ps e => ⟨#[], by rw [e]; simp⟩) (fun m hm => ?_) (fun b u e => ?_) I.bare
  · have e : b = it := by simpa using hb
    subst e
    exact ⟨h1, hL, h2, h3⟩
  · obtain ⟨o, es, ep, ho, r⟩ := hm
    exact ⟨o, es, ep, k _ o (Ne.symm hL) ho, r⟩
  · refine (I.hok b u e).stay (fun c v hc q => k c v ?_ q) (fun _ q => q) fun _ _ q => q
    rcases hc with z | z
    · rw [z]; exact nit b u e
    · exact nit c _ z
theorem Inv.tok (I : Inv X pins σ H s) (t : Nat) : Inv X pins σ H { s with toks := t } := I.un (h' := s.heap) (t' := t) Un.refl I.hok
theorem Inv.kept {t' : Nat} (I : Inv X pins σ H s) (k : ∀ b u, s.heap.get? b = some u → h'.get? b = some u) : Inv X pins σ H { s with heap := h', toks := t' } := I.un (Un.kept k) (I.hok.kept k)
theorem Inv.laid {a : Addr} {o : HO} {t' : Nat} (I : Inv X pins σ H s) (k : ∀ b u, s.heap.get? b = some u → h'.get? b = some u) (hp : s.heap.objs.size ≤ a) (new : ObjOk X.prog X.w (upd H a o) h' a o) :
    Inv X pins σ (upd H a o) { s with heap := h', toks := t' } := I.un (Un.laid k hp (I.hok.fresh hp)) (I.hok.laid k hp new)
theorem Inv.write {x e : Addr} {o : HO} {t' : Nat} (I : Inv X pins σ H s) (mu : Mut (H x)) (he : e = x ∨ H e = some (.own x)) (k : ∀ b u, b ≠ e → s.heap.get? b = some u → h'.get? b = some u) (heo : ∃ u, h'.get? e = some u)
    (new : ObjOk X.prog X.w (upd H x o) h' x o) : Inv X pins σ (upd H x o) { s with heap := h', toks := t' } := I.un (Un.write mu he k heo) (I.hok.write mu he k heo new)
theorem Inv.weak {σ' : List (Option V)} (I : Inv X pins σ H s) (hl : σ'.length = σ.length) (w : ∀ (i : Nat) v, σ'[i]? = some (some v) → σ[i]? = some (some v)) : Inv X pins σ' H s :=
  ⟨I.ok, I.os, I.bare, I.base, let ⟨m, hn, hl'⟩ := I.loc; ⟨m, hn, fun i x v e1 e2 e3 => hl' i x v e1 (w i v e2) e3⟩, I.cell, I.free, I.freeC, I.pin, I.hok, hl.trans I.len⟩
theorem Inv.pins_of {pins' : List (Addr × Obj)} (I : Inv X pins σ H s) (h : ∀ p ∈ pins', s.heap.get? p.1 = some p.2 ∧ H p.1 = none ∧ p.1 ≠ X.env.locals ∧ p.1 ∉ X.fs ∧ ∀ v, p.2.data ≠ .cell v) : Inv X pins' σ H s :=
  ⟨I.ok, I.os, I.bare, I.base, I.loc, I.cell, I.free, I.freeC, fun p hp => (List.mem_append.mp hp).elim (fun z => I.pin p (List.mem_append_left _ z)) (h p), I.hok, I.len⟩
theorem nodup_ix {N : List Str} (hN : N.Nodup) {i j : Nat} {x : Str} (a : N[i]? = some x) (b : N[j]? = some x) : i = j := by
  obtain ⟨h1, e1⟩ := List.getElem?_eq_some_iff.mp a
  obtain ⟨h2, e2⟩ := List.getElem?_eq_some_iff.mp b
  exact (List.getElem_inj hN).mp (e1.trans e2.symm)
theorem store_ok2 {M : Model} {A : Around} {E : Value → Shared → Prop} {i : Nat} {x : Str} {v : V} {u : Value} {Q : Unit → Shared → Prop} (I : Inv X pins σ H s) (hN : X.N.Nodup) (hi : X.N[i]? = some x) (hx : Loc X.env.scope x) (r : RelV v u)
    (h : ∀ s', Inv X pins (σ.set i (some v)) H s' → (∃ a, Heap.SameBut a s.heap s'.heap ∧ (a = X.env.locals ∨ X.env.cells.lookup x = some a)) → Q () s') (hf : X.fn x = true ∨ X.env.scope.names.lookup x = some .local := by first | exact .inl rfl | exact .inr rfl | assumption) : wpAny M A (storeName X.env x u) Q E s := by
  obtain ⟨m, hn, hl⟩ := id I.loc
  have hcls : (X.env.scope.kind == .class || (X.env.scope.kind == .module && X.env.locals != X.env.globals)) = false := by rw [I.ok.kind]; rfl
  have hiσ : i < σ.length := by rw [I.len]; exact (List.getElem?_eq_some_iff.mp hi).1
  have cne := I.cne
  have tracked : ∀ {a : Addr} {h' : Heap}, (∃ o, s.heap.get? a = some o ∧ H a = none) → Heap.SameBut a s.heap h' → HOk X.prog X.w H h' := fun {a h'} ha hs b ob e => by
    obtain ⟨_, _, hfree⟩ := ha
    refine (I.hok b ob e).stay (fun c w' hc q => (hs.2 c ?_).trans q) (fun _ q => q) fun _ _ q => q
    rintro rfl
    rcases hc with rfl | hc
    · rw [hfree] at e; cases e
    · rw [hfree] at hc; cases hc
  rcases hx with hk | hk
  · refine wpAny_storeName_local hk hn (fun h' hn' hs => ?_) hcls
    obtain ⟨oL, _, _, hoL, _⟩ := id hn
    refine h _ ⟨I.ok, I.os, I.bare, ⟨fun b o e n hb hx => ?_, fun b o e n hb hx => ?_, I.base.free, fun b o e hx => ?_, I.base.tups, I.base.frzs, I.base.tbls⟩, ⟨_, hn', fun j y v' e1 e2 e3 => ?_⟩, fun y c e => ?_, I.free, I.freeC, fun p hp => ?_, tracked ⟨oL, hoL, I.free⟩ hs, by simpa using I.len⟩ ⟨_, hs, .inl rfl⟩
    · exact (hs.2 b (Nat.ne_of_lt (Nat.lt_of_lt_of_le (Heap.lt_size e) I.ok.above))).trans (I.base.keep b o e n hb hx)
    · obtain ⟨sl, e1⟩ := I.base.slot b o e n hb hx
      exact ⟨sl, (hs.2 b (Nat.ne_of_lt (Nat.lt_of_lt_of_le (Heap.lt_size e) I.ok.above))).trans e1⟩
    · obtain ⟨o', e1⟩ := I.base.there b o e hx
      exact ⟨o', (hs.2 b (Nat.ne_of_lt (Nat.lt_of_lt_of_le (Heap.lt_size e) I.ok.above))).trans e1⟩
    · by_cases hj : j = i
      · subst hj
        rw [hi] at e1; cases e1
        rw [List.getElem?_set_self hiσ] at e2
        cases e2
        exact ⟨u, r, .inl ⟨hk, by simp⟩⟩
      · rw [List.getElem?_set_ne (Ne.symm hj)] at e2
        obtain ⟨u', r', q⟩ := hl j y v' e1 e2 e3
        refine ⟨u', r', ?_⟩
        rcases q with ⟨k, e⟩ | ⟨k, c, e, z⟩
        · refine .inl ⟨k, ?_⟩
          have : y ≠ x := fun e => hj (nodup_ix hN e1 (e ▸ hi))
          simp [this, e]
        · exact .inr ⟨k, c, e, z.sameBut hs (cne y c e)⟩
    · obtain ⟨w', z⟩ := I.cell y c e
      exact ⟨w', z.sameBut hs (cne y c e)⟩
    · obtain ⟨e, n, ne, nf, d⟩ := I.pin p hp
      exact ⟨(hs.2 p.1 ne).trans e, n, ne, nf, d⟩
  · have hfn : X.fn x = true := by
      rcases hf with z | z
      · exact z
      · rw [z] at hk; cases hk
    obtain ⟨c, hc⟩ := I.ok.has x (.inl hk)
    obtain ⟨w', z⟩ := I.cell x c hc
    refine wpAny_storeName_cell I.ok.kind hk hc z (fun h' hc' hs => ?_)
    obtain ⟨oc, hoc, hocd⟩ := id z
    refine h { s with heap := h' } ⟨I.ok, I.os, I.bare, ⟨fun b o e n hb hx => ?_, fun b o e n hb hx => ?_, I.base.free, fun b o e hx => ?_, I.base.tups, I.base.frzs, I.base.tbls⟩, ⟨m, hn.sameBut hs (Ne.symm (cne x c hc)), fun j y v' e1 e2 e3 => ?_⟩, fun y c' e => ?_, I.free, I.freeC, fun p hp => ?_, tracked ⟨oc, hoc, I.freeC x c hc⟩ hs, by simpa using I.len⟩ ⟨c, hs, .inr hc⟩
    · exact (hs.2 b (Nat.ne_of_lt (Nat.lt_of_lt_of_le (Heap.lt_size e) (I.ok.cab x c hfn hc)))).trans (I.base.keep b o e n hb hx)
    · obtain ⟨sl, e1⟩ := I.base.slot b o e n hb hx
      exact ⟨sl, (hs.2 b (Nat.ne_of_lt (Nat.lt_of_lt_of_le (Heap.lt_size e) (I.ok.cab x c hfn hc)))).trans e1⟩
    · obtain ⟨o', e1⟩ := I.base.there b o e hx
      exact ⟨o', (hs.2 b (Nat.ne_of_lt (Nat.lt_of_lt_of_le (Heap.lt_size e) (I.ok.cab x c hfn hc)))).trans e1⟩
    · by_cases hj : j = i
      · subst hj
        rw [hi] at e1; cases e1
        rw [List.getElem?_set_self hiσ] at e2
        cases e2
        exact ⟨u, r, .inr ⟨.inl hk, c, hc, hc'⟩⟩
      · rw [List.getElem?_set_ne (Ne.symm hj)] at e2
        obtain ⟨u', r', q⟩ := hl j y v' e1 e2 e3
        refine ⟨u', r', ?_⟩
        rcases q with q | ⟨k, c', e, z'⟩
        · exact .inl q
        · refine .inr ⟨k, c', e, z'.sameBut hs ?_⟩
          rintro rfl
          exact hj (nodup_ix hN e1 (I.ok.inj _ _ _ e hc ▸ hi))
    · by_cases hcc : c' = c
      · subst hcc; exact ⟨_, hc'⟩
      · obtain ⟨w2, z2⟩ := I.cell y c' e
        exact ⟨w2, z2.sameBut hs hcc⟩
    · obtain ⟨e, n, ne, nf, d⟩ := I.pin p hp
      refine ⟨(hs.2 p.1 ?_).trans e, n, ne, nf, d⟩
      intro q
      rw [q, hoc] at e
      have q' : oc = p.2 := Option.some.inj e
      exact d w' (by rw [← q']; exact hocd)
theorem store_ok {M : Model} {A : Around} {E : Value → Shared → Prop} {i : Nat} {x : Str} {v : V} {u : Value} {Q : Unit → Shared → Prop} (I : Inv X pins σ H s) (hN : X.N.Nodup) (hi : X.N[i]? = some x) (hx : Loc X.env.scope x) (r : RelV v u)
    (h : ∀ s', Inv X pins (σ.set i (some v)) H s' → Q () s') (hf : X.fn x = true ∨ X.env.scope.names.lookup x = some .local := by first | exact .inl rfl | exact .inr rfl | assumption) : wpAny M A (storeName X.env x u) Q E s :=
  store_ok2 I hN hi hx r (fun s' I' _ => h s' I') hf
theorem Inv.call' {s' : Shared} {ch : List Addr} (I : Inv X pins σ H s) (ho : s'.os = s.os) (u : Un (frs X.stack) ch H H' s.heap s'.heap) (hok : HOk X.prog X.w H' s'.heap) (hg : AllBare s'.gens)
    (hch : ∀ b ∈ ch, (b ∈ X.ex ∨ X.s₀.heap.objs.size ≤ b) ∧ b ≠ X.env.locals ∧ (∀ x c, X.env.cells.lookup x = some c → c ≠ b) ∧ ∀ p ∈ X.pn ++ pins, p.1 ≠ b) : Inv X pins σ H' s' := by
  obtain ⟨h', g', d', t', o'⟩ := s'
  have e : o' = s.os := ho
  subst e
  exact I.call (g' := g') (t' := t') (d' := d') u hok hg hch
end
abbrev XK := Value → Option Addr → Hp → Prop
abbrev St := List (Option V)
abbrev VK := V → Hp → Prop
abbrev TE := St → Hp → VK → Prop
abbrev TT := St → Hp → (Bool → Hp → Prop) → Prop
abbrev TA := St → Hp → (List V → Hp → Prop) → Prop
structure Ends where
  nx : St → Hp → Prop
  rt : VK
  bk : St → Hp → Prop := fun _ _ => False
  ct : St → Hp → Prop := fun _ _ => False
abbrev TS := Ends → St → Hp → Prop
def EP (X : Cx) (pins : List (Addr × Obj)) (σ : St) (Q : VK) (u : Value) (s' : Shared) : Prop := ∃ v H', Inv X pins σ H' s' ∧ RelV v u ∧ Q v H'
def TP (X : Cx) (pins : List (Addr × Obj)) (σ : St) (Q : Bool → Hp → Prop) (b : Bool) (s' : Shared) : Prop := ∃ H', Inv X pins σ H' s' ∧ Q b H'
def AP (X : Cx) (pins : List (Addr × Obj)) (σ : St) (Q : List V → Hp → Prop) (us : List Value) (s' : Shared) : Prop := ∃ vs H', Inv X pins σ H' s' ∧ Vals vs us ∧ Q vs H'
def SP (X : Cx) (pins : List (Addr × Obj)) (D : Ends) (f : Flow) (s' : Shared) : Prop :=
  match f with
  | .next => ∃ σ' H', Inv X pins σ' H' s' ∧ D.nx σ' H'
  | .brk => ∃ σ' H', Inv X pins σ' H' s' ∧ D.bk σ' H'
  | .cont => ∃ σ' H', Inv X pins σ' H' s' ∧ D.ct σ' H'
  | .ret u => ∃ v σ' H', Inv X pins σ' H' s' ∧ RelV v u ∧ D.rt v H'
def PE (X : Cx) (e : Expr) (t : TE) : Prop :=
  ∀ (pins : List (Addr × Obj)) (s : Shared) (σ : St) (H : Hp) (Q : VK), Inv X pins σ H s → t σ H Q → wpAny (model X.prog X.w) X.A (eval e X.env) (EP X pins σ Q) X.xe s
def PT (X : Cx) (e : Expr) (t : TT) : Prop :=
  ∀ (pins : List (Addr × Obj)) (s : Shared) (σ : St) (H : Hp) (Q : Bool → Hp → Prop), Inv X pins σ H s → t σ H Q → wpAny (model X.prog X.w) X.A (isTrue e X.env (eval e X.env)) (TP X pins σ Q) X.xe s
def PW (X : Cx) (e : Expr) (t : TT) : Prop :=
  ∀ (whole : Sem Value) (pins : List (Addr × Obj)) (s : Shared) (σ : St) (H : Hp) (Q : Bool → Hp → Prop), Inv X pins σ H s → t σ H Q → wpAny (model X.prog X.w) X.A (isTrue e X.env whole) (TP X pins σ Q) X.xe s
theorem PW.pt {X : Cx} {e : Expr} {t : TT} (h : PW X e t) : PT X e t := h _
def PA (X : Cx) (es : List Expr) (t : TA) : Prop :=
  ∀ (pos : Pos) (pins : List (Addr × Obj)) (s : Shared) (σ : St) (H : Hp) (Q : List V → Hp → Prop), Inv X pins σ H s → t σ H Q → wpAny (model X.prog X.w) X.A (spliced (backTo pos (starEach es X.env))) (AP X pins σ Q) X.xe s
def PS (X : Cx) (st : Stmt) (t : TS) : Prop :=
  ∀ (pins : List (Addr × Obj)) (s : Shared) (σ : St) (H : Hp) (D : Ends), Inv X pins σ H s → t D σ H → wpAny (model X.prog X.w) X.A (exec st X.env) (SP X pins D) X.xe s
def PSs (X : Cx) (st : List Stmt) (t : TS) : Prop :=
  ∀ (pins : List (Addr × Obj)) (s : Shared) (σ : St) (H : Hp) (D : Ends), Inv X pins σ H s → t D σ H → wpAny (model X.prog X.w) X.A (execs st X.env) (SP X pins D) X.xe s
theorem thn {α : Type} {t : Sem α} {Q Q' : α → Shared → Prop} {M : Model} {A : Around} {E : Value → Shared → Prop} {s : Shared} (h : wpAny M A t Q E s) (hQ : ∀ a s, Q a s → Q' a s) : wpAny M A t Q' E s := wpAny_mono h hQ fun _ _ x => x
end L2
namespace L2
open PySem PySem.Spec PyProof.Rows
section
variable {X : Cx}
def tVar (i : Nat) : TE := fun σ H Q => ∃ v, σ[i]? = some (some v) ∧ Q v H
def tC (v : V) : TE := fun _ H Q => Q v H
theorem pe_var {i : Nat} {x : Str} {pos : Pos} (hN : X.N[i]? = some x) (hv : Vis X.env.scope x) (hd : (x == ("__debug__" : Str)) = false := by decide) (hcd : (x == ("__classdict__" : Str)) = false := by decide) : PE X (.Name x pos) (tVar i) := by
  intro pins s σ H Q I h
  obtain ⟨v, e, h⟩ := h
  obtain ⟨m, hn, hl⟩ := I.loc
  obtain ⟨u, r, l⟩ := hl i x v hN e hv
  have fin : EP X pins σ Q u s := ⟨v, H, I, r, h⟩
  rcases l with ⟨hk, hm⟩ | ⟨hk, c, hc, hcell⟩
  · exact wpAny_Name (wpAny_loadName_local I.ok.kind hk hn hm fin) hd
  · rcases hk with hk | hk
    · exact wpAny_Name (wpAny_loadName_cell I.ok.kind hk hc hcell fin) hd
    · exact wpAny_Name (wpAny_loadName_free I.ok.kind hk hc hcell fin hcd) hd
theorem pe_int {i j pos} : PE X (.Constant (.int i) j pos) (tC (.int i)) := fun _ _ _ H _ I h => wpAny_Constant_int ⟨.int i, H, I.tok _, ⟨_, rfl⟩, h⟩
theorem pe_bl {b j pos} : PE X (.Constant (.bool b) j pos) (tC (.bl b)) := fun _ _ _ H _ I h => Constant_bool ⟨.bl b, H, I, rfl, h⟩
theorem pe_non {j pos} : PE X (.Constant .none j pos) (tC .non) := fun _ _ _ H _ I h => Constant_none ⟨.non, H, I, rfl, h⟩
theorem pe_str {x j pos} : PE X (.Constant (.str x) j pos) (tC (.str x)) := fun _ _ _ H _ I h => Calls.Constant_str ⟨.str x, H, I.tok _, ⟨_, rfl⟩, h⟩
def Gl (X : Cx) (x : Str) : Prop := X.env.kindOf x = some .globalImplicit
theorem ld_glob {E : Value → Shared → Prop} {pins : List (Addr × Obj)} {s : Shared} {σ : St} {H : Hp} {x : Str} {u : Value} {pos : Pos} {Q : Value → Shared → Prop} (I : Inv X pins σ H s) (hg : Gl X x) (hm : X.mg x = some u) (h : Q u s)
    (hd : (x == ("__debug__" : Str)) = false := by decide) : wpAny (model X.prog X.w) X.A (eval (.Name x pos) X.env) Q E s :=
  Calls.Name_function_global I.ok.kind hg (Calls.loadGlobal_global (by rw [I.ok.glob]; exact I.mod.glob.keeps I.bk) hm h) hd
theorem ld_blt {E : Value → Shared → Prop} {pins : List (Addr × Obj)} {s : Shared} {σ : St} {H : Hp} {x : Str} {u : Value} {pos : Pos} {Q : Value → Shared → Prop} (I : Inv X pins σ H s) (hg : Gl X x) (hm : X.mg x = none) (hv : bootBuiltins x = some u) (h : Q u s)
    (hn : x ≠ "__name__" := by decide) (hd : (x == ("__debug__" : Str)) = false := by decide) : wpAny (model X.prog X.w) X.A (eval (.Name x pos) X.env) Q E s := by
  obtain ⟨mb, h1, h2⟩ := I.mod.blt
  exact Calls.Name_function_global I.ok.kind hg (Calls.loadGlobal_builtin (by rw [I.ok.glob]; exact I.mod.glob.keeps I.bk) hm (by rw [I.ok.blt]; exact h1.keeps I.bk) ((h2 x hn).trans hv) h) hd
theorem pe_glob {x : Str} {v : V} {u : Value} {pos : Pos} (hg : Gl X x) (hm : X.mg x = some u) (r : RelV v u) (hd : (x == ("__debug__" : Str)) = false := by decide) : PE X (.Name x pos) (tC v) :=
  fun _ _ _ H _ I h => ld_glob I hg hm ⟨v, H, I, r, h⟩ hd
theorem pe_bltn {x : Str} {v : V} {u : Value} {pos : Pos} (hg : Gl X x) (hm : X.mg x = none) (hv : bootBuiltins x = some u) (r : RelV v u) (hn : x ≠ "__name__" := by decide) (hd : (x == ("__debug__" : Str)) = false := by decide) : PE X (.Name x pos) (tC v) :=
  fun _ _ _ H _ I h => ld_blt I hg hm hv ⟨v, H, I, r, h⟩ hn hd
variable {a b : Expr} {ta tb : TE} {pos : Pos}
def tB (t : TE) : TT := fun σ H Q => t σ H fun x H1 => ∃ c, x = .bl c ∧ Q c H1
theorem pt_val {e : Expr} {t : TE} (h : PE X e t) (he : ∀ whole, isTrue e X.env whole = (do let v ← whole; standAt e.pos; holding [v] (truthy v)) := by intro _; rfl) : PT X e (tB t) := by
  intro pins s σ H Q I hw
  refine isTrue_plain (thn (h pins s σ H _ I hw) fun v s1 ⟨x, H1, I1, r1, q1⟩ => ?_) (he _)
  obtain ⟨d, rfl, q⟩ := q1
  cases r1
  exact wpAny_truthy_bool ⟨H1, I1, q⟩
variable {tA tB' : TT} {rest : List Expr}
def tAnd (t u : TT) : TT := fun σ H Q => t σ H fun c H1 => if c = true then u σ H1 Q else Q false H1
def tOr (t u : TT) : TT := fun σ H Q => t σ H fun c H1 => if c = true then Q true H1 else u σ H1 Q
def tNot (t : TT) : TT := fun σ H Q => t σ H fun c H1 => Q (!c) H1
theorem pw_and1 (ha : PT X a tA) : PW X (.BoolOp .And [a] pos) tA := by
  intro wh pins s σ H Q I h
  refine isTrue_and (thn (ha pins s σ H Q I h) fun c s1 e => ?_)
  cases c with
  | true => exact isTrue_and_nil e
  | false => exact e
theorem pw_or1 (ha : PT X a tA) : PW X (.BoolOp .Or [a] pos) tA := by
  intro wh pins s σ H Q I h
  refine isTrue_or (thn (ha pins s σ H Q I h) fun c s1 e => ?_)
  cases c with
  | false => exact isTrue_or_nil e
  | true => exact e
theorem pw_and (ha : PT X a tA) (hb : PW X (.BoolOp .And (b :: rest) pos) tB') : PW X (.BoolOp .And (a :: b :: rest) pos) (tAnd tA tB') := by
  intro wh pins s σ H Q I h
  refine isTrue_and (thn (ha pins s σ H _ I h) fun c s1 ⟨H1, I1, q1⟩ => ?_)
  cases c with
  | true => exact hb wh pins s1 σ H1 Q I1 q1
  | false => exact ⟨H1, I1, q1⟩
theorem pw_or (ha : PT X a tA) (hb : PW X (.BoolOp .Or (b :: rest) pos) tB') : PW X (.BoolOp .Or (a :: b :: rest) pos) (tOr tA tB') := by
  intro wh pins s σ H Q I h
  refine isTrue_or (thn (ha pins s σ H _ I h) fun c s1 ⟨H1, I1, q1⟩ => ?_)
  cases c with
  | true => exact ⟨H1, I1, q1⟩
  | false => exact hb wh pins s1 σ H1 Q I1 q1
theorem pt_not (ha : PT X a tA) : PT X (.UnaryOp .Not a pos) (tNot tA) := by
  intro pins s σ H Q I h
  exact isTrue_not (ha pins s σ H (fun c H1 => Q (!c) H1) I h)
def tAndV (ta tb : TE) : TE := fun σ H Q => ta σ H fun x H1 => ∃ c, x = .bl c ∧ if c = true then tb σ H1 Q else Q (.bl false) H1
def tOrV (ta tb : TE) : TE := fun σ H Q => ta σ H fun x H1 => ∃ c, x = .bl c ∧ if c = true then Q (.bl true) H1 else tb σ H1 Q
def tNotV (ta : TE) : TE := fun σ H Q => ta σ H fun x H1 => ∃ c, x = .bl c ∧ Q (.bl (!c)) H1
def tIf (t : TT) (ta tb : TE) : TE := fun σ H Q => t σ H fun c H1 => if c = true then ta σ H1 Q else tb σ H1 Q
theorem pe_ifExp {c : Expr} (hc : PT X c tA) (ha : PE X a ta) (hb : PE X b tb) : PE X (.IfExp c a b pos) (tIf tA ta tb) := by
  intro pins s σ H Q I h
  refine wpAny_IfExp (thn (hc pins s σ H _ I h) fun d s1 ⟨H1, I1, q1⟩ => ?_)
  cases d with
  | true => exact ha pins s1 σ H1 Q I1 q1
  | false => exact hb pins s1 σ H1 Q I1 q1
end
end L2
namespace L2
open PySem PySem.Spec PyProof.Rows
def SqL (K : PySem.W.Frag) (H : Hp) (a : Addr) (xs : List V) : Prop :=
  Rd H a (.lst xs) ∨
    ∃ (o : Obj) (its : Array Value) (n : Nat), K.lookup a = some o ∧ o.cls = .type "list" ∧ o.dict = none ∧ o.data = .seq its n ∧ its.size ≤ sizeLine ∧ Vals xs its.toList
def SqT (K : PySem.W.Frag) (H : Hp) (a : Addr) (xs : List V) : Prop :=
  Rd H a (.tup xs) ∨
    ∃ (o : Obj) (its : Array Value) (n : Nat), K.lookup a = some o ∧ o.cls = .type "tuple" ∧ o.data = .seq its n ∧ its.size ≤ sizeLine ∧ Vals xs its.toList
def absV : Value → Option V
  | .none => some .non
  | .bool b => some (.bl b)
  | .int i _ => some (.int i)
  | .str x _ => some (.str x)
  | .bytes b _ => some (.byt b)
  | .float b _ => some (.flt b)
  | .ref a => some (.ref a)
  | .type n => some (.ty n)
  | _ => none
theorem RelV.abs {x : V} {u : Value} (r : RelV x u) : absV u = some x := by
  cases x with
  | non => cases r; rfl
  | bl _ => cases r; rfl
  | int _ => obtain ⟨t, rfl⟩ := r; rfl
  | str _ => obtain ⟨t, rfl⟩ := r; rfl
  | byt _ => obtain ⟨t, rfl⟩ := r; rfl
  | flt _ => obtain ⟨t, rfl⟩ := r; rfl
  | ref _ => cases r; rfl
  | ty _ => cases r; rfl
theorem RelV.inj {x y : V} {u : Value} (r : RelV x u) (q : RelV y u) : x = y := Option.some.inj (r.abs.symm.trans q.abs)
theorem Vals.inj : ∀ {xs ys : List V} {us : List Value}, Vals xs us → Vals ys us → xs = ys
  | _, _, _, .nil, .nil => rfl
  | _, _, _, .cons r t, .cons r' t' => by rw [r.inj r', Vals.inj t t']
section
variable {X : Cx} {pins : List (Addr × Obj)} {σ : St} {H : Hp} {s : Shared} {a : Addr} {xs ys : List V}
theorem SqL.of {K : PySem.W.Frag} (h : H a = some (.lst xs)) : SqL K H a xs := .inl (.inl h)
theorem SqT.of {K : PySem.W.Frag} (h : H a = some (.tup xs)) : SqT K H a xs := .inl (.inl h)
theorem Inv.list (I : Inv X pins σ H s) (h : SqL X.K H a xs) : ∃ its : List Value, Vals xs its ∧ PlainL s.heap a its.toArray ∧ xs.length ≤ sizeLine := by
  rcases h with h | ⟨o, its, n, hk, hc, hd, hs, hz, r⟩
  · obtain ⟨z, its, n, r, e⟩ := h.ok I.hok
    exact ⟨its, r, ⟨_, n, e, rfl, rfl, rfl⟩, z⟩
  · refine ⟨its.toList, r, ⟨o, n, I.kIn a o hk, hc, hd, by simpa using hs⟩, ?_⟩
    have e := r.length
    simp only [Array.length_toList] at e
    omega
theorem Inv.tuple (I : Inv X pins σ H s) (h : SqT X.K H a xs) : ∃ its : List Value, Vals xs its ∧ IsTup s.heap a its.toArray ∧ xs.length ≤ sizeLine := by
  rcases h with h | ⟨o, its, n, hk, hc, hs, hz, r⟩
  · obtain ⟨z, its, r, p⟩ := h.ok I.hok
    exact ⟨its, r, p, z⟩
  · refine ⟨its.toList, r, ⟨o, I.kIn a o hk, hc, n, by simpa using hs⟩, ?_⟩
    have e := r.length
    simp only [Array.length_toList] at e
    omega
theorem Inv.list_inj (I : Inv X pins σ H s) (h : SqL X.K H a xs) (h' : SqL X.K H a ys) : xs = ys := by
  obtain ⟨its, r, ⟨o, n, e, _, _, d⟩, _⟩ := I.list h
  obtain ⟨its', r', ⟨o', n', e', _, _, d'⟩, _⟩ := I.list h'
  rw [e] at e'; cases e'
  rw [d] at d'
  injection d' with d1 _
  have : its = its' := by simpa using congrArg Array.toList d1
  subst this
  exact r.inj r'
theorem Inv.tuple_inj (I : Inv X pins σ H s) (h : SqT X.K H a xs) (h' : SqT X.K H a ys) : xs = ys := by
  obtain ⟨its, r, ⟨o, e, _, n, d⟩, _⟩ := I.tuple h
  obtain ⟨its', r', ⟨o', e', _, n', d'⟩, _⟩ := I.tuple h'
  rw [e] at e'; cases e'
  rw [d] at d'
  injection d' with d1 _
  have : its = its' := by simpa using congrArg Array.toList d1
  subst this
  exact r.inj r'
end
abbrev Cx.wish (X : Cx) (E : Value → Shared → Prop) : Cx := { X with xe := E }
abbrev Cx.nox (X : Cx) : Cx := X.wish fun _ _ => False
theorem Cx.Ok.wish {X : Cx} (ok : X.Ok) (E : Value → Shared → Prop) : (X.wish E).Ok :=
  ⟨ok.mod, ok.kind, ok.glob, ok.blt, ok.above, ok.inj, ok.has, ok.cab, ok.hd, ok.frames, ok.stk, ok.exf, ok.bs, ok.bsz, ok.noex, ok.exfs, ok.funs, ok.frf⟩
theorem Cx.Ok.unwish {X : Cx} {E : Value → Shared → Prop} (ok : (X.wish E).Ok) : X.Ok :=
  ⟨ok.mod, ok.kind, ok.glob, ok.blt, ok.above, ok.inj, ok.has, ok.cab, ok.hd, ok.frames, ok.stk, ok.exf, ok.bs, ok.bsz, ok.noex, ok.exfs, ok.funs, ok.frf⟩
section
variable {X : Cx} {pins : List (Addr × Obj)} {σ : St} {H : Hp} {s : Shared} {E : Value → Shared → Prop}
theorem Inv.wish (I : Inv X pins σ H s) (E : Value → Shared → Prop) : Inv (X.wish E) pins σ H s := ⟨I.ok.wish E, I.os, I.bare, I.base, I.loc, I.cell, I.free, I.freeC, I.pin, I.hok, I.len⟩
theorem Inv.unwish (I : Inv (X.wish E) pins σ H s) : Inv X pins σ H s := ⟨I.ok.unwish, I.os, I.bare, I.base, I.loc, I.cell, I.free, I.freeC, I.pin, I.hok, I.len⟩
theorem SP.unwish {D : Ends} {f : Flow} {s' : Shared} (h : SP (X.wish E) pins D f s') : SP X pins D f s' := by
  cases f with
  | next => obtain ⟨σ', H', I, q⟩ := h; exact ⟨σ', H', I.unwish, q⟩
  | brk => obtain ⟨σ', H', I, q⟩ := h; exact ⟨σ', H', I.unwish, q⟩
  | cont => obtain ⟨σ', H', I, q⟩ := h; exact ⟨σ', H', I.unwish, q⟩
  | ret u => obtain ⟨v, σ', H', I, r, q⟩ := h; exact ⟨v, σ', H', I.unwish, r, q⟩
theorem PSs.nox {st : List Stmt} {t : TS} (h : PSs X.nox st t) : PSs X st t := fun pins s σ H D I hw =>
  wpAny_mono (h pins s σ H D (I.wish _) hw) (fun _ _ q => q.unwish) fun _ _ z => False.elim z
end
section
variable {X : Cx} {st : Stmt} {rest : List Stmt} {t u : TS} {e : Expr} {te : TE} {pos : Pos}
def tNext : TS := fun D σ H => D.nx σ H
def tSeq (t u : TS) : TS := fun D σ H => t { D with nx := u D } σ H
theorem pss_nil : PSs X [] tNext := fun _ _ σ H _ I h => wpAny_execs_nil ⟨σ, H, I, h⟩
theorem pss_cons (h1 : PS X st t) (h2 : PSs X rest u) : PSs X (st :: rest) (tSeq t u) := by
  intro pins s σ H D I h
  refine wpAny_execs_cons (thn (h1 pins s σ H { D with nx := u D } I h) fun f s1 q => ?_)
  cases f with
  | next =>
    obtain ⟨σ', H', I', q⟩ := q
    exact h2 pins s1 σ' H' D I' q
  | ret v => exact q
  | brk => exact q
  | cont => exact q
theorem pss_one (h1 : PS X st t) : PSs X [st] t := by
  intro pins s σ H D I h
  refine wpAny_execs_cons (thn (h1 pins s σ H D I h) fun f s1 q => ?_)
  cases f with
  | next => exact wpAny_execs_nil q
  | ret v => exact q
  | brk => exact q
  | cont => exact q
theorem Inv.quiet {pins : List (Addr × Obj)} {σ : St} {H : Hp} {s : Shared} (I : Inv X pins σ H s) : interactive X.env = false := by simp [interactive, I.ok.kind]
def tDrop (te : TE) : TS := fun D σ H => te σ H fun _ H1 => D.nx σ H1
theorem ps_expr (he : PE X e te) (hs : swapsWith e none pos.line X.env = pure false := by rfl) : PS X (.Expr e pos) (tDrop te) := by
  intro pins s σ H D I h
  exact wpAny_Expr_any (thn (he pins s σ H _ I h) fun v s1 ⟨x, H1, I1, r1, q1⟩ => ⟨σ, H1, I1, q1⟩) I.quiet hs
def tRet (te : TE) : TS := fun D σ H => te σ H D.rt
theorem ps_ret (he : PE X e te) : PS X (.Return (some e) pos) (tRet te) := by
  intro pins s σ H D I h
  exact wpAny_Return_some (thn (he pins s σ H _ I h) fun v s1 ⟨x, H1, I1, r1, q1⟩ => ⟨x, σ, H1, I1, r1, q1⟩)
def tIfS (c : TT) (t u : TS) : TS := fun D σ H => c σ H fun b H1 => if b = true then t D σ H1 else u D σ H1
theorem ps_if {c : Expr} {a b : List Stmt} {tc : TT} (hc : PT X c tc) (ha : PSs X a t) (hb : PSs X b u) : PS X (.If c a b pos) (tIfS tc t u) := by
  intro pins s σ H D I h
  refine wpAny_If (thn (hc pins s σ H _ I h) fun d s1 ⟨H1, I1, q1⟩ => ?_)
  cases d with
  | true => exact ha pins s1 σ H1 D I1 q1
  | false => exact hb pins s1 σ H1 D I1 q1
def tNever : TS := fun _ _ _ => False
theorem ps_never : PS X st tNever := fun _ _ _ _ _ _ h => h.elim
theorem pss_never {sts : List Stmt} : PSs X sts tNever := fun _ _ _ _ _ _ h => h.elim
end
abbrev TG := V → St → Hp → (St → Hp → Prop) → Prop
abbrev TGs := List V → St → Hp → (St → Hp → Prop) → Prop
def PG (X : Cx) (target : Expr) (t : TG) : Prop :=
  ∀ (pins : List (Addr × Obj)) (s : Shared) (σ : St) (H : Hp) (v : V) (u : Value) (Q : St → Hp → Prop), Inv X pins σ H s → RelV v u → t v σ H Q →
    wpAny (model X.prog X.w) X.A (assign target X.env u) (fun _ s' => ∃ σ' H', Inv X pins σ' H' s' ∧ Q σ' H') X.xe s
def PGs (X : Cx) (ts : List Expr) (t : TGs) : Prop :=
  ∀ (pins : List (Addr × Obj)) (s : Shared) (σ : St) (H : Hp) (vs : List V) (us : List Value) (Q : St → Hp → Prop), Inv X pins σ H s → Vals vs us → t vs σ H Q →
    wpAny (model X.prog X.w) X.A (assignInOrder ((assignEach ts X.env).map (·.2)) us) (fun _ s' => ∃ σ' H', Inv X pins σ' H' s' ∧ Q σ' H') X.xe s
abbrev TSet := V → V → V → Hp → (Hp → Prop) → Prop
def PSet (X : Cx) (t : TSet) : Prop :=
  ∀ (pins : List (Addr × Obj)) (s : Shared) (σ : St) (H : Hp) (o i v : V) (ov iv u : Value) (Q : Hp → Prop), Inv X pins σ H s → RelV o ov → RelV i iv → RelV v u → t o i v H Q →
    wpAny (model X.prog X.w) X.A (setItem ov iv u) (fun _ s' => ∃ H', Inv X pins σ H' s' ∧ Q H') X.xe s
section
variable {X : Cx} {pos : Pos}
def gName (i : Nat) : TG := fun v σ H Q => Q (σ.set i (some v)) H
theorem pg_name {i : Nat} {x : Str} (hN : X.N.Nodup) (hi : X.N[i]? = some x) (hx : Loc X.env.scope x) (hf : X.fn x = true ∨ X.env.scope.names.lookup x = some .local := by first | exact .inl rfl | exact .inr rfl | assumption) : PG X (.Name x pos) (gName i) := by
  intro pins s σ H v u Q I r h
  exact wpAny_assign_Name (store_ok I hN hi hx r (fun s' I' => ⟨_, H, I', h⟩) hf)
def gNil : TGs := fun vs σ H Q => vs = [] ∧ Q σ H
def gCons (t : TG) (u : TGs) : TGs := fun vs σ H Q => ∃ v r, vs = v :: r ∧ t v σ H fun σ' H' => u r σ' H' Q
theorem pgs_nil : PGs X [] gNil := by
  intro pins s σ H vs us Q I r h
  obtain ⟨e, h⟩ := h
  subst e
  cases r
  exact assignInOrder_nil ⟨σ, H, I, h⟩
theorem pgs_cons {e : Expr} {es : List Expr} {t : TG} {u : TGs} (h1 : PG X e t) (h2 : PGs X es u)
    (hs : (assignEach (e :: es) X.env).map (·.2) = assign e X.env :: (assignEach es X.env).map (·.2) := by rfl) : PGs X (e :: es) (gCons t u) := by
  intro pins s σ H vs us Q I r h
  obtain ⟨v, vr, e1, h⟩ := h
  subst e1
  cases r with
  | cons r rr =>
    rw [hs]
    refine assignInOrder_cons (thn (h1 pins s σ H _ _ _ I r h) fun _ s1 ⟨σ1, H1, I1, q1⟩ => ?_)
    exact h2 pins s1 σ1 H1 _ _ Q I1 rr q1
def gTup (K : PySem.W.Frag) (n : Nat) (t : TGs) : TG := fun v σ H Q => ∃ a xs, v = .ref a ∧ SqT K H a xs ∧ xs.length = n ∧ t xs σ H Q
theorem pg_tup {es : List Expr} {k : Nat} {t : TGs} {n : Nat} (hc : X.calm = true) (h : PGs X es t)
    (hn : (assignEach es X.env).length = n := by rfl) (hst : (assignEach es X.env).findIdx? (·.1) = none := by rfl) : PG X (.Tuple es k pos) (gTup X.K n t) := by
  intro pins s σ H v u Q I r hw
  obtain ⟨a, xs, e1, hq, hl, hw⟩ := hw
  subst e1
  cases r
  obtain ⟨its, rv, ht, hz⟩ := I.tuple hq
  refine assign_Tuple_tuple (I.ok.hd hc) ht (by simp [hn, ← hl, rv.length]) hst fun h' hx => ?_
  have I1 : Inv X pins σ H { s with heap := h' } := I.kept (t' := s.toks) fun b o e => hx b o (Nat.ne_of_lt (Heap.lt_size e)) e
  exact h pins _ σ H xs _ Q I1 (by simpa using rv) hw
def gSub (to ti : TE) (t : TSet) : TG := fun v σ H Q => to σ H fun o H1 => ti σ H1 fun i H2 => t o i v H2 fun H3 => Q σ H3
theorem pg_sub {o i : Expr} {to ti : TE} {t : TSet} (ho : PE X o to) (hi : PE X i ti) (hs : PSet X t)
    (ha : ∀ v, assign (.Subscript o i pos) X.env v = (do
      let ov ← holding [v] (eval o X.env)
      let iv ← holding [v, ov] (eval i X.env)
      standAt pos
      holding [v, ov, iv] (setItem ov iv v)
      release [v, ov, iv] []) := by intro _; rfl) : PG X (.Subscript o i pos) (gSub to ti t) := by
  intro pins s σ H v u Q I r h
  rw [ha]
  refine wpAny_bind (wpAny_holding (thn (ho pins s σ H _ I h) fun ov s1 ⟨x, H1, I1, r1, q1⟩ => ?_))
  refine wpAny_bind (wpAny_holding (thn (hi pins s1 σ H1 _ I1 q1) fun iv s2 ⟨y, H2, I2, r2, q2⟩ => ?_))
  refine wpAny_bind (wpAny_standAt (wpAny_bind (wpAny_holding (thn (hs pins s2 σ H2 x y v ov iv u _ I2 r1 r2 r q2) fun _ s3 ⟨H3, I3, q3⟩ => ?_))))
  exact wpAny_release ⟨σ, H3, I3, q3⟩
def tAsg (te : TE) (g : TG) : TS := fun D σ H => te σ H fun x H1 => g x σ H1 D.nx
theorem ps_asg {tg e : Expr} {te : TE} {g : TG} (he : PE X e te) (hg : PG X tg g) (hs : swapsWithSole [tg] e pos.line X.env = pure false := by rfl) (hw : swappedStores [tg] e X.env = pure none := by rfl)
    (h1 : (assignEach [tg] X.env).map (·.2) = [assign tg X.env] := by rfl) : PS X (.Assign [tg] e pos) (tAsg te g) := by
  intro pins s σ H D I h
  refine wpAny_Assign_stores (thn (he pins s σ H _ I h) fun v s1 ⟨x, H1, I1, r1, q1⟩ => ?_) hs hw
  rw [h1]
  exact thn (hg pins s1 σ H1 x v _ I1 r1 q1) fun _ s2 q => q
theorem ps_set {i : Nat} {x : Str} {e : Expr} {te : TE} {pos' : Pos} (hN : X.N.Nodup) (hi : X.N[i]? = some x) (hx : Loc X.env.scope x) (he : PE X e te) (hs : swapsWith e (some (.Name x pos')) pos.line X.env = pure false := by rfl) (hf : X.fn x = true ∨ X.env.scope.names.lookup x = some .local := by first | exact .inl rfl | exact .inr rfl | assumption) :
    PS X (.Assign [.Name x pos'] e pos) (tAsg te (gName i)) := by
  intro pins s σ H D I h
  refine wpAny_Assign_Name (thn (he pins s σ H _ I h) fun v s1 ⟨y, H1, I1, r1, q1⟩ => ?_) hs
  exact store_ok I1 hN hi hx r1 (fun s2 I2 => ⟨_, H1, I2, q1⟩) hf
end
section
variable {X : Cx} {pos : Pos}
def tWhile (c : TT) (tb : TS) : TS := fun D σ H => ∃ W : Nat → St → Hp → Prop, (∃ m, W m σ H) ∧ ∀ m σ H, W m σ H →
  c σ H fun b H1 => if b = true then ∃ N : St → Hp → Prop, (∀ σ' H', N σ' H' → ∃ m', m' < m ∧ W m' σ' H') ∧ tb { D with nx := N, ct := N, bk := D.nx } σ H1 else D.nx σ H1
theorem ps_while {c : Expr} {body : List Stmt} {tc : TT} {tb : TS} (hp : PassesOwn (model X.prog X.w) X.A X.env X.xe) (hc : PT X c tc) (hb : PSs X body tb) : PS X (.While c body [] pos) (tWhile tc tb) := by
  intro pins s σ H D I h
  obtain ⟨W, ⟨m0, w0⟩, turn⟩ := h
  refine wpAny_While (codeAny_whileLoop (fun n s' => ∃ σ' H', Inv X pins σ' H' s' ∧ W n σ' H') ?_ m0 ⟨σ, H, I, w0⟩)
  rintro n s1 ⟨σ1, H1, I1, w1⟩
  refine wpAny_passesOwn hp (thn (hc pins s1 σ1 H1 _ I1 (turn n σ1 H1 w1)) fun b s2 ⟨H2, I2, q2⟩ => ?_)
  cases b with
  | true =>
    obtain ⟨N, hN, q2⟩ := q2
    rw [if_pos rfl]
    refine wpAny_passesOwn hp (thn (hb pins s2 σ1 H2 _ I2 q2) fun f s3 q3 => ?_)
    cases f with
    | next =>
      obtain ⟨σ3, H3, I3, n3⟩ := q3
      obtain ⟨m', hm, w3⟩ := hN σ3 H3 n3
      exact ⟨m', hm, σ3, H3, I3, w3⟩
    | cont =>
      obtain ⟨σ3, H3, I3, n3⟩ := q3
      obtain ⟨m', hm, w3⟩ := hN σ3 H3 n3
      exact ⟨m', hm, σ3, H3, I3, w3⟩
    | brk => exact q3
    | ret v => exact q3
  | false =>
    rw [if_neg Bool.false_ne_true]
    exact wpAny_execs_nil ⟨σ1, H2, I2, q2⟩
end
structure It where
  go : Nat → Hp → Prop
  yld : Nat → Hp → V → Hp → Prop
  stop : Nat → Hp → Prop
def FpOk (X : Cx) (pins : List (Addr × Obj)) (H : Hp) (b : Addr) : Prop :=
  H b = none ∧ b ≠ X.env.locals ∧ b ∉ X.fs ∧ (b ∈ X.ex ∨ X.s₀.heap.objs.size ≤ b) ∧ (∀ x c, X.env.cells.lookup x = some c → c ≠ b) ∧ ∀ p ∈ X.pn ++ pins, p.1 ≠ b
theorem Inv.fpOk {X : Cx} {pins : List (Addr × Obj)} {σ : St} {H H' : Hp} {s : Shared} {b : Addr} (I : Inv X pins σ H s) (hb : s.heap.objs.size ≤ b) (hn : H' b = none) : FpOk X pins H' b := by
  refine ⟨hn, Nat.ne_of_gt (Nat.lt_of_lt_of_le I.lt hb), I.nofs hb, .inr (Nat.le_trans I.sz hb), fun x c e z => ?_, fun p hp z => ?_⟩
  · obtain ⟨v, q⟩ := I.cell x c e
    exact absurd (Nat.lt_of_lt_of_le q.lt (by rw [z]; exact hb)) (Nat.lt_irrefl _)
  · exact absurd (Nat.lt_of_lt_of_le (Heap.lt_size (I.pin p hp).1) (by rw [z]; exact hb)) (Nat.lt_irrefl _)
structure Turn (P : Program) (w : World) (K : PySem.W.Frag) (tg : Expr) (J : It) (fp : List Addr) (it : Addr) (tn : Nat → Heap → Prop) : Prop where
  mem : it ∈ fp
  obj : ∀ i h, tn i h → ∀ b ∈ fp, ∃ o, h.get? b = some o ∧ ∀ v, o.data ≠ .cell v
  keep : ∀ i h h', tn i h → (∀ b ∈ fp, ∀ o, h.get? b = some o → h'.get? b = some o) → tn i h'
  item : ∀ (X : Cx), X.prog = P → X.w = w → X.K = K → X.calm = true → ∀ (i : Nat) (pins : List (Addr × Obj)) (s : Shared) (σ : St) (H : Hp) (E : Value → Shared → Prop), Inv X pins σ H s → (∀ b ∈ fp, FpOk X pins H b) → tn i s.heap → J.go i H →
    wpAny (model P w) X.A (pyNext (.ref it)) (fun r s1 => ∃ u, r = some u ∧
      wpAny (model P w) X.A (letOwnedTupleGo tg (.ref it) u) (fun _ s2 => ∃ x H', Inv X pins σ H' s2 ∧ RelV x u ∧ J.yld i H x H' ∧ tn (i + 1) s2.heap ∧ ∀ b ∈ fp, H' b = none) E s1) E s
  done : ∀ (X : Cx), X.prog = P → X.w = w → X.K = K → X.calm = true → ∀ (i : Nat) (pins : List (Addr × Obj)) (s : Shared) (σ : St) (H : Hp) (E : Value → Shared → Prop), Inv X pins σ H s → (∀ b ∈ fp, FpOk X pins H b) → tn i s.heap → J.stop i H →
    wpAny (model P w) X.A (pyNext (.ref it)) (fun r s1 => r = none ∧ Inv X pins σ H s1) E s
  self : ∀ (A : Around) (i : Nat) (s : Shared) (Q : Value → Shared → Prop) (E : Value → Shared → Prop), tn i s.heap → Q (.ref it) s → wpAny (model P w) A (pyIter (.ref it)) Q E s
abbrev TI := St → Hp → (It → Hp → Prop) → Prop
def PIE (X : Cx) (pins : List (Addr × Obj)) (σ : St) (tg : Expr) (R : It → Hp → Prop) (itv : Value) (s2 : Shared) : Prop :=
  ∃ (it : Addr) (fp : List Addr) (tn : Nat → Heap → Prop) (J : It) (H' : Hp), itv = .ref it ∧ Inv X pins σ H' s2 ∧ Turn X.prog X.w X.K tg J fp it tn ∧ tn 0 s2.heap ∧ (∀ b ∈ fp, FpOk X pins H' b) ∧ R J H'
def PI (X : Cx) (tg iter : Expr) (wi : TI) : Prop :=
  ∀ (pins : List (Addr × Obj)) (s : Shared) (σ : St) (H : Hp) (R : It → Hp → Prop), Inv X pins σ H s → wi σ H R →
    wpAny (model X.prog X.w) X.A (eval iter X.env) (fun v s1 => wpAny (model X.prog X.w) X.A (pyIter v) (PIE X pins σ tg R) X.xe s1) X.xe s
theorem go_of {M : Model} {A : Around} {E : Value → Shared → Prop} {s : Shared} {tg : Expr} {it : Addr} {u : Value} {o : Obj} {n : String} {vs : Array Value} {Q : Unit → Shared → Prop} (ho : s.heap.get? it = some o) (hc : o.cls = .type n) (hd : o.data = .fields vs)
    (hn : ["enumerate", "zip", "dict_itemiterator", "dict_reverseitemiterator", "odict_iterator", "itertools.zip_longest", "itertools.pairwise"].contains n = false) (hQ : Q () s) : wpAny M A (letOwnedTupleGo tg (.ref it) u) Q E s := by
  unfold letOwnedTupleGo
  cases tg <;> first
    | exact wpAny_pure hQ
    | (cases u <;> first
        | exact wpAny_pure hQ
        | (refine wpAny_bind (wpAny_load ho ?_)
           rw [hc, hd]
           show wpAny M A (if (["enumerate", "zip", "dict_itemiterator", "dict_reverseitemiterator", "odict_iterator", "itertools.zip_longest", "itertools.pairwise"].contains n && vs[0]? == some (rawInt _)) = true then _ else _) Q E s
           rw [if_neg (by intro h; rw [hn, Bool.false_and] at h; cases h)]
           exact wpAny_pure hQ))
def Itl (K : PySem.W.Frag) (a : Addr) : It :=
  ⟨fun i H => ∃ xs x, SqL K H a xs ∧ xs[i]? = some x, fun i H x H' => H' = H ∧ ∀ xs, SqL K H a xs → xs[i]? = some x, fun i H => ∃ xs, SqL K H a xs ∧ xs.length ≤ i⟩
def Itt (K : PySem.W.Frag) (a : Addr) : It :=
  ⟨fun i H => ∃ xs x, SqT K H a xs ∧ xs[i]? = some x, fun i H x H' => H' = H ∧ ∀ xs, SqT K H a xs → xs[i]? = some x, fun i H => ∃ xs, SqT K H a xs ∧ xs.length ≤ i⟩
def Itr (lo : Int) (n : Nat) : It := ⟨fun i _ => i < n, fun i H x H' => H' = H ∧ x = .int (lo + i), fun i _ => n ≤ i⟩
theorem turn_list {P : Program} {w : World} {K : PySem.W.Frag} {tg : Expr} (a it : Addr) : Turn P w K tg (Itl K a) [it] it (fun i h => h.IsListIter it a i) where
  mem := by simp
  obj := fun i h st b hb => by
    have e : b = it := by simpa using hb
    subst e
    obtain ⟨o, e, c, d⟩ := st
    exact ⟨o, e, fun v z => by rw [d] at z; cases z⟩
  keep := fun i h h' st k => st.at fun o e => k it (by simp) o e
  item := by
    intro X hP hw hK hc i pins s σ H E I hf st hg
    subst hP hw hK
    obtain ⟨xs, x, hq, hx⟩ := hg
    obtain ⟨its, rv, p, hz⟩ := I.list hq
    obtain ⟨u, hu, ru⟩ := rv.get hx
    obtain ⟨f0, f1, f2, f3, f4, f5⟩ := hf it (by simp)
    refine wpAny_pyNext_list_item st p.isList (x := u) (by simpa using hu) fun h' st' sb => ?_
    have I1 : Inv X pins σ H { s with heap := h' } := I.turned (t' := s.toks) (fun b o hb e => (sb.2 b hb).trans e) f0 f1 f3 f4 f5
    obtain ⟨o, e, c, d⟩ := id st'
    exact ⟨u, rfl, go_of (s := { s with heap := h' }) e c d (by decide) ⟨x, H, I1, ru, ⟨rfl, fun ys hy => by rw [I.list_inj hy hq]; exact hx⟩, st', fun b hb => (hf b hb).1⟩⟩
  done := by
    intro X hP hw hK hc i pins s σ H E I hf st hg
    subst hP hw hK
    obtain ⟨xs, hq, hx⟩ := hg
    obtain ⟨its, rv, p, hz⟩ := I.list hq
    obtain ⟨f0, f1, f2, f3, f4, f5⟩ := hf it (by simp)
    have hl := rv.length
    exact wpAny_pyNext_list_end (I.ok.hd hc) st p.isList (by simp; omega) fun h' eb => ⟨rfl, I.turned (t' := s.toks) (fun b o hb e => eb b o hb e) f0 f1 f3 f4 f5⟩
  self := fun _ _ _ _ _ st h => wpAny_pyIter_listiter st h
theorem turn_tuple {P : Program} {w : World} {K : PySem.W.Frag} {tg : Expr} (a it : Addr) : Turn P w K tg (Itt K a) [it] it (fun i h => h.IsTupleIter it a i) where
  mem := by simp
  obj := fun i h st b hb => by
    have e : b = it := by simpa using hb
    subst e
    obtain ⟨o, e, c, d⟩ := st
    exact ⟨o, e, fun v z => by rw [d] at z; cases z⟩
  keep := fun i h h' st k => st.at fun o e => k it (by simp) o e
  item := by
    intro X hP hw hK hc i pins s σ H E I hf st hg
    subst hP hw hK
    obtain ⟨xs, x, hq, hx⟩ := hg
    obtain ⟨its, rv, p, hz⟩ := I.tuple hq
    obtain ⟨u, hu, ru⟩ := rv.get hx
    obtain ⟨f0, f1, f2, f3, f4, f5⟩ := hf it (by simp)
    refine wpAny_pyNext_tuple_item st (show s.heap.IsTuple a its.toArray from p) (x := u) (by simpa using hu) fun h' st' sb => ?_
    have I1 : Inv X pins σ H { s with heap := h' } := I.turned (t' := s.toks) (fun b o hb e => (sb.2 b hb).trans e) f0 f1 f3 f4 f5
    obtain ⟨o, e, c, d⟩ := id st'
    exact ⟨u, rfl, go_of (s := { s with heap := h' }) e c d (by decide) ⟨x, H, I1, ru, ⟨rfl, fun ys hy => by rw [I.tuple_inj hy hq]; exact hx⟩, st', fun b hb => (hf b hb).1⟩⟩
  done := by
    intro X hP hw hK hc i pins s σ H E I hf st hg
    subst hP hw hK
    obtain ⟨xs, hq, hx⟩ := hg
    obtain ⟨its, rv, p, hz⟩ := I.tuple hq
    obtain ⟨f0, f1, f2, f3, f4, f5⟩ := hf it (by simp)
    have hl := rv.length
    exact wpAny_pyNext_tuple_end (I.ok.hd hc) st (show s.heap.IsTuple a its.toArray from p) (by simp; omega) fun h' eb => ⟨rfl, I.turned (t' := s.toks) (fun b o hb e => eb b o hb e) f0 f1 f3 f4 f5⟩
  self := fun _ _ _ _ _ st h => wpAny_pyIter_tupleiter st h
theorem turn_range {P : Program} {w : World} {K : PySem.W.Frag} {tg : Expr} (it : Addr) (lo : Int) (n : Nat) : Turn P w K tg (Itr lo n) [it] it (fun i h => IsRangeIter h it (lo + (i : Nat) * 1) ((n : Int) - (i : Nat)) 1) where
  mem := by simp
  obj := fun i h st b hb => by
    have e : b = it := by simpa using hb
    subst e
    exact ⟨_, st, fun v z => by
      have z' : Data.fields _ = Data.cell v := z
      cases z'⟩
  keep := fun i h h' st k => k it (by simp) _ st
  item := by
    intro X hP hw hK hc i pins s σ H E I hf st hg
    subst hP hw hK
    obtain ⟨f0, f1, f2, f3, f4, f5⟩ := hf it (by simp)
    have W := Walks.range (prog := X.prog) (w := X.w) (I.ok.hd hc) it lo 1 n
    refine W.item i s _ _ hg st fun v h' tk hv st' kk => ?_
    obtain ⟨t, rfl⟩ := hv
    have I1 : Inv X pins σ H { s with heap := h', toks := tk } := I.turned (fun b o hb e => kk b o (by simpa using hb) e) f0 f1 f3 f4 f5
    refine ⟨_, rfl, go_of (s := { s with heap := h', toks := tk }) (n := "range_iterator") st' rfl rfl (by decide) ⟨.int (lo + i), H, I1, ⟨t, ?_⟩, ⟨rfl, rfl⟩, st', fun b hb => (hf b hb).1⟩⟩
    rw [Int.mul_one]
  done := by
    intro X hP hw hK hc i pins s σ H E I hf st hg
    subst hP hw hK
    obtain ⟨f0, f1, f2, f3, f4, f5⟩ := hf it (by simp)
    exact wpAny_pyNext_range_end (I.ok.hd hc) st (by have : n ≤ i := hg; omega) fun h' eb => ⟨rfl, I.turned (t' := s.toks) (fun b o hb e => eb b o hb e) f0 f1 f3 f4 f5⟩
  self := fun _ _ _ _ _ st h => wpAny_pyIter_rangeiter st h
end L2
namespace L2
open PySem PySem.Spec PyProof.Rows
section
variable {X : Cx} {tg : Expr}
def iList (K : PySem.W.Frag) (tl : TE) : TI := fun σ H R => tl σ H fun x H1 => ∃ a, x = .ref a ∧ (∃ xs, SqL K H1 a xs) ∧ R (Itl K a) H1
def iTup (K : PySem.W.Frag) (tl : TE) : TI := fun σ H R => tl σ H fun x H1 => ∃ a, x = .ref a ∧ (∃ xs, SqT K H1 a xs) ∧ R (Itt K a) H1
theorem pi_list {l : Expr} {tl : TE} (hl : PE X l tl) : PI X tg l (iList X.K tl) := by
  intro pins s σ H R I h
  refine thn (hl pins s σ H _ I h) fun v s1 ⟨x, H1, I1, r1, q1⟩ => ?_
  obtain ⟨a, e, ⟨xs, hq⟩, q⟩ := q1
  subst e
  cases r1
  obtain ⟨its, rv, p, hz⟩ := I1.list hq
  refine wpAny_pyIter_list p.isList ?_
  refine ⟨s1.heap.objs.size, [s1.heap.objs.size], _, _, H1, rfl, I1.kept (t' := s1.toks) fun b o e => Heap.get?_push_of_some _ e, turn_list a _, ⟨_, Heap.get?_push_size _ rfl, rfl, rfl⟩, fun b hb => ?_, q⟩
  have e : b = s1.heap.objs.size := by simpa using hb
  subst e
  exact I1.fpOk (Nat.le_refl _) (I1.hok.fresh (Nat.le_refl _))
theorem pi_tup {l : Expr} {tl : TE} (hl : PE X l tl) : PI X tg l (iTup X.K tl) := by
  intro pins s σ H R I h
  refine thn (hl pins s σ H _ I h) fun v s1 ⟨x, H1, I1, r1, q1⟩ => ?_
  obtain ⟨a, e, ⟨xs, hq⟩, q⟩ := q1
  subst e
  cases r1
  obtain ⟨its, rv, p, hz⟩ := I1.tuple hq
  refine wpAny_pyIter_tuple (show s1.heap.IsTuple a its.toArray from p) ?_
  refine ⟨s1.heap.objs.size, [s1.heap.objs.size], _, _, H1, rfl, I1.kept (t' := s1.toks) fun b o e => Heap.get?_push_of_some _ e, turn_tuple a _, ⟨_, Heap.get?_push_size _ rfl, rfl, rfl⟩, fun b hb => ?_, q⟩
  have e : b = s1.heap.objs.size := by simpa using hb
  subst e
  exact I1.fpOk (Nat.le_refl _) (I1.hok.fresh (Nat.le_refl _))
theorem range_it {pins : List (Addr × Obj)} {σ : St} {H : Hp} {s : Shared} {R : It → Hp → Prop} {E : Value → Shared → Prop} {lo hi : Int} {t u v : Tok} {tk : Nat} (I : Inv X pins σ H s) (h1 : -(2 ^ 62) ≤ lo) (h2 : lo < 2 ^ 62) (h3 : -(2 ^ 62) ≤ hi) (h4 : hi < 2 ^ 62)
    (q : R (Itr lo (hi - lo).toNat) H) : wpAny (model X.prog X.w) X.A (pyIter (.ref s.heap.objs.size)) (PIE X pins σ tg R) E { s with heap := s.heap.push { cls := .type "range", data := .fields #[.int lo t, .int hi u, .int 1 v] }, toks := tk } := by
  refine wpAny_pyIter_range (IsRange.new ..) (small_one h1 h2 h3 h4) ?_
  have I1 : Inv X pins σ H { s with heap := s.heap.push { cls := .type "range", data := .fields #[.int lo t, .int hi u, .int 1 v] }, toks := tk } := I.kept fun b o e => Heap.get?_push_of_some _ e
  refine ⟨(s.heap.push { cls := .type "range", data := .fields #[.int lo t, .int hi u, .int 1 v] }).objs.size, [(s.heap.push { cls := .type "range", data := .fields #[.int lo t, .int hi u, .int 1 v] }).objs.size], _, _, H, rfl,
    I1.kept (t' := tk) fun b o e => Heap.get?_push_of_some _ e, turn_range _ lo (hi - lo).toNat, ?_, fun b hb => ?_, q⟩
  · have e1 : lo + ((0 : Nat) : Int) * 1 = lo := by simp
    have e2 : (((hi - lo).toNat : Nat) : Int) - ((0 : Nat) : Int) = Builtin.Range.rangeSize lo hi 1 := by rw [rangeSize_one]; split <;> omega
    show IsRangeIter _ _ (lo + ((0 : Nat) : Int) * 1) ((((hi - lo).toNat : Nat) : Int) - ((0 : Nat) : Int)) 1
    rw [e1, e2]
    exact Heap.get?_push_size _ rfl
  · have e : b = (s.heap.push { cls := .type "range", data := .fields #[.int lo t, .int hi u, .int 1 v] }).objs.size := by simpa using hb
    subst e
    exact I1.fpOk (Nat.le_refl _) (I1.hok.fresh (Nat.le_refl _))
def iRng1 (ta : TA) : TI := fun σ H R => ta σ H fun vs H1 => ∃ j : Int, vs = [.int j] ∧ -(2 ^ 62) ≤ j ∧ j < 2 ^ 62 ∧ R (Itr 0 j.toNat) H1
def iRng2 (ta : TA) : TI := fun σ H R => ta σ H fun vs H1 => ∃ i j : Int, vs = [.int i, .int j] ∧ (-(2 ^ 62) ≤ i ∧ i < 2 ^ 62 ∧ -(2 ^ 62) ≤ j ∧ j < 2 ^ 62) ∧ R (Itr i (j - i).toNat) H1
theorem pi_range1 {a : Expr} {ta : TA} {p pos : Pos} (hg : Gl X "range") (hm : X.mg "range" = none) (ha : PA X [a] ta) (hs : starEach [a] X.env = [(false, eval a X.env)] := by rfl) : PI X tg (.Call (.Name "range" p) [a] [] pos) (iRng1 ta) := by
  intro pins s σ H R I h
  refine Call_ (ld_blt I hg hm boot_range (PyProof.Rows.callWith_type1 (thn (ha pos pins s σ H _ I h) fun us s1 ⟨vs, H1, I1, r1, q1⟩ => ?_) hs rfl))
  obtain ⟨j, e, q1, q2, q⟩ := q1
  subst e
  cases r1 with
  | cons r rr =>
    cases rr
    obtain ⟨t, rfl⟩ := r
    exact call_range_1 (range_it I1 (by omega) (by omega) q1 q2 (by simpa using q))
theorem pi_range2 {a b : Expr} {ta : TA} {p pos : Pos} (hg : Gl X "range") (hm : X.mg "range" = none) (ha : PA X [a, b] ta) (hs : starEach [a, b] X.env = [(false, eval a X.env), (false, eval b X.env)] := by rfl) (hs2 : starEach [b] X.env = [(false, eval b X.env)] := by rfl) :
    PI X tg (.Call (.Name "range" p) [a, b] [] pos) (iRng2 ta) := by
  intro pins s σ H R I h
  refine Call_ (ld_blt I hg hm boot_range (PyProof.Rows.callWith_type1 (thn (ha pos pins s σ H _ I h) fun us s1 ⟨vs, H1, I1, r1, q1⟩ => ?_) (by rw [hs, hs2]) (by rw [hs2]; rfl)))
  obtain ⟨i, j, e, ⟨q1, q2, q3, q4⟩, q⟩ := q1
  subst e
  cases r1 with
  | cons r rr =>
    cases rr with
    | cons r' rr =>
      cases rr
      obtain ⟨t, rfl⟩ := r
      obtain ⟨t', rfl⟩ := r'
      exact call_range_2 (range_it I1 q1 q2 q3 q4 q)
def tFor (wi : TI) (g : TG) (tb : TS) : TS := fun D σ H => wi σ H fun J H1 => ∃ W : Nat → Nat → St → Hp → Prop, (∃ m, W 0 m σ H1) ∧ ∀ i m σ H, W i m σ H →
  (J.stop i H ∧ D.nx σ H) ∨ (J.go i H ∧ ∃ N : St → Hp → Prop, (∀ σ' H', N σ' H' → ∃ m', m' < m ∧ W (i + 1) m' σ' H') ∧ ∀ x H', J.yld i H x H' → g x σ H' fun σ2 H2 => tb { D with nx := N, ct := N, bk := D.nx } σ2 H2)
def pinsAt (fp : List Addr) (h : Heap) : List (Addr × Obj) := fp.filterMap fun b => (h.get? b).map fun o => (b, o)
theorem mem_pinsAt {fp : List Addr} {h : Heap} {b : Addr} {o : Obj} (hb : b ∈ fp) (e : h.get? b = some o) : (b, o) ∈ pinsAt fp h := List.mem_filterMap.mpr ⟨b, hb, by rw [e]; rfl⟩
theorem of_pinsAt {fp : List Addr} {h : Heap} {p : Addr × Obj} (hp : p ∈ pinsAt fp h) : p.1 ∈ fp ∧ h.get? p.1 = some p.2 := by
  obtain ⟨b, hb, e⟩ := List.mem_filterMap.mp hp
  cases q : h.get? b with
  | none => rw [q] at e; cases e
  | some o =>
    rw [q] at e
    have e' : (b, o) = p := Option.some.inj e
    subst e'
    exact ⟨hb, q⟩
theorem Inv.pinned {pins : List (Addr × Obj)} {σ : St} {H : Hp} {s : Shared} {fp : List Addr} (I : Inv X pins σ H s) (hf : ∀ b ∈ fp, FpOk X pins H b) (ho : ∀ b ∈ fp, ∃ o, s.heap.get? b = some o ∧ ∀ v, o.data ≠ .cell v) : Inv X (pins ++ pinsAt fp s.heap) σ H s :=
  I.pins_of fun p hp => (List.mem_append.mp hp).elim (fun z => I.pin p (List.mem_append_right _ z)) fun z => by
    obtain ⟨hb, e⟩ := of_pinsAt z
    obtain ⟨f0, f1, f2, _⟩ := hf p.1 hb
    obtain ⟨o, e', d⟩ := ho p.1 hb
    rw [e] at e'; cases e'
    exact ⟨e, f0, f1, f2, d⟩
theorem Inv.unpinned {pins pl : List (Addr × Obj)} {σ : St} {H : Hp} {s : Shared} (I : Inv X (pins ++ pl) σ H s) : Inv X pins σ H s := I.pins_of fun p hp => I.pin p (List.mem_append_right _ (List.mem_append_left _ hp))
theorem ps_for {iter : Expr} {body : List Stmt} {wi : TI} {g : TG} {tb : TS} {pos : Pos} (hp : PassesOwn (model X.prog X.w) X.A X.env X.xe) (hc : X.calm = true) (hi : PI X tg iter wi) (hg : PG X tg g) (hb : PSs X body tb)
    (hs : ∀ x, foldedSetIterable iter X.env x = pure x := by intro _; rfl) : PS X (.For tg iter body [] pos) (tFor wi g tb) := by
  intro pins s σ H D I h
  refine wpAny_For (thn (hi pins s σ H _ I h) fun v s1 h1 => thn h1 fun itv s2 h2 => ?_) hs
  obtain ⟨it, fp, tn, J, H2, e, I2, T, st2, f2, W, ⟨m0, w0⟩, turn⟩ := h2
  subst e
  -- what stays true of the iterator's objects through the loop
  have stat : ∀ {H' : Hp}, (∀ b ∈ fp, H' b = none) → ∀ b ∈ fp, FpOk X pins H' b := fun hn b hb => ⟨hn b hb, (f2 b hb).2⟩
  refine codeAny_forLoop_any (fun n s' => ∃ i σ' H', Inv X pins σ' H' s' ∧ tn i s'.heap ∧ (∀ b ∈ fp, H' b = none) ∧ W i n σ' H') ?_ m0 ⟨0, σ, H2, I2, st2, fun b hb => (f2 b hb).1, w0⟩
  rintro n s3 ⟨i, σ3, H3, I3, st3, fr3, w3⟩
  rcases turn i n σ3 H3 w3 with ⟨stop, qn⟩ | ⟨go, N, hN, step⟩
  · refine wpAny_passesOwn hp (thn (T.done X rfl rfl rfl hc i pins s3 σ3 H3 X.xe I3 (stat fr3) st3 stop) fun r s4 ⟨hr, I4⟩ => ?_)
    subst hr
    exact wpAny_execs_nil ⟨σ3, H3, I4, qn⟩
  · refine wpAny_passesOwn hp (thn (T.item X rfl rfl rfl hc i pins s3 σ3 H3 X.xe I3 (stat fr3) st3 go) fun r s4 ⟨u, hr, h4⟩ => ?_)
    subst hr
    refine wpAny_passesOwn hp (thn h4 fun _ s5 ⟨x, H5, I5, r5, y5, st5, fr5⟩ => ?_)
    have I5' := I5.pinned (stat fr5) (T.obj _ _ st5)
    refine wpAny_passesOwn hp (thn (hg _ s5 σ3 H5 x u _ I5' r5 (step x H5 y5)) fun _ s6 ⟨σ6, H6, I6, q6⟩ => ?_)
    refine wpAny_passesOwn hp (thn (hb _ s6 σ6 H6 _ I6 q6) fun f s7 q7 => ?_)
    have again : ∀ {σ7 : St} {H7 : Hp}, Inv X (pins ++ pinsAt fp s5.heap) σ7 H7 s7 → N σ7 H7 → ∃ m, m < n ∧ ∃ i σ' H', Inv X pins σ' H' s7 ∧ tn i s7.heap ∧ (∀ b ∈ fp, H' b = none) ∧ W i m σ' H' := fun {σ7 H7} I7 n7 => by
      obtain ⟨m', hm, w7⟩ := hN σ7 H7 n7
      refine ⟨m', hm, i + 1, σ7, H7, I7.unpinned, T.keep _ _ _ st5 fun b hb o e => (I7.pin (b, o) (List.mem_append_right _ (List.mem_append_right _ (mem_pinsAt hb e)))).1, fun b hb => ?_, w7⟩
      obtain ⟨o, e, d⟩ := T.obj _ _ st5 b hb
      exact (I7.pin (b, o) (List.mem_append_right _ (List.mem_append_right _ (mem_pinsAt hb e)))).2.1
    cases f with
    | next => obtain ⟨σ7, H7, I7, n7⟩ := q7; exact again I7 n7
    | cont => obtain ⟨σ7, H7, I7, n7⟩ := q7; exact again I7 n7
    | brk => obtain ⟨σ7, H7, I7, q7⟩ := q7; exact ⟨σ7, H7, I7.unpinned, q7⟩
    | ret v => obtain ⟨x7, σ7, H7, I7, r7, q7⟩ := q7; exact ⟨x7, σ7, H7, I7.unpinned, r7, q7⟩
end
theorem for_list {K : PySem.W.Frag} {a : Addr} {xs : List V} {g : TG} {tb : TS} {D : Ends} {σ : St} {H : Hp} (Pv : Nat → St → Hp → Prop) (h0 : Pv 0 σ H) (hl : ∀ i σ H, i ≤ xs.length → Pv i σ H → SqL K H a xs)
    (hs : ∀ i x σ H, xs[i]? = some x → Pv i σ H → g x σ H fun σ2 H2 => tb { D with nx := Pv (i + 1), ct := Pv (i + 1), bk := D.nx } σ2 H2) (hd : ∀ σ H, Pv xs.length σ H → D.nx σ H) :
    ∃ W : Nat → Nat → St → Hp → Prop, (∃ m, W 0 m σ H) ∧ ∀ i m σ H, W i m σ H →
      ((Itl K a).stop i H ∧ D.nx σ H) ∨ ((Itl K a).go i H ∧ ∃ N : St → Hp → Prop, (∀ σ' H', N σ' H' → ∃ m', m' < m ∧ W (i + 1) m' σ' H') ∧ ∀ x H', (Itl K a).yld i H x H' → g x σ H' fun σ2 H2 => tb { D with nx := N, ct := N, bk := D.nx } σ2 H2) := by
  refine ⟨fun i m σ H => m = xs.length - i ∧ i ≤ xs.length ∧ Pv i σ H, ⟨xs.length, by simp, Nat.zero_le _, h0⟩, ?_⟩
  rintro i m σ H ⟨rfl, hi, p⟩
  have q := hl i σ H hi p
  by_cases hlt : i < xs.length
  · refine .inr ⟨⟨xs, xs[i], q, by simp [hlt]⟩, Pv (i + 1), fun σ' H' p' => ⟨xs.length - (i + 1), by omega, rfl, hlt, p'⟩, fun x H' y => ?_⟩
    obtain ⟨e, y⟩ := y
    subst e
    exact hs i x σ _ (y xs q) p
  · have e : i = xs.length := by omega
    subst e
    exact .inl ⟨⟨xs, q, Nat.le_refl _⟩, hd σ H p⟩
theorem for_tup {K : PySem.W.Frag} {a : Addr} {xs : List V} {g : TG} {tb : TS} {D : Ends} {σ : St} {H : Hp} (Pv : Nat → St → Hp → Prop) (h0 : Pv 0 σ H) (hl : ∀ i σ H, i ≤ xs.length → Pv i σ H → SqT K H a xs)
    (hs : ∀ i x σ H, xs[i]? = some x → Pv i σ H → g x σ H fun σ2 H2 => tb { D with nx := Pv (i + 1), ct := Pv (i + 1), bk := D.nx } σ2 H2) (hd : ∀ σ H, Pv xs.length σ H → D.nx σ H) :
    ∃ W : Nat → Nat → St → Hp → Prop, (∃ m, W 0 m σ H) ∧ ∀ i m σ H, W i m σ H →
      ((Itt K a).stop i H ∧ D.nx σ H) ∨ ((Itt K a).go i H ∧ ∃ N : St → Hp → Prop, (∀ σ' H', N σ' H' → ∃ m', m' < m ∧ W (i + 1) m' σ' H') ∧ ∀ x H', (Itt K a).yld i H x H' → g x σ H' fun σ2 H2 => tb { D with nx := N, ct := N, bk := D.nx } σ2 H2) := by
  refine ⟨fun i m σ H => m = xs.length - i ∧ i ≤ xs.length ∧ Pv i σ H, ⟨xs.length, by simp, Nat.zero_le _, h0⟩, ?_⟩
  rintro i m σ H ⟨rfl, hi, p⟩
  have q := hl i σ H hi p
  by_cases hlt : i < xs.length
  · refine .inr ⟨⟨xs, xs[i], q, by simp [hlt]⟩, Pv (i + 1), fun σ' H' p' => ⟨xs.length - (i + 1), by omega, rfl, hlt, p'⟩, fun x H' y => ?_⟩
    obtain ⟨e, y⟩ := y
    subst e
    exact hs i x σ _ (y xs q) p
  · have e : i = xs.length := by omega
    subst e
    exact .inl ⟨⟨xs, q, Nat.le_refl _⟩, hd σ H p⟩
theorem for_range {lo : Int} {n : Nat} {g : TG} {tb : TS} {D : Ends} {σ : St} {H : Hp} (Pv : Nat → St → Hp → Prop) (h0 : Pv 0 σ H)
    (hs : ∀ i σ H, i < n → Pv i σ H → g (.int (lo + i)) σ H fun σ2 H2 => tb { D with nx := Pv (i + 1), ct := Pv (i + 1), bk := D.nx } σ2 H2) (hd : ∀ σ H, Pv n σ H → D.nx σ H) :
    ∃ W : Nat → Nat → St → Hp → Prop, (∃ m, W 0 m σ H) ∧ ∀ i m σ H, W i m σ H →
      ((Itr lo n).stop i H ∧ D.nx σ H) ∨ ((Itr lo n).go i H ∧ ∃ N : St → Hp → Prop, (∀ σ' H', N σ' H' → ∃ m', m' < m ∧ W (i + 1) m' σ' H') ∧ ∀ x H', (Itr lo n).yld i H x H' → g x σ H' fun σ2 H2 => tb { D with nx := N, ct := N, bk := D.nx } σ2 H2) := by
  refine ⟨fun i m σ H => m = n - i ∧ i ≤ n ∧ Pv i σ H, ⟨n, by simp, Nat.zero_le _, h0⟩, ?_⟩
  rintro i m σ H ⟨rfl, hi, p⟩
  by_cases hlt : i < n
  · refine .inr ⟨hlt, Pv (i + 1), fun σ' H' p' => ⟨n - (i + 1), by omega, rfl, hlt, p'⟩, fun x H' y => ?_⟩
    obtain ⟨e, y⟩ := y
    subst e y
    exact hs i σ _ hlt p
  · have e : i = n := by omega
    subst e
    exact .inl ⟨Nat.le_refl _, hd σ H p⟩
end L2
namespace L2
open PySem PySem.Spec PyProof.Rows
abbrev R2 := V → V → Hp → VK → Prop
def OpR (X : Cx) (f : Value → Value → Sem Value) (r : R2) : Prop :=
  ∀ (pins : List (Addr × Obj)) (s : Shared) (σ : St) (H : Hp) (x y : V) (v u : Value) (Q : VK), Inv X pins σ H s → RelV x v → RelV y u → r x y H Q →
    wpAny (model X.prog X.w) X.A (f v u) (EP X pins σ Q) X.xe s
def UnR (X : Cx) (f : Value → Sem Value) (r : V → Hp → VK → Prop) : Prop :=
  ∀ (pins : List (Addr × Obj)) (s : Shared) (σ : St) (H : Hp) (x : V) (v : Value) (Q : VK), Inv X pins σ H s → RelV x v → r x H Q →
    wpAny (model X.prog X.w) X.A (f v) (EP X pins σ Q) X.xe s
def CallR (X : Cx) (f : Value) (r : List V → Hp → VK → Prop) : Prop :=
  ∀ (pins : List (Addr × Obj)) (s : Shared) (σ : St) (H : Hp) (xs : List V) (us : List Value) (Q : VK), Inv X pins σ H s → Vals xs us → r xs H Q →
    wpAny (model X.prog X.w) X.A (call f us) (EP X pins σ Q) X.xe s
def tOp (r : R2) (ta tb : TE) : TE := fun σ H Q => ta σ H fun x H1 => tb σ H1 fun y H2 => r x y H2 Q
def tUn (r : V → Hp → VK → Prop) (ta : TE) : TE := fun σ H Q => ta σ H fun x H1 => r x H1 Q
def rI (C : Int → Int → Prop) (g : Int → Int → V) : R2 := fun x y H Q => ∃ i j, x = .int i ∧ y = .int j ∧ C i j ∧ Q (g i j) H
def rI0 (g : Int → Int → V) : R2 := fun x y H Q => ∃ i j, x = .int i ∧ y = .int j ∧ Q (g i j) H
def rU (g : Int → V) : V → Hp → VK → Prop := fun x H Q => ∃ i, x = .int i ∧ Q (g i) H
section
variable {X : Cx} {a b c : Expr} {ta tb tc : TE} {pos : Pos}
theorem binT (ha : PE X a ta) (hb : PE X b tb) {pins : List (Addr × Obj)} {s : Shared} {σ : St} {H : Hp} {R : V → V → Hp → Prop} (I : Inv X pins σ H s)
    (h : ta σ H fun x H1 => tb σ H1 fun y H2 => R x y H2) {Q : Value → Shared → Prop} {f : Value → Value → Sem Value}
    (hf : ∀ v u s2 x y H2, Inv X pins σ H2 s2 → RelV x v → RelV y u → R x y H2 → wpAny (model X.prog X.w) X.A (f v u) Q X.xe s2) :
    wpAny (model X.prog X.w) X.A (eval a X.env) (fun v s₁ => wpAny (model X.prog X.w) X.A (eval b X.env) (fun u s₂ => wpAny (model X.prog X.w) X.A (f v u) Q X.xe s₂) X.xe s₁) X.xe s := by
  refine thn (ha pins s σ H _ I h) fun v s1 ⟨x, H1, I1, r1, q1⟩ => ?_
  refine thn (hb pins s1 σ H1 _ I1 q1) fun u s2 ⟨y, H2, I2, r2, q2⟩ => ?_
  exact hf v u s2 x y H2 I2 r1 r2 q2
theorem pe_op {op : Operator} {r : R2} (ho : OpR X (binaryOp op) r) (ha : PE X a ta) (hb : PE X b tb) : PE X (.BinOp a op b pos) (tOp r ta tb) := by
  intro pins s σ H Q I h
  exact wpAny_BinOp (binT ha hb I h fun v u s2 x y H2 I2 rx ry q => ho pins s2 σ H2 x y v u Q I2 rx ry q)
theorem pe_un {op : UnaryOp} {r : V → Hp → VK → Prop} (ho : UnR X (unaryOp op) r) (ha : PE X a ta) : PE X (.UnaryOp op a pos) (tUn r ta) := by
  intro pins s σ H Q I h
  exact UnaryOp_ (thn (ha pins s σ H _ I h) fun v s1 ⟨x, H1, I1, r1, q1⟩ => ho pins s1 σ H1 x v Q I1 r1 q1)
theorem opI {f : Value → Value → Sem Value} {C : Int → Int → Prop} {g : Int → Int → Int}
    (rule : ∀ (i j : Int) (t u : Tok) (s : Shared) (Q : Value → Shared → Prop) (E : Value → Shared → Prop), C i j → Q (.int (g i j) s.toks) { s with toks := s.toks + 1 } → wpAny (model X.prog X.w) X.A (f (.int i t) (.int j u)) Q E s) :
    OpR X f (rI C fun i j => .int (g i j)) := by
  intro pins s σ H x y v u Q I rx ry h
  obtain ⟨i, j, rfl, rfl, hc, q⟩ := h
  obtain ⟨t, rfl⟩ := rx
  obtain ⟨t', rfl⟩ := ry
  exact rule i j t t' s _ _ hc ⟨.int (g i j), H, I.tok _, ⟨_, rfl⟩, q⟩
theorem opI0 {f : Value → Value → Sem Value} {g : Int → Int → Int}
    (rule : ∀ (i j : Int) (t u : Tok) (s : Shared) (Q : Value → Shared → Prop) (E : Value → Shared → Prop), Q (.int (g i j) s.toks) { s with toks := s.toks + 1 } → wpAny (model X.prog X.w) X.A (f (.int i t) (.int j u)) Q E s) :
    OpR X f (rI0 fun i j => .int (g i j)) := by
  intro pins s σ H x y v u Q I rx ry h
  obtain ⟨i, j, rfl, rfl, q⟩ := h
  obtain ⟨t, rfl⟩ := rx
  obtain ⟨t', rfl⟩ := ry
  exact rule i j t t' s _ _ ⟨.int (g i j), H, I.tok _, ⟨_, rfl⟩, q⟩
theorem opB0 {f : Value → Value → Sem Value} {g : Int → Int → Bool}
    (rule : ∀ (i j : Int) (t u : Tok) (s : Shared) (Q : Value → Shared → Prop) (E : Value → Shared → Prop), Q (.bool (g i j)) s → wpAny (model X.prog X.w) X.A (f (.int i t) (.int j u)) Q E s) :
    OpR X f (rI0 fun i j => .bl (g i j)) := by
  intro pins s σ H x y v u Q I rx ry h
  obtain ⟨i, j, rfl, rfl, q⟩ := h
  obtain ⟨t, rfl⟩ := rx
  obtain ⟨t', rfl⟩ := ry
  exact rule i j t t' s _ _ ⟨.bl (g i j), H, I, rfl, q⟩
def CDiv (i j : Int) : Prop := 0 < j ∧ j < 1073741824
def CPow (i j : Int) : Prop := 0 ≤ j ∧ j ≤ 1000000 ∧ i.natAbs < 2 ^ 64
theorem op_add : OpR X (binaryOp .Add) (rI0 fun i j => .int (i + j)) := opI0 fun _ _ _ _ _ _ _ q => add_int q
theorem op_sub : OpR X (binaryOp .Sub) (rI0 fun i j => .int (i - j)) := opI0 fun _ _ _ _ _ _ _ q => sub_int q
theorem op_fdiv : OpR X (binaryOp .FloorDiv) (rI CDiv fun i j => .int (i / j)) := opI fun i j _ _ _ _ _ hc q => by
  have h1 : (0 : Int) < j := hc.1
  have h2 : j < 1073741824 := hc.2
  exact floordiv_int (by omega) (by rw [Int.fdiv_eq_ediv_of_nonneg i (by omega)]; exact q) (.inl (PyProof.noPylong_small (by omega)))
theorem op_mod : OpR X (binaryOp .Mod) (rI (fun _ j => 0 < j) fun i j => .int (i % j)) := opI fun i j _ _ _ _ _ hc q => by
  have h1 : (0 : Int) < j := hc
  exact mod_int' (by omega) (by rw [Int.fmod_eq_emod_of_nonneg i (by omega)]; exact q)
theorem op_modN : OpR X (binaryOp .Mod) (rI (fun _ j => j ≠ 0) fun i j => .int (i.fmod j)) := opI fun _ _ _ _ _ _ _ hc q => mod_int' hc q
theorem op_pow : OpR X (binaryOp .Pow) (rI CPow fun i j => .int (i ^ j.toNat)) := opI fun _ _ _ _ _ _ _ hc q => pow_int_small hc.1 hc.2.1 hc.2.2 q
theorem unI {f : Value → Sem Value} {g : Int → Int}
    (rule : ∀ (i : Int) (t : Tok) (s : Shared) (Q : Value → Shared → Prop) (E : Value → Shared → Prop), Q (.int (g i) s.toks) { s with toks := s.toks + 1 } → wpAny (model X.prog X.w) X.A (f (.int i t)) Q E s) :
    UnR X f (rU fun i => .int (g i)) := by
  intro pins s σ H x v Q I rx h
  obtain ⟨i, rfl, q⟩ := h
  obtain ⟨t, rfl⟩ := rx
  exact rule i t s _ _ ⟨.int (g i), H, I.tok _, ⟨_, rfl⟩, q⟩
theorem un_neg : UnR X (unaryOp .USub) (rU fun i => .int (-i)) := unI fun _ _ _ _ _ q => neg_int q
end
def scal : V → V → Bool
  | .non, .non => true | .non, .int _ => true | .int _, .non => true | .non, .bl _ => true | .bl _, .non => true | .non, .str _ => true | .str _, .non => true
  | .int _, .int _ => true | .bl _, .bl _ => true | .str _, .str _ => true | .byt _, .byt _ => true
  | .int _, .str _ => true | .str _, .int _ => true | .bl _, .str _ => true | .str _, .bl _ => true
  | _, _ => false
def rEq : R2 := fun x y H Q => scal x y = true ∧ Q (.bl (decide (x = y))) H
def rNe : R2 := fun x y H Q => scal x y = true ∧ Q (.bl (!decide (x = y))) H
theorem dec_int {i j : Int} : decide (V.int i = V.int j) = (i == j) := by
  rw [Bool.eq_iff_iff]
  simp
theorem dec_bl {i j : Bool} : decide (V.bl i = V.bl j) = (i == j) := by
  rw [Bool.eq_iff_iff]
  simp
theorem dec_str {i j : Str} : decide (V.str i = V.str j) = (i == j) := by
  rw [Bool.eq_iff_iff]
  simp
theorem dec_byt {i j : Array UInt8} : decide (V.byt i = V.byt j) = (i.toList == j.toList) := by
  rw [Bool.eq_iff_iff]
  cases i
  cases j
  simp
section
variable {X : Cx} {a b c : Expr} {ta tb tc : TE} {pos : Pos}
theorem fin_bl {pins : List (Addr × Obj)} {σ : St} {H : Hp} {s : Shared} {Q : VK} {k k' : Bool} (I : Inv X pins σ H s) (q : Q (.bl k) H) (e : k = k') : EP X pins σ Q (.bool k') s := by
  subst e
  exact ⟨.bl k, H, I, rfl, q⟩
theorem op_eq : OpR X (compareOp .Eq) rEq := by
  intro pins s σ H x y v u Q I rx ry h
  obtain ⟨hs, q⟩ := h
  cases x with
  | non =>
    cases rx
    cases y with
    | non => cases ry; exact PySem.EqNone.eq_none_none (fin_bl I q (by simp))
    | bl j => cases ry; exact PySem.EqNone.eq_none_bool (fin_bl I q (by simp))
    | int j => obtain ⟨t', rfl⟩ := ry; exact PySem.EqNone.eq_none_int (fin_bl I q (by simp))
    | str j => obtain ⟨t', rfl⟩ := ry; exact PySem.EqNone.eq_none_str (fin_bl I q (by simp))
    | _ => exact absurd (show false = true from hs) Bool.false_ne_true
  | bl i =>
    cases rx
    cases y with
    | non => cases ry; exact PySem.EqNone.eq_bool_none (fin_bl I q (by simp))
    | bl j => cases ry; exact eq_bool (fin_bl I q dec_bl)
    | str j => obtain ⟨t', rfl⟩ := ry; exact PySem.EqMixed.eq_bool_str (fin_bl I q (by simp))
    | _ => exact absurd (show false = true from hs) Bool.false_ne_true
  | int i =>
    obtain ⟨t, rfl⟩ := rx
    cases y with
    | non => cases ry; exact PySem.EqNone.eq_int_none (fin_bl I q (by simp))
    | int j => obtain ⟨t', rfl⟩ := ry; exact eq_int (fin_bl I q dec_int)
    | str j => obtain ⟨t', rfl⟩ := ry; exact PySem.EqMixed.eq_int_str (fin_bl I q (by simp))
    | _ => exact absurd (show false = true from hs) Bool.false_ne_true
  | str i =>
    obtain ⟨t, rfl⟩ := rx
    cases y with
    | non => cases ry; exact PySem.EqNone.eq_str_none (fin_bl I q (by simp))
    | bl j => cases ry; exact PySem.EqMixed.eq_str_bool (fin_bl I q (by simp))
    | int j => obtain ⟨t', rfl⟩ := ry; exact PySem.EqMixed.eq_str_int (fin_bl I q (by simp))
    | str j => obtain ⟨t', rfl⟩ := ry; exact eq_str (fin_bl I q dec_str)
    | _ => exact absurd (show false = true from hs) Bool.false_ne_true
  | byt i =>
    obtain ⟨t, rfl⟩ := rx
    cases y with
    | byt j => obtain ⟨t', rfl⟩ := ry; exact PySem.W.eq_bytes (fin_bl I q dec_byt)
    | _ => exact absurd (show false = true from hs) Bool.false_ne_true
  | _ => cases y <;> exact absurd (show false = true from hs) Bool.false_ne_true
theorem op_ne : OpR X (compareOp .NotEq) rNe := by
  intro pins s σ H x y v u Q I rx ry h
  obtain ⟨hs, q⟩ := h
  cases x with
  | non =>
    cases rx
    cases y with
    | non => cases ry; exact PySem.EqNone.ne_none_none (fin_bl I q (by simp))
    | bl j => cases ry; exact PySem.EqNone.ne_none_bool (fin_bl I q (by simp))
    | int j => obtain ⟨t', rfl⟩ := ry; exact PySem.EqNone.ne_none_int (fin_bl I q (by simp))
    | str j => obtain ⟨t', rfl⟩ := ry; exact PySem.EqNone.ne_none_str (fin_bl I q (by simp))
    | _ => exact absurd (show false = true from hs) Bool.false_ne_true
  | bl i =>
    cases rx
    cases y with
    | non => cases ry; exact PySem.EqNone.ne_bool_none (fin_bl I q (by simp))
    | bl j => cases ry; exact ne_bool (fin_bl I q (congrArg not dec_bl))
    | str j => obtain ⟨t', rfl⟩ := ry; exact PySem.EqMixed.ne_bool_str (fin_bl I q (by simp))
    | _ => exact absurd (show false = true from hs) Bool.false_ne_true
  | int i =>
    obtain ⟨t, rfl⟩ := rx
    cases y with
    | non => cases ry; exact PySem.EqNone.ne_int_none (fin_bl I q (by simp))
    | int j => obtain ⟨t', rfl⟩ := ry; exact ne_int (fin_bl I q (congrArg not dec_int))
    | str j => obtain ⟨t', rfl⟩ := ry; exact PySem.EqMixed.ne_int_str (fin_bl I q (by simp))
    | _ => exact absurd (show false = true from hs) Bool.false_ne_true
  | str i =>
    obtain ⟨t, rfl⟩ := rx
    cases y with
    | non => cases ry; exact PySem.EqNone.ne_str_none (fin_bl I q (by simp))
    | bl j => cases ry; exact PySem.EqMixed.ne_str_bool (fin_bl I q (by simp))
    | int j => obtain ⟨t', rfl⟩ := ry; exact PySem.EqMixed.ne_str_int (fin_bl I q (by simp))
    | str j => obtain ⟨t', rfl⟩ := ry; exact ne_str (fin_bl I q (congrArg not dec_str))
    | _ => exact absurd (show false = true from hs) Bool.false_ne_true
  | byt i =>
    obtain ⟨t, rfl⟩ := rx
    cases y with
    | byt j => obtain ⟨t', rfl⟩ := ry; exact PySem.W.ne_bytes (fin_bl I q (congrArg not dec_byt))
    | _ => exact absurd (show false = true from hs) Bool.false_ne_true
  | _ => cases y <;> exact absurd (show false = true from hs) Bool.false_ne_true
theorem op_lt : OpR X (compareOp .Lt) (rI0 fun i j => .bl (decide (i < j))) := opB0 fun _ _ _ _ _ _ _ q => lt_int q
theorem op_gt : OpR X (compareOp .Gt) (rI0 fun i j => .bl (decide (j < i))) := opB0 fun _ _ _ _ _ _ _ q => gt_int q
theorem nomark (b : Expr) {op : CmpOp} (h : op ≠ .In := by decide) (h2 : op ≠ .NotIn := by decide) : behindInMarks op b = false := by
  have e1 : (op == CmpOp.In) = false := by cases op <;> first | rfl | exact absurd rfl h
  have e2 : (op == CmpOp.NotIn) = false := by cases op <;> first | rfl | exact absurd rfl h2
  cases b <;> simp [behindInMarks, e1, e2]
theorem pe_cmpR {op : CmpOp} {r : R2} (ho : OpR X (compareOp op) r) (ha : PE X a ta) (hb : PE X b tb) (hm : behindInMarks op b = false) : PE X (.Compare a [op] [b] pos) (tOp r ta tb) := by
  intro pins s σ H Q I h
  exact wpAny_Compare1 (binT ha hb I h fun v u s2 x y H2 I2 rx ry q => ho pins s2 σ H2 x y v u Q I2 rx ry q) hm
def tTest (t : TE) : TT := fun σ H Q => t σ H fun x H' => ∃ k, x = .bl k ∧ Q k H'
theorem pt_cmpR {op : CmpOp} {r : R2} (ho : OpR X (compareOp op) r) (ha : PE X a ta) (hb : PE X b tb) (hm : behindInMarks op b = false) : PT X (.Compare a [op] [b] pos) (tTest (tOp r ta tb)) := by
  intro pins s σ H Q I h
  refine wpAny_isTrue_Compare1 (thn (ha pins s σ H _ I h) fun v s1 ⟨x, H1, I1, r1, q1⟩ => thn (hb pins s1 σ H1 _ I1 q1) fun u s2 ⟨y, H2, I2, r2, q2⟩ =>
    thn (ho pins s2 σ H2 x y v u _ I2 r1 r2 q2) fun c s3 ⟨z, H3, I3, r3, k, e, q3⟩ => ?_) hm
  subst e
  cases r3
  exact wpAny_truthy_bool ⟨H3, I3, q3⟩
def tChain (r r' : R2) (ta tb tc : TE) : TE := fun σ H Q => ta σ H fun x H1 => tb σ H1 fun y H2 => r x y H2 fun z H3 => ∃ k, z = .bl k ∧
  (if k = true then tc σ H3 fun w' H4 => r' y w' H4 Q else Q (.bl false) H3)
theorem line63 : (sizeLine : Nat) < 2 ^ 63 := by rw [sizeLine_eq]; decide
theorem op_add_str : OpR X (binaryOp .Add) (fun x y H Q => ∃ i j, x = .str i ∧ y = .str j ∧ i.length + j.length ≤ sizeLine ∧ Q (.str (i ++ j)) H) := by
  intro pins s σ H x y v u Q I rx ry h
  obtain ⟨i, j, rfl, rfl, hz, q⟩ := h
  obtain ⟨t, rfl⟩ := rx
  obtain ⟨t', rfl⟩ := ry
  exact add_str (fun t' tk => ⟨.str (i ++ j), H, I.tok _, ⟨_, rfl⟩, q⟩) hz
theorem vals1 {x : V} {us : List Value} (r : Vals [x] us) : ∃ u, us = [u] ∧ RelV x u := by
  cases r with
  | cons r1 r2 => cases r2; exact ⟨_, rfl, r1⟩
theorem vals2 {x y : V} {us : List Value} (r : Vals [x, y] us) : ∃ u w', us = [u, w'] ∧ RelV x u ∧ RelV y w' := by
  cases r with
  | cons r1 r2 =>
    cases r2 with
    | cons r3 r4 => cases r4; exact ⟨_, _, rfl, r1, r3⟩
theorem call_abs : CallR X (.builtin "abs") (fun xs H Q => ∃ i, xs = [.int i] ∧ Q (.int (if i < 0 then -i else i)) H) := by
  intro pins s σ H xs us Q I r h
  obtain ⟨i, rfl, q⟩ := h
  obtain ⟨u, rfl, t, rfl⟩ := vals1 r
  exact call_abs_int fun u tk => ⟨.int (if i < 0 then -i else i), H, I.tok _, ⟨_, rfl⟩, q⟩
theorem call_str_int : CallR X (.type "str") (fun xs H Q => ∃ i, xs = [.int i] ∧ i.natAbs.log2 < 1920 ∧ Q (.str (toString i)) H) := by
  intro pins s σ H xs us Q I r h
  obtain ⟨i, rfl, hz, q⟩ := h
  obtain ⟨u, rfl, t, rfl⟩ := vals1 r
  exact PySem.P.str_of_int hz ⟨.str _, H, I.tok _, ⟨_, rfl⟩, q⟩
end
end L2
namespace L2
open PySem PySem.Spec PyProof.Rows
section
variable {prog : Program} {w : World} {A : Around} {E : Value → Shared → Prop} {s : Shared} {K : PySem.W.Frag} {x dx C f : Addr} {mA : Str → Option Value} {name : Str} {v : Value}
end
section
variable {P : Program} {w : World} {H H' : Hp} {h h' : Heap} {a C dx : Addr} {fs fs' : List (Str × V)}
end
section
variable {X : Cx} {pins : List (Addr × Obj)} {σ : St} {H : Hp} {s : Shared} {a C dx : Addr} {fs : List (Str × V)} {f : Str} {v : V} {A : Around} {E : Value → Shared → Prop}
end
section
variable {X : Cx} {o e value : Expr} {f : Str} {pos pos' tpos : Pos} {ta tv : TE}
end
section
variable {X : Cx} {pins : List (Addr × Obj)} {σ : St} {H : Hp} {s : Shared} {A : Around} {E : Value → Shared → Prop} {Q : Value → Shared → Prop} {c : Value} {b : Bool}
end
end L2
namespace L2
open PySem PySem.Spec PyProof.Rows
structure Room (k : Nat) (A : Around) : Prop where
  hd : A.handled = none
  dp : A.depth + 3 * k + 5 < recursionLimit
  un : A.units + 16 * k + 200 < cLine
theorem Room.mono {j k : Nat} {A : Around} (r : Room k A) (h : j ≤ k) : Room j A := ⟨r.hd, by have := r.dp; omega, by have := r.un; omega⟩
theorem Room.deeper {k : Nat} {A : Around} (r : Room (k + 1) A) (env : Env) : Room k (A.deeper env) :=
  ⟨r.hd, by have := r.dp; show A.depth + 1 + 3 * k + 5 < _; omega, by have := r.un; show A.units + 3 + 16 * k + 200 < _; omega⟩
theorem Room.depth {k : Nat} {A : Around} (r : Room k A) : A.depth < recursionLimit := by have := r.dp; omega
theorem Room.units {k : Nat} {A : Around} (r : Room k A) : A.units + 64 < cLine := by have := r.un; omega
def tNil : TA := fun _ H Q => Q [] H
def tCons (ta : TE) (tr : TA) : TA := fun σ H Q => ta σ H fun x H1 => tr σ H1 fun xs H2 => Q (x :: xs) H2
section
variable {X : Cx} {e : Expr} {es : List Expr} {te : TE} {t : TA} {pos : Pos}
theorem pa_nil : PA X [] tNil := fun _ _ _ _ H Q I h => Calls.spliced_nil ⟨[], H, I, .nil, h⟩
theorem pa_cons (ha : PE X e te) (hr : PA X es t) (hs : starEach (e :: es) X.env = (false, eval e X.env) :: starEach es X.env := by rfl) : PA X (e :: es) (tCons te t) := by
  intro pos pins s σ H Q I h
  rw [hs]
  show wpAny _ _ (spliced ((false, eval e X.env) :: backTo pos (starEach es X.env))) _ _ s
  refine Calls.spliced_cons (thn (ha pins s σ H _ I h) fun u s1 ⟨x, H1, I1, r1, q1⟩ => ?_)
  exact thn (hr pos pins s1 σ H1 _ I1 q1) fun us s2 ⟨xs, H2, I2, r2, q2⟩ => ⟨x :: xs, H2, I2, .cons r1 r2, q2⟩
def tTup (t : TA) : TE := fun σ H Q => t σ H fun xs H1 => xs.length ≤ sizeLine ∧ ∀ p, H1 p = none → Q (.ref p) (upd H1 p (.tup xs))
def tLst (t : TA) : TE := fun σ H Q => t σ H fun xs H1 => xs.length ≤ sizeLine ∧ ∀ p, H1 p = none → Q (.ref p) (upd H1 p (.lst xs))
theorem pe_tup {x1} (h : PA X es t) : PE X (.Tuple es x1 pos) (tTup t) := by
  intro pins s σ H Q I hq
  refine wpAny_Tuple_spliced (thn (h pos pins s σ H _ I hq) fun us s1 ⟨xs, H1, I1, r, z, q⟩ => ⟨by rw [← r.length]; exact z, ?_⟩)
  have hf : H1 s1.heap.objs.size = none := I1.hok.fresh (Nat.le_refl _)
  refine ⟨.ref s1.heap.objs.size, upd H1 s1.heap.objs.size (.tup xs), I1.laid (t' := s1.toks) (fun b u e => Heap.get?_push_of_some _ e) (Nat.le_refl _) ?_, rfl, q _ hf⟩
  exact ⟨z, us, r, ⟨_, Heap.get?_push_size _ rfl, rfl, _, rfl⟩⟩
theorem pe_lst (h : PA X es t) : PE X (.List es pos) (tLst t) := by
  intro pins s σ H Q I hq
  refine wpAny_List_spliced (thn (h pos pins s σ H _ I hq) fun us s1 ⟨xs, H1, I1, r, z, q⟩ => ⟨by rw [← r.length]; exact z, ?_⟩)
  have hf : H1 s1.heap.objs.size = none := I1.hok.fresh (Nat.le_refl _)
  refine ⟨.ref s1.heap.objs.size, upd H1 s1.heap.objs.size (.lst xs), I1.laid (t' := s1.toks) (fun b u e => Heap.get?_push_of_some _ e) (Nat.le_refl _) ?_, rfl, q _ hf⟩
  exact ⟨z, us, 0, r, Heap.get?_push_size _ rfl⟩
end
abbrev Sp := List V → Hp → VK → XK → Prop
abbrev CXT := List Env → Hp → Shared → XK → Value → Shared → Prop
structure Env0 (P : Program) (w : World) (K : PySem.W.Frag) (mg : Str → Option Value) (base : Heap) (A : Around) (outer : List Env) (s : Shared) (H : Hp) : Prop where
  frames : A.frames = some outer
  mod : Mod K mg base
  bs : ∀ b o, base.get? b = some o → s.heap.get? b = some o ∧ H b = none
  bsz : base.objs.size ≤ s.heap.objs.size
  funs : s.heap.FunFrames base outer
  frf : ∀ b ∈ frs outer, H b = none
  hok : HOk P w H s.heap
  bare : AllBare s.gens
def CE (outer : List Env) (P : Program) (w : World) (H : Hp) (s : Shared) (Q : VK) (u : Value) (s' : Shared) : Prop :=
  ∃ v H', s'.os = s.os ∧ AllBare s'.gens ∧ Un (frs outer) [] H H' s.heap s'.heap ∧ HOk P w H' s'.heap ∧ RelV v u ∧ Q v H'
def CR (CX : CXT) (outer : List Env) (P : Program) (w : World) (H : Hp) (s : Shared) (Q : VK) (E : XK) (r : Result) (s' : Shared) : Prop :=
  match r with
  | .ok (.ret u) => CE outer P w H s Q u s'
  | .ok _ => False
  | .error e => CX outer H s E e s'
structure FnOk (P : Program) (w : World) (K : PySem.W.Frag) (mg : Str → Option Value) (base : Heap) (CX : CXT) (k : Nat) (f : Addr) (fd : FuncData) (ps : List Str) (sp : Sp) : Prop where
  len : ∀ vs H Q E, sp vs H Q E → vs.length = ps.length
  run : ∀ (A : Around) (outer : List Env) (s : Shared) (H : Hp) (args : Args) (us : List Value) (vs : List V) (Q : VK) (E : XK), Room k A → Env0 P w K mg base A outer s H → BindsTo s fd args (ps.zip us) → Vals vs us → sp vs H Q E →
    codeAny (model P w) A (.call (.ref f) args) (CR CX outer P w H s Q E) s
theorem FnOk.mono {P : Program} {w : World} {K : PySem.W.Frag} {mg : Str → Option Value} {base : Heap} {CX : CXT} {j k : Nat} {f : Addr} {fd : FuncData} {ps : List Str} {sp : Sp} (F : FnOk P w K mg base CX j f fd ps sp) (h : j ≤ k) :
    FnOk P w K mg base CX k f fd ps sp := ⟨F.len, fun A outer s H args us vs Q E hr => F.run A outer s H args us vs Q E (hr.mono h)⟩
section
variable {X : Cx} {pins : List (Addr × Obj)} {σ : St} {H : Hp} {s s' : Shared}
theorem Inv.env0 (I : Inv X pins σ H s) : Env0 X.prog X.w X.K X.mg X.base X.A X.stack s H :=
  ⟨I.ok.frames, I.ok.mod, I.bs, Nat.le_trans I.ok.bsz I.sz, I.stack, I.stkFree, I.hok, I.bare⟩
theorem Inv.after {Q : VK} {u : Value} (I : Inv X pins σ H s) (h : CE X.stack X.prog X.w H s Q u s') : EP X pins σ Q u s' := by
  obtain ⟨v, H', os, bare, un, hok, r, q⟩ := h
  obtain ⟨hh, g, d, t, os'⟩ := s'
  obtain rfl : os' = s.os := os
  exact ⟨v, H', I.call (h' := hh) (g' := g) (d' := d) (t' := t) (ch := []) un hok bare (fun b z => absurd z (by simp)), r, q⟩
end
def tCall (sp : Sp) (dvs : List V) (E : XK) (t : TA) : TE := fun σ H Q => t σ H fun vs H1 => sp (vs ++ dvs) H1 Q E
def Binds (K : PySem.W.Frag) (fd : FuncData) (ps : List Str) (ds : List Value) : Prop :=
  ∀ (s : Shared) (us : List Value), K.In s.heap → (us ++ ds).length = ps.length → BindsTo s fd ⟨us, []⟩ (ps.zip (us ++ ds))
theorem Binds.all {K : PySem.W.Frag} {fd : FuncData} {ps : List Str} (h : ∀ us : List Value, us.length = ps.length → bindArgs fd ⟨us, []⟩ = pure (ps.zip us)) : Binds K fd ps [] := fun s us _ hl => by
  rw [List.append_nil] at hl ⊢
  exact .of_eq (h us hl)
def Passes (CX : CXT) (X : Cx) (E : XK) : Prop := ∀ (pins : List (Addr × Obj)) (σ : St) (H : Hp) (s : Shared) (e : Value) (s' : Shared), Inv X pins σ H s → CX X.stack H s E e s' → X.xe e s'
section
variable {X : Cx} {CX : CXT} {k : Nat} {f C : Addr} {fd : FuncData} {ps : List Str} {sp : Sp} {dvs : List V} {ds : List Value} {E : XK} {x m : Str} {p pos apos : Pos} {e o : Expr} {es : List Expr} {ta : TE} {t : TA}
theorem run_fn {pins : List (Addr × Obj)} {σ : St} {H : Hp} {s : Shared} {Q : VK} {us : List Value} {vs : List V} (F : FnOk X.prog X.w X.K X.mg X.base CX k f fd ps sp) (hr : Room k X.A) (hb : Binds X.K fd ps ds) (hd : Vals dvs ds) (hx : Passes CX X E)
    (I : Inv X pins σ H s) (r : Vals vs us) (h : sp (vs ++ dvs) H Q E) : wpAny (model X.prog X.w) X.A (call (.ref f) us) (EP X pins σ Q) X.xe s := by
  have r2 : Vals (vs ++ dvs) (us ++ ds) := r.append hd
  have hl : (us ++ ds).length = ps.length := by rw [← r2.length]; exact F.len _ _ _ _ h
  refine wpAny_call (codeAny_mono (F.run X.A X.stack s H ⟨us, []⟩ (us ++ ds) (vs ++ dvs) Q E hr I.env0 (hb s us I.kIn hl) r2 h) fun r s' hq => ?_)
  cases r with
  | error e => exact hx pins σ H s e s' I hq
  | ok fl =>
    cases fl with
    | ret u => exact I.after hq
    | next => exact False.elim hq
    | brk => exact False.elim hq
    | cont => exact False.elim hq
theorem pe_call (F : FnOk X.prog X.w X.K X.mg X.base CX k f fd ps sp) (hr : Room k X.A) (hg : Gl X x) (hm : X.mg x = some (.ref f)) (hk : PySem.W.keepIn X.K (.ref f) = true) (hb : Binds X.K fd ps ds) (hd : Vals dvs ds) (hx : Passes CX X E)
    (ha : PA X (e :: es) t) (hdb : (x == ("__debug__" : Str)) = false := by decide) (he : starEach (e :: es) X.env = (false, eval e X.env) :: starEach es X.env := by rfl) (hpl : (backTo pos (starEach es X.env)).any (·.1) = false := by rfl) :
    PE X (.Call (.Name x p) (e :: es) [] pos) (tCall sp dvs E t) := by
  intro pins s σ H Q I h
  refine wpAny_Call_Name_kw (ld_glob I hg hm ?_ hdb)
  refine PySem.W.callWith_K (h₀ := X.base) I.ok.mod.kin hk (thn (ha pos pins s σ H _ I h) fun us s1 ⟨vs, H1, I1, r, q⟩ => ⟨I1.kIn, ?_⟩) he hpl
  exact run_fn F hr hb hd hx I1 r q
end
section
variable {X : Cx} {CX : CXT} {k : Nat} {f C : Addr} {fd : FuncData} {ps ks : List Str} {sp : Sp} {E : XK} {x m : Str} {p pos apos kpos : Pos} {e o : Expr} {es : List Expr} {kws : List Keyword} {te ta : TE} {t tk : TA} {nm : Option Str}
variable {g : List Value → List Value → List Value} {gV : List V → List V → List V}
end
structure FnScope (N P : List Str) (sc : Scope) : Prop where
  kind : sc.kind = .function
  co : sc.isCoroutine = false
  gen : sc.isGenerator = false
  nd : N.Nodup
  pre : N.take P.length = P
  par : ∀ x ∈ P, sc.names.lookup x = some .local ∨ sc.names.lookup x = some .cell
  nofree : ∀ y ∈ sc.names, y.2 ≠ .free
theorem bindL_out {kindOf : Str → Option NameKind} {x : Str} : ∀ {binds : List (Str × Value)} {m : Str → Option Value}, (∀ v, (x, v) ∉ binds) → bindL kindOf binds m x = m x
  | [], _, _ => rfl
  | (n, v) :: r, m, h => by
    unfold bindL
    rw [bindL_out fun w hw => h w (List.mem_cons_of_mem _ hw)]
    split
    · have : x ≠ n := by rintro rfl; exact h v List.mem_cons_self
      simp [this]
    · rfl
theorem bindC_out {kindOf : Str → Option NameKind} {x : Str} : ∀ {binds : List (Str × Value)} {m : Str → Option Value}, (∀ v, (x, v) ∉ binds) → bindC kindOf binds m x = m x
  | [], _, _ => rfl
  | (n, v) :: r, m, h => by
    unfold bindC
    rw [bindC_out fun w hw => h w (List.mem_cons_of_mem _ hw)]
    split
    · rfl
    · have : x ≠ n := by rintro rfl; exact h v List.mem_cons_self
      simp [this]
theorem bindL_get {kindOf : Str → Option NameKind} {x : Str} {v : Value} : ∀ {P : List Str} {vs : List Value} {i : Nat} {m : Str → Option Value}, P.Nodup → P[i]? = some x → vs[i]? = some v → kindOf x = some .local →
    bindL kindOf (P.zip vs) m x = some v
  | [], _, _, _, _, h, _, _ => by simp at h
  | _ :: _, [], _, _, _, _, h, _ => by simp at h
  | p :: P, w :: vs, 0, m, nd, h1, h2, hk => by
    simp at h1 h2; subst h1; subst h2
    show bindL kindOf ((p, w) :: P.zip vs) m p = _
    unfold bindL
    rw [bindL_out fun v hv => (List.nodup_cons.mp nd).1 (List.of_mem_zip hv).1, if_pos hk]
    simp
  | p :: P, w :: vs, i + 1, m, nd, h1, h2, hk => by
    show bindL kindOf ((p, w) :: P.zip vs) m x = _
    unfold bindL
    exact bindL_get (i := i) (List.nodup_cons.mp nd).2 (by simpa using h1) (by simpa using h2) hk
theorem bindC_get {kindOf : Str → Option NameKind} {x : Str} {v : Value} : ∀ {P : List Str} {vs : List Value} {i : Nat} {m : Str → Option Value}, P.Nodup → P[i]? = some x → vs[i]? = some v → kindOf x ≠ some .local →
    bindC kindOf (P.zip vs) m x = some v
  | [], _, _, _, _, h, _, _ => by simp at h
  | _ :: _, [], _, _, _, _, h, _ => by simp at h
  | p :: P, w :: vs, 0, m, nd, h1, h2, hk => by
    simp at h1 h2; subst h1; subst h2
    show bindC kindOf ((p, w) :: P.zip vs) m p = _
    unfold bindC
    rw [bindC_out fun v hv => (List.nodup_cons.mp nd).1 (List.of_mem_zip hv).1, if_neg hk]
    simp
  | p :: P, w :: vs, i + 1, m, nd, h1, h2, hk => by
    show bindC kindOf ((p, w) :: P.zip vs) m x = _
    unfold bindC
    exact bindC_get (i := i) (List.nodup_cons.mp nd).2 (by simpa using h1) (by simpa using h2) hk
def start (N : List Str) (vs : List V) : St := vs.map some ++ List.replicate (N.length - vs.length) none
def cxOf (CX : CXT) (P : Program) (w : World) (K : PySem.W.Frag) (mg : Str → Option Value) (base : Heap) (N : List Str) (qual : Str) (scope : Scope) (f : Addr) (cd : Value) (A : Around) (outer : List Env) (s : Shared) (H : Hp) (E : XK) : Cx where
  prog := P
  w := w
  K := K
  mg := mg
  base := base
  A := A.deeper (envOfC qual scope s.heap.objs.size f cd)
  N := N
  s₀ := s
  H₀ := H
  env := envOfC qual scope s.heap.objs.size f cd
  outer := outer
  stack := envOfC qual scope s.heap.objs.size f cd :: outer
  ex := []
  calm := true
  fn := fun _ => true
  pn := []
  xe := fun e s' => wpAny (model P w) (A.deeper (envOfC qual scope s.heap.objs.size f cd)) (leaving (envOfC qual scope s.heap.objs.size f cd) e) (fun _ s'' => CX outer H s E e s'') (fun e' s'' => CX outer H s E e' s'') s'
theorem cell_has {sc : Scope} {n : Nat} {x : Str} (h : sc.names.lookup x = some .cell) : ∃ c, (cellsFrom n sc.names []).lookup x = some c := by
  have q := PySem.W.cellsFrom_some sc.names n [] (.inl h)
  exact Option.isSome_iff_exists.mp q
theorem inv_start {CX : CXT} {P : Program} {w : World} {K : PySem.W.Frag} {mg : Str → Option Value} {base : Heap} {N ps : List Str} {qual : Str} {scope : Scope} {f : Addr} {cd : Value} {A : Around} {outer : List Env} {s s1 : Shared} {H : Hp} {E : XK} {us : List Value} {vs : List V}
    (S : FnScope N ps scope) (hd : A.handled = none) (e0 : Env0 P w K mg base A outer s H) (hl : vs.length = ps.length) (r : Vals vs us)
    (x : InCallC s s.heap.objs.size (bindL (envOfC qual scope s.heap.objs.size f cd).kindOf (ps.zip us) fun _ => none) (cellsFrom (s.heap.objs.size + 1) scope.names []) (bindC (envOfC qual scope s.heap.objs.size f cd).kindOf (ps.zip us) fun _ => none) s1) :
    Inv (cxOf CX P w K mg base N qual scope f cd A outer s H E) [] (start N vs) H s1 := by
  have hpl : ps.length ≤ N.length := by have := congrArg List.length S.pre; rw [List.length_take] at this; omega
  obtain ⟨h1, tk, rfl, hk⟩ := x.done
  have noA : ∀ b : Addr, b ∉ (cxOf CX P w K mg base N qual scope f cd A outer s H E).ex := fun b z => absurd (show b ∈ ([] : List Addr) from z) (by simp)
  refine ⟨⟨e0.mod, S.kind, rfl, rfl, Nat.le_refl _, fun y z c h1 h2 => ?_, fun y hy => ?_, fun y c _ h => ?_, fun _ => hd, Around.frames_deeper e0.frames, .inr ⟨rfl, rfl⟩, fun b z => absurd z (noA b), e0.bs, e0.bsz, fun b _ _ => noA b, fun b z => absurd z (noA b), e0.funs, e0.frf⟩,
    rfl, e0.bare, Un.kept hk, ⟨_, x.toInCall.ns, fun i y v h1 h2 h3 => ?_⟩, fun y c h => ⟨_, x.cell y c h⟩, e0.hok.fresh (Nat.le_refl _), fun y c h => ?_, fun p hp => absurd (show p ∈ ([] : List (Addr × Obj)) from hp) (by simp), e0.hok.kept hk, ?_⟩
  · exact name_of_addr x.apart (PySem.mem_of_lookup h1) (PySem.mem_of_lookup h2)
  · have hy : scope.names.lookup y = some .cell ∨ scope.names.lookup y = some .free := hy
    rcases hy with hy | hy
    · exact cell_has hy
    · exact absurd rfl (S.nofree _ (PySem.mem_of_lookup hy))
  · exact Nat.le_of_lt (x.above y c (PySem.mem_of_lookup h))
  · have hi : i < vs.length := by
      unfold start at h2
      by_cases hi : i < vs.length
      · exact hi
      · rw [List.getElem?_append_right (by simpa using hi)] at h2
        rw [List.getElem?_replicate] at h2
        split at h2 <;> cases h2
    have ha : vs[i]? = some v := by
      unfold start at h2
      rw [List.getElem?_append_left (by simpa using hi), List.getElem?_map] at h2
      cases e : vs[i]? with
      | none => rw [e] at h2; cases h2
      | some a => rw [e] at h2; cases h2; rfl
    obtain ⟨u, hu, rv⟩ := r.get ha
    have hp : ps[i]? = some y := by
      rw [← S.pre, List.getElem?_take_of_lt (by omega)]; exact h1
    have ndP : ps.Nodup := by rw [← S.pre]; exact S.nd.sublist (List.take_sublist _ _)
    refine ⟨u, rv, ?_⟩
    rcases S.par y (List.mem_of_getElem? hp) with k | k
    · exact .inl ⟨k, bindL_get ndP hp hu k⟩
    · obtain ⟨c, e⟩ := cell_has (n := s.heap.objs.size + 1) k
      refine .inr ⟨.inl k, c, e, ?_⟩
      have q := x.cell y c e
      rw [bindC_get ndP hp hu (by show scope.names.lookup y ≠ _; rw [k]; decide)] at q
      exact q
  · exact e0.hok.fresh (Nat.le_of_lt (x.above y c (PySem.mem_of_lookup h)))
  · unfold start
    show _ = N.length
    rw [List.length_append, List.length_map, List.length_replicate]
    omega
theorem fn_of {CX : CXT} {P : Program} {w : World} {K : PySem.W.Frag} {mg : Str → Option Value} {base : Heap} {k : Nat} {f : Addr} {name qual : Str} {params : Arguments} {body : List Stmt} {scope : Scope} {dV kV doc pm cdv ct oc : Value} {an od : Option Addr}
    {osl : Array (Option Value)} {N ps : List Str} {sp : Sp} (lk : K.lookup f = some ⟨oc, od, .func (PySem.W.fnOf name qual params body scope dV kV doc pm an cdv ct), osl⟩) (hcd : PySem.W.codeIn K cdv qual = true) (S : FnScope N ps scope)
    (len : ∀ vs H Q E, sp vs H Q E → vs.length = ps.length)
    (hbody : ∀ (A : Around) (outer : List Env) (s : Shared) (H : Hp) (vs : List V) (Q : VK) (E : XK), Room k (A.deeper (envOfC qual scope s.heap.objs.size f cdv)) → sp vs H Q E →
      ∃ t, PSs (cxOf CX P w K mg base N qual scope f cdv A outer s H E) body t ∧ t { nx := fun _ H' => Q .non H', rt := Q } (start N vs) H) :
    FnOk P w K mg base CX (k + 1) f (PySem.W.fnOf name qual params body scope dV kV doc pm an cdv ct) ps sp := by
  refine ⟨len, fun A outer s H args us vs Q E hr e0 hb r hsp => ?_⟩
  have hl := len _ _ _ _ hsp
  have KX : K.In s.heap := e0.mod.kin.keeps fun b o e => (e0.bs b o e).1
  have lim : s.heap.NoLimit := e0.mod.nolimit.keeps fun b o e => (e0.bs b o e).1
  have hkind : ∀ y ∈ ps.zip us, scope.names.lookup y.1 = some .local ∨ (scope.names.lookup y.1 = some .cell ∧ ((cellsFrom (s.heap.objs.size + 1) scope.names []).lookup y.1).isSome = true) := fun ⟨n, v⟩ hy => by
    rcases S.par n (List.of_mem_zip hy).1 with q | q
    · exact .inl q
    · exact .inr ⟨q, PySem.W.cellsFrom_some _ _ _ (.inl q)⟩
  refine codeAny_call_function hr.depth (KX _ _ lk) rfl S.co S.gen rfl (PySem.W.codeRec_of KX hcd) (hb _ _ _ _ ?_)
  refine wpAny_newFunctionEnv_cells S.kind hkind fun env he s1 x => ?_
  subst he
  refine ⟨lim.keeps x.toInCall.keep, codeAny_func ?_⟩
  obtain ⟨t, ht, hq⟩ := hbody A outer s H vs Q E (hr.deeper _) hsp
  have I : Inv (cxOf CX P w K mg base N qual scope f cdv A outer s H E) [] (start N vs) H s1 := inv_start S hr.hd e0 hl r x
  refine wpAny_mono (ht [] s1 (start N vs) H _ I hq) (fun fl s' hs => ?_) fun e s' hs => hs
  have fin : ∀ {σ' : St} {H' : Hp} {v : V} {u : Value}, Inv (cxOf CX P w K mg base N qual scope f cdv A outer s H E) [] σ' H' s' → RelV v u → Q v H' → CE outer P w H s Q u s' :=
    fun {σ' H' v u} J rv q => ⟨v, H', J.os, J.bare, J.base, J.hok, rv, q⟩
  cases fl with
  | ret u =>
    obtain ⟨v, σ', H', J, rv, q⟩ := hs
    exact fin J rv q
  | next =>
    obtain ⟨σ', H', J, q⟩ := hs
    exact fin (v := V.non) (u := Value.none) J rfl q
  | brk =>
    obtain ⟨_, _, _, q⟩ := hs
    exact False.elim q
  | cont =>
    obtain ⟨_, _, _, q⟩ := hs
    exact False.elim q
end L2
namespace L2
open PySem PySem.Spec PyProof.Rows
section
variable {X : Cx} {x : Str} {p pos : Pos} {e : Expr} {es : List Expr} {t : TA} {id T : String} {r : List V → Hp → VK → Prop}
def tCB (r : List V → Hp → VK → Prop) (t : TA) : TE := fun σ H Q => t σ H fun vs H1 => r vs H1 Q
theorem pe_callB (hc : CallR X (.builtin id) r) (hg : Gl X x) (hm : X.mg x = none) (hv : bootBuiltins x = some (.builtin id)) (ha : PA X (e :: es) t) (hn : x ≠ "__name__" := by decide) (hdb : (x == ("__debug__" : Str)) = false := by decide)
    (he : starEach (e :: es) X.env = (false, eval e X.env) :: starEach es X.env := by rfl) (hpl : (backTo pos (starEach es X.env)).any (·.1) = false := by rfl) : PE X (.Call (.Name x p) (e :: es) [] pos) (tCB r t) := by
  intro pins s σ H Q I h
  refine wpAny_Call_Name_kw (ld_blt I hg hm hv ?_ hn hdb)
  exact PyProof.Rows.callWith_builtin1 (thn (ha pos pins s σ H _ I h) fun us s1 ⟨vs, H1, I1, r1, q1⟩ => hc pins s1 σ H1 vs us Q I1 r1 q1) he hpl
theorem pe_callTy (hc : CallR X (.type T) r) (hg : Gl X x) (hm : X.mg x = none) (hv : bootBuiltins x = some (.type T)) (ha : PA X (e :: es) t) (hn : x ≠ "__name__" := by decide) (hdb : (x == ("__debug__" : Str)) = false := by decide)
    (he : starEach (e :: es) X.env = (false, eval e X.env) :: starEach es X.env := by rfl) (hpl : (backTo pos (starEach es X.env)).any (·.1) = false := by rfl) : PE X (.Call (.Name x p) (e :: es) [] pos) (tCB r t) := by
  intro pins s σ H Q I h
  refine wpAny_Call_Name_kw (ld_blt I hg hm hv ?_ hn hdb)
  exact PyProof.Rows.callWith_type1 (thn (ha pos pins s σ H _ I h) fun us s1 ⟨vs, H1, I1, r1, q1⟩ => hc pins s1 σ H1 vs us Q I1 r1 q1) he hpl
end
end L2
namespace HT
open PySem PyProof.Rows
section
open PySem.SeqAt
open PySem.AutoSeq1 (wpAny_loadPart')
open PySem.MeetsSeq PySem.MeetsSeq2 PySem.MeetsSeq3
end
section
variable {prog : Program} {w : World} {A : Around} {E : Value → Shared → Prop} {s : Shared}
def sIx (n d : Nat) : Option Int → Nat
  | none => d
  | some v => if v < 0 then (v + (n : Int)).toNat else min v.toNat n
end
end HT
namespace L2
open PySem PySem.Spec PyProof.Rows
abbrev TO := St → Hp → (Option Int → Hp → Prop) → Prop
def PO (X : Cx) (e : Option Expr) (t : TO) : Prop :=
  ∀ (pins : List (Addr × Obj)) (s : Shared) (σ : St) (H : Hp) (Q : Option Int → Hp → Prop), Inv X pins σ H s → t σ H Q →
    wpAny (model X.prog X.w) X.A (evalPart e X.env) (fun u s' => ∃ o H', Inv X pins σ H' s' ∧ IsPart u o ∧ Q o H') X.xe s
def tNoPart : TO := fun _ H Q => Q none H
def tPart (t : TE) : TO := fun σ H Q => t σ H fun x H1 => ∃ i, x = .int i ∧ Q (some i) H1
section
variable {X : Cx} {e : Expr} {te : TE} {lo hi : Option Expr} {tl th : TO} {pos p2 : Pos}
theorem po_none : PO X none tNoPart := by
  intro pins s σ H Q I h
  rw [evalPart_none]
  exact wpAny_pure ⟨none, H, I, .none, h⟩
theorem po_some (h : PE X e te) : PO X (some e) (tPart te) := by
  intro pins s σ H Q I hw
  rw [evalPart_some]
  refine thn (h pins s σ H _ I hw) fun u s1 ⟨x, H1, I1, r1, q1⟩ => ?_
  obtain ⟨i, rfl, q⟩ := q1
  obtain ⟨t, rfl⟩ := r1
  exact ⟨some i, H1, I1, .int i t, q⟩
def SlR (X : Cx) (r : V → Option Int → Option Int → Hp → VK → Prop) : Prop :=
  ∀ (pins : List (Addr × Obj)) (s : Shared) (σ : St) (H : Hp) (x : V) (v vl vu : Value) (lo hi : Option Int) (sl : Addr) (Q : VK), Inv X pins σ H s → RelV x v → s.heap.IsSliceOf sl vl vu .none → IsPart vl lo → IsPart vu hi → r x lo hi H Q →
    ∃ T id, typeLookup (.type T) "__getitem__" = pure (some (.builtin id)) ∧ s.TypeIs v T ∧ wpAny (model X.prog X.w) X.A (getItem v (.ref sl)) (EP X pins σ Q) X.xe s
def tSl (r : V → Option Int → Option Int → Hp → VK → Prop) (te : TE) (tl th : TO) : TE := fun σ H Q => te σ H fun x H1 => tl σ H1 fun l H2 => th σ H2 fun u H3 => r x l u H3 Q
theorem pe_slice {r : V → Option Int → Option Int → Hp → VK → Prop} (hr : SlR X r) (he : PE X e te) (hl : PO X lo tl) (hu : PO X hi th) : PE X (.Subscript e (.Slice lo hi none p2) pos) (tSl r te tl th) := by
  intro pins s σ H Q I h
  refine Subscript_ (thn (he pins s σ H _ I h) fun v s1 ⟨x, H1, I1, r1, q1⟩ => ?_)
  refine wpAny_Slice (thn (hl pins s1 σ H1 _ I1 q1) fun vl s2 ⟨l, H2, I2, pl, q2⟩ => thn (hu pins s2 σ H2 _ I2 q2) fun vu s3 ⟨u, H3, I3, pu, q3⟩ => ?_)
  rw [evalPart_none]
  refine wpAny_pure ?_
  have I4 : Inv X pins σ H3 { s3 with heap := s3.heap.push { cls := .type "slice", data := .fields #[vl, vu, .none] } } := I3.kept (t' := s3.toks) fun b ob q => Heap.get?_push_of_some _ q
  obtain ⟨T, id, hT, ht, hg⟩ := hr pins { s3 with heap := s3.heap.push { cls := .type "slice", data := .fields #[vl, vu, .none] } } σ H3 x v vl vu l u s3.heap.objs.size Q I4 r1 (Heap.IsSliceOf.new ..) pl pu q3
  show wpAny (model X.prog X.w) X.A (subscriptTail e (.Slice lo hi none p2) v (.ref s3.heap.objs.size)) (EP X pins σ Q) X.xe { s3 with heap := s3.heap.push { cls := .type "slice", data := .fields #[vl, vu, .none] } }
  exact tail_any (ops := [.ref s3.heap.objs.size, v]) ht hT hg (by with_unfolding_all rfl)
def cutV (xs : List V) (lo hi : Option Int) : List V := (xs.drop (HT.sIx xs.length 0 lo)).take (HT.sIx xs.length xs.length hi - HT.sIx xs.length 0 lo)
theorem cutV_length (xs : List V) (lo hi : Option Int) : (cutV xs lo hi).length ≤ xs.length := by
  unfold cutV
  rw [List.length_take, List.length_drop]
  omega
end
end L2
namespace L2
open PySem PySem.Spec PyProof.Rows
def ixN (n : Nat) (i : Int) : Option Nat := if 0 ≤ i then (if i < n then some i.toNat else none) else if -(n : Int) ≤ i then some (i + n).toNat else none
def atI {α : Type} (xs : List α) (i : Int) : Option α := (ixN xs.length i).bind fun j => xs[j]?
theorem ixN_seq {n : Nat} {i : Int} {j : Nat} (h : ixN n i = some j) : seqIndex? i n = some j ∧ j < n ∧ -(n : Int) ≤ i ∧ i < n := by
  unfold ixN at h
  by_cases h0 : 0 ≤ i
  · rw [if_pos h0] at h
    by_cases h1 : i < n
    · rw [if_pos h1] at h
      have e : i.toNat = j := Option.some.inj h
      exact ⟨by rw [seqIndex_of h0 h1, e], by omega, by omega, h1⟩
    · rw [if_neg h1] at h; cases h
  · rw [if_neg h0] at h
    by_cases h1 : -(n : Int) ≤ i
    · rw [if_pos h1] at h
      have e : (i + n).toNat = j := Option.some.inj h
      exact ⟨by rw [seqIndex_neg (by omega) h1, e], by omega, h1, by omega⟩
    · rw [if_neg h1] at h; cases h
theorem atI_get {α : Type} {xs : List α} {i : Int} {v : α} (h : atI xs i = some v) : ∃ j, seqIndex? i xs.length = some j ∧ xs[j]? = some v ∧ j < xs.length ∧ -(xs.length : Int) ≤ i ∧ i < xs.length := by
  unfold atI at h
  cases e : ixN xs.length i with
  | none => rw [e] at h; cases h
  | some j =>
    rw [e] at h
    obtain ⟨h1, h2, h3, h4⟩ := ixN_seq e
    exact ⟨j, h1, h, h2, h3, h4⟩
def PlainIx (b : Expr) : Prop := ∀ o i, subscripted b false o i = operate [o, i] (getItem o i)
def IxR (X : Cx) (r : R2) : Prop :=
  ∀ (value slice : Expr) (pins : List (Addr × Obj)) (s : Shared) (σ : St) (H : Hp) (x y : V) (v u : Value) (Q : VK), Inv X pins σ H s → RelV x v → RelV y u → r x y H Q →
    subscripted slice false v u = operate [v, u] (getItem v u) → wpAny (model X.prog X.w) X.A (subscriptTail value slice v u) (EP X pins σ Q) X.xe s
def MtR (X : Cx) (id : String) (r : V → List V → Hp → VK → Prop) : Prop :=
  ∀ (pins : List (Addr × Obj)) (s : Shared) (σ : St) (H : Hp) (x : V) (xs : List V) (v : Value) (us : List Value) (Q : VK), Inv X pins σ H s → RelV x v → Vals xs us → r x xs H Q →
    wpAny (model X.prog X.w) X.A (call (.builtin id) (v :: us)) (EP X pins σ Q) X.xe s
section
variable {X : Cx} {a b : Expr} {ta tb : TE} {pos : Pos}
theorem pe_ix {r : R2} (hr : IxR X r) (ha : PE X a ta) (hb : PE X b tb) (hs : PlainIx b) : PE X (.Subscript a b pos) (tOp r ta tb) := by
  intro pins s σ H Q I h
  exact Subscript_ (binT ha hb I h fun v u s2 x y H2 I2 rx ry q => hr a b pins s2 σ H2 x y v u Q I2 rx ry q (hs _ _))
def rIxL (K : PySem.W.Frag) : R2 := fun x y H Q => ∃ p xs i v, x = .ref p ∧ y = .int i ∧ SqL K H p xs ∧ atI xs i = some v ∧ Q v H
def rIxT (K : PySem.W.Frag) : R2 := fun x y H Q => ∃ p xs i v, x = .ref p ∧ y = .int i ∧ SqT K H p xs ∧ atI xs i = some v ∧ Q v H
def rIxS : R2 := fun x y H Q => ∃ z i c, x = .str z ∧ y = .int i ∧ z.length ≤ sizeLine ∧ atI z.cps.toList i = some c ∧ Q (.str ⟨#[c]⟩) H
theorem ix_list : IxR X (rIxL X.K) := by
  intro value slice pins s σ H x y v u Q I rx ry h hs
  obtain ⟨p, xs, i, z, rfl, rfl, hq, he, q⟩ := h
  cases rx
  obtain ⟨t, rfl⟩ := ry
  obtain ⟨its, r, pl, hz⟩ := I.list hq
  obtain ⟨j, h1, h2, h3, h4, h5⟩ := atI_get he
  obtain ⟨w, ew, rw'⟩ := r.get h2
  have hl := r.length
  have hn := line63
  have fin : EP X pins σ Q w s := ⟨z, H, I, rw', q⟩
  by_cases h0 : 0 ≤ i
  · have hj : i.toNat = j := by
      rw [seqIndex_of h0 h5] at h1
      exact Option.some.inj h1
    exact item_listR pl.isList h0 (by omega) (by rw [hj]; simpa using ew) fin hs
  · have hj : (i + (its.toArray.size : Int)).toNat = j := by
      rw [seqIndex_neg (by omega) h4] at h1
      rw [List.size_toArray, ← hl]
      exact Option.some.inj h1
    exact subscriptTail_builtinR (x := w) pl.isList.typeIs slot_list_getitem.lookup
      (wpAny_getItem_list_neg (Q := fun r s' => r = w ∧ EP X pins σ Q r s') pl.isList (by omega) (by rw [List.size_toArray] <;> omega) (by omega) (by rw [hj]; simpa using ew) ⟨rfl, fin⟩) hs
theorem ix_tup : IxR X (rIxT X.K) := by
  intro value slice pins s σ H x y v u Q I rx ry h hs
  obtain ⟨p, xs, i, z, rfl, rfl, hq, he, q⟩ := h
  cases rx
  obtain ⟨t, rfl⟩ := ry
  obtain ⟨its, r, pl, hz⟩ := I.tuple hq
  obtain ⟨j, h1, h2, h3, h4, h5⟩ := atI_get he
  obtain ⟨w, ew, rw'⟩ := r.get h2
  have hl := r.length
  have hn := line63
  have fin : EP X pins σ Q w s := ⟨z, H, I, rw', q⟩
  exact subscriptTail_builtinR (x := w) pl.typeIs slot_tuple_getitem.lookup
    (getItem_tuple (j := j) (Q := fun r s' => r = w ∧ EP X pins σ Q r s') pl (by omega) (by omega) (by rw [List.size_toArray, ← hl]; exact h1) (by simpa using ew) ⟨rfl, fin⟩) hs
theorem mapSeq_set (its : List Value) (n j : Nat) (u : Value) : Obj.mapSeq (·.setIfInBounds j u) { cls := .type "list", data := .seq its.toArray n } = { cls := .type "list", data := .seq (its.set j u).toArray n } := by
  simp [Obj.mapSeq]
theorem Inv.lst {pins : List (Addr × Obj)} {σ : St} {H : Hp} {s : Shared} {p : Addr} {xs : List V} (I : Inv X pins σ H s) (h : H p = some (.lst xs)) :
    ∃ (its : List Value) (n : Nat), Vals xs its ∧ s.heap.get? p = some { cls := .type "list", data := .seq its.toArray n } ∧ xs.length ≤ sizeLine := by
  obtain ⟨z, its, n, r, e⟩ := I.hok p _ h
  exact ⟨its, n, r, e, z⟩
theorem Inv.lstUpd {pins : List (Addr × Obj)} {σ : St} {H : Hp} {s : Shared} {p : Addr} {xs ys : List V} {its its' : List Value} {n n' : Nat} {f : Obj → Obj} (I : Inv X pins σ H s) (h : H p = some (.lst xs))
    (ho : s.heap.get? p = some { cls := .type "list", data := .seq its.toArray n }) (hf : f { cls := .type "list", data := .seq its.toArray n } = { cls := .type "list", data := .seq its'.toArray n' }) (r : Vals ys its') (hz : ys.length ≤ sizeLine) (t : Nat) :
    Inv X pins σ (upd H p (.lst ys)) { s with heap := s.heap.update p f, toks := t } := by
  have e : (s.heap.update p f).get? p = some { cls := .type "list", data := .seq its'.toArray n' } := by
    rw [Heap.get?_update_self f ho (by rw [hf] <;> rfl), hf]
  refine I.write (x := p) (e := p) (by rw [h]; trivial) (.inl rfl) (fun b u hb q => (Heap.get?_update_other _ _ (Ne.symm hb)).trans q) ⟨_, e⟩ ?_
  exact ⟨hz, its', n', r, e⟩
def rSetL : V → V → V → Hp → (Hp → Prop) → Prop := fun o i v H Q => ∃ p xs k j, o = .ref p ∧ i = .int k ∧ H p = some (.lst xs) ∧ ixN xs.length k = some j ∧ Q (upd H p (.lst (xs.set j v)))
theorem set_list : PSet X rSetL := by
  intro pins s σ H o i v ov iv u Q I ro ri rv h
  obtain ⟨p, xs, k, j, rfl, rfl, hp, hj, q⟩ := h
  cases ro
  obtain ⟨t, rfl⟩ := ri
  obtain ⟨its, n, r, ho, hz⟩ := I.lst hp
  obtain ⟨h1, h2, h3, h4⟩ := ixN_seq hj
  have hl := r.length
  have hn := line63
  have I' : Inv X pins σ (upd H p (.lst (xs.set j v))) { s with heap := s.heap.update p (Obj.mapSeq (·.setIfInBounds j u)) } :=
    I.lstUpd hp ho (mapSeq_set its n j u) (r.set rv j) (by rw [List.length_set]; exact hz) s.toks
  by_cases h0 : 0 ≤ k
  · have hk : k.toNat = j := by
      rw [seqIndex_of h0 h4] at h1
      exact Option.some.inj h1
    exact PySem.W.ki_setAt ho h0 (by omega) (by rw [List.size_toArray, ← hl]; exact h4) (by rw [hk]; exact ⟨_, I', q⟩)
  · have hk : (k + (its.toArray.size : Int)).toNat = j := by
      rw [seqIndex_neg (by omega) h3] at h1
      rw [List.size_toArray, ← hl]
      exact Option.some.inj h1
    exact PySem.W.ki_setBack ho (by omega) (by rw [List.size_toArray, ← hl]; exact h3) (by omega) (by rw [hk]; exact ⟨_, I', q⟩)
theorem slice_bounds (lo hi : Option Int) (n : Nat) : (sliceBounds lo hi none n).1 = ((HT.sIx n 0 lo : Nat) : Int) ∧ (sliceBounds lo hi none n).2.1 = ((HT.sIx n n hi : Nat) : Int) ∧ (sliceBounds lo hi none n).2.2 = 1 := by
  refine ⟨?_, ?_, rfl⟩
  · cases lo with
    | none => simp [sliceBounds, HT.sIx]
    | some i =>
      simp only [sliceBounds, HT.sIx, Option.getD_none, show (1 : Int) > 0 by decide, if_true]
      by_cases h : i < 0
      · simp only [h, if_true] <;> omega
      · simp only [h, if_false] <;> omega
  · cases hi with
    | none => simp [sliceBounds, HT.sIx]
    | some i =>
      simp only [sliceBounds, HT.sIx, Option.getD_none, show (1 : Int) > 0 by decide, if_true]
      by_cases h : i < 0
      · simp only [h, if_true] <;> omega
      · simp only [h, if_false] <;> omega
theorem slicePick_cut (its : List Value) (lo hi : Option Int) : slicePick its.toArray lo hi none = ((its.drop (HT.sIx its.length 0 lo)).take (HT.sIx its.length its.length hi - HT.sIx its.length 0 lo)).toArray := by
  obtain ⟨h1, h2, h3⟩ := slice_bounds lo hi its.toArray.size
  unfold slicePick
  rw [h1, h2, h3]
  simp only [sliceRange_one, pick_run, List.size_toArray] <;> rfl
def rSlL (K : PySem.W.Frag) : V → Option Int → Option Int → Hp → VK → Prop := fun x lo hi H Q => ∃ a xs, x = .ref a ∧ SqL K H a xs ∧ ∀ p, H p = none → Q (.ref p) (upd H p (.lst (cutV xs lo hi)))
theorem sl_list : SlR X (rSlL X.K) := by
  intro pins s σ H x v vl vu lo hi sl Q I rx hs pl pu h
  obtain ⟨a, xs, rfl, hx, q⟩ := h
  cases rx
  obtain ⟨its, r, ht, hz⟩ := I.list hx
  have hlen := r.length
  refine ⟨"list", _, slot_list_getitem.lookup, ht.isList.typeIs, ?_⟩
  refine wpAny_getItem_list_slice ht.isList hs pl pu .none (by simp) ?_ (by rw [List.size_toArray] <;> omega)
  rw [slicePick_cut, ← hlen]
  refine ⟨.ref s.heap.objs.size, _, I.laid (t' := s.toks) (o := .lst (cutV xs lo hi)) (fun b ob q => Heap.get?_push_of_some _ q) (Nat.le_refl _) ?_, rfl, q _ (I.hok.fresh (Nat.le_refl _))⟩
  exact ⟨Nat.le_trans (cutV_length xs lo hi) hz, _, 0, (r.drop (HT.sIx xs.length 0 lo)).take (HT.sIx xs.length xs.length hi - HT.sIx xs.length 0 lo), Heap.get?_push_size _ rfl⟩
def flatV : V → Bool
  | .non => true
  | .bl _ => true
  | .int _ => true
  | .str _ => true
  | _ => false
def eqV : V → V → Bool
  | .non, .non => true
  | .bl a, .bl b => a == b
  | .bl a, .int b => (if a then 1 else 0) == b
  | .int a, .bl b => a == (if b then 1 else 0)
  | .int a, .int b => a == b
  | .str a, .str b => a == b
  | _, _ => false
def inV (x : V) (xs : List V) : Bool := xs.any fun y => eqV y x
def rIn (K : PySem.W.Frag) (neg : Bool) : R2 := fun x y H Q => ∃ p xs, y = .ref p ∧ (SqL K H p xs ∨ SqT K H p xs) ∧ flatV x = true ∧ xs.all flatV = true ∧ Q (.bl (if neg then !inV x xs else inV x xs)) H
theorem call_len_seq : CallR X (.builtin "len") (fun xs H Q => ∃ p ys, xs = [.ref p] ∧ (SqL X.K H p ys ∨ SqT X.K H p ys) ∧ Q (.int ys.length) H) := by
  intro pins s σ H xs us Q I r h
  obtain ⟨p, ys, rfl, hq, q⟩ := h
  obtain ⟨u, rfl, rx⟩ := vals1 r
  cases rx
  have hn := line63
  rcases hq with hq | hq
  · obtain ⟨its, r', pl, hz⟩ := I.list hq
    have hlen := r'.length
    exact Calls.call_len_list pl.isList (by simp only [List.size_toArray] <;> omega) ⟨.int ys.length, H, I.tok _, ⟨s.toks + 1, by rw [List.size_toArray, hlen]⟩, q⟩
  · obtain ⟨its, r', pl, hz⟩ := I.tuple hq
    have hlen := r'.length
    exact len_tuple pl (by simp only [List.size_toArray] <;> omega) ⟨.int ys.length, H, I.tok _, ⟨s.toks + 1, by rw [List.size_toArray, hlen]⟩, q⟩
theorem call_list_of : CallR X (.type "list") (fun xs H Q => ∃ p ys, xs = [.ref p] ∧ (SqL X.K H p ys ∨ SqT X.K H p ys) ∧ ∀ l, H l = none → Q (.ref l) (upd H l (.lst ys))) := by
  intro pins s σ H xs us Q I r h
  obtain ⟨p, ys, rfl, hq, q⟩ := h
  obtain ⟨u, rfl, rx⟩ := vals1 r
  cases rx
  have fin : ∀ (its : List Value), Vals ys its → ys.length ≤ sizeLine → ∀ (h' : Heap) (c' : Nat), (∀ b o', s.heap.get? b = some o' → h'.get? b = some o') →
      h'.get? s.heap.objs.size = some { cls := .type "list", dict := none, data := .seq its.toArray c', slots := #[] } → EP X pins σ Q (.ref s.heap.objs.size) { s with heap := h' } := fun its r' hz h' c' kp e =>
    ⟨.ref s.heap.objs.size, _, I.laid (t' := s.toks) kp (Nat.le_refl _) (show ObjOk X.prog X.w _ h' _ (.lst ys) from ⟨hz, its, c', r', e⟩), rfl, q _ (I.hok.fresh (Nat.le_refl _))⟩
  rcases hq with hq | hq
  · obtain ⟨its, r', pl, hz⟩ := I.list hq
    have hlen := r'.length
    obtain ⟨o, ho, hc, n, hd⟩ := pl.isList
    exact call_list_seq p (.inl rfl) ho hc hd (fun h' c' kp e => fin its r' hz h' c' kp e) (by simp only [List.size_toArray] <;> omega)
  · obtain ⟨its, r', pl, hz⟩ := I.tuple hq
    have hlen := r'.length
    obtain ⟨o, ho, hc, n, hd⟩ := pl
    exact call_list_seq p (.inr rfl) ho hc hd (fun h' c' kp e => fin its r' hz h' c' kp e) (by simp only [List.size_toArray] <;> omega)
theorem call_tuple_of : CallR X (.type "tuple") (fun xs H Q => ∃ p ys, xs = [.ref p] ∧ ((SqL X.K H p ys ∧ ∀ l, H l = none → Q (.ref l) (upd H l (.tup ys))) ∨ (SqT X.K H p ys ∧ Q (.ref p) H))) := by
  intro pins s σ H xs us Q I r h
  obtain ⟨p, ys, rfl, h⟩ := h
  obtain ⟨u, rfl, rx⟩ := vals1 r
  cases rx
  rcases h with ⟨hq, q⟩ | ⟨hq, q⟩
  · obtain ⟨its, r', pl, hz⟩ := I.list hq
    have hlen := r'.length
    refine call_tuple_list pl.isList (fun h' kp => ?_) (by simp only [List.size_toArray] <;> omega)
    have I1 : Inv X pins σ H { s with heap := h' } := I.kept (t' := s.toks) kp
    have I2 : Inv X pins σ (upd H h'.objs.size (.tup ys)) { s with heap := h'.push { cls := .type "tuple", data := .seq its.toArray } } :=
      I1.laid (t' := s.toks) (fun b o e => Heap.get?_push_of_some _ e) (Nat.le_refl _) (show ObjOk X.prog X.w _ _ _ (.tup ys) from ⟨hz, its, r', IsTup.new _ _⟩)
    exact ⟨.ref h'.objs.size, _, I2, rfl, q _ (I1.hok.fresh (Nat.le_refl _))⟩
  · obtain ⟨its, r', pl, hz⟩ := I.tuple hq
    exact call_tuple_same pl ⟨.ref p, H, I, rfl, q⟩
def tyV (K : PySem.W.Frag) (T : String) (x : V) (H : Hp) : Prop := match x with
  | .str _ => T = "str"
  | .int _ => T = "int"
  | .ref p => (T = "list" ∧ ∃ xs, SqL K H p xs) ∨ (T = "tuple" ∧ ∃ o, K.lookup p = some o ∧ o.cls = .type "tuple" ∧ o.dict = none) ∨
      (T = "dict" ∧ ((∃ kvs, H p = some (.dK kvs)) ∨ ∃ kvs, H p = some (.dT kvs))) ∨ (T = "set" ∧ ∃ S n, H p = some (.set S n))
  | _ => False
theorem tyV_is {pins : List (Addr × Obj)} {σ : St} {H : Hp} {s : Shared} {T : String} {x : V} {v : Value} (I : Inv X pins σ H s) (r : RelV x v) (ty : tyV X.K T x H) :
    s.TypeIs v T ∧ ∀ a, v = .ref a → ∃ ob, s.heap.get? a = some ob ∧ ob.dict = none := by
  cases x with
  | str z =>
    obtain ⟨t, rfl⟩ := r
    cases (show T = "str" from ty)
    exact ⟨typeIs_str s z t, fun _ e => nomatch e⟩
  | int i =>
    obtain ⟨t, rfl⟩ := r
    cases (show T = "int" from ty)
    exact ⟨typeIs_int s i t, fun _ e => nomatch e⟩
  | ref p =>
    cases r
    rcases ty with ⟨rfl, xs, hq⟩ | ⟨rfl, o, hk, hc, hd⟩ | ⟨rfl, hk⟩ | ⟨rfl, S, n, hk⟩
    · obtain ⟨its, _, pl, _⟩ := I.list hq
      refine ⟨pl.isList.typeIs, fun a e => ?_⟩
      cases e
      obtain ⟨o, n, e, c, hd, _⟩ := pl
      exact ⟨o, e, hd⟩
    · refine ⟨⟨o, I.kIn p o hk, hc⟩, fun a e => ?_⟩
      cases e
      exact ⟨o, I.kIn _ o hk, hd⟩
    · have z : ∃ o, s.heap.get? p = some o ∧ o.ExactDict := by
        rcases hk with ⟨kvs, hk⟩ | ⟨kvs, hk⟩
        · obtain ⟨_, _, _, _, o, _, _, e, ex, _⟩ := I.hok p _ hk
          exact ⟨o, e, ex⟩
        · obtain ⟨_, _, _, _, o, _, _, e, ex, _⟩ := I.hok p _ hk
          exact ⟨o, e, ex⟩
      obtain ⟨o, e, ex⟩ := z
      refine ⟨⟨o, e, ex.1⟩, fun a e2 => ?_⟩
      cases e2
      exact ⟨o, e, ex.2.1⟩
    · obtain ⟨o, _, _, _, e, ex, _⟩ := I.hok p _ hk
      refine ⟨⟨o, e, ex.1⟩, fun a e2 => ?_⟩
      cases e2
      exact ⟨o, e, ex.2.1⟩
  | _ => exact False.elim ty
def tBM0 (K : PySem.W.Frag) (T : String) (r : V → List V → Hp → VK → Prop) (to : TE) : TE := fun σ H Q => to σ H fun x H1 => tyV K T x H1 ∧ r x [] H1 Q
def tBM (K : PySem.W.Frag) (T : String) (r : V → List V → Hp → VK → Prop) (to : TE) (t : TA) : TE := fun σ H Q => to σ H fun x H1 => tyV K T x H1 ∧ t σ H1 fun xs H2 => r x xs H2 Q
variable {o e : Expr} {es : List Expr} {to : TE} {t : TA} {name : Str} {apos cpos : Pos} {T id : String} {r : V → List V → Hp → VK → Prop}
theorem pe_bm (pa : PlainAttrs T) (slot : Slot T name id) (hty : typeOf (.builtin id) = pure (.type "method_descriptor")) (hm : MtR X id r) (ho : PE X o to) (ha : PA X (e :: es) t)
    (hbase : attributeBase o name X.env (eval o X.env) = eval o X.env := by rfl)
    (hfew : ((backTo cpos (starEach (e :: es) X.env)).all (fun x => !x.1) && (backToKw cpos (keywordEach [] X.env)).all (fun x => x.1.isSome)
      && decide ((e :: es).length + ([] : List Keyword).length + (if ([] : List Keyword).isEmpty then 0 else 1) < 30)) = true := by rfl)
    (hline : (apos.endLine == cpos.line) = true := by rfl) (hs : starEach (e :: es) X.env = (false, eval e X.env) :: starEach es X.env := by rfl) (hplain : (backTo cpos (starEach es X.env)).any (·.1) = false := by rfl) :
    PE X (.Call (.Attribute o name apos) (e :: es) [] cpos) (tBM X.K T r to t) := by
  intro pins s σ H Q I h
  refine wpAny_Call_method_late hbase hfew hline rfl (thn (ho pins s σ H _ I h) fun v s1 ⟨x, H1, I1, r1, ty, q1⟩ => ?_)
  obtain ⟨h1, h2⟩ := tyV_is I1 r1 ty
  refine ⟨T, id, pa, slot, hty, h1, h2, ?_⟩
  have hA := ha cpos pins s1 σ H1 _ I1 q1
  rw [hs] at hA ⊢
  refine Calls.callWith_builtin (by show (false || (backTo cpos (starEach es X.env)).any (·.1)) = false; rw [hplain] <;> rfl) (Calls.evalArgs_plain ?_)
  exact thn hA fun us s2 ⟨vs, H2, I2, r2, q2⟩ => hm pins s2 σ H2 x vs v us Q I2 r1 r2 q2
/- xs.append(e), list.index on a module's tuple .. are MtR facts of 06m -/
end
end L2
namespace L2
open PySem PySem.Spec PyProof.Rows
def MtM (X : Cx) (id : String) (r : V → List V → Hp → VK → Prop) : Prop :=
  ∀ (pins : List (Addr × Obj)) (s : Shared) (σ : St) (H : Hp) (x : V) (xs : List V) (v : Value) (us : List Value) (Q : VK), Inv X pins σ H s → RelV x v → Vals xs us → r x xs H Q →
    wpAny (model X.prog X.w) X.A (call (.builtin id) (v :: us)) (EP X pins σ Q) X.xe s
theorem Vals.one : ∀ {x : V} {us : List Value}, Vals [x] us → ∃ u, us = [u] ∧ RelV x u
  | _, _, .cons r .nil => ⟨_, rfl, r⟩
section
variable {X : Cx} {pins : List (Addr × Obj)} {σ : St} {H : Hp} {s : Shared} {l b : Addr} {xs ys zs : List V}
theorem Inv.lset {its its' : List Value} {n : Nat} {f : Array Value → Array Value} {t' : Nat} (I : Inv X pins σ H s) (hH : H l = some (.lst xs))
    (e : s.heap.get? l = some { cls := .type "list", data := .seq its.toArray n }) (hf : f its.toArray = its'.toArray) (hv : Vals ys its') (hz : ys.length ≤ sizeLine) :
    Inv X pins σ (upd H l (.lst ys)) { s with heap := s.heap.update l (Obj.mapSeq f), toks := t' } := by
  have q := PySem.IsL.update e f
  rw [hf] at q
  refine I.write (x := l) (e := l) (by rw [hH]; exact trivial) (.inl rfl) (fun b' u hb hu => (Heap.get?_update_other s.heap (Obj.mapSeq f) (Ne.symm hb)).trans hu) ⟨_, q⟩ ?_
  exact ⟨hz, its', _, hv, q⟩
theorem Inv.lnew {its : List Value} {t' : Nat} (I : Inv X pins σ H s) (hv : Vals ys its) (hz : ys.length ≤ sizeLine) :
    Inv X pins σ (upd H s.heap.objs.size (.lst ys)) { s with heap := s.heap.push { cls := .type "list", data := .seq its.toArray }, toks := t' } :=
  I.laid (fun _ _ q => Heap.get?_push_of_some _ q) (Nat.le_refl _) ⟨hz, its, 0, hv, Heap.get?_push_size _ rfl⟩
theorem Inv.fresh (I : Inv X pins σ H s) : H s.heap.objs.size = none := I.hok.fresh (Nat.le_refl _)
theorem Inv.lstM (I : Inv X pins σ H s) (hH : H l = some (.lst xs)) : xs.length ≤ sizeLine ∧ ∃ (its : List Value) (n : Nat), Vals xs its ∧ xs.length = its.length ∧ s.heap.get? l = some { cls := .type "list", data := .seq its.toArray n } := by
  obtain ⟨z, its, n, r, e⟩ := I.hok l _ hH
  exact ⟨z, its, n, r, r.length, e⟩
end
section
variable {X : Cx}
def rAppend : V → List V → Hp → VK → Prop := fun x vs H Q => ∃ l xs y, x = .ref l ∧ vs = [y] ∧ H l = some (.lst xs) ∧ xs.length < sizeLine ∧ Q .non (upd H l (.lst (xs ++ [y])))
theorem mt_append : MtM X "list.append" rAppend := by
  intro pins s σ H x vs v us Q I rx rv h
  obtain ⟨l, xs, y, rfl, rfl, hH, hz, q⟩ := h
  cases rx
  obtain ⟨u, rfl, ru⟩ := rv.one
  obtain ⟨z, its, n, r, hl, e⟩ := I.lstM hH
  refine call_meets F.slot_list_append ⟨_, e, rfl⟩ F.entry_list_append (F.args_list_append_2 _ _) (PySem.list_append l its.toArray n u (by rw [List.size_toArray]; omega)) ⟨e, ?_⟩
  refine ⟨.non, _, I.lset (its' := its ++ [u]) hH e (by simp) (r.append (.cons ru .nil)) ?_, rfl, q⟩
  rw [List.length_append, List.length_singleton]
  omega
def rReverse : V → List V → Hp → VK → Prop := fun x vs H Q => ∃ l xs, x = .ref l ∧ vs = [] ∧ H l = some (.lst xs) ∧ Q .non (upd H l (.lst xs.reverse))
def rCat : R2 := fun x y H Q => ∃ l b xs zs, x = .ref l ∧ y = .ref b ∧ H l = some (.lst xs) ∧ H b = some (.lst zs) ∧ xs.length + zs.length ≤ sizeLine ∧ ∀ p, H p = none → Q (.ref p) (upd H p (.lst (xs ++ zs)))
theorem op_cat : OpR X (binaryOp .Add) rCat := by
  intro pins s σ H x y v u Q I rx ry h
  obtain ⟨l, b, xs, zs, rfl, rfl, hH, hB, hz, q⟩ := h
  cases rx
  cases ry
  obtain ⟨z, its, n, r, hl, e⟩ := I.lstM hH
  obtain ⟨z2, its2, n2, r2, hl2, e2⟩ := I.lstM hB
  refine PySem.P.add_list e e2 ?_ (by rw [List.size_toArray, List.size_toArray]; omega)
  have ea : its.toArray ++ its2.toArray = (its ++ its2).toArray := by simp
  rw [ea]
  exact ⟨.ref _, _, I.lnew (t' := s.toks) (r.append r2) (by rw [List.length_append]; omega), rfl, q _ I.fresh⟩
end
section
variable {prog : Program} {w : World} {A : Around} {E : Value → Shared → Prop} {s : Shared}
end
section
variable {X : Cx}
end
end L2
namespace Att
open PySem PySem.W PySem.Calls PyProof.Rows
theorem ints_of_wellAll {P : Params} {h : Heap} : ∀ (ns : List Int) (vs : List Value), WellAll P h vs (ns.map WData.int) → IntsAre vs ns := by
  intro ns
  induction ns with
  | nil =>
    intro vs w
    rw [List.map_nil] at w
    cases w
    exact .nil
  | cons n ns ih =>
    intro vs w
    rw [List.map_cons] at w
    cases w with
    | cons a b =>
      cases a
      exact .cons _ _ (ih _ b)
theorem script_of {l : OpenLaw} {n : Nat} (hn : l.most = some n) {P : Params} {h : Heap} {args : List WData} {vals : List Value}
    (hpre : l.row.toRowW.claim.pre args = true) (hwl : WellAll P h vals args) :
    ∃ a vs ns, vals = [Value.ref a] ∧ args = [WData.list (ns.map WData.int)] ∧ h.get? a = some { cls := .type "list", data := .seq vs.toArray } ∧ IntsAre vs ns ∧ ns.length ≤ n := by
  have hsh : WShape.hasAll [] args [.list .int] = true := (pre_splitW hpre).1
  have hc : l.pre.holds [] { args := args } = true := (pre_splitW hpre).2
  obtain ⟨d, r, rfl, h1, h2⟩ := hasAllW_cons hsh
  obtain rfl := hasAllW_nil h2
  obtain ⟨xs, rfl, h3⟩ := hasW_list h1
  obtain ⟨ns, rfl⟩ := items_int h3
  have hlen : ns.length ≤ n := by
    unfold OpenLaw.pre at hc
    have h4 : (WTm.not (.lt (.lit (.int (n : Int))) (.len (.arg 0)))).holds [] { args := [.list (ns.map .int)] } = true := by
      have h4 := (holds_andW hc).1
      rw [hn] at h4
      exact h4
    have h5 := condW_of h4 (w_not (w_lt w_lit (w_len_list (w_arg rfl))))
    rw [List.length_map] at h5
    refine Nat.le_of_not_lt fun q => ?_
    have q' : (n : Int) < ((ns.length : Nat) : Int) := by omega
    first
      | (rw [decide_eq_true q'] at h5; exact absurd h5 (by decide))
      | (simp at h5; omega)
  cases hwl with
  | cons w1 w2 =>
    cases w2
    cases w1 with
    | list ho hall => exact ⟨_, _, ns, rfl, rfl, ho, ints_of_wellAll ns _ hall, hlen⟩
theorem post_true (l : OpenLaw) (args : List WData) : l.row.toRowW.claim.post args (.bool true) args = true :=
  postW_of (r := l.row.toRowW) (X := (true == true))
    (show WShape.has [] (.bool true) .bool = true by first | rfl | decide | simp [WShape.has, WShape.arms, WShape.armsAll])
    (show (WTm.eq .res (.lit (.bool true))).value [] { args := args, res := some (.bool true), after := args } = some (.bool (true == true)) from w_eq_bool (w_res rfl) w_lit) rfl
theorem attach_call {l : OpenLaw} {n : Nat} {q : Program} {loose : List Str} {XP : (Str → Option Value) → Heap → Prop} {YP : World → Heap → Prop} {d : DefRec}
    (hn : l.most = some n) (hdf : d.params.defaults = [])
    (call : ∀ (w : World) (s₀ s₁ : Shared) (mg mb : Str → Option Value) (fa : Addr) (o : Obj) (pm cd doc : Value) (a : Addr) (vs : List Value) (ns : List Int),
      Ground q loose [] XP w s₀ mg mb s₁.heap → YP w s₁.heap →
      s₁.heap.get? fa = some o → o.data = .func (docDef d.name d.params d.body d.scope pm cd doc) → s₁.heap.CodeRec cd d.name → mg d.name = some (.ref fa) →
      s₁.heap.get? a = some { cls := .type "list", data := .seq vs.toArray } → IntsAre vs ns → ns.length ≤ n → s₁.gens = #[] →
      codeAny (model l.prog w) callerA (.call (.ref fa) ⟨[.ref a], []⟩) (fun r s' => r = .ok (.ret (.bool true)) ∧ OldK s₁.heap s'.heap ∧ s'.os = s₁.os ∧ AllBare s'.gens) s₁) :
    WalkO q loose XP YP l.row.toRowW d [] (fun f vs => PySem.call f vs) := by
  intro w s₀ s₁ mg mb G Y fa o pm cd doc dV kV ho hd hcd hD hmg hg args vals as hpre hlay hrd hwl hlo
  obtain rfl : dV = .none := Dflts.none hD hdf
  obtain rfl : kV = .none := Dflts.noKw hD
  obtain ⟨a, vs, ns, rfl, rfl, hobj, hints, hlen⟩ := script_of hn hpre hwl
  refine enter_call (codeAny_mono (call w s₀ s₁ mg mb fa o pm cd doc a vs ns G Y ho (fd_plain hd) hcd hmg hobj hints hlen hg) fun r s' hq => ?_)
  obtain ⟨rfl, h2, h3, h4⟩ := hq
  exact ⟨.inl ⟨.bool true, .bool true, [], rfl, fun _ => rfl, .bool true, post_true l _, fun _ => ⟨List.Pairwise.nil, fun _ hm => (nomatch hm)⟩⟩, h2, h3, h4⟩
section
variable {prog : Program} {w : World} {A : Around} {E : Value → Shared → Prop} {s : Shared} {K : Frag}
end
end Att
namespace L2
open PySem PySem.Spec PyProof.Rows
theorem vals_ints : ∀ {vs : List Value} {ns : List Int}, IntsAre vs ns → Vals (ns.map V.int) vs
  | _, _, .nil => .nil
  | _, _, .cons n t h => .cons ⟨t, rfl⟩ (vals_ints h)
def Only (H : Hp) : Prop := ∀ b, H b = none ∨ ∃ o xs, H b = some (.frz o (.lst xs))
theorem law_call {P : Program} {w : World} {K : PySem.W.Frag} {mg mb : Str → Option Value} {CX : CXT} {k : Nat} {fa a : Addr} {fd : FuncData} {x : Str} {sp : Sp} {s₁ : Shared} {vs : List Value} {ns : List Int}
    (KX : K.In s₁.heap) (hns : s₁.heap.Ns mainGlobals mg) (hb : s₁.heap.Ns builtinsNs mb) (hbb : ∀ x : Str, x ≠ "__name__" → mb x = bootBuiltins x) (hlim : s₁.heap.NoLimit) (hg : s₁.gens = #[])
    (ha : s₁.heap.get? a = some { cls := .type "list", data := .seq vs.toArray }) (hi : IntsAre vs ns) (hl : ns.length ≤ sizeLine) (hr : Room k callerA)
    (F : ∀ base : Heap, K.In base → base.Ns mainGlobals mg → FnOk P w K mg base CX k fa fd [x] sp) (hbind : ∀ (s : Shared) (u : Value), BindsTo s fd ⟨[u], []⟩ [(x, u)])
    (hsp : ∀ H : Hp, Only H → SqL K H a (ns.map V.int) → sp [.ref a] H (fun v _ => v = .bl true) fun _ _ _ => False)
    (hCX : ∀ H e s', CX [] H s₁ (fun _ _ _ => False) e s' → False) :
    codeAny (model P w) callerA (.call (.ref fa) ⟨[.ref a], []⟩) (fun r s' => r = .ok (.ret (.bool true)) ∧ OldK s₁.heap s'.heap ∧ s'.os = s₁.os ∧ AllBare s'.gens) s₁ := by
  have rv := vals_ints hi
  have lenV := hi.length
  -- from an abstract heap in which nothing but the script may be tracked
  have core : ∀ H : Hp, Only H → SqL K H a (ns.map V.int) → HOk P w H s₁.heap → (∀ b, H b ≠ none → b = a) → (H a ≠ none → K.lookup a = none) →
      codeAny (model P w) callerA (.call (.ref fa) ⟨[.ref a], []⟩) (fun r s' => r = .ok (.ret (.bool true)) ∧ OldK s₁.heap s'.heap ∧ s'.os = s₁.os ∧ AllBare s'.gens) s₁ := by
    intro H hO hS hok hA hK
    have base_of : ∀ {b : Addr} {o : Obj}, s₁.heap.get? b = some o → H b = none → (hidT s₁.heap H).get? b = some o := fun e n => hidT_get e n
    have noA : ∀ {b : Addr} {o : Obj} {es : Array DictEntry} {ep : Nat}, s₁.heap.get? b = some o → o.data = .dict es ep → H b = none := fun {b o es ep} e d => by
      cases q : H b with
      | none => rfl
      | some u =>
        have e' : b = a := hA b (by rw [q]; simp)
        subst e'
        rw [ha] at e; cases e
        have d' : Data.seq vs.toArray _ = Data.dict es ep := d
        cases d'
    have nsK : ∀ {b : Addr} {m : Str → Option Value}, s₁.heap.Ns b m → (hidT s₁.heap H).Ns b m := fun {b m} ⟨o, es, ep, e, d, r⟩ => ⟨o, es, ep, base_of e (noA e d), d, r⟩
    have hKb : K.In (hidT s₁.heap H) := fun b o e => base_of (KX b o e) (by
      cases q : H b with
      | none => rfl
      | some u =>
        have e' : b = a := hA b (by rw [q]; simp)
        subst e'
        rw [hK (by rw [q]; simp)] at e; cases e)
    have hM : Mod K mg (hidT s₁.heap H) := ⟨hKb, nsK hns, ⟨mb, nsK hb, hbb⟩, let ⟨mc, h1, h2⟩ := hlim; ⟨mc, nsK h1, h2⟩⟩
    have e0 : Env0 P w K mg (hidT s₁.heap H) callerA [] s₁ H := ⟨rfl, hM, fun b o e => of_hidT e, Nat.le_of_eq (hidT_size _ _), trivial, fun b hb => absurd (show b ∈ ([] : List Addr) from hb) (by simp), hok, .of_eq hg⟩
    refine codeAny_mono ((F _ hKb (nsK hns)).run callerA [] s₁ H ⟨[.ref a], []⟩ [.ref a] [.ref a] _ _ hr e0 (hbind s₁ (.ref a)) (.cons rfl .nil) (hsp H hO hS)) fun r s' h => ?_
    cases r with
    | error e => exact (hCX H e s' h).elim
    | ok fl =>
      cases fl with
      | next => exact False.elim h
      | brk => exact False.elim h
      | cont => exact False.elim h
      | ret u =>
        obtain ⟨v, H', os, bare, un, hok', r', q⟩ := h
        have q' : v = .bl true := q
        subst q'
        obtain rfl : u = Value.bool true := r'
        refine ⟨rfl, OldK.of_keep fun b o e => ?_, os, bare⟩
        cases q : H b with
        | none => exact un.keep b o e q (by intro z; exact absurd (show b ∈ ([] : List Addr) from z) (by simp)) (by simp)
        | some u =>
          rcases hO b with z | ⟨ob, xs, z⟩
          · rw [q] at z; cases z
          · have z2 := un.frzs b ob _ z
            obtain ⟨e1, _⟩ := hok b _ z
            obtain ⟨e2, _⟩ := hok' b _ z2
            rw [e] at e1; cases e1
            exact e2
  cases hk : K.lookup a with
  | some o =>
    -- the script is one of the module's own objects
    have e := KX a o hk
    rw [ha] at e
    cases e
    refine core (fun _ => none) (fun _ => .inl rfl) (.inr ⟨_, vs.toArray, _, hk, rfl, rfl, rfl, by rw [List.size_toArray, lenV]; exact hl, by simpa using rv⟩) (fun b u z => by have z' : (none : Option HO) = some u := z; cases z') (fun b z => absurd rfl z) fun z => absurd rfl z
  | none =>
    refine core (fun b => if b = a then some (.frz { cls := .type "list", data := .seq vs.toArray } (.lst (ns.map V.int))) else none) (fun b => ?_) (.inl (.inr ⟨{ cls := .type "list", data := .seq vs.toArray }, if_pos rfl⟩)) (fun b u z => ?_) (fun b z => ?_) fun _ => hk
    · by_cases hb : b = a
      · exact .inr ⟨_, _, if_pos hb⟩
      · exact .inl (if_neg hb)
    · by_cases hb : b = a
      · have z' := (if_pos hb).symm.trans z
        cases z'
        subst hb
        exact ⟨ha, by rw [List.length_map]; exact hl, vs, _, rv, ha⟩
      · have z' := (if_neg hb).symm.trans z
        cases z'
    · by_cases hb : b = a
      · exact hb
      · exact absurd (if_neg hb) z
end L2
namespace L2
open PySem PySem.Spec PyProof.Rows
abbrev KOf {K : PySem.W.Frag} {h : Heap} (_ : K.In h) : PySem.W.Frag := K
theorem walk_of {l : PySem.W.OpenLaw} {n k : Nat} {q : Program} {loose : List Str} {XP : (Str → Option Value) → Heap → Prop} {YP : World → Heap → Prop} {d : DefRec} {K : Params → PySem.W.Frag} {CX : World → CXT} {sp : World → Sp} {x : Str}
    (hn : l.most = some n) (hn2 : n ≤ sizeLine) (hdf : d.params.defaults = []) (hr : Room k callerA)
    (hY : ∀ (w : World) (h : Heap), YP w h → (K w.params).In h)
    (F : ∀ (w : World) (mg : Str → Option Value) (fa : Addr) (h : Heap), (K w.params).In h → h.Ns mainGlobals mg → mg d.name = some (.ref fa) →
      ∃ fd : FuncData, (∀ (s : Shared) (u : Value), BindsTo s fd ⟨[u], []⟩ [(x, u)]) ∧
        ∀ base : Heap, (K w.params).In base → base.Ns mainGlobals mg → FnOk l.prog w (K w.params) mg base (CX w) k fa fd [x] (sp w))
    (hsp : ∀ (w : World) (H : Hp) (a : Addr) (ns : List Int), ns.length ≤ n → Only H → SqL (K w.params) H a (ns.map V.int) → sp w [.ref a] H (fun v _ => v = .bl true) fun _ _ _ => False)
    (hCX : ∀ (w : World) (H : Hp) (s : Shared) (e : Value) (s' : Shared), CX w [] H s (fun _ _ _ => False) e s' → False) :
    PySem.W.WalkO q loose XP YP l.row.toRowW d [] (fun f vs => PySem.call f vs) := by
  refine Att.attach_call hn hdf fun w s₀ s₁ mg mb fa o pm cd doc a vs ns G Y ho hd hcd hmg hobj hints hlen hg => ?_
  have KX := hY w _ Y
  obtain ⟨fd, hb, hF⟩ := F w mg fa _ KX G.T.g hmg
  exact law_call KX G.T.g G.T.b G.T.builtins G.T.nolimit hg hobj hints (Nat.le_trans hlen hn2) hr hF hb (fun H hO hS => hsp w H a ns hlen hO hS) fun H e s' => hCX w H s₁ e s'
end L2
/- THE LAST THEOREM (shape; LID, My.* are yours):
   My.Adr: a structure of the addresses that your layer names (classes, functions); My.Txt K t: a structure (Prop) of the equations over K;
   My.txt_mk : {K} {implicit addresses ..} (e1 : nsIn K mainGlobals "law" = some (some (.ref f))) (e2 : K.lookup f = some ⟨oc, od, .func (fnOf "law" "law" params body scope dV kV doc pm an cdv ct), sl⟩) (e3 : codeIn K cdv "law" = true) .. : ∃ t, My.Txt K t
set_option maxRecDepth 100000 in
set_option maxHeartbeats 0 in
theorem PySem.Challenge.cw_LID_holds : PySem.Challenge.rw_LID.Holds := by
  w_on; o_law; k_head; (case hw => w_witness2)
  k_fill
  refine L2.walk_of (l := PySem.Challenge.rw_LID) (n := 63) (k := 40) (x := "script") (CX := fun w => ..) (sp := fun _ => My.sp_law) rfl (by decide) rfl ⟨rfl, by decide, by decide⟩ (fun w h Y => PySem.W.kIn_of Y) ?F ?S ?C
  case F =>
    intro w mg fa h KX G hmg
    have T : ∃ t, My.Txt (L2.KOf KX) t := by
      dsimp only [L2.KOf]                          -- K must stand as «<heap const> w.params» for k_is
      refine' My.txt_mk ?e1 ?e2 ?e3 ..
      (case e1 => PySem.W.k_is)                    -- in the order: a name -> its address -> its object -> its parts
      (case e2 => PySem.W.k_is)
      ..
    obtain ⟨t, T⟩ := T
    have e0 := hmg.symm.trans (PySem.W.mg_of KX G T.law)
    cases e0                                       -- fa is the law's own address
    exact ⟨_, fun s u => .of_eq rfl, fun base kb nb => My.law_fn T kb nb⟩     -- if «.of_eq rfl» comes too early: refine' ⟨_, ?b, fun base kb nb => My.law_fn T kb nb⟩; exact fun s u => .of_eq rfl
  case S => exact fun w H a ns hl hO hS => ..
  case C => exact ..
(the tactic k_is has no namespace: write k_is) -/
namespace L2
open PySem PySem.Spec PyProof.Rows
def defArgs (s : Stmt) : Arguments := match s with
  | .FunctionDef _ a _ _ _ _ _ _ _ _ => a
  | _ => { posonlyargs := [], args := [], vararg := none, kwonlyargs := [], kw_defaults := [], kwarg := none, defaults := [] }
def defBody (s : Stmt) : List Stmt := match s with
  | .FunctionDef _ _ b _ _ _ _ _ _ _ => b
  | _ => []
def defScope (s : Stmt) : Scope := match s with
  | .FunctionDef _ _ _ _ _ _ sc _ _ _ => sc
  | _ => { kind := .function, names := [], isGenerator := false, isCoroutine := false }
abbrev CX0 : CXT := fun _ _ _ _ _ _ => False
abbrev E0 : XK := fun _ _ _ => False
theorem pass0 {X : Cx} : Passes CX0 X E0 := fun _ _ _ _ _ _ _ h => h.elim
structure Fun (K : PySem.W.Frag) (x qual : Str) (st : Stmt) (f : Addr) (fd : FuncData) : Prop where
  ex : ∃ (oc : Value) (od : Option Addr) (kV doc pm : Value) (an : Option Addr) (cdv ct : Value) (osl : Array (Option Value)),
    fd = PySem.W.fnOf x qual (defArgs st) (defBody st) (defScope st) .none kV doc pm an cdv ct ∧ K.lookup f = some ⟨oc, od, .func fd, osl⟩ ∧ PySem.W.codeIn K cdv qual = true
  kp : PySem.W.keepIn K (.ref f) = true
section
variable {P : Program} {w : World} {K : PySem.W.Frag} {mg : Str → Option Value} {base : Heap}
theorem Fun.ok {x qual : Str} {st : Stmt} {f : Addr} {fd : FuncData} {N ps : List Str} {k : Nat} {sp : Sp} (F : Fun K x qual st f fd) (S : FnScope N ps (defScope st)) (len : ∀ vs H Q E, sp vs H Q E → vs.length = ps.length)
    (hbody : ∀ (cdv : Value) (A : Around) (outer : List Env) (s : Shared) (H : Hp) (vs : List V) (Q : VK) (E : XK), Room k (A.deeper (envOfC qual (defScope st) s.heap.objs.size f cdv)) → sp vs H Q E →
      ∃ t, PSs (cxOf CX0 P w K mg base N qual (defScope st) f cdv A outer s H E).nox (defBody st) t ∧ t { nx := fun _ H' => Q .non H', rt := Q } (start N vs) H) : FnOk P w K mg base CX0 (k + 1) f fd ps sp := by
  obtain ⟨oc, od, kV, doc, pm, an, cdv, ct, osl, rfl, lk, hcd⟩ := F.ex
  refine fn_of lk hcd S len fun A outer s H vs Q E hr hsp => ?_
  obtain ⟨t, h, q⟩ := hbody cdv A outer s H vs Q E hr hsp
  exact ⟨t, h.nox, q⟩
theorem Fun.binds {x qual : Str} {st : Stmt} {f : Addr} {fd : FuncData} {ps : List Str} (F : Fun K x qual st f fd)
    (h : ∀ (kV doc pm : Value) (an : Option Addr) (cdv ct : Value) (us : List Value), us.length = ps.length → bindArgs (PySem.W.fnOf x qual (defArgs st) (defBody st) (defScope st) .none kV doc pm an cdv ct) ⟨us, []⟩ = pure (ps.zip us)) : Binds K fd ps [] := by
  obtain ⟨oc, od, kV, doc, pm, an, cdv, ct, osl, rfl, lk, hcd⟩ := F.ex
  exact .all (h kV doc pm an cdv ct)
theorem fun_mk {x qual : Str} {st : Stmt} {f : Addr} {oc : Value} {od an : Option Addr} {osl : Array (Option Value)} {kV doc pm cdv ct : Value} (l : K.lookup f = some ⟨oc, od, .func (PySem.W.fnOf x qual (defArgs st) (defBody st) (defScope st) .none kV doc pm an cdv ct), osl⟩)
    (c : PySem.W.codeIn K cdv qual = true) (k : PySem.W.keepIn K (.ref f) = true) : Fun K x qual st f (PySem.W.fnOf x qual (defArgs st) (defBody st) (defScope st) .none kV doc pm an cdv ct) := ⟨⟨oc, od, kV, doc, pm, an, cdv, ct, osl, rfl, l, c⟩, k⟩
end
theorem small1000 {n : Nat} (h : n ≤ 1000) : n < sizeLine := Nat.lt_of_le_of_lt h (by decide)
section
variable {X : Cx}
theorem pv (i : Nat) {x : Str} {pos : Pos} (hN : X.N[i]? = some x := by rfl) (hv : Vis X.env.scope x := by first | exact Or.inl rfl | exact Or.inr (Or.inl rfl) | exact Or.inr (Or.inr rfl)) (hd : (x == ("__debug__" : Str)) = false := by decide)
    (hcd : (x == ("__classdict__" : Str)) = false := by decide) : PE X (.Name x pos) (tVar i) := pe_var hN hv hd hcd
end
theorem ite2 {c A B : Prop} [Decidable c] (h1 : c → A) (h2 : ¬ c → B) : if c then A else B := by
  by_cases h : c
  · rw [if_pos h]
    exact h1 h
  · rw [if_neg h]
    exact h2 h
def Same (H H' : Hp) : Prop := ∀ b o, H b = some o → H' b = some o
theorem Same.refl (H : Hp) : Same H H := fun _ _ h => h
theorem Same.trans {H H1 H2 : Hp} (a : Same H H1) (b : Same H1 H2) : Same H H2 := fun c o h => b c o (a c o h)
theorem Same.free {H H' : Hp} (e : Same H H') {l : Addr} (h : H' l = Option.none) : H l = Option.none := by
  cases q : H l with
  | none => rfl
  | some o =>
    rw [e l o q] at h
    cases h
theorem Same.seq {K : PySem.W.Frag} {H H' : Hp} {a : Addr} {xs : List V} (e : Same H H') (h : SqL K H a xs) : SqL K H' a xs := by
  rcases h with (h | ⟨o, h⟩) | h
  · exact .inl (.inl (e _ _ h))
  · exact .inl (.inr ⟨o, e _ _ h⟩)
  · exact .inr h
end L2
set_option maxHeartbeats 1000000
namespace Mx
theorem gcd_step {a b : Int} (hb : b ≠ 0) : Int.gcd b (a.fmod b) = Int.gcd a b := by
  have h : a.fmod b = a - b * (a.fdiv b) := by have := Int.mul_fdiv_add_fmod a b; omega
  rw [h, Int.gcd_comm b, Int.gcd_sub_mul_left_left]
theorem fmod_natAbs_lt {a b : Int} (ha : 0 ≤ a) (hb : 0 ≤ b) (h : b ≠ 0) : 0 ≤ a.fmod b ∧ a.fmod b < b :=
  ⟨Int.fmod_nonneg ha hb, Int.fmod_lt_of_pos a (by omega)⟩
theorem gcd_zero_iff {a b : Int} : Int.gcd a b = 0 ↔ a = 0 ∧ b = 0 := Int.gcd_eq_zero_iff
theorem exact_div {g x p : Int} (hg : g ≠ 0) (h : x = g * p) : x.fdiv g = p := by
  subst h; exact Int.mul_fdiv_cancel_left p hg
theorem dvd_cop {q p r : Int} (h : q ∣ p * r) (g : Int.gcd q p = 1) : q ∣ r := by
  have e := Int.gcd_mul_right_right_of_gcd_eq_one (k := r) g
  have e2 : Int.gcd q (p * r) = q.natAbs := Int.gcd_eq_natAbs_left h
  rw [e2] at e
  have d : (Int.gcd q r : Int) ∣ r := Int.gcd_dvd_right q r
  rw [← e] at d
  exact Int.natAbs_dvd.mp d
def GoodP (p q : Int) : Prop := (q = 0 ∧ p = 1) ∨ (0 < q ∧ Int.gcd p q = 1)
instance (p q : Int) : Decidable (GoodP p q) := by unfold GoodP; infer_instance
theorem GoodP.ne {p q : Int} (h : GoodP p q) : p ≠ 0 ∨ q ≠ 0 := by
  rcases h with ⟨_, h⟩ | ⟨h, _⟩ <;> omega
def npt (x y : Int) : Int × Int :=
  if y = 0 then (1, 0) else
  let g : Int := if y < 0 then -(Int.gcd x y : Int) else (Int.gcd x y : Int)
  (x.fdiv g, y.fdiv g)
theorem npt_spec {x y : Int} (h : x ≠ 0 ∨ y ≠ 0) : ∃ k, k ≠ 0 ∧ x = k * (npt x y).1 ∧ y = k * (npt x y).2 ∧ GoodP (npt x y).1 (npt x y).2 := by
  unfold npt
  by_cases hy : y = 0
  · subst hy
    simp only [if_true]
    exact ⟨x, by omega, by omega, by omega, .inl ⟨rfl, rfl⟩⟩
  · rw [if_neg hy]
    have hg : Int.gcd x y ≠ 0 := fun e => hy (gcd_zero_iff.mp e).2
    obtain ⟨p, hp⟩ : (Int.gcd x y : Int) ∣ x := Int.gcd_dvd_left x y
    obtain ⟨q, hq⟩ : (Int.gcd x y : Int) ∣ y := Int.gcd_dvd_right x y
    have hg' : (Int.gcd x y : Int) ≠ 0 := by omega
    have hc : Int.gcd p q = 1 := by
      have e : Int.gcd x y = Int.gcd ((Int.gcd x y : Int) * p) ((Int.gcd x y : Int) * q) := by rw [← hp, ← hq]
      rw [Int.gcd_mul_left] at e
      simp only [Int.natAbs_natCast] at e
      have : Int.gcd x y * 1 = Int.gcd x y * Int.gcd p q := by omega
      exact (Nat.eq_of_mul_eq_mul_left (by omega) this).symm
    have hq0 : q ≠ 0 := fun e => hy (by rw [hq, e]; simp)
    by_cases hn : y < 0
    · simp only [if_pos hn]
      refine ⟨-(Int.gcd x y : Int), by omega, ?_⟩
      have e1 : x.fdiv (-(Int.gcd x y : Int)) = -p := exact_div (by omega) (by rw [Int.neg_mul_neg]; exact hp)
      have e2 : y.fdiv (-(Int.gcd x y : Int)) = -q := exact_div (by omega) (by rw [Int.neg_mul_neg]; exact hq)
      rw [e1, e2]
      refine ⟨by rw [Int.neg_mul_neg]; exact hp, by rw [Int.neg_mul_neg]; exact hq, .inr ⟨?_, by rw [Int.neg_gcd, Int.gcd_neg]; exact hc⟩⟩
      have : ¬ 0 < q := fun hq1 => by
        have : 0 < (Int.gcd x y : Int) * q := Int.mul_pos (by omega) hq1
        omega
      omega
    · simp only [if_neg hn]
      refine ⟨(Int.gcd x y : Int), by omega, ?_⟩
      have e1 : x.fdiv (Int.gcd x y : Int) = p := exact_div (by omega) hp
      have e2 : y.fdiv (Int.gcd x y : Int) = q := exact_div (by omega) hq
      rw [e1, e2]
      refine ⟨hp, hq, .inr ⟨?_, hc⟩⟩
      have : ¬ q < 0 := fun hq1 => by
        have : (Int.gcd x y : Int) * q < 0 := Int.mul_neg_of_pos_of_neg (by omega) hq1
        omega
      omega
theorem good_unique {p q p' q' : Int} (h : GoodP p q) (h' : GoodP p' q') (e : p * q' = q * p') : p = p' ∧ q = q' := by
  rcases h with ⟨rfl, rfl⟩ | ⟨hq, hg⟩
  · rcases h' with ⟨rfl, rfl⟩ | ⟨hq', hg'⟩
    · exact ⟨rfl, rfl⟩
    · omega
  · rcases h' with ⟨rfl, rfl⟩ | ⟨hq', hg'⟩
    · omega
    · have d1 : q ∣ q' := by
        have : q ∣ p * q' := ⟨p', e⟩
        exact dvd_cop this (by rw [Int.gcd_comm]; exact hg)
      have d2 : q' ∣ q := by
        have : q' ∣ p' * q := ⟨p, by rw [Int.mul_comm p' q, ← e, Int.mul_comm]⟩
        exact dvd_cop this (by rw [Int.gcd_comm]; exact hg')
      have hqq : q = q' := Int.le_antisymm (Int.le_of_dvd hq' d1) (Int.le_of_dvd hq d2)
      subst hqq
      refine ⟨?_, rfl⟩
      rw [Int.mul_comm] at e
      exact Int.eq_of_mul_eq_mul_left (by omega) e
theorem npt_good {p q : Int} (h : GoodP p q) : npt p q = (p, q) := by
  obtain ⟨k, hk, e1, e2, g⟩ := npt_spec h.ne
  have : (npt p q).1 * q = (npt p q).2 * p := by
    apply Int.eq_of_mul_eq_mul_left hk
    generalize (npt p q).1 = p' at *
    generalize (npt p q).2 = q' at *
    subst e1 e2
    grind
  obtain ⟨a, b⟩ := good_unique g h this
  exact Prod.ext a b
theorem npt_self_iff {x y : Int} : npt x y = (x, y) ↔ GoodP x y := by
  refine ⟨fun e => ?_, npt_good⟩
  by_cases h : x ≠ 0 ∨ y ≠ 0
  · obtain ⟨k, hk, e1, e2, g⟩ := npt_spec h
    rw [e] at g; exact g
  · have hx : x = 0 := by omega
    have hy : y = 0 := by omega
    subst hx hy
    simp [npt] at e
def lpt (x y : Int) : Int × Int :=
  let g : Int := if y < 0 ∨ (y = 0 ∧ x < 0) then -(Int.gcd x y : Int) else (Int.gcd x y : Int)
  (x.fdiv g, y.fdiv g)
theorem lpt_eq {x y : Int} (h : x ≠ 0 ∨ y ≠ 0) : lpt x y = npt x y := by
  unfold lpt npt
  by_cases hy : y = 0
  · subst hy
    have hx : x ≠ 0 := by omega
    rw [Int.gcd_zero_right, if_pos rfl]
    show (x.fdiv (if (0 : Int) < 0 ∨ ((0 : Int) = 0 ∧ x < 0) then -((x.natAbs : Nat) : Int) else ((x.natAbs : Nat) : Int)), (0 : Int).fdiv (if (0 : Int) < 0 ∨ ((0 : Int) = 0 ∧ x < 0) then -((x.natAbs : Nat) : Int) else ((x.natAbs : Nat) : Int))) = _
    by_cases hn : x < 0
    · rw [if_pos (.inr ⟨rfl, hn⟩)]
      have : -((x.natAbs : Nat) : Int) = x := by omega
      rw [this, Int.fdiv_self hx, Int.zero_fdiv]
    · rw [if_neg (by omega)]
      have : ((x.natAbs : Nat) : Int) = x := by omega
      rw [this, Int.fdiv_self hx, Int.zero_fdiv]
  · rw [if_neg hy]
    by_cases hn : y < 0
    · simp [hn]
    · simp [hn, hy]
structure Ch where
  a : Int
  b : Int
  c : Int
  d : Int
  deriving DecidableEq
def Ch.det (m : Ch) : Int := m.a * m.d - m.b * m.c
def Ch.sc (k : Int) (m : Ch) : Ch := ⟨k * m.a, k * m.b, k * m.c, k * m.d⟩
def one4 : Ch := ⟨1, 0, 0, 1⟩
def g4 (m : Ch) : Int := (Int.gcd (Int.gcd (Int.gcd (Int.gcd 0 m.a : Int) m.b : Int) m.c : Int) m.d : Int)
def GoodC (m : Ch) : Prop := m.a * m.d ≠ m.b * m.c ∧ g4 m = 1 ∧ (0 < m.a ∨ (m.a = 0 ∧ 0 < m.b))
instance (m : Ch) : Decidable (GoodC m) := by unfold GoodC; infer_instance
theorem g4_nonneg (m : Ch) : 0 ≤ g4 m := by unfold g4; omega
theorem g4_dvd (m : Ch) : g4 m ∣ m.a ∧ g4 m ∣ m.b ∧ g4 m ∣ m.c ∧ g4 m ∣ m.d := by
  unfold g4
  have h1 := Int.gcd_dvd_left (Int.gcd (Int.gcd (Int.gcd 0 m.a : Int) m.b : Int) m.c : Int) m.d
  have h2 := Int.gcd_dvd_right (Int.gcd (Int.gcd (Int.gcd 0 m.a : Int) m.b : Int) m.c : Int) m.d
  have h3 := Int.gcd_dvd_left (Int.gcd (Int.gcd 0 m.a : Int) m.b : Int) m.c
  have h4 := Int.gcd_dvd_right (Int.gcd (Int.gcd 0 m.a : Int) m.b : Int) m.c
  have h5 := Int.gcd_dvd_left (Int.gcd 0 m.a : Int) m.b
  have h6 := Int.gcd_dvd_right (Int.gcd 0 m.a : Int) m.b
  have h7 := Int.gcd_dvd_right 0 m.a
  exact ⟨Int.dvd_trans (Int.dvd_trans (Int.dvd_trans h1 h3) h5) h7, Int.dvd_trans (Int.dvd_trans h1 h3) h6, Int.dvd_trans h1 h4, h2⟩
theorem dvd_g4 {k : Int} {m : Ch} (h1 : k ∣ m.a) (h2 : k ∣ m.b) (h3 : k ∣ m.c) (h4 : k ∣ m.d) : k ∣ g4 m := by
  unfold g4
  exact Int.dvd_coe_gcd (Int.dvd_coe_gcd (Int.dvd_coe_gcd (Int.dvd_coe_gcd (Int.dvd_zero k) h1) h2) h3) h4
def nch (m : Ch) : Ch :=
  let f : Int := if m.a ≠ 0 then m.a else m.b
  let g : Int := if f < 0 then -(g4 m) else g4 m
  ⟨m.a.fdiv g, m.b.fdiv g, m.c.fdiv g, m.d.fdiv g⟩
theorem g4_sc (k : Int) (m : Ch) : g4 (m.sc k) = k.natAbs * g4 m := by
  apply Int.dvd_antisymm (g4_nonneg _) (by have := g4_nonneg m; exact Int.mul_nonneg (by omega) this)
  · obtain ⟨h1, h2, h3, h4⟩ := g4_dvd (m.sc k)
    by_cases hk : k = 0
    · subst hk; simp [g4, Ch.sc]
    · -- g4 (sc k m) = k' * t, t divides all
      have hkd : (k.natAbs : Int) ∣ g4 (m.sc k) := dvd_g4 (Int.natAbs_dvd.mpr ⟨_, rfl⟩) (Int.natAbs_dvd.mpr ⟨_, rfl⟩) (Int.natAbs_dvd.mpr ⟨_, rfl⟩) (Int.natAbs_dvd.mpr ⟨_, rfl⟩)
      obtain ⟨t, ht⟩ := hkd
      rw [ht] at h1 h2 h3 h4 ⊢
      have cut : ∀ x, (k.natAbs : Int) * t ∣ k * x → t ∣ x := fun x h => by
        have h' : k * t ∣ k * x := by
          rcases Int.natAbs_eq k with e | e
          · rw [← e] at h; exact h
          · have e' : (k.natAbs : Int) = -k := by omega
            rw [e', Int.neg_mul] at h; exact Int.neg_dvd.mp h
        exact Int.dvd_of_mul_dvd_mul_left hk h'
      exact Int.mul_dvd_mul_left _ (dvd_g4 (cut _ h1) (cut _ h2) (cut _ h3) (cut _ h4))
  · obtain ⟨h1, h2, h3, h4⟩ := g4_dvd m
    have up : ∀ x, g4 m ∣ x → (k.natAbs : Int) * g4 m ∣ k * x := fun x h => by
      have h' : k * g4 m ∣ k * x := Int.mul_dvd_mul_left _ h
      rcases Int.natAbs_eq k with e | e
      · rw [← e]; exact h'
      · have e' : (k.natAbs : Int) = -k := by omega
        rw [e', Int.neg_mul]; exact Int.neg_dvd.mpr h'
    exact dvd_g4 (up _ h1) (up _ h2) (up _ h3) (up _ h4)
theorem nch_spec {m : Ch} (h : m.det ≠ 0) : ∃ k, k ≠ 0 ∧ m = (nch m).sc k ∧ GoodC (nch m) := by
  have hg : g4 m ≠ 0 := fun e => h (by
    obtain ⟨h1, h2, h3, h4⟩ := g4_dvd m
    rw [e] at h1 h2
    have e1 := Int.zero_dvd.mp h1
    have e2 := Int.zero_dvd.mp h2
    unfold Ch.det; rw [e1, e2]; simp)
  obtain ⟨⟨p, hp⟩, ⟨q, hq⟩, ⟨r, hr⟩, ⟨s, hs⟩⟩ := g4_dvd m
  have hn := g4_nonneg m
  have e4 : g4 ⟨p, q, r, s⟩ = 1 := by
    have e := g4_sc (g4 m) ⟨p, q, r, s⟩
    have e' : Ch.sc (g4 m) ⟨p, q, r, s⟩ = m := by
      cases m; simp only [Ch.sc, Ch.mk.injEq]; exact ⟨hp.symm, hq.symm, hr.symm, hs.symm⟩
    rw [e'] at e
    have e2 : ((g4 m).natAbs : Int) = g4 m := by omega
    rw [e2] at e
    have e3 : g4 m * 1 = g4 m * g4 ⟨p, q, r, s⟩ := by rw [Int.mul_one]; exact e
    exact (Int.eq_of_mul_eq_mul_left hg e3).symm
  have hab : m.a ≠ 0 ∨ m.b ≠ 0 := by
    by_cases ha : m.a = 0
    · by_cases hb : m.b = 0
      · exact absurd (by unfold Ch.det; rw [ha, hb]; simp) h
      · exact .inr hb
    · exact .inl ha
  have hgp : 0 < g4 m := by omega
  have sgn : ∀ x y : Int, x = g4 m * y → (0 < x ↔ 0 < y) ∧ (x = 0 ↔ y = 0) ∧ (x < 0 ↔ y < 0) := fun x y e => by
    subst e
    refine ⟨⟨fun h => Int.not_le.mp fun hy => by have := Int.mul_nonneg (a := g4 m) (by omega) (b := -y) (by omega); rw [Int.mul_neg] at this; omega, fun h => Int.mul_pos hgp h⟩, ⟨fun h => (Int.mul_eq_zero.mp h).resolve_left hg, fun h => by rw [h]; simp⟩, ⟨fun h => ?_, fun h => Int.mul_neg_of_pos_of_neg hgp h⟩⟩
    exact Int.not_le.mp fun hy => by have := Int.mul_nonneg (a := g4 m) (by omega) hy; omega
  obtain ⟨a1, a2, a3⟩ := sgn _ _ hp
  obtain ⟨b1, b2, b3⟩ := sgn _ _ hq
  have hd : p * s ≠ q * r := fun e => h (by
    unfold Ch.det; rw [hp, hq, hr, hs]
    generalize g4 m = g at *
    grind)
  unfold nch
  by_cases hf : (if m.a ≠ 0 then m.a else m.b) < 0
  · simp only [if_pos hf]
    refine ⟨-(g4 m), by omega, ?_⟩
    have ex : ∀ x y : Int, x = g4 m * y → x.fdiv (-(g4 m)) = -y := fun x y e => exact_div (by omega) (by rw [Int.neg_mul_neg]; exact e)
    rw [ex _ _ hp, ex _ _ hq, ex _ _ hr, ex _ _ hs]
    refine ⟨?_, by show (-p) * (-s) ≠ (-q) * (-r); rw [Int.neg_mul_neg, Int.neg_mul_neg]; exact hd, ?_, ?_⟩
    · cases m; simp only [Ch.sc, Ch.mk.injEq, Int.neg_mul_neg]; exact ⟨hp, hq, hr, hs⟩
    · have := g4_sc (-1) ⟨p, q, r, s⟩
      simp only [Ch.sc, Int.neg_mul, Int.one_mul] at this
      rw [this, e4]; rfl
    · show 0 < -p ∨ (-p = 0 ∧ 0 < -q)
      split at hf <;> omega
  · simp only [if_neg hf]
    refine ⟨g4 m, by omega, ?_⟩
    have ex : ∀ x y : Int, x = g4 m * y → x.fdiv (g4 m) = y := fun x y e => exact_div (by omega) e
    rw [ex _ _ hp, ex _ _ hq, ex _ _ hr, ex _ _ hs]
    refine ⟨by cases m; simp only [Ch.sc, Ch.mk.injEq]; exact ⟨hp, hq, hr, hs⟩, hd, e4, ?_⟩
    show 0 < p ∨ (p = 0 ∧ 0 < q)
    split at hf <;> omega
def Pr (m n : Ch) : Prop := ∃ j k : Int, j ≠ 0 ∧ k ≠ 0 ∧ m.sc j = n.sc k
theorem Pr.symm {m n : Ch} (h : Pr m n) : Pr n m := by obtain ⟨j, k, a, b, e⟩ := h; exact ⟨k, j, b, a, e.symm⟩
theorem sc_sc (j k : Int) (m : Ch) : (m.sc k).sc j = m.sc (j * k) := by simp [Ch.sc, Int.mul_assoc]
theorem Pr.trans {m n o : Ch} (h : Pr m n) (h' : Pr n o) : Pr m o := by
  obtain ⟨j, k, a, b, e⟩ := h
  obtain ⟨j', k', a', b', e'⟩ := h'
  refine ⟨j' * j, k * k', Int.mul_ne_zero a' a, Int.mul_ne_zero b b', ?_⟩
  rw [← sc_sc, e, ← sc_sc, sc_sc, Int.mul_comm, ← sc_sc, e']
theorem Pr.nch {m : Ch} (h : m.det ≠ 0) : Pr (Mx.nch m) m := by
  obtain ⟨k, hk, e, _⟩ := nch_spec h
  exact ⟨k, 1, hk, by decide, by rw [← e]; simp [Ch.sc]⟩
theorem goodC_unique {m n : Ch} (g : GoodC m) (g' : GoodC n) (h : Pr m n) : m = n := by
  obtain ⟨j, k, hj, hk, e⟩ := h
  have e1 := g4_sc j m
  have e2 := g4_sc k n
  rw [e, e2, g.2.1, g'.2.1] at e1
  have ejk : (j.natAbs : Int) = k.natAbs := by omega
  have ea := congrArg Ch.a e
  have eb := congrArg Ch.b e
  have ec := congrArg Ch.c e
  have ed := congrArg Ch.d e
  simp only [Ch.sc] at ea eb ec ed
  have hs : j = k ∨ j = -k := by omega
  rcases hs with rfl | rfl
  · cases m; cases n
    simp only [Ch.mk.injEq]
    exact ⟨Int.eq_of_mul_eq_mul_left hj ea, Int.eq_of_mul_eq_mul_left hj eb, Int.eq_of_mul_eq_mul_left hj ec, Int.eq_of_mul_eq_mul_left hj ed⟩
  · exfalso
    have ea' : n.a = -m.a := by
      have : k * n.a = k * (-m.a) := by rw [← ea, Int.neg_mul, Int.mul_neg]
      exact Int.eq_of_mul_eq_mul_left hk this
    have eb' : n.b = -m.b := by
      have : k * n.b = k * (-m.b) := by rw [← eb, Int.neg_mul, Int.mul_neg]
      exact Int.eq_of_mul_eq_mul_left hk this
    rcases g.2.2 with z | ⟨z1, z2⟩ <;> rcases g'.2.2 with y | ⟨y1, y2⟩ <;> omega
theorem Pr.det {m n : Ch} (h : Pr m n) (hm : m.det ≠ 0) : n.det ≠ 0 := by
  obtain ⟨j, k, hj, hk, e⟩ := h
  intro hn
  have e1 : (m.sc j).det = j * j * m.det := by simp only [Ch.det, Ch.sc]; grind
  have e2 : (n.sc k).det = k * k * n.det := by simp only [Ch.det, Ch.sc]; grind
  rw [e, e2, hn] at e1
  have : j * j * m.det ≠ 0 := Int.mul_ne_zero (Int.mul_ne_zero hj hj) hm
  omega
theorem nch_eq {m n : Ch} (hm : m.det ≠ 0) (h : Pr m n) : nch m = nch n := by
  have hn := h.det hm
  obtain ⟨_, _, _, g⟩ := nch_spec hm
  obtain ⟨_, _, _, g'⟩ := nch_spec hn
  exact goodC_unique g g' (((Pr.nch hm).trans h).trans (Pr.nch hn).symm)
theorem GoodC.det {m : Ch} (g : GoodC m) : m.det ≠ 0 := by have := g.1; unfold Ch.det; omega
theorem nch_good {m : Ch} (g : GoodC m) : nch m = m := by
  obtain ⟨_, _, _, g'⟩ := nch_spec g.det
  exact goodC_unique g' g (Pr.nch g.det)
theorem nch_goodC {m : Ch} (h : m.det ≠ 0) : GoodC (nch m) := (nch_spec h).choose_spec.2.2
theorem nch_self_iff {m : Ch} (h : m.det ≠ 0) : nch m = m ↔ GoodC m := ⟨fun e => by rw [← e]; exact nch_goodC h, nch_good⟩
def mul (m n : Ch) : Ch := ⟨n.a * m.a + n.b * m.c, n.a * m.b + n.b * m.d, n.c * m.a + n.d * m.c, n.c * m.b + n.d * m.d⟩
def adj (m : Ch) : Ch := ⟨m.d, -m.b, -m.c, m.a⟩
theorem det_mul (m n : Ch) : (mul m n).det = m.det * n.det := by simp only [Ch.det, mul]; grind
theorem det_adj (m : Ch) : (adj m).det = m.det := by simp only [Ch.det, adj]; grind
theorem mul_ne {m n : Ch} (hm : m.det ≠ 0) (hn : n.det ≠ 0) : (mul m n).det ≠ 0 := by rw [det_mul]; exact Int.mul_ne_zero hm hn
theorem mul_sc_left (k : Int) (m n : Ch) : mul (m.sc k) n = (mul m n).sc k := by simp only [mul, Ch.sc, Ch.mk.injEq]; refine ⟨?_, ?_, ?_, ?_⟩ <;> grind
theorem good_one : GoodC one4 := by decide
theorem one_mul (m : Ch) : mul one4 m = m := by cases m; simp only [mul, one4, Ch.mk.injEq]; refine ⟨?_, ?_, ?_, ?_⟩ <;> omega
def mv (m : Ch) (p : Int × Int) : Int × Int := npt (m.a * p.1 + m.b * p.2) (m.c * p.1 + m.d * p.2)
theorem first_pos {m : Ch} (h : m.det ≠ 0) : m.a ≠ 0 ∨ (m.a = 0 ∧ m.b ≠ 0) := by
  by_cases ha : m.a = 0
  · refine .inr ⟨ha, fun hb => h ?_⟩
    unfold Ch.det; rw [ha, hb]; simp
  · exact .inl ha
theorem exact_natAbs {x g p : Int} (hg : g ≠ 0) (h : x = g * p) : p.natAbs ≤ x.natAbs := by
  subst h
  rw [Int.natAbs_mul]
  have : 1 ≤ g.natAbs := by omega
  exact Nat.le_mul_of_pos_left _ this
theorem npt_le {x y : Int} (h : x ≠ 0 ∨ y ≠ 0) : (npt x y).1.natAbs ≤ x.natAbs ∧ (npt x y).2.natAbs ≤ y.natAbs := by
  obtain ⟨k, hk, e1, e2, _⟩ := npt_spec h
  exact ⟨exact_natAbs hk e1, exact_natAbs hk e2⟩
theorem nch_le {m : Ch} (h : m.det ≠ 0) : (nch m).a.natAbs ≤ m.a.natAbs ∧ (nch m).b.natAbs ≤ m.b.natAbs ∧ (nch m).c.natAbs ≤ m.c.natAbs ∧ (nch m).d.natAbs ≤ m.d.natAbs := by
  obtain ⟨k, hk, e, _⟩ := nch_spec h
  have ea := congrArg Ch.a e
  have eb := congrArg Ch.b e
  have ec := congrArg Ch.c e
  have ed := congrArg Ch.d e
  exact ⟨exact_natAbs hk ea, exact_natAbs hk eb, exact_natAbs hk ec, exact_natAbs hk ed⟩
theorem g4_ne {m : Ch} (h : m.det ≠ 0) : g4 m ≠ 0 := fun e => h (by
  obtain ⟨h1, h2, h3, h4⟩ := g4_dvd m
  rw [e] at h1 h2
  have e1 := Int.zero_dvd.mp h1
  have e2 := Int.zero_dvd.mp h2
  unfold Ch.det; rw [e1, e2]; simp)
end Mx
namespace Mx
theorem pigeon {α : Type} [DecidableEq α] : ∀ (L : List α) (n : Nat) (f : Nat → α), (∀ i j, i < n → j < n → f i = f j → i = j) → L.length < n → ∃ i, i < n ∧ f i ∉ L
  | [], n, f, _, h => ⟨0, by simpa using h, by simp⟩
  | x :: L, n, f, inj, h => by
    by_cases hx : ∃ k, k < n ∧ f k = x
    · obtain ⟨k, hk, e⟩ := hx
      have hn : 0 < n := by omega
      obtain ⟨i, hi, hi'⟩ := pigeon L (n - 1) (fun i => f (if i < k then i else i + 1)) (fun i j hi hj e => by
        have := inj _ _ (by split <;> omega) (by split <;> omega) e
        split at this <;> split at this <;> omega) (by simp only [List.length_cons] at h; omega)
      refine ⟨if i < k then i else i + 1, by split <;> omega, fun hm => ?_⟩
      rcases List.mem_cons.mp hm with z | z
      · have := inj _ _ (by split <;> omega) hk (z.trans e.symm)
        split at this <;> omega
      · exact hi' z
    · obtain ⟨i, hi, hi'⟩ := pigeon L n f inj (by simp only [List.length_cons] at h; omega)
      refine ⟨i, hi, fun hm => ?_⟩
      rcases List.mem_cons.mp hm with z | z
      · exact hx ⟨i, hi, z⟩
      · exact hi' z
theorem npt_inj {x y b : Int} (hb : b ≠ 0) (e : npt x b = npt y b) : x = y := by
  obtain ⟨k, hk, e1, e2, _⟩ := npt_spec (x := x) (y := b) (.inr hb)
  obtain ⟨k', hk', e1', e2', _⟩ := npt_spec (x := y) (y := b) (.inr hb)
  rw [← e] at e1' e2'
  have hq : (npt x b).2 ≠ 0 := fun z => hb (by rw [e2, z]; simp)
  have : k = k' := by
    have : k * (npt x b).2 = k' * (npt x b).2 := by rw [← e2, ← e2']
    exact Int.eq_of_mul_eq_mul_right hq this
  rw [e1, e1', this]
end Mx
namespace Mx
theorem det_one : one4.det ≠ 0 := by decide
end Mx
namespace Mx
theorem nch_one_of {m : Ch} (h : m.det ≠ 0) (p : Pr m one4) : nch m = one4 := by
  rw [nch_eq h p, nch_good good_one]
end Mx
namespace Mx
def mpow (s : Ch) : Nat → Ch
  | 0 => one4
  | n + 1 => mul (mpow s n) s
theorem mpow_det {s : Ch} (h : s.det ≠ 0) : ∀ n, (mpow s n).det ≠ 0
  | 0 => det_one
  | n + 1 => mul_ne (mpow_det h n) h
def pw (m : Ch) (t : Int) : Ch := nch (mpow (if t < 0 then nch (adj m) else m) t.natAbs)
end Mx
namespace Mx
def gap (x y : Int × Int) : Int := x.1 * y.2 - x.2 * y.1
theorem gap_zero {x y : Int × Int} (hx : GoodP x.1 x.2) (hy : GoodP y.1 y.2) : gap x y = 0 ↔ x = y := by
  unfold gap
  constructor
  · intro h
    obtain ⟨a, b⟩ := good_unique hx hy (by omega)
    exact Prod.ext a b
  · rintro rfl
    rw [Int.mul_comm]; omega
theorem gap_ne {x y : Int × Int} (hx : GoodP x.1 x.2) (hy : GoodP y.1 y.2) (h : x ≠ y) : gap x y ≠ 0 := fun e => h ((gap_zero hx hy).mp e)
def base3 (p q r : Int × Int) : Ch := ⟨q.2 * gap r p, -q.1 * gap r p, p.2 * gap r q, -p.1 * gap r q⟩
theorem det_base (p q r : Int × Int) : (base3 p q r).det = gap r p * gap r q * gap q p := by
  simp only [Ch.det, base3, gap]; grind
theorem base_ne {p q r : Int × Int} (gp : GoodP p.1 p.2) (gq : GoodP q.1 q.2) (gr : GoodP r.1 r.2) (h1 : p ≠ q) (h2 : p ≠ r) (h3 : q ≠ r) : (base3 p q r).det ≠ 0 := by
  rw [det_base]
  exact Int.mul_ne_zero (Int.mul_ne_zero (gap_ne gr gp h2.symm) (gap_ne gr gq h3.symm)) (gap_ne gq gp h1.symm)
section
variable {p q r : Int × Int} (gp : GoodP p.1 p.2) (gq : GoodP q.1 q.2) (gr : GoodP r.1 r.2) (h1 : p ≠ q) (h2 : p ≠ r) (h3 : q ≠ r)
include gp gq gr h1 h2 h3
end
def told3 (p q r p' q' r' : Int × Int) : Ch := nch (mul (nch (base3 p q r)) (nch (adj (nch (base3 p' q' r')))))
section
variable {p q r p' q' r' : Int × Int} (gp : GoodP p.1 p.2) (gq : GoodP q.1 q.2) (gr : GoodP r.1 r.2) (h1 : p ≠ q) (h2 : p ≠ r) (h3 : q ≠ r)
  (gp' : GoodP p'.1 p'.2) (gq' : GoodP q'.1 q'.2) (gr' : GoodP r'.1 r'.2) (h1' : p' ≠ q') (h2' : p' ≠ r') (h3' : q' ≠ r')
include gp gq gr h1 h2 h3 gp' gq' gr' h1' h2' h3'
theorem told_good : GoodC (told3 p q r p' q' r') := by
  have d1 := (nch_goodC (base_ne gp gq gr h1 h2 h3)).det
  have d2 := (nch_goodC (base_ne gp' gq' gr' h1' h2' h3')).det
  have d3 : (adj (nch (base3 p' q' r'))).det ≠ 0 := by rw [det_adj]; exact d2
  exact nch_goodC (mul_ne d1 (nch_goodC d3).det)
end
end Mx
namespace Mx
def Ch.tr (m : Ch) : Int := m.a + m.d
def lu (t d : Int) : Nat → Int
  | 0 => 0
  | 1 => 1
  | n + 2 => t * lu t d (n + 1) - d * lu t d n
theorem mpow_lu (s : Ch) : ∀ n, mpow s (n + 1) = ⟨lu s.tr s.det (n + 1) * s.a - s.det * lu s.tr s.det n, lu s.tr s.det (n + 1) * s.b, lu s.tr s.det (n + 1) * s.c, lu s.tr s.det (n + 1) * s.d - s.det * lu s.tr s.det n⟩
  | 0 => by
    show mul one4 s = _
    rw [one_mul]
    cases s
    simp [lu]
  | n + 1 => by
    show mul (mpow s (n + 1)) s = _
    rw [mpow_lu s n]
    show _ = Ch.mk ((s.tr * lu s.tr s.det (n + 1) - s.det * lu s.tr s.det n) * s.a - s.det * lu s.tr s.det (n + 1)) _ _ _
    have e : lu s.tr s.det (n + 1 + 1) = s.tr * lu s.tr s.det (n + 1) - s.det * lu s.tr s.det n := rfl
    rw [e]
    generalize lu s.tr s.det (n + 1) = u
    generalize lu s.tr s.det n = v
    simp only [mul, Ch.tr, Ch.det, Ch.mk.injEq]
    refine ⟨by grind, by grind, by grind, by grind⟩
def Sca (m : Ch) : Prop := m.b = 0 ∧ m.c = 0 ∧ m.a = m.d
instance (m : Ch) : Decidable (Sca m) := by unfold Sca; infer_instance
theorem sca_iff {m : Ch} (h : m.det ≠ 0) : nch m = one4 ↔ Sca m := by
  constructor
  · intro e
    obtain ⟨k, hk, em, _⟩ := nch_spec h
    rw [e] at em
    have h1 := congrArg Ch.a em
    have h2 := congrArg Ch.b em
    have h3 := congrArg Ch.c em
    have h4 := congrArg Ch.d em
    simp only [Ch.sc, one4] at h1 h2 h3 h4
    exact ⟨by omega, by omega, by omega⟩
  · rintro ⟨hb, hc, had⟩
    refine nch_one_of h ?_
    have ha : m.a ≠ 0 := fun z => h (by unfold Ch.det; rw [z, hb]; simp)
    refine ⟨1, m.a, by decide, ha, ?_⟩
    cases m
    simp only [Ch.sc, one4, Ch.mk.injEq] at *
    exact ⟨by omega, by omega, by omega, by omega⟩
theorem sca_pow {s : Ch} (n : Nat) : Sca (mpow s n) ↔ n = 0 ∨ Sca s ∨ lu s.tr s.det n = 0 := by
  cases n with
  | zero => exact ⟨fun _ => .inl rfl, fun _ => (by decide : Sca one4)⟩
  | succ n =>
    rw [mpow_lu]
    unfold Sca
    simp only
    generalize lu s.tr s.det (n + 1) = u
    generalize lu s.tr s.det n = v
    constructor
    · rintro ⟨h1, h2, h3⟩
      by_cases hu : u = 0
      · exact .inr (.inr hu)
      · refine .inr (.inl ⟨(Int.mul_eq_zero.mp h1).resolve_left hu, (Int.mul_eq_zero.mp h2).resolve_left hu, ?_⟩)
        exact Int.eq_of_mul_eq_mul_left hu (by omega)
    · rintro (h | ⟨h1, h2, h3⟩ | h)
      · omega
      · rw [h1, h2, h3]; simp
      · rw [h]; simp
def ab (p q : Int) : Nat → Int × Int
  | 0 => (1, 1)
  | k + 1 => (p * (ab p q k).2 - q * (ab p q k).1, p * (ab p q k).2 - q * (ab p q k).1 - q * (ab p q k).2)
theorem lu_ab (t d : Int) : ∀ k, lu t d (2 * k + 1) = (ab (t * t) d k).1 ∧ lu t d (2 * k + 2) = t * (ab (t * t) d k).2
  | 0 => by simp [lu, ab]
  | k + 1 => by
    obtain ⟨e1, e2⟩ := lu_ab t d k
    have f1 : lu t d (2 * (k + 1) + 1) = t * lu t d (2 * k + 2) - d * lu t d (2 * k + 1) := rfl
    have f2 : lu t d (2 * (k + 1) + 2) = t * lu t d (2 * (k + 1) + 1) - d * lu t d (2 * k + 2) := rfl
    rw [f2, f1, e1, e2]
    simp only [ab]
    generalize (ab (t * t) d k).1 = x
    generalize (ab (t * t) d k).2 = y
    exact ⟨by grind, by grind⟩
theorem ab_sc (g p q : Int) : ∀ k, ab (g * p) (g * q) k = (g ^ k * (ab p q k).1, g ^ k * (ab p q k).2)
  | 0 => by simp [ab]
  | k + 1 => by
    simp only [ab, ab_sc g p q k, Int.pow_succ]
    generalize (ab p q k).1 = x
    generalize (ab p q k).2 = y
    generalize g ^ k = z
    rw [Prod.mk.injEq]
    exact ⟨by grind, by grind⟩
theorem ab_mod (p q : Int) : ∀ k, q ∣ (ab p q k).1 - p ^ k ∧ q ∣ (ab p q k).2 - p ^ k
  | 0 => by simp [ab]
  | k + 1 => by
    obtain ⟨⟨x, hx⟩, ⟨y, hy⟩⟩ := ab_mod p q k
    simp only [ab, Int.pow_succ]
    have e1 : (ab p q k).1 = p ^ k + q * x := by omega
    have e2 : (ab p q k).2 = p ^ k + q * y := by omega
    rw [e1, e2]
    generalize p ^ k = z
    exact ⟨⟨p * y - z - q * x, by grind⟩, ⟨p * y - z - q * x - z - q * y, by grind⟩⟩
theorem cop_pow {p q : Int} (h : Int.gcd q p = 1) : ∀ k, q ∣ p ^ k → q ∣ 1
  | 0, e => by simpa using e
  | k + 1, e => by
    rw [Int.pow_succ, Int.mul_comm] at e
    exact cop_pow h k (dvd_cop e h)
theorem lu_whole {t d : Int} (hd : d ≠ 0) (ht : t ≠ 0) {n : Nat} (hn : n ≠ 0) (h : lu t d n = 0) : ∃ r, t * t = r * d := by
  obtain ⟨g, hg⟩ : ∃ g : Int, g = (Int.gcd (t * t) d : Int) := ⟨_, rfl⟩
  have g0 : g ≠ 0 := fun z => by
    rw [hg] at z
    have : Int.gcd (t * t) d = 0 := by omega
    exact hd (gcd_zero_iff.mp this).2
  obtain ⟨p, hp⟩ : g ∣ t * t := by rw [hg]; exact Int.gcd_dvd_left _ _
  obtain ⟨q, hq⟩ : g ∣ d := by rw [hg]; exact Int.gcd_dvd_right _ _
  have cop : Int.gcd q p = 1 := by
    have e : Int.gcd (t * t) d = Int.gcd (g * p) (g * q) := by rw [← hp, ← hq]
    rw [Int.gcd_mul_left] at e
    have e2 : g.natAbs = Int.gcd (t * t) d := by rw [hg]; simp
    rw [e2] at e
    have e3 : Int.gcd (t * t) d * 1 = Int.gcd (t * t) d * Int.gcd p q := by omega
    have := Nat.eq_of_mul_eq_mul_left (by omega) e3
    rw [Int.gcd_comm]; omega
  have q1 : q ∣ 1 := by
    obtain ⟨k, hk⟩ : ∃ k, n = 2 * k + 1 ∨ n = 2 * k + 2 := ⟨(n - 1) / 2, by omega⟩
    obtain ⟨e1, e2⟩ := lu_ab t d k
    obtain ⟨m1, m2⟩ := ab_mod p q k
    rw [hp, hq, ab_sc] at e1 e2
    simp only at e1 e2
    rcases hk with z | z
    · rw [z, hq, e1] at h
      have h0 : (ab p q k).1 = 0 := (Int.mul_eq_zero.mp h).resolve_left (Int.pow_ne_zero g0)
      rw [h0] at m1
      exact cop_pow cop k (by have := Int.dvd_neg.mpr m1; simpa using this)
    · rw [z, hq, e2] at h
      have h1 := (Int.mul_eq_zero.mp h).resolve_left ht
      have h0 : (ab p q k).2 = 0 := (Int.mul_eq_zero.mp h1).resolve_left (Int.pow_ne_zero g0)
      rw [h0] at m2
      exact cop_pow cop k (by have := Int.dvd_neg.mpr m2; simpa using this)
  obtain ⟨c, hc⟩ := q1
  refine ⟨p * c, ?_⟩
  rw [hp, hq]
  have : p * c * (g * q) = g * p * (q * c) := by grind
  rw [this, ← hc]; omega
theorem ab_big {r : Int} (h : 4 ≤ r) : ∀ k, 0 < (ab r 1 k).2 ∧ (ab r 1 k).2 ≤ (ab r 1 k).1 ∧ (ab r 1 k).1 < 2 * (ab r 1 k).2
  | 0 => by simp [ab]
  | k + 1 => by
    obtain ⟨a, b, c⟩ := ab_big h k
    simp only [ab]
    generalize (ab r 1 k).1 = x at *
    generalize (ab r 1 k).2 = y at *
    have hm : 4 * y ≤ r * y := Int.mul_le_mul_of_nonneg_right h (by omega)
    generalize r * y = z at *
    omega
theorem ab_neg {r : Int} (h : r < 0) : ∀ k, (0 < (ab r 1 k).1 ∧ 0 < (ab r 1 k).2) ∨ ((ab r 1 k).1 < 0 ∧ (ab r 1 k).2 < 0)
  | 0 => by simp [ab]
  | k + 1 => by
    simp only [ab]
    rcases ab_neg h k with ⟨a, b⟩ | ⟨a, b⟩
    · generalize (ab r 1 k).1 = x at *
      generalize (ab r 1 k).2 = y at *
      have hm : r * y < 0 := Int.mul_neg_of_neg_of_pos h b
      generalize r * y = z at *
      right; omega
    · generalize (ab r 1 k).1 = x at *
      generalize (ab r 1 k).2 = y at *
      have hm : 0 < r * y := Int.mul_pos_of_neg_of_neg h b
      generalize r * y = z at *
      left; omega
theorem lu_cases {t d : Int} (hd : d ≠ 0) {n : Nat} (hn : n ≠ 0) (h : lu t d n = 0) : t = 0 ∨ t * t = d ∨ t * t = 2 * d ∨ t * t = 3 * d := by
  by_cases ht : t = 0
  · exact .inl ht
  · obtain ⟨r, hr⟩ := lu_whole hd ht hn h
    have hr0 : r ≠ 0 := fun z => Int.mul_ne_zero ht ht (by rw [hr, z]; simp)
    obtain ⟨k, hk⟩ : ∃ k, n = 2 * k + 1 ∨ n = 2 * k + 2 := ⟨(n - 1) / 2, by omega⟩
    obtain ⟨e1, e2⟩ := lu_ab t d k
    have es : ab (t * t) d k = (d ^ k * (ab r 1 k).1, d ^ k * (ab r 1 k).2) := by
      have := ab_sc d r 1 k
      rw [Int.mul_one] at this
      rw [hr, Int.mul_comm r d]; exact this
    rw [es] at e1 e2
    simp only at e1 e2
    have dk : d ^ k ≠ 0 := Int.pow_ne_zero hd
    have zero : (ab r 1 k).1 = 0 ∨ (ab r 1 k).2 = 0 := by
      rcases hk with z | z
      · rw [z, e1] at h
        exact .inl ((Int.mul_eq_zero.mp h).resolve_left dk)
      · rw [z, e2] at h
        exact .inr ((Int.mul_eq_zero.mp ((Int.mul_eq_zero.mp h).resolve_left ht)).resolve_left dk)
    have r1 : ¬ 4 ≤ r := fun z => by have := ab_big z k; omega
    have r2 : ¬ r < 0 := fun z => by have := ab_neg z k; omega
    have : r = 1 ∨ r = 2 ∨ r = 3 := by omega
    rcases this with z | z | z <;> rw [z] at hr <;> omega
def ord (m : Ch) : Option Nat :=
  if Sca m then some 1 else if m.tr = 0 then some 2 else if m.tr * m.tr = m.det then some 3 else if m.tr * m.tr = 2 * m.det then some 4 else if m.tr * m.tr = 3 * m.det then some 6 else none
theorem lu_mult {t d : Int} {j : Nat} {c : Int} (hj : 0 < j) (hc : c ≠ 0) (step : ∀ n, lu t d (n + j) = c * lu t d n) (low : ∀ i, 0 < i → i < j → lu t d i ≠ 0) (n : Nat) : lu t d n = 0 ↔ j ∣ n := by
  induction n using Nat.strongRecOn with
  | ind n ih =>
    by_cases h : n < j
    · by_cases h0 : n = 0
      · subst h0; simp [lu]
      · constructor
        · intro z; exact absurd z (low n (by omega) h)
        · intro z
          have := Nat.le_of_dvd (by omega) z
          omega
    · obtain ⟨m, rfl⟩ : ∃ m, n = m + j := ⟨n - j, by omega⟩
      rw [step m]
      constructor
      · intro z
        have := (ih m (by omega)).mp ((Int.mul_eq_zero.mp z).resolve_left hc)
        exact Nat.dvd_add this (Nat.dvd_refl _)
      · intro z
        have : j ∣ m := (Nat.dvd_add_left (Nat.dvd_refl j)).mp z
        rw [(ih m (by omega)).mpr this]; simp
theorem lu_step (t d : Int) (n : Nat) : lu t d (n + 2) = t * lu t d (n + 1) - d * lu t d n := rfl
theorem ord_pow {m : Ch} (h : m.det ≠ 0) (n : Nat) : nch (mpow m n) = one4 ↔ (match ord m with | some k => k ∣ n | none => n = 0) := by
  rw [sca_iff (mpow_det h n), sca_pow]
  unfold ord
  by_cases hs : Sca m
  · rw [if_pos hs]
    exact ⟨fun _ => Nat.one_dvd _, fun _ => .inr (.inl hs)⟩
  rw [if_neg hs]
  have drop : (n = 0 ∨ Sca m ∨ lu m.tr m.det n = 0) ↔ lu m.tr m.det n = 0 := by
    constructor
    · rintro (z | z | z)
      · subst z; rfl
      · exact absurd z hs
      · exact z
    · exact fun z => .inr (.inr z)
  rw [drop]
  generalize m.tr = t
  generalize m.det = d at *
  by_cases h2 : t = 0
  · subst h2
    rw [if_pos rfl]
    refine lu_mult (c := -d) (by decide) (by omega) (fun n => ?_) (fun i h1 h2 => ?_) n
    · rw [lu_step]; grind
    · have : i = 1 := by omega
      subst this; simp [lu]
  rw [if_neg h2]
  by_cases h3 : t * t = d
  · rw [if_pos h3]
    refine lu_mult (c := -(d * t)) (by decide) (by have := Int.mul_ne_zero h h2; omega) (fun n => ?_) (fun i l1 l2 => ?_) n
    · rw [lu_step t d (n + 1), lu_step t d n]; grind
    · have : i = 1 ∨ i = 2 := by omega
      rcases this with rfl | rfl
      · simp [lu]
      · simpa [lu] using h2
  rw [if_neg h3]
  by_cases h4 : t * t = 2 * d
  · rw [if_pos h4]
    refine lu_mult (c := -(d * d)) (by decide) (by have := Int.mul_ne_zero h h; omega) (fun n => ?_) (fun i l1 l2 => ?_) n
    · rw [lu_step t d (n + 2), lu_step t d (n + 1), lu_step t d n]; grind
    · have : i = 1 ∨ i = 2 ∨ i = 3 := by omega
      rcases this with rfl | rfl | rfl
      · simp [lu]
      · simpa [lu] using h2
      · simp [lu]; omega
  rw [if_neg h4]
  by_cases h6 : t * t = 3 * d
  · rw [if_pos h6]
    have e4 : t * (t * t - d) - d * t = d * t := by grind
    have dt := Int.mul_ne_zero h h2
    have dd := Int.mul_ne_zero h h
    refine lu_mult (c := -(d * d * d)) (by decide) (by have := Int.mul_ne_zero dd h; omega) (fun n => ?_) (fun i l1 l2 => ?_) n
    · rw [lu_step t d (n + 4), lu_step t d (n + 3), lu_step t d (n + 2), lu_step t d (n + 1), lu_step t d n]; grind
    · have : i = 1 ∨ i = 2 ∨ i = 3 ∨ i = 4 ∨ i = 5 := by omega
      rcases this with rfl | rfl | rfl | rfl | rfl
      · simp [lu]
      · simpa [lu] using h2
      · simp [lu]; omega
      · have : lu t d 4 = d * t := by simp only [lu]; grind
        rw [this]; exact dt
      · have : lu t d 5 = d * d := by simp only [lu]; grind
        rw [this]; exact dd
  rw [if_neg h6]
  constructor
  · intro z
    refine Classical.byContradiction fun hn => ?_
    rcases lu_cases h hn z with y | y | y | y
    · exact h2 y
    · exact h3 y
    · exact h4 y
    · exact h6 y
  · intro z; subst z; rfl
theorem ord_mem {m : Ch} {k : Nat} (h : ord m = some k) : k = 1 ∨ k = 2 ∨ k = 3 ∨ k = 4 ∨ k = 6 := by
  unfold ord at h
  split at h
  · cases h; simp
  · split at h
    · cases h; simp
    · split at h
      · cases h; simp
      · split at h
        · cases h; simp
        · split at h
          · cases h; simp
          · cases h
end Mx
namespace Mx
def cr (p q r x : Int × Int) : Int × Int := mv (nch (base3 p q r)) x
def fo (p q r n : Int × Int) : Int × Int := mv (nch (adj (nch (base3 p q r)))) n
structure Un3 (p q r : Int × Int) : Prop where
  gp : GoodP p.1 p.2
  gq : GoodP q.1 q.2
  gr : GoodP r.1 r.2
  pq : p ≠ q
  pr : p ≠ r
  qr : q ≠ r
theorem Un3.det {p q r : Int × Int} (h : Un3 p q r) : (base3 p q r).det ≠ 0 := base_ne h.gp h.gq h.gr h.pq h.pr h.qr
structure Un4 (p q r x : Int × Int) : Prop extends Un3 p q r where
  gx : GoodP x.1 x.2
  xp : x ≠ p
  xq : x ≠ q
  xr : x ≠ r
section
variable {p q r x : Int × Int} (h : Un4 p q r x)
include h
end
end Mx
namespace Mx
theorem pw_nat (m : Ch) (n : Nat) : pw m (n : Int) = nch (mpow m n) := by
  unfold pw
  rw [if_neg (by omega)]
  simp
theorem pw_one_iff {m : Ch} (g : GoodC m) (n : Nat) : pw m (n : Int) = one4 ↔ (match ord m with | some k => k ∣ n | none => n = 0) := by
  rw [pw_nat]; exact ord_pow g.det n
def tn : List Nat := [1, 2, 3, 4, 6]
theorem tn_at {i n : Nat} (h : tn[i]? = some n) : n = 1 ∨ n = 2 ∨ n = 3 ∨ n = 4 ∨ n = 6 := by
  have := List.mem_of_getElem? h
  simpa [tn] using this
theorem turn_here {m : Ch} (g : GoodC m) {i n : Nat} (h : tn[i]? = some n) (hall : ∀ j n' : Nat, j < i → tn[j]? = some n' → pw m (n' : Int) ≠ one4) (e : pw m (n : Int) = one4) : ord m = some n := by
  have hp := (pw_one_iff g n).mp e
  cases ho : ord m with
  | none =>
    rw [ho] at hp
    have := tn_at h
    simp only at hp
    omega
  | some k =>
    rw [ho] at hp
    simp only at hp
    have hk := ord_mem ho
    have hn := tn_at h
    have hle := Nat.le_of_dvd (by omega) hp
    by_cases he : k = n
    · rw [he]
    · exfalso
      have hself : pw m (k : Int) = one4 := (pw_one_iff g k).mpr (by rw [ho]; exact Nat.dvd_refl k)
      have hi : i < 5 := by
        have := (List.getElem?_eq_some_iff.mp h).1
        simpa [tn] using this
      have key : ∃ j, j < i ∧ tn[j]? = some k := by
        have hlt : k < n := by omega
        match i, hi, h with
        | 0, _, h => simp [tn] at h; omega
        | 1, _, h => simp [tn] at h; exact ⟨0, by omega, by simp [tn]; omega⟩
        | 2, _, h =>
          simp [tn] at h
          have : k = 1 ∨ k = 2 := by omega
          rcases this with rfl | rfl
          · exact ⟨0, by omega, rfl⟩
          · exact ⟨1, by omega, rfl⟩
        | 3, _, h =>
          simp [tn] at h
          have : k = 1 ∨ k = 2 ∨ k = 3 := by omega
          rcases this with rfl | rfl | rfl
          · exact ⟨0, by omega, rfl⟩
          · exact ⟨1, by omega, rfl⟩
          · exact ⟨2, by omega, rfl⟩
        | 4, _, h =>
          simp [tn] at h
          have : k = 1 ∨ k = 2 ∨ k = 3 ∨ k = 4 := by omega
          rcases this with rfl | rfl | rfl | rfl
          · exact ⟨0, by omega, rfl⟩
          · exact ⟨1, by omega, rfl⟩
          · exact ⟨2, by omega, rfl⟩
          · exact ⟨3, by omega, rfl⟩
      obtain ⟨j, hj, ej⟩ := key
      exact hall j k hj ej hself
theorem turn_none {m : Ch} (g : GoodC m) (hall : ∀ j n' : Nat, j < 5 → tn[j]? = some n' → pw m (n' : Int) ≠ one4) : ord m = none := by
  cases ho : ord m with
  | none => rfl
  | some k =>
    exfalso
    have hself : pw m (k : Int) = one4 := (pw_one_iff g k).mpr (by rw [ho]; exact Nat.dvd_refl k)
    rcases ord_mem ho with rfl | rfl | rfl | rfl | rfl
    · exact hall 0 _ (by omega) rfl hself
    · exact hall 1 _ (by omega) rfl hself
    · exact hall 2 _ (by omega) rfl hself
    · exact hall 3 _ (by omega) rfl hself
    · exact hall 4 _ (by omega) rfl hself
def ft (m : Ch) : Ch := if m.b ≠ 0 then nch ⟨m.b, 0, m.d - m.a, -m.b⟩ else if m.c ≠ 0 then nch ⟨m.c, m.d - m.a, 0, -m.c⟩ else ⟨0, 1, 1, 0⟩
theorem tr_nch {m : Ch} (d : m.det ≠ 0) (t : m.tr = 0) : (nch m).tr = 0 := by
  obtain ⟨k, hk, em, _⟩ := nch_spec d
  have h1 := congrArg Ch.a em
  have h2 := congrArg Ch.d em
  simp only [Ch.sc] at h1 h2
  unfold Ch.tr at *
  have : k * ((nch m).a + (nch m).d) = 0 := by rw [Int.mul_add]; omega
  exact (Int.mul_eq_zero.mp this).resolve_left hk
theorem ft_ok {m : Ch} (g : GoodC m) : GoodC (ft m) ∧ (ft m).tr = 0 ∧ (mul (ft m) m).tr = 0 := by
  have prod : ∀ x : Ch, x.det ≠ 0 → (mul x m).tr = 0 → (mul (nch x) m).tr = 0 := fun x dx t => by
    obtain ⟨k, hk, em, _⟩ := nch_spec dx
    have e : mul x m = (mul (nch x) m).sc k := by
      have : mul x m = mul ((nch x).sc k) m := by rw [← em]
      rw [this, mul_sc_left]
    rw [e] at t
    have : k * (mul (nch x) m).tr = 0 := by
      rw [← t]; simp only [Ch.tr, Ch.sc]; grind
    exact (Int.mul_eq_zero.mp this).resolve_left hk
  unfold ft
  by_cases hb : m.b ≠ 0
  · rw [if_pos hb]
    have dx : (Ch.mk m.b 0 (m.d - m.a) (-m.b)).det ≠ 0 := by
      have := Int.mul_ne_zero hb hb
      simp only [Ch.det]; grind
    refine ⟨nch_goodC dx, tr_nch dx ?_, prod _ dx ?_⟩
    · simp only [Ch.tr]; omega
    · simp only [Ch.tr, mul]; grind
  · rw [if_neg hb]
    have hb0 : m.b = 0 := Classical.byContradiction hb
    by_cases hc : m.c ≠ 0
    · rw [if_pos hc]
      have dx : (Ch.mk m.c (m.d - m.a) 0 (-m.c)).det ≠ 0 := by
        have := Int.mul_ne_zero hc hc
        simp only [Ch.det]; grind
      refine ⟨nch_goodC dx, tr_nch dx ?_, prod _ dx ?_⟩
      · simp only [Ch.tr]; omega
      · simp only [Ch.tr, mul]; grind
    · rw [if_neg hc]
      have hc0 : m.c = 0 := Classical.byContradiction hc
      refine ⟨by decide, by decide, ?_⟩
      simp only [Ch.tr, mul, hb0, hc0]; omega
end Mx
namespace Mx
def isq : Nat → Nat
  | 0 => 0
  | n + 1 => if (isq n + 1) * (isq n + 1) ≤ n + 1 then isq n + 1 else isq n
theorem isq_spec : ∀ n, isq n * isq n ≤ n ∧ n < (isq n + 1) * (isq n + 1)
  | 0 => by simp [isq]
  | n + 1 => by
    obtain ⟨h1, h2⟩ := isq_spec n
    unfold isq
    by_cases h : (isq n + 1) * (isq n + 1) ≤ n + 1
    · rw [if_pos h]
      refine ⟨h, ?_⟩
      have : (isq n + 1 + 1) * (isq n + 1 + 1) = (isq n + 1) * (isq n + 1) + 2 * (isq n + 1) + 1 := by grind
      omega
    · rw [if_neg h]
      omega
def rt (n : Int) : Int := (isq n.toNat : Int)
theorem rt_spec {n : Int} (h : 0 ≤ n) : 0 ≤ rt n ∧ rt n * rt n ≤ n ∧ n < (rt n + 1) * (rt n + 1) := by
  obtain ⟨h1, h2⟩ := isq_spec n.toNat
  unfold rt
  have e : ((n.toNat : Nat) : Int) = n := Int.toNat_of_nonneg h
  refine ⟨by omega, ?_, ?_⟩
  · have := Int.ofNat_le.mpr h1
    push_cast at this
    omega
  · have := Int.ofNat_lt.mpr h2
    push_cast at this
    omega
theorem self_nonneg (a : Int) : 0 ≤ a * a := by
  rw [← Int.natAbs_mul_self]; omega
theorem sq_lt {a b : Int} (ha : 0 ≤ a) (hb : 0 ≤ b) (h : a * a < b * b) : a < b := by
  refine Classical.byContradiction fun hn => ?_
  have h1 : b ≤ a := by omega
  have := Int.mul_le_mul h1 h1 hb ha
  omega
theorem rt_only {n r : Int} (h : 0 ≤ n) (r0 : 0 ≤ r) (h1 : r * r ≤ n) (h2 : n < (r + 1) * (r + 1)) : r = rt n := by
  obtain ⟨a, b, c⟩ := rt_spec h
  have x := sq_lt r0 (by omega) (Int.lt_of_le_of_lt h1 c)
  have y := sq_lt a (by omega) (Int.lt_of_le_of_lt b h2)
  omega
theorem newton {n r : Int} (r0 : 0 < r) (h : 0 ≤ n) : n < ((r + n / r) / 2 + 1) * ((r + n / r) / 2 + 1) := by
  have hq := Int.mul_ediv_add_emod n r
  have hm := Int.emod_lt_of_pos n r0
  have hm0 := Int.emod_nonneg n (by omega : r ≠ 0)
  have hq0 : 0 ≤ n / r := Int.ediv_nonneg h (by omega)
  generalize n / r = q at *
  generalize n % r = e at *
  -- n = r q + e < r (q + 1)
  have h1 : n < r * (q + 1) := by rw [Int.mul_add]; omega
  generalize hs : (r + q) / 2 = s
  have h2 : r + q + 1 ≤ 2 * (s + 1) := by omega
  have h3 : 4 * (r * (q + 1)) ≤ (r + q + 1) * (r + q + 1) := by
    have := self_nonneg (r - (q + 1))
    grind
  have h4 : (r + q + 1) * (r + q + 1) ≤ (2 * (s + 1)) * (2 * (s + 1)) := Int.mul_le_mul h2 h2 (by omega) (by omega)
  have h5 : (2 * (s + 1)) * (2 * (s + 1)) = 4 * ((s + 1) * (s + 1)) := by grind
  omega
theorem newton_end {n r : Int} (r0 : 0 < r) (h : r ≤ (r + n / r) / 2) : r * r ≤ n := by
  have h1 : r ≤ n / r := by omega
  have := Int.mul_le_mul_of_nonneg_left h1 (by omega : 0 ≤ r)
  have h2 := Int.mul_ediv_self_le (x := n) (k := r) (by omega)
  omega
def disc (m : Ch) : Int := (m.a - m.d) * (m.a - m.d) + 4 * m.b * m.c
def keptL (m : Ch) : List (Int × Int) :=
  if m.c = 0 then (if m.d - m.a = 0 then [(1, 0)] else [(1, 0), npt m.b (m.d - m.a)])
  else if disc m < 0 then [] else if rt (disc m) * rt (disc m) ≠ disc m then []
  else if rt (disc m) = 0 then [npt (m.a - m.d) (2 * m.c)]
  else [npt (m.a - m.d - rt (disc m)) (2 * m.c), npt (m.a - m.d + rt (disc m)) (2 * m.c)]
theorem rt_sq {a n : Int} (h : n = a * a) : rt n * rt n = n ∧ 0 ≤ n := by
  have h0 : 0 ≤ n := by rw [h]; exact self_nonneg a
  have e : (a.natAbs : Int) * a.natAbs = a * a := Int.natAbs_mul_self
  have := rt_only h0 (r := (a.natAbs : Int)) (by omega) (by rw [e, h]; exact Int.le_refl _) (by
    rw [h, ← e]
    have : ((a.natAbs : Int) + 1) * (a.natAbs + 1) = a.natAbs * a.natAbs + 2 * a.natAbs + 1 := by grind
    omega)
  rw [← this, e, h]
  exact ⟨rfl, by rw [← h]; exact h0⟩
def Sqr (n : Int) : Prop := 0 ≤ n ∧ rt n * rt n = n
instance (n : Int) : Decidable (Sqr n) := by unfold Sqr; infer_instance
def dueN (m : Ch) : Nat := if Sqr (disc m) then (if 0 < disc m then 2 else 1) else 0
theorem rt_zero_iff {n : Int} (h : Sqr n) : rt n = 0 ↔ n = 0 := by
  obtain ⟨h0, h1⟩ := h
  constructor
  · intro e; rw [e] at h1; omega
  · intro e; subst e; rfl
theorem keptL_len {m : Ch} : (keptL m).length = dueN m := by
  unfold keptL dueN
  by_cases hc : m.c = 0
  · rw [if_pos hc]
    have hd : disc m = (m.a - m.d) * (m.a - m.d) := by unfold disc; rw [hc]; simp
    obtain ⟨s1, s2⟩ := rt_sq hd
    rw [if_pos (show Sqr (disc m) from ⟨s2, s1⟩)]
    by_cases hs : m.d - m.a = 0
    · rw [if_pos hs]
      have : disc m = 0 := by rw [hd, show m.a - m.d = 0 by omega]; rfl
      rw [this]; rfl
    · rw [if_neg hs]
      have : disc m ≠ 0 := by rw [hd]; exact Int.mul_ne_zero (by omega) (by omega)
      rw [if_pos (by omega)]; rfl
  · rw [if_neg hc]
    by_cases h0 : disc m < 0
    · rw [if_pos h0, if_neg (show ¬ Sqr (disc m) from fun z => by have := z.1; omega)]; rfl
    · rw [if_neg h0]
      by_cases h1 : rt (disc m) * rt (disc m) ≠ disc m
      · rw [if_pos h1, if_neg (show ¬ Sqr (disc m) from fun z => h1 z.2)]; rfl
      · rw [if_neg h1]
        have hs : Sqr (disc m) := ⟨by omega, Classical.byContradiction h1⟩
        rw [if_pos hs]
        by_cases h2 : rt (disc m) = 0
        · rw [if_pos h2, (rt_zero_iff hs).mp h2]; rfl
        · rw [if_neg h2]
          have : disc m ≠ 0 := fun z => h2 ((rt_zero_iff hs).mpr z)
          have := hs.1
          rw [if_pos (by omega)]; rfl
def ltp (x y : Int × Int) : Bool := decide (x.1 < y.1 ∨ (x.1 = y.1 ∧ x.2 < y.2))
def sort2 : List (Int × Int) → List (Int × Int)
  | [x, y] => if ltp y x then [y, x] else [x, y]
  | l => l
theorem due_le (m : Ch) : dueN m ≤ 2 := by
  unfold dueN
  split
  · split <;> omega
  · omega
end Mx
namespace L3
open PySem PySem.Spec PyProof.Rows L2
abbrev St := L2.St
def Bd (k : Nat) (i : Int) : Prop := i.natAbs < 2 ^ k
instance (k : Nat) (i : Int) : Decidable (Bd k i) := inferInstanceAs (Decidable (i.natAbs < 2 ^ k))
theorem Bd.mono {j k : Nat} {i : Int} (h : Bd j i) (l : j ≤ k) : Bd k i := Nat.lt_of_lt_of_le h (Nat.pow_le_pow_right (by decide) l)
theorem Bd.mul {j k : Nat} {a b : Int} (h : Bd j a) (h' : Bd k b) : Bd (j + k) (a * b) := by
  unfold Bd at *
  rw [Int.natAbs_mul, Nat.pow_add]
  exact Nat.mul_lt_mul'' h h'
theorem Bd.add {k : Nat} {a b : Int} (h : Bd k a) (h' : Bd k b) : Bd (k + 1) (a + b) := by
  unfold Bd at *
  rw [Nat.pow_succ]
  generalize (2 : Nat) ^ k = m at *
  omega
theorem Bd.sub {k : Nat} {a b : Int} (h : Bd k a) (h' : Bd k b) : Bd (k + 1) (a - b) := by
  unfold Bd at *
  rw [Nat.pow_succ]
  generalize (2 : Nat) ^ k = m at *
  omega
theorem Bd.neg {k : Nat} {a : Int} (h : Bd k a) : Bd k (-a) := by
  unfold Bd at *
  rw [Int.natAbs_neg]; exact h
theorem Bd.of_le {k : Nat} {a b : Int} (h : Bd k a) (l : b.natAbs ≤ a.natAbs) : Bd k b := Nat.lt_of_le_of_lt l h
theorem Bd.gcd {k : Nat} {a b : Int} (h : Bd k a) (h' : Bd k b) : Bd k (Int.gcd a b : Int) := by
  by_cases ha : a = 0
  · subst ha
    refine h'.of_le ?_
    simp
  · refine h.of_le ?_
    simp only [Int.natAbs_natCast]
    exact Nat.le_of_dvd (by omega) (Int.gcd_dvd_natAbs_left a b)
theorem Bd.mulOk {k : Nat} {a b : Int} (h : Bd k a) (h' : Bd k b) (l : k ≤ 60000000) : IntMulOk a b :=
  IntMulOk.of_le (intBits_le_iff.mpr h) (intBits_le_iff.mpr h') (by omega)
theorem Bd.noPy {i j : Int} (h : Bd 8000 j) : Builtin.divisionGoesByPylong i j = false := by
  refine PyProof.noPylong_of_log2 ?_
  by_cases h0 : j.natAbs = 0
  · rw [h0]; decide +kernel
  · exact Nat.lt_of_lt_of_le ((Nat.log2_lt h0).mpr h) (by decide)
theorem Bd.lit {k : Nat} {a : Int} (h : a.natAbs < 2 ^ k) : Bd k a := h
section
variable {X : Cx}
def cDiv (_ j : Int) : Prop := j ≠ 0 ∧ Bd 8000 j
def cMul (i j : Int) : Prop := Bd 100000 i ∧ Bd 100000 j
theorem op_fdivB : OpR X (binaryOp .FloorDiv) (rI cDiv fun i j => .int (i.fdiv j)) :=
  opI fun _ _ _ _ _ _ _ hc q => floordiv_int hc.1 q (.inl hc.2.noPy)
theorem op_mulB : OpR X (binaryOp .Mult) (rI cMul fun i j => .int (i * j)) :=
  opI fun _ _ _ _ _ _ _ hc q => mul_int q (hc.1.mulOk hc.2 (by decide))
theorem call_absN : CallR X (.builtin "abs") (fun xs H Q => ∃ i : Int, xs = [.int i] ∧ Q (.int (i.natAbs : Int)) H) := by
  intro pins s σ H xs us Q I r h
  obtain ⟨i, rfl, q⟩ := h
  refine call_abs pins s σ H _ us Q I r ⟨i, rfl, ?_⟩
  have e : (if i < 0 then -i else i) = (i.natAbs : Int) := by split <;> omega
  rw [e]
  exact q
end
mutual
def IsD (K : PySem.W.Frag) (H : Hp) : PyData → V → Prop
  | .none, v => v = .non
  | .bool b, v => v = .bl b
  | .int i, v => v = .int i
  | .str x, v => v = .str x
  | .list ps, v => ∃ a xs, v = .ref a ∧ SqL K H a xs ∧ IsDs K H ps xs
  | .tuple ps, v => ∃ a xs, v = .ref a ∧ SqT K H a xs ∧ IsDs K H ps xs
  | .dict _, _ => False
def IsDs (K : PySem.W.Frag) (H : Hp) : List PyData → List V → Prop
  | [], xs => xs = []
  | p :: ps, xs => ∃ y ys, xs = y :: ys ∧ IsD K H p y ∧ IsDs K H ps ys
end
section
variable {X : Cx} {pins : List (Addr × Obj)} {σ : St} {H : Hp} {s : Shared}
mutual
theorem IsD.reads (I : Inv X pins σ H s) : ∀ (p : PyData) (v : V) (u : Value), IsD X.K H p v → RelV v u → ∃ as, Reads s.heap u p as
  | .none, v, u, h, r => by
    simp only [IsD] at h; subst h; cases r; exact ⟨_, .none⟩
  | .bool b, v, u, h, r => by
    simp only [IsD] at h; subst h; cases r; exact ⟨_, .bool b⟩
  | .int i, v, u, h, r => by
    simp only [IsD] at h; subst h; obtain ⟨t, rfl⟩ := r; exact ⟨_, .int i t⟩
  | .str x, v, u, h, r => by
    simp only [IsD] at h; subst h; obtain ⟨t, rfl⟩ := r; exact ⟨_, .str x t⟩
  | .list ps, v, u, h, r => by
    simp only [IsD] at h
    obtain ⟨a, xs, rfl, hq, hs⟩ := h
    cases r
    obtain ⟨its, rv, ⟨o, n, e, c, _, d⟩, _⟩ := I.list hq
    obtain ⟨as, q⟩ := IsDs.reads I ps xs its hs rv
    exact ⟨_, .list e c d (by simpa using q)⟩
  | .tuple ps, v, u, h, r => by
    simp only [IsD] at h
    obtain ⟨a, xs, rfl, hq, hs⟩ := h
    cases r
    obtain ⟨its, rv, ⟨o, e, c, n, d⟩, _⟩ := I.tuple hq
    obtain ⟨as, q⟩ := IsDs.reads I ps xs its hs rv
    exact ⟨_, .tuple e c d (by simpa using q)⟩
  | .dict _, v, u, h, r => by simp only [IsD] at h
theorem IsDs.reads (I : Inv X pins σ H s) : ∀ (ps : List PyData) (xs : List V) (us : List Value), IsDs X.K H ps xs → Vals xs us → ∃ as, ReadsAll s.heap us ps as
  | [], xs, us, h, r => by
    simp only [IsDs] at h; subst h; cases r; exact ⟨_, .nil⟩
  | p :: ps, xs, us, h, r => by
    simp only [IsDs] at h
    obtain ⟨y, ys, rfl, h1, h2⟩ := h
    cases r with
    | cons r1 r2 =>
      obtain ⟨as, q1⟩ := IsD.reads I p y _ h1 r1
      obtain ⟨bs, q2⟩ := IsDs.reads I ps ys _ h2 r2
      exact ⟨_, .cons q1 q2⟩
end
end
theorem Same.tup {K : PySem.W.Frag} {H H' : Hp} {a : Addr} {xs : List V} (e : Same H H') (h : SqT K H a xs) : SqT K H' a xs := by
  rcases h with (h | ⟨o, h⟩) | h
  · exact .inl (.inl (e _ _ h))
  · exact .inl (.inr ⟨o, e _ _ h⟩)
  · exact .inr h
theorem same_new {H : Hp} {p : Addr} (h : H p = none) (o : HO) : Same H (upd H p o) := fun b u q => by
  rw [upd_ne (ne_of_none q h)]; exact q
mutual
theorem IsD.mono {K : PySem.W.Frag} {H H' : Hp} (e : Same H H') : ∀ (p : PyData) (v : V), IsD K H p v → IsD K H' p v
  | .none, v, h => by simp only [IsD] at h ⊢; exact h
  | .bool b, v, h => by simp only [IsD] at h ⊢; exact h
  | .int i, v, h => by simp only [IsD] at h ⊢; exact h
  | .str x, v, h => by simp only [IsD] at h ⊢; exact h
  | .list ps, v, h => by
    simp only [IsD] at h ⊢
    obtain ⟨a, xs, e1, hq, hs⟩ := h
    exact ⟨a, xs, e1, e.seq hq, IsDs.mono e ps xs hs⟩
  | .tuple ps, v, h => by
    simp only [IsD] at h ⊢
    obtain ⟨a, xs, e1, hq, hs⟩ := h
    exact ⟨a, xs, e1, Same.tup e hq, IsDs.mono e ps xs hs⟩
  | .dict _, v, h => by simp only [IsD] at h
theorem IsDs.mono {K : PySem.W.Frag} {H H' : Hp} (e : Same H H') : ∀ (ps : List PyData) (xs : List V), IsDs K H ps xs → IsDs K H' ps xs
  | [], xs, h => by simp only [IsDs] at h ⊢; exact h
  | p :: ps, xs, h => by
    simp only [IsDs] at h ⊢
    obtain ⟨y, ys, e1, h1, h2⟩ := h
    exact ⟨y, ys, e1, IsD.mono e p y h1, IsDs.mono e ps ys h2⟩
end
def Tp (K : PySem.W.Frag) (H : Hp) (v : V) (ns : List Int) : Prop := ∃ a, v = .ref a ∧ SqT K H a (ns.map V.int)
theorem Tp.mono {K : PySem.W.Frag} {H H' : Hp} {v : V} {ns : List Int} (h : Tp K H v ns) (e : Same H H') : Tp K H' v ns := by
  obtain ⟨a, rfl, q⟩ := h
  exact ⟨a, rfl, Same.tup e q⟩
theorem isDs_ints {K : PySem.W.Frag} {H : Hp} : ∀ ns : List Int, IsDs K H (ns.map PyData.int) (ns.map V.int)
  | [] => by simp [IsDs]
  | n :: ns => by
    simp only [List.map_cons, IsDs]
    exact ⟨_, _, rfl, by simp only [IsD], isDs_ints ns⟩
theorem Tp.isD {K : PySem.W.Frag} {H : Hp} {v : V} {ns : List Int} (h : Tp K H v ns) : IsD K H (.tuple (ns.map PyData.int)) v := by
  obtain ⟨a, rfl, q⟩ := h
  simp only [IsD]
  exact ⟨a, _, rfl, q, isDs_ints ns⟩
theorem eqv_ints : ∀ ns ms : List Int, PyData.eqvAll (ns.map PyData.int) (ms.map PyData.int) = decide (ns = ms)
  | [], [] => by simp [PyData.eqvAll]
  | [], _ :: _ => by simp [PyData.eqvAll]
  | _ :: _, [] => by simp [PyData.eqvAll]
  | n :: ns, m :: ms => by
    simp only [List.map_cons, PyData.eqvAll, PyData.eqv, eqv_ints ns ms, List.cons.injEq]
    by_cases h1 : n = m
    · by_cases h2 : ns = ms <;> simp [h1, h2]
    · simp [h1]
theorem lay_ints : ∀ ns : List Int, PyData.canLayAll0 (ns.map PyData.int) = true
  | [] => by simp [PyData.canLayAll0]
  | _ :: ns => by simp [PyData.canLayAll0, PyData.canLay0, lay_ints ns]
theorem dep_ints : ∀ ns : List Int, PyData.depthAll (ns.map PyData.int) = 0
  | [] => by simp [PyData.depthAll]
  | _ :: ns => by simp [PyData.depthAll, PyData.depth, dep_ints ns]
theorem shaped_ints (ns : List Int) : SeqAt.shaped (.tuple (ns.map PyData.int)) = true := by
  unfold SeqAt.shaped
  simp only [PyData.canLay0, PyData.depth, lay_ints, dep_ints]
  decide
section
variable {X : Cx}
def rEqD (K : PySem.W.Frag) (neg : Bool) : R2 := fun x y H Q => ∃ p q, IsD K H p x ∧ IsD K H q y ∧ SeqAt.shaped p = true ∧ SeqAt.shaped q = true ∧ Q (.bl (if neg then !PyData.eqv p q else PyData.eqv p q)) H
theorem op_eqD (hu : X.A.units + 64 < cLine) : OpR X (compareOp .Eq) (rEqD X.K false) := by
  intro pins s σ H x y v u Q I rx ry h
  obtain ⟨p, q, hp, hq, sp, sq, h⟩ := h
  obtain ⟨as, ra⟩ := hp.reads I p x v rx
  obtain ⟨bs, rb⟩ := hq.reads I q y u ry
  exact eq_dataH ra rb sp sq hu ⟨.bl (PyData.eqv p q), H, I, rfl, by simpa using h⟩
theorem op_neD (hu : X.A.units + 64 < cLine) : OpR X (compareOp .NotEq) (rEqD X.K true) := by
  intro pins s σ H x y v u Q I rx ry h
  obtain ⟨p, q, hp, hq, sp, sq, h⟩ := h
  obtain ⟨as, ra⟩ := hp.reads I p x v rx
  obtain ⟨bs, rb⟩ := hq.reads I q y u ry
  exact ne_dataH ra rb sp sq hu ⟨.bl (!PyData.eqv p q), H, I, rfl, by simpa using h⟩
def rEqT (K : PySem.W.Frag) (neg : Bool) : R2 := fun x y H Q => ∃ ns ms, Tp K H x ns ∧ Tp K H y ms ∧ Q (.bl (if neg then !decide (ns = ms) else decide (ns = ms))) H
theorem rEqT.toD {K : PySem.W.Frag} {neg : Bool} {x y : V} {H : Hp} {Q : VK} (h : rEqT K neg x y H Q) : rEqD K neg x y H Q := by
  obtain ⟨ns, ms, h1, h2, q⟩ := h
  refine ⟨_, _, h1.isD, h2.isD, shaped_ints ns, shaped_ints ms, ?_⟩
  simp only [PyData.eqv, eqv_ints]
  exact q
theorem op_eqT (hu : X.A.units + 64 < cLine) : OpR X (compareOp .Eq) (rEqT X.K false) :=
  fun pins s σ H x y v u Q I rx ry h => op_eqD hu pins s σ H x y v u Q I rx ry h.toD
theorem op_neT (hu : X.A.units + 64 < cLine) : OpR X (compareOp .NotEq) (rEqT X.K true) :=
  fun pins s σ H x y v u Q I rx ry h => op_neD hu pins s σ H x y v u Q I rx ry h.toD
def rInD (K : PySem.W.Frag) (neg : Bool) : R2 := fun x y H Q => ∃ p ps, IsD K H p x ∧ IsD K H (.list ps) y ∧ SeqAt.shaped p = true ∧ SeqAt.shaped (.list ps) = true ∧ Q (.bl (if neg then !(ps.any fun z => PyData.eqv z p) else ps.any fun z => PyData.eqv z p)) H
theorem room_in {A : Around} {p : PyData} {ps : List PyData} (hu : A.units + 80 < cLine) (hp : SeqAt.shaped p = true) : A.units + 1 + min (PyData.depthAll ps) p.depth < cLine := by
  have := SeqAt.depth_of_shaped hp
  have h2 : min (PyData.depthAll ps) p.depth ≤ p.depth := Nat.min_le_right _ _
  omega
theorem op_inD (hu : X.A.units + 80 < cLine) : OpR X (compareOp .In) (rInD X.K false) := by
  intro pins s σ H x y v u Q I rx ry h
  obtain ⟨p, ps, hp, hq, sp, sq, h⟩ := h
  obtain ⟨as, ra⟩ := hp.reads I p x v rx
  obtain ⟨bs, rb⟩ := hq.reads I _ y u ry
  exact SeqAt.in_list_reads rb ra (by simpa [PyData.canLay0] using SeqAt.canLay_of_shaped sq) (SeqAt.canLay_of_shaped sp) (room_in hu sp) ⟨.bl _, H, I, rfl, by simpa using h⟩
end
end L3
namespace L3
open PySem PySem.Spec PyProof.Rows L2
def clOf (cells : List (Str × Addr)) : List (Str × NameKind) → List (Str × Addr) → List (Str × Addr)
  | [], cs => cs
  | (n, k) :: r, cs => clOf cells r (if k == .free then (n, (cells.lookup n).getD 0) :: cs else cs)
theorem closure_eq {scope : Scope} {env : Env} (h : ∀ y ∈ scope.names, y.2 = .free → ∃ c, env.cells.lookup y.1 = some c) :
    closureFor scope env = pure (clOf env.cells scope.names []) := by
  unfold closureFor
  have go : ∀ (names : List (Str × NameKind)) (cs : List (Str × Addr)), (∀ y ∈ names, y.2 = .free → ∃ c, env.cells.lookup y.1 = some c) →
      (forIn names cs fun (x : Str × NameKind) (r : List (Str × Addr)) => match x with
        | (name, kind) => if kind == .free then do
            let c ← cellOf env name
            pure (ForInStep.yield ((name, c) :: r))
          else pure (ForInStep.yield r) : Sem (List (Str × Addr))) = pure (clOf env.cells names cs) := by
    intro names
    induction names with
    | nil => intro cs _; rfl
    | cons y r ih =>
      intro cs hy
      obtain ⟨n, k⟩ := y
      rw [List.forIn_cons]
      by_cases hk : k = .free
      · subst hk
        obtain ⟨c, hc⟩ := hy (n, .free) List.mem_cons_self rfl
        have e1 : cellOf env n = pure c := by unfold cellOf; rw [hc]
        simp only [beq_self_eq_true, if_true, e1]
        have e2 := ih ((n, c) :: cs) fun z hz => hy z (List.mem_cons_of_mem _ hz)
        have e3 : clOf env.cells ((n, .free) :: r) cs = clOf env.cells r ((n, c) :: cs) := by
          simp only [clOf, beq_self_eq_true, if_true]
          have hc' : env.cells.lookup n = some c := hc
          rw [hc']; rfl
        rw [e3, ← e2]
        rfl
      · have hb : (k == NameKind.free) = false := by simpa using hk
        simp only [hb]
        have e2 := ih cs fun z hz => hy z (List.mem_cons_of_mem _ hz)
        have e3 : clOf env.cells ((n, k) :: r) cs = clOf env.cells r cs := by simp [clOf, hb]
        rw [e3, ← e2]
        rfl
  have e := go scope.names [] h
  show (forIn scope.names [] _ >>= fun cs => pure cs) = _
  rw [e]
  rfl
theorem clOf_sub {cells : List (Str × Addr)} : ∀ (names : List (Str × NameKind)) (cs : List (Str × Addr)), (∀ y ∈ names, y.2 = .free → ∃ c, cells.lookup y.1 = some c) →
    (∀ y c, cs.lookup y = some c → cells.lookup y = some c) → ∀ y c, (clOf cells names cs).lookup y = some c → cells.lookup y = some c
  | [], cs, _, h, y, c, e => h y c e
  | (n, k) :: r, cs, hf, h, y, c, e => by
    simp only [clOf] at e
    refine clOf_sub r _ (fun z hz => hf z (List.mem_cons_of_mem _ hz)) ?_ y c e
    intro z d hz
    by_cases hk : k = .free
    · subst hk
      simp only [beq_self_eq_true, if_true, List.lookup_cons] at hz
      obtain ⟨c', hc'⟩ := hf (n, .free) List.mem_cons_self rfl
      have hc' : cells.lookup n = some c' := hc'
      cases hzn : z == n with
      | true =>
        have ez : z = n := eq_of_beq hzn
        rw [hzn] at hz
        simp only [hc', Option.getD_some, Option.some.injEq] at hz
        rw [ez, hc', hz]
      | false =>
        rw [hzn] at hz
        exact h z d hz
    · have hb : (k == NameKind.free) = false := by simpa using hk
      simp only [hb, Bool.false_eq_true, if_false] at hz
      exact h z d hz
theorem clOf_keep {cells : List (Str × Addr)} {y : Str} : ∀ (names : List (Str × NameKind)) (cs : List (Str × Addr)), (∃ c, cs.lookup y = some c) → ∃ c, (clOf cells names cs).lookup y = some c
  | [], cs, h => h
  | (n, k) :: r, cs, h => by
    simp only [clOf]
    refine clOf_keep r _ ?_
    split
    · simp only [List.lookup_cons]
      cases y == n with
      | true => exact ⟨_, rfl⟩
      | false => exact h
    · exact h
theorem clOf_has {cells : List (Str × Addr)} {y : Str} : ∀ (names : List (Str × NameKind)) (cs : List (Str × Addr)), (y, NameKind.free) ∈ names → ∃ c, (clOf cells names cs).lookup y = some c
  | [], _, h => by cases h
  | (n, k) :: r, cs, h => by
    simp only [clOf]
    rcases List.mem_cons.mp h with e | h
    · cases e
      refine clOf_keep r _ ?_
      simp
    · exact clOf_has r _ h
structure CompScope (sc scope : Scope) (x : Str) (cn : List Str) : Prop where
  kind : scope.kind = .function
  nocell : ∀ y ∈ scope.names, y.2 ≠ .cell
  tgt : scope.names.lookup x = some .local
  names : ∀ y ∈ scope.names, y.2 = .local → scope.names.lookup y.1 = some .local
  fr : ∀ y ∈ scope.names, y.2 = .free → sc.names.lookup y.1 = some .cell ∨ sc.names.lookup y.1 = some .free
  nd : (x :: cn).Nodup
  cap : ∀ y ∈ cn, (y, NameKind.free) ∈ scope.names ∧ scope.names.lookup y = some .free
theorem lookup_mem_kind {y : Str} {k : NameKind} : ∀ {names : List (Str × NameKind)}, names.lookup y = some k → (y, k) ∈ names
  | [], h => by simp at h
  | (n, j) :: r, h => by
    simp only [List.lookup_cons] at h
    cases hy : y == n with
    | true =>
      rw [hy] at h
      have e : y = n := eq_of_beq hy
      cases h
      rw [e]; exact List.mem_cons_self
    | false =>
      rw [hy] at h
      exact List.mem_cons_of_mem _ (lookup_mem_kind h)
theorem lookup_relabel {env : Env} : ∀ {names : List (Str × NameKind)} {x : Str} {k : NameKind}, names.lookup x = some k →
    (names.map fun (n, k) => if (k == NameKind.free && env.scope.kind == .function && env.kindOf n == some .cell) then (n, NameKind.cell) else (n, k)).lookup x =
      some (if (k == NameKind.free && env.scope.kind == .function && env.kindOf x == some .cell) then NameKind.cell else k)
  | [], _, _, h => by simp at h
  | (n, j) :: r, x, k, h => by
    have ih := @lookup_relabel env r x k
    rw [List.map_cons]
    show List.lookup x ((if (j == NameKind.free && env.scope.kind == .function && env.kindOf n == some .cell) = true then (n, NameKind.cell) else (n, j)) :: _) = _
    cases hx : x == n with
    | true =>
      have e : x = n := eq_of_beq hx
      subst e
      simp only [List.lookup_cons, hx] at h
      cases h
      by_cases hc : (j == NameKind.free && env.scope.kind == .function && env.kindOf x == some .cell) = true
      · rw [if_pos hc, if_pos hc]; simp
      · rw [if_neg hc, if_neg hc]; simp
    | false =>
      simp only [List.lookup_cons, hx] at h
      by_cases hc : (j == NameKind.free && env.scope.kind == .function && env.kindOf n == some .cell) = true
      · rw [if_pos hc]; simp only [List.lookup_cons, hx]; exact ih h
      · rw [if_neg hc]; simp only [List.lookup_cons, hx]; exact ih h
theorem relabel_inv {env : Env} : ∀ {names : List (Str × NameKind)} {x : Str} {k : NameKind},
    (names.map fun (n, k) => if (k == NameKind.free && env.scope.kind == .function && env.kindOf n == some .cell) then (n, NameKind.cell) else (n, k)).lookup x = some k →
      ∃ j, names.lookup x = some j ∧ (k = j ∨ j = .free)
  | [], _, _, h => by simp at h
  | (n, j) :: r, x, k, h => by
    have ih := @relabel_inv env r x k
    rw [List.map_cons] at h
    dsimp only at h
    by_cases hc : (j == NameKind.free && env.scope.kind == .function && env.kindOf n == some .cell) = true
    · have hj : j = .free := by
        simp only [Bool.and_eq_true] at hc
        exact eq_of_beq hc.1.1
      rw [if_pos hc] at h
      cases hx : x == n with
      | true => exact ⟨j, by simp [List.lookup_cons, hx], .inr hj⟩
      | false =>
        simp only [List.lookup_cons, hx] at h
        obtain ⟨i, e, q⟩ := ih h
        exact ⟨i, by simp only [List.lookup_cons, hx]; exact e, q⟩
    · rw [if_neg hc] at h
      cases hx : x == n with
      | true =>
        simp only [List.lookup_cons, hx] at h
        exact ⟨j, by simp [List.lookup_cons, hx], .inl (Option.some.inj h).symm⟩
      | false =>
        simp only [List.lookup_cons, hx] at h
        obtain ⟨i, e, q⟩ := ih h
        exact ⟨i, by simp only [List.lookup_cons, hx]; exact e, q⟩
theorem caps_len {N cn : List Str} {caps : List Nat} (h : caps.map (fun i => N[i]?) = cn.map some) : caps.length = cn.length := by
  have := congrArg List.length h
  simpa using this
theorem caps_at {N cn : List Str} {caps : List Nat} (h : caps.map (fun i => N[i]?) = cn.map some) : ∀ j : Nat, ∀ y, cn[j]? = some y → ∃ i, caps[j]? = some i ∧ N[i]? = some y := fun j y e => by
  have q := congrArg (fun l => l[j]?) h
  simp only [List.getElem?_map, e, Option.map_some] at q
  cases c : caps[j]? with
  | none => rw [c] at q; cases q
  | some i =>
    rw [c] at q
    simp only [Option.map_some, Option.some.injEq] at q
    exact ⟨i, rfl, q⟩
def cxComp (X : Cx) (scope : Scope) (cl : List (Str × Addr)) (C : Addr) (N : List Str) (s₀ : Shared) (H₀ : Hp) (ex : List Addr) : Cx where
  prog := X.prog
  w := X.w
  K := X.K
  mg := X.mg
  base := X.base
  A := X.A
  N := N
  s₀ := s₀
  H₀ := H₀
  env := compEnvC scope cl C X.env
  outer := X.stack
  stack := X.stack
  ex := ex
  fn := fun _ => false
  calm := X.calm
  pn := []
  xe := fun _ _ => False
abbrev cxCompZ (Z : Value → Shared → Prop) (X : Cx) (scope : Scope) (cl : List (Str × Addr)) (C : Addr) (N : List Str) (s₀ : Shared) (H₀ : Hp) (ex : List Addr) : Cx := { cxComp X scope cl C N s₀ H₀ ex with xe := Z }
def PQ (X : Cx) (ifs : List Expr) (t : TT) : Prop :=
  ∀ (pins : List (Addr × Obj)) (s : Shared) (σ : St) (H : Hp) (Q : Bool → Hp → Prop), Inv X pins σ H s → t σ H Q →
    wpAny (model X.prog X.w) X.A (forIn ifs true fun c r => if r = true then do let ok ← isTrue c X.env (eval c X.env); pure (ForInStep.yield ok) else pure (ForInStep.yield r)) (TP X pins σ Q) X.xe s
def tYes : TT := fun _ H Q => Q true H
theorem pq_nil {X : Cx} : PQ X [] tYes := fun _ _ _ H _ I h => wpAny_tests_nil ⟨H, I, h⟩
theorem pq_one {X : Cx} {c : Expr} {t : TT} (h : PT X c t) : PQ X [c] t := fun pins s σ H Q I q => wpAny_tests_one (h pins s σ H Q I q)
def capσ (caps : List Nat) (σ : St) : St := caps.map fun i => (σ[i]?).join
def tComp (caps : List Nat) (wi : TI) (tt : TT) (te : TE) : TE := fun σ H Q => wi σ H fun J H1 => ∃ W : Nat → Nat → List V → Hp → Prop, (∃ m, W 0 m [] H1) ∧ ∀ i m acc H, W i m acc H →
  (J.stop i H ∧ acc.length ≤ sizeLine ∧ ∀ p, H p = none → Q (.ref p) (upd H p (.lst acc))) ∨
  (J.go i H ∧ acc.length ≤ sizeLine ∧ ∀ v H', J.yld i H v H' → tt (some v :: capσ caps σ) H' fun b H2 =>
    if b = true then te (some v :: capσ caps σ) H2 fun y H3 => ∃ m', m' < m ∧ W (i + 1) m' (acc ++ [y]) H3 else ∃ m', m' < m ∧ W (i + 1) m' acc H2)
section
variable {X : Cx} {pins : List (Addr × Obj)} {σ : St} {H2 : Hp} {s2 : Shared}
structure CFree (X : Cx) (pins : List (Addr × Obj)) (C : Addr) (H : Hp) : Prop where
  no : H C = none
  ne : C ≠ X.env.locals
  up : X.s₀.heap.objs.size ≤ C
  cells : ∀ x c, X.env.cells.lookup x = some c → c ≠ C
  pin : ∀ p ∈ X.pn ++ pins, p.1 ≠ C
theorem comp_back {Z : Value → Shared → Prop} {scope : Scope} {cl : List (Str × Addr)} {N : List Str} {fp : List Addr} {D C : Addr} {s3 s' : Shared} {pl : List (Addr × Obj)} {σ' : St} {H' : Hp} {acc : List V} {its : List Value} {n : Nat}
    (I : Inv X pins σ H2 s2) (hf : ∀ b ∈ fp, FpOk X pins H2 b) (hD : D = s2.heap.objs.size) (hC : C = s2.heap.objs.size + 1)
    (h3 : s3 = { s2 with heap := s2.heap.push { cls := .type "list", data := .seq (([] : List Value).toArray) } })
    (J : Inv (cxCompZ Z X scope cl C N s3 H2 (D :: fp)) pl σ' H' s') (nD : H' D = none) (oD : s'.heap.get? D = some { cls := .type "list", data := .seq its.toArray n }) (rv : Vals acc its) (hz : acc.length ≤ sizeLine) :
    Inv X pins σ (upd H' D (.lst acc)) s' ∧ CFree X pins C (upd H' D (.lst acc)) := by
  have lt2 : ∀ b o, s2.heap.get? b = some o → b < D := fun b o e => by rw [hD]; exact Heap.lt_size e
  have push : ∀ b o, s2.heap.get? b = some o → s3.heap.get? b = some o := fun b o e => by rw [h3]; exact Heap.get?_push_of_some _ e
  have nH2 : ∀ b, D ≤ b → H2 b = none := fun b hb => I.hok.fresh (by rw [← hD]; exact hb)
  have hnD : ∀ b o, H2 b = some o → b ≠ D := fun b o e z => by rw [z, nH2 D (Nat.le_refl _)] at e; cases e
  have nex : ∀ b, b < D → b ∉ fp → b ∉ (cxCompZ Z X scope cl C N s3 H2 (D :: fp)).ex := fun b hb hf' hm => by
    rcases List.mem_cons.mp hm with z | z
    · exact absurd hb (by rw [z]; exact Nat.lt_irrefl _)
    · exact hf' z
  have fs_eq : (cxCompZ Z X scope cl C N s3 H2 (D :: fp)).fs = frs X.stack := rfl
  have un : Un (frs X.stack) fp H2 (upd H' D (.lst acc)) s2.heap s'.heap := by
    refine ⟨fun b o e n hb hx => ?_, fun b o e n hb hx => ?_, fun b o e n hx => ?_, fun b o e hx => ?_, fun b xs e => ?_, fun b o u e => ?_, fun b ps e => ?_⟩
    · exact J.base.keep b o (push b o e) n hb (nex b (lt2 b o e) hx)
    · exact J.base.slot b o (push b o e) n hb (nex b (lt2 b o e) hx)
    · rw [upd_ne (Nat.ne_of_lt (lt2 b o e))]
      exact J.base.free b o (push b o e) n (nex b (lt2 b o e) hx)
    · exact J.base.there b o (push b o e) (nex b (lt2 b o e) hx)
    · rw [upd_ne (hnD b _ e)]; exact J.base.tups b xs e
    · rw [upd_ne (hnD b _ e)]; exact J.base.frzs b o u e
    · obtain ⟨more, q⟩ := J.base.tbls b ps e
      exact ⟨more, by rw [upd_ne (hnD b _ e)]; exact q⟩
  have hok : HOk X.prog X.w (upd H' D (.lst acc)) s'.heap := fun b o e => by
    by_cases hb : b = D
    · subst hb
      rw [upd_same] at e; cases e
      exact ⟨hz, its, n, rv, oD⟩
    · rw [upd_ne hb] at e
      exact (J.hok b o e).stay (fun _ _ _ q => q) (fun c q => by rw [upd_ne (ne_of_none q nD)]; exact q) fun c xs q => by rw [upd_ne (ne_of_none q nD)]; exact q
  have os : s'.os = s2.os := by
    have e : s'.os = s3.os := J.os
    rw [e, h3]
  refine ⟨I.call' (ch := fp) os un hok J.bare fun b hb => ?_, ?_⟩
  · obtain ⟨f0, f1, f2, f3, f4, f5⟩ := hf b hb
    exact ⟨f3, f1, f4, f5⟩
  · have hCD : C ≠ D := by rw [hC, hD]; exact Nat.succ_ne_self _
    refine ⟨by rw [upd_ne hCD]; exact J.free, ?_, ?_, fun x c e z => ?_, fun p hp z => ?_⟩
    · rw [hC]; exact Nat.ne_of_gt (Nat.lt_succ_of_lt I.lt)
    · rw [hC]; exact Nat.le_succ_of_le I.sz
    · obtain ⟨v, q⟩ := I.cell x c e
      have := q.lt
      rw [z, hC] at this; exact absurd (Nat.lt_of_succ_lt this) (Nat.lt_irrefl _)
    · have := Heap.lt_size (I.pin p hp).1
      rw [z, hC] at this; exact absurd (Nat.lt_of_succ_lt this) (Nat.lt_irrefl _)
theorem comp_runZ {Z : Addr → Value → Shared → Prop} {elt iter : Expr} {x : Str} {px pos : Pos} {ifs : List Expr} {scope : Scope} {cl : List (Str × Addr)} {caps : List Nat} {cn : List Str} {te : TE} {tt : TT} {it : Addr} {fp : List Addr} {tn : Nat → Heap → Prop} {J : It}
    {W : Nat → Nat → List V → Hp → Prop} {m0 : Nat} {Qe : V → Hp → Prop} {E : Value → Shared → Prop} {R : Value → Addr → Result → Shared → Prop}
    (S : CompScope X.env.scope scope x cn) (hcl : cl = clOf X.env.cells scope.names []) (hcap : ∀ j : Nat, ∀ y, cn[j]? = some y → ∃ i, caps[j]? = some i ∧ X.N[i]? = some y) (hlen : caps.length = cn.length)
    (hc : X.calm = true) (I2 : Inv X pins σ H2 s2) (T : Turn X.prog X.w X.K (.Name x px) J fp it tn) (st2 : tn 0 s2.heap) (f2 : ∀ b ∈ fp, FpOk X pins H2 b)
    (w0 : W 0 m0 [] H2) (turn : ∀ i m acc H, W i m acc H →
      (J.stop i H ∧ acc.length ≤ sizeLine ∧ ∀ p, H p = none → Qe (.ref p) (upd H p (.lst acc))) ∨
      (J.go i H ∧ acc.length ≤ sizeLine ∧ ∀ v H', J.yld i H v H' → tt (some v :: capσ caps σ) H' fun b H2 =>
        if b = true then te (some v :: capσ caps σ) H2 fun y H3 => ∃ m', m' < m ∧ W (i + 1) m' (acc ++ [y]) H3 else ∃ m', m' < m ∧ W (i + 1) m' acc H2))
    (he : ∀ D s₀, D = s2.heap.objs.size → s₀ = { s2 with heap := s2.heap.push { cls := .type "list", data := .seq (([] : List Value).toArray) } } → PE (cxCompZ (Z (D + 1)) X scope cl (D + 1) (x :: cn) s₀ H2 (D :: fp)) elt te) (ht : ∀ D s₀, D = s2.heap.objs.size → s₀ = { s2 with heap := s2.heap.push { cls := .type "list", data := .seq (([] : List Value).toArray) } } → PQ (cxCompZ (Z (D + 1)) X scope cl (D + 1) (x :: cn) s₀ H2 (D :: fp)) ifs tt)
    (hZ : ∀ D e s', D = s2.heap.objs.size → Z (D + 1) e s' → notedBy (model X.prog X.w) X.A (compEnvC scope cl (D + 1) X.env) (fun e s' => R (.ref D) (D + 1) (.error e) s') e s')
    (hR : ∀ D C s' H', Inv X pins σ H' s' → (∃ m, s'.heap.Ns C m) → CFree X pins C H' → Qe (.ref D) H' → R (.ref D) C (.ok .next) s') :
    wpAny (model X.prog X.w) X.A (newList []) (fun acc s3 => wpAny (model X.prog X.w) X.A (newFunctionEnv scope X.env.globals cl [] X.env.qual none .none (some X.env)) (fun cenv s4 =>
      codeAny (model X.prog X.w) X.A (.compStart (.ListComp elt [⟨.Name x px, iter, ifs, 0⟩] scope pos) 0 (.ref it) acc { cenv with scope := relabel scope X.env }) (R acc cenv.locals) s4) E s3) E s2 := by
  refine wpAny_newList (items := []) (wpAny_newFunctionEnv S.nocell (by intro y hy; simp at hy) (fun h4 hns hsb => ?_) S.kind)
  have hhas : ∀ y ∈ scope.names, y.2 = .free → ∃ c, X.env.cells.lookup y.1 = some c := fun y hy hk => I2.ok.has y.1 (S.fr y hy hk)
  have csub : ∀ y c, cl.lookup y = some c → X.env.cells.lookup y = some c := fun y c e => by
    rw [hcl] at e
    exact clOf_sub scope.names [] hhas (fun _ _ z => by simp at z) y c e
  -- names for the places
  generalize hD : s2.heap.objs.size = D at *
  obtain ⟨s3, h3⟩ : ∃ s3 : Shared, s3 = { s2 with heap := s2.heap.push { cls := .type "list", data := .seq (([] : List Value).toArray) } } := ⟨_, rfl⟩
  have hs3 : ({ s2 with heap := s2.heap.push { cls := .type "list", data := .seq (([] : List Value).toArray) } } : Shared) = s3 := h3.symm
  have hC : (s2.heap.push { cls := .type "list", data := .seq (([] : List Value).toArray) }).objs.size = D + 1 := by rw [Heap.size_push, hD]
  rw [hC] at hns hsb
  show codeAny (model X.prog X.w) X.A (.compStart (.ListComp elt [⟨.Name x px, iter, ifs, 0⟩] scope pos) 0 (.ref it) (.ref D)
    { newEnv scope (s2.heap.push { cls := .type "list", data := .seq (([] : List Value).toArray) }).objs.size X.env.globals cl X.env.qual none .none (some X.env) _ with scope := relabel scope X.env })
    (R (.ref D) (s2.heap.push { cls := .type "list", data := .seq (([] : List Value).toArray) }).objs.size) _
  rw [hC]
  have fresh : ∀ b, D ≤ b → H2 b = none := fun b hb => I2.hok.fresh (by rw [hD]; exact hb)
  have lt2 : ∀ b o, s2.heap.get? b = some o → b < D := fun b o e => by rw [← hD]; exact Heap.lt_size e
  have fpD : ∀ b ∈ fp, b < D := fun b hb => by
    obtain ⟨o, e, _⟩ := T.obj 0 _ st2 b hb
    exact lt2 b o e
  have kp : ∀ b o, s2.heap.get? b = some o → h4.get? b = some o := fun b o e =>
    (hsb.2 b (Nat.ne_of_lt (Nat.lt_succ_of_lt (lt2 b o e)))).trans (Heap.get?_push_of_some _ (Heap.get?_push_of_some _ e))
  have oD4 : h4.get? D = some { cls := .type "list", data := .seq (([] : List Value).toArray) 0 } := by
    refine (hsb.2 D (Nat.ne_of_lt (Nat.lt_succ_self _))).trans (Heap.get?_push_of_some _ ?_)
    rw [← hD]; exact Heap.get?_push_size _ rfl
  have stkNe : ∀ b ∈ frs X.stack, b < D := fun b hb => by
    rcases List.mem_cons.mp (I2.stkSub b hb) with e | hb
    · rw [e, ← hD]; exact I2.lt
    · obtain ⟨_, o, ho, _⟩ := I2.ok.funs.mem hb
      rw [← hD]; exact Nat.lt_of_lt_of_le (Heap.lt_size ho) I2.sz
  -- the block's context
  have ok' : (cxCompZ (Z (D + 1)) X scope cl (D + 1) (x :: cn) s3 H2 (D :: fp)).Ok := by
    refine ⟨I2.ok.mod, S.kind, I2.ok.glob, I2.ok.blt, ?_, fun y z c e1 e2 => I2.ok.inj y z c (csub y c e1) (csub z c e2), fun y hy => ?_, fun y c hf => (nomatch hf), I2.ok.hd, I2.ok.frames, .inl rfl, fun b hb => ?_, fun b o e => ?_, ?_, fun b o e hb => ?_, fun b hb hfs => ?_, ?_, I2.stkFree⟩
    · show s3.heap.objs.size ≤ D + 1
      rw [h3]; show (s2.heap.push _).objs.size ≤ _; rw [hC]; exact Nat.le_refl _
    · have hy' : (relabel scope X.env).names.lookup y = some .cell ∨ (relabel scope X.env).names.lookup y = some .free := hy
      have : ∃ j, scope.names.lookup y = some j ∧ j = NameKind.free := by
        rcases hy' with z | z
        · obtain ⟨j, e, q⟩ := relabel_inv z
          rcases q with q | q
          · exact absurd q.symm (S.nocell (y, j) (lookup_mem_kind e))
          · exact ⟨j, e, q⟩
        · obtain ⟨j, e, q⟩ := relabel_inv z
          rcases q with q | q
          · exact ⟨j, e, q.symm⟩
          · exact ⟨j, e, q⟩
      obtain ⟨j, e, rfl⟩ := this
      show ∃ c, cl.lookup y = some c
      rw [hcl]; exact clOf_has _ _ (lookup_mem_kind e)
    · rcases List.mem_cons.mp hb with z | z
      · subst z
        refine ⟨Nat.ne_of_lt (Nat.lt_succ_self _), fun y c e q => ?_⟩
        obtain ⟨v, ce⟩ := I2.cell y c (csub y c e)
        have := ce.lt; rw [q, hD] at this; exact Nat.lt_irrefl _ this
      · refine ⟨Nat.ne_of_lt (Nat.lt_succ_of_lt (fpD b z)), fun y c e q => ?_⟩
        exact (f2 b z).2.2.2.2.1 y c (csub y c e) q
    · obtain ⟨q1, q2⟩ := I2.bs b o e
      exact ⟨by rw [h3]; exact Heap.get?_push_of_some _ q1, q2⟩
    · show X.base.objs.size ≤ s3.heap.objs.size
      rw [h3]; show _ ≤ (s2.heap.push _).objs.size; rw [hC]
      exact Nat.le_succ_of_le (by rw [← hD]; exact Nat.le_trans I2.ok.bsz I2.sz)
    · rcases List.mem_cons.mp hb with z | z
      · have := lt2 b o (I2.bs b o e).1
        rw [z] at this; exact Nat.lt_irrefl _ this
      · rcases (f2 b z).2.2.2.1 with q | q
        · exact I2.ok.noex b o e q
        · exact absurd (Nat.lt_of_lt_of_le (Nat.lt_of_lt_of_le (Heap.lt_size e) I2.ok.bsz) q) (Nat.lt_irrefl _)
    · rcases List.mem_cons.mp hb with z | z
      · have := stkNe b hfs; rw [z] at this; exact Nat.lt_irrefl _ this
      · have hfs' : b ∈ frs X.stack := hfs
        rcases List.mem_cons.mp (I2.stkSub b hfs') with q | q
        · exact (f2 b z).2.1 q
        · exact (f2 b z).2.2.1 q
    · show s3.heap.FunFrames X.base X.stack
      have all : ∀ (l : List Env), s2.heap.FunFrames X.base l → s3.heap.FunFrames X.base l := by
        intro l
        induction l with
        | nil => intro _; trivial
        | cons env r ih =>
          intro hl
          obtain ⟨hk, ⟨L, o, hf, hn, ho, hd⟩, hr⟩ := hl
          exact ⟨hk, ⟨L, o, hf, hn, by rw [h3]; exact Heap.get?_push_of_some _ ho, hd⟩, ih hr⟩
      exact all _ I2.stack
  -- the captured names
  have cap4 : ∀ (j : Nat) (y : Str) (v : V), cn[j]? = some y → (capσ caps σ)[j]? = some (some v) → ∃ u c, RelV v u ∧ cl.lookup y = some c ∧ h4.IsCell c (some u) := fun j y v e1 e2 => by
    obtain ⟨i, hi, hN⟩ := hcap j y e1
    have e3 : σ[i]? = some (some v) := by
      unfold capσ at e2
      rw [List.getElem?_map, hi] at e2
      simp only [Option.map_some, Option.some.injEq] at e2
      cases q : σ[i]? with
      | none => rw [q] at e2; cases e2
      | some o => rw [q] at e2; cases o with
        | none => cases e2
        | some w => simp at e2; subst e2; rfl
    obtain ⟨m, hn, hl⟩ := I2.loc
    obtain ⟨hmem, hlk⟩ := S.cap y (List.mem_of_getElem? e1)
    have hk := S.fr (y, .free) hmem rfl
    have hk' : X.env.kindOf y = some .cell ∨ X.env.kindOf y = some .free := hk
    obtain ⟨u, r, l⟩ := hl i y v hN e3 (by rcases hk with z | z; exact .inr (.inl z); exact .inr (.inr z))
    rcases l with ⟨k, _⟩ | ⟨_, c, e, z⟩
    · rcases hk' with q | q <;> rw [q] at k <;> cases k
    · obtain ⟨c', hc'⟩ : ∃ c', cl.lookup y = some c' := by rw [hcl]; exact clOf_has _ _ hmem
      have := csub y c' hc'
      rw [e] at this; cases this
      obtain ⟨o, ho, hd⟩ := z
      exact ⟨u, c, r, hc', o, kp c o ho, hd⟩
  have cells4 : ∀ y c, cl.lookup y = some c → ∃ v, h4.IsCell c v := fun y c e => by
    obtain ⟨v, o, ho, hd⟩ := I2.cell y c (csub y c e)
    exact ⟨v, o, kp c o ho, hd⟩
  obtain ⟨s4, hs4⟩ : ∃ s4 : Shared, s4 = { s2 with heap := h4, toks := s2.toks + ([] : List (Str × Value)).length } := ⟨_, rfl⟩
  have J0 : Inv (cxCompZ (Z (D + 1)) X scope cl (D + 1) (x :: cn) s3 H2 (D :: fp)) [] (none :: capσ caps σ) H2 s4 := by
    have b3 : ∀ b o, s3.heap.get? b = some o → h4.get? b = some o := fun b o e => by
      rw [h3] at e
      have hb : b < D + 1 := by rw [← hC]; exact Heap.lt_size e
      exact (hsb.2 b (Nat.ne_of_lt hb)).trans (Heap.get?_push_of_some _ e)
    refine ⟨ok', ?_, ?_, ?_, ⟨_, (by rw [hs4]; exact hns), fun j y v e1 e2 e3 => ?_⟩, fun y c e => (by rw [hs4]; exact cells4 y c e), fresh _ (Nat.le_succ _), fun y c e => I2.freeC y c (csub y c e), fun p hp => (nomatch hp), ?_, ?_⟩
    · rw [hs4]; show s2.os = s3.os; rw [h3]
    · rw [hs4]; exact I2.bare
    · rw [hs4]; exact Un.kept b3
    · cases j with
      | zero => simp at e2
      | succ j =>
        have e1' : cn[j]? = some y := by simpa [cxCompZ, cxComp] using e1
        have e2' : (capσ caps σ)[j]? = some (some v) := by simpa using e2
        obtain ⟨u, c, r, ec, ic⟩ := cap4 j y v e1' e2'
        refine ⟨u, r, .inr ⟨?_, c, ec, by rw [hs4]; exact ic⟩⟩
        have q := lookup_relabel (env := X.env) (S.cap y (List.mem_of_getElem? e1')).2
        show (relabel scope X.env).names.lookup y = _ ∨ (relabel scope X.env).names.lookup y = _
        unfold relabel
        rw [q]
        split
        · exact .inl rfl
        · exact .inr rfl
    · rw [hs4]; exact I2.hok.kept kp
    · show (none :: capσ caps σ).length = (x :: cn).length
      simp [capσ, hlen]
  -- what the iterator asks
  have fpk : ∀ {H' : Hp} {n : Nat} {its : List Value}, (∀ b ∈ fp, H' b = none) → ∀ b ∈ fp, FpOk (cxCompZ (Z (D + 1)) X scope cl (D + 1) (x :: cn) s3 H2 (D :: fp)) [(D, ({ cls := .type "list", data := .seq its.toArray n } : Obj))] H' b := fun {H' n its} hn b hb => by
    refine ⟨hn b hb, (ok'.exf b (List.mem_cons_of_mem _ hb)).1, ok'.exfs b (List.mem_cons_of_mem _ hb), .inl (List.mem_cons_of_mem _ hb), (ok'.exf b (List.mem_cons_of_mem _ hb)).2, fun p hp => ?_⟩
    have e : p = (D, ({ cls := .type "list", data := .seq its.toArray n } : Obj)) := by simpa [cxCompZ, cxComp] using hp
    subst e
    exact Ne.symm (Nat.ne_of_lt (fpD b hb))
  have pinD : ∀ {σ' : St} {H' : Hp} {s' : Shared} {n : Nat} {its : List Value}, Inv (cxCompZ (Z (D + 1)) X scope cl (D + 1) (x :: cn) s3 H2 (D :: fp)) [] σ' H' s' → H' D = none → s'.heap.get? D = some { cls := .type "list", data := .seq its.toArray n } →
      Inv (cxCompZ (Z (D + 1)) X scope cl (D + 1) (x :: cn) s3 H2 (D :: fp)) [(D, ({ cls := .type "list", data := .seq its.toArray n } : Obj))] σ' H' s' := fun {σ' H' s' n its} J hn hd => by
    refine J.pins_of fun p hp => ?_
    have e : p = (D, ({ cls := .type "list", data := .seq its.toArray n } : Obj)) := by simpa using hp
    subst e
    exact ⟨hd, hn, (ok'.exf D List.mem_cons_self).1, ok'.exfs D List.mem_cons_self, fun v z => by cases z⟩
  have locX : Loc (cxCompZ (Z (D + 1)) X scope cl (D + 1) (x :: cn) s3 H2 (D :: fp)).env.scope x := .inl (lookup_relabel_local S.tgt)
  -- the loop
  have loop : ∀ s', s' = s4 → codeAny (model X.prog X.w) X.A (.compLoop (.ListComp elt [⟨.Name x px, iter, ifs, 0⟩] scope pos) 0 (.ref it) (.ref D) (compEnvC scope cl (D + 1) X.env)) (R (.ref D) (D + 1)) s' := by
    rintro s' rfl
    refine codeAny_compLoop_tests (fun k s' => ∃ i acc its n o H', Inv (cxCompZ (Z (D + 1)) X scope cl (D + 1) (x :: cn) s3 H2 (D :: fp)) [] (o :: capσ caps σ) H' s' ∧ tn i s'.heap ∧ (∀ b ∈ fp, H' b = none) ∧ H' D = none ∧
      s'.heap.get? D = some { cls := .type "list", data := .seq its.toArray n } ∧ Vals acc its ∧ W i k acc H') ?_ m0
      ⟨0, [], [], 0, none, H2, J0, (by rw [hs4]; exact T.keep 0 _ _ st2 fun b _ o e => kp b o e), fun b hb => (f2 b hb).1, fresh D (Nat.le_refl _), (by rw [hs4]; exact oD4), .nil, w0⟩
    rintro k s5 ⟨i, acc, its, n, o, H5, J5, st5, fn5, nD5, oD5, rv5, w5⟩
    have J5' := pinD J5 nD5 oD5
    have nov : ∀ {α : Type} {t : Sem α} {Q : α → Shared → Prop} {s : Shared}, wpAny (model X.prog X.w) X.A t Q (Z (D + 1)) s → wpAny (model X.prog X.w) X.A t Q (notedBy (model X.prog X.w) X.A (compEnvC scope cl (D + 1) X.env) (fun e s' => R (.ref D) (D + 1) (.error e) s')) s :=
      fun h => wpAny_mono h (fun _ _ q => q) fun e s' q => hZ D e s' rfl q
    rcases turn i k acc H5 w5 with ⟨stop, hz, fin⟩ | ⟨go, hz, step⟩
    · refine nov (thn (T.done (cxCompZ (Z (D + 1)) X scope cl (D + 1) (x :: cn) s3 H2 (D :: fp)) rfl rfl rfl hc i _ s5 _ H5 _ J5' (fpk fn5) st5 stop) fun r s6 ⟨hr, J6⟩ => ?_)
      subst hr
      have oD6 := (J6.pin _ (List.mem_append_right _ List.mem_cons_self)).1
      obtain ⟨I6, cf⟩ := comp_back I2 f2 hD.symm (by rw [hD]) h3 J6 nD5 oD6 rv5 hz
      obtain ⟨m, hm, _⟩ := J6.loc
      exact hR D (D + 1) s6 _ I6 ⟨m, hm⟩ cf (fin D nD5)
    · refine nov (thn (T.item (cxCompZ (Z (D + 1)) X scope cl (D + 1) (x :: cn) s3 H2 (D :: fp)) rfl rfl rfl hc i _ s5 _ H5 _ J5' (fpk fn5) st5 go) fun r s6 ⟨u, hr, h6⟩ => ?_)
      subst hr
      show wpAny _ _ (assign (.Name x px) (compEnvC scope cl (D + 1) X.env) u) _ _ s6
      have h6' : wpAny (model X.prog X.w) X.A (letOwnedTupleGo (.Name x px) (.ref it) u >>= fun _ => assign (.Name x px) (compEnvC scope cl (D + 1) X.env) u) (fun _ s₂ =>
          wpAny (model X.prog X.w) X.A (forIn ifs true fun c r => if r = true then do let ok ← isTrue c (compEnvC scope cl (D + 1) X.env) (eval c (compEnvC scope cl (D + 1) X.env)); pure (ForInStep.yield ok) else pure (ForInStep.yield r)) (fun ok s₃ =>
            if ok = true then wpAny (model X.prog X.w) X.A (eval elt (compEnvC scope cl (D + 1) X.env)) (fun y s₄ =>
              wpAny (model X.prog X.w) X.A (call (.builtin "list.append") [.ref D, y]) (fun _ s₅ => ∃ m, m < k ∧ ∃ i acc its n o H', Inv (cxCompZ (Z (D + 1)) X scope cl (D + 1) (x :: cn) s3 H2 (D :: fp)) [] (o :: capσ caps σ) H' s₅ ∧ tn i s₅.heap ∧ (∀ b ∈ fp, H' b = none) ∧ H' D = none ∧
                s₅.heap.get? D = some { cls := .type "list", data := .seq its.toArray n } ∧ Vals acc its ∧ W i m acc H') (Z (D + 1)) s₄) (Z (D + 1)) s₃
            else ∃ m, m < k ∧ ∃ i acc its n o H', Inv (cxCompZ (Z (D + 1)) X scope cl (D + 1) (x :: cn) s3 H2 (D :: fp)) [] (o :: capσ caps σ) H' s₃ ∧ tn i s₃.heap ∧ (∀ b ∈ fp, H' b = none) ∧ H' D = none ∧
                s₃.heap.get? D = some { cls := .type "list", data := .seq its.toArray n } ∧ Vals acc its ∧ W i m acc H') (Z (D + 1)) s₂) (Z (D + 1)) s6 := by
        refine wpAny_bind (thn h6 fun _ s7 ⟨v, H7, J7, r7, y7, st7, fn7⟩ => ?_)
        have J7' := J7.pinned (fpk fn7) (T.obj _ _ st7)
        have pg := pg_name (X := cxCompZ (Z (D + 1)) X scope cl (D + 1) (x :: cn) s3 H2 (D :: fp)) (i := 0) (pos := px) S.nd rfl locX (.inr (lookup_relabel_local S.tgt))
        refine thn (pg _ s7 _ H7 v u (fun σ8 H8 => σ8 = some v :: capσ caps σ ∧ H8 = H7) J7' r7 ⟨rfl, rfl⟩) fun _ s8 ⟨σ8, H8, J8, e8, e8'⟩ => ?_
        subst e8 e8'
        refine thn (ht D s3 rfl h3 _ s8 _ H8 _ J8 (step v H8 y7)) fun b s9 ⟨H9, J9, q9⟩ => ?_
        -- what stays of the iterator and of the list
        have pins9 : ∀ {σ' : St} {H' : Hp} {s' : Shared}, Inv (cxCompZ (Z (D + 1)) X scope cl (D + 1) (x :: cn) s3 H2 (D :: fp)) ([(D, ({ cls := .type "list", data := .seq its.toArray n } : Obj))] ++ pinsAt fp s7.heap) σ' H' s' →
            tn (i + 1) s'.heap ∧ (∀ b ∈ fp, H' b = none) ∧ H' D = none ∧ s'.heap.get? D = some { cls := .type "list", data := .seq its.toArray n } := fun {σ' H' s'} JJ => by
          refine ⟨T.keep _ _ _ st7 fun b hb o e => (JJ.pin (b, o) (List.mem_append_right _ (List.mem_append_right _ (mem_pinsAt hb e)))).1, fun b hb => ?_, ?_, ?_⟩
          · obtain ⟨o, e, _⟩ := T.obj _ _ st7 b hb
            exact (JJ.pin (b, o) (List.mem_append_right _ (List.mem_append_right _ (mem_pinsAt hb e)))).2.1
          · exact (JJ.pin (D, _) (List.mem_append_right _ (List.mem_append_left _ List.mem_cons_self))).2.1
          · exact (JJ.pin (D, _) (List.mem_append_right _ (List.mem_append_left _ List.mem_cons_self))).1
        have strip : ∀ {σ' : St} {H' : Hp} {s' : Shared} {pl : List (Addr × Obj)}, Inv (cxCompZ (Z (D + 1)) X scope cl (D + 1) (x :: cn) s3 H2 (D :: fp)) pl σ' H' s' → Inv (cxCompZ (Z (D + 1)) X scope cl (D + 1) (x :: cn) s3 H2 (D :: fp)) [] σ' H' s' := fun JJ => JJ.pins_of fun p hp => (nomatch hp)
        cases b with
        | false =>
          rw [if_neg Bool.false_ne_true] at q9
          rw [if_neg Bool.false_ne_true]
          obtain ⟨m', hm, w9⟩ := q9
          obtain ⟨a1, a2, a3, a4⟩ := pins9 J9
          exact ⟨m', hm, i + 1, acc, its, n, some v, H9, strip J9, a1, a2, a3, a4, rv5, w9⟩
        | true =>
          rw [if_pos rfl] at q9
          rw [if_pos rfl]
          refine thn (he D s3 rfl h3 _ s9 _ H9 _ J9 q9) fun uy s10 ⟨y, H10, J10, r10, m', hm, w10⟩ => ?_
          obtain ⟨a1, a2, a3, a4⟩ := pins9 J10
          have lenI : its.toArray.size ≤ sizeLine := by rw [List.size_toArray, ← rv5.length]; exact hz
          refine wpAny_list_append_plain ⟨n, a4⟩ (fun h' pl sb => ?_) lenI
          obtain ⟨n', e'⟩ := pl
          have J11 : Inv (cxCompZ (Z (D + 1)) X scope cl (D + 1) (x :: cn) s3 H2 (D :: fp)) [] (some v :: capσ caps σ) H10 { s10 with heap := h', toks := s10.toks } :=
            (strip J10).turned (fun b o hb e => (sb.2 b hb).trans e) a3 (ok'.exf D List.mem_cons_self).1 (.inl List.mem_cons_self) (ok'.exf D List.mem_cons_self).2 fun p hp => (nomatch hp)
          refine ⟨m', hm, i + 1, acc ++ [y], its ++ [uy], n', some v, H10, J11, ?_, a2, a3, ?_, rv5.append (.cons r10 .nil), w10⟩
          · exact T.keep _ _ _ a1 fun b hb o e => (sb.2 b (Nat.ne_of_lt (fpD b hb))).trans e
          · rw [show (its ++ [uy]).toArray = its.toArray.push uy by simp]; exact e'
      refine nov (thn h6' fun _ s7 q7 => ?_)
      refine nov (thn q7 fun ok s8 q8 => ?_)
      cases ok with
      | false => exact q8
      | true =>
        rw [if_pos rfl] at q8 ⊢
        exact nov (thn q8 fun y s9 q9 => nov q9)
  refine codeAny_compStart_list (loop _ hs4.symm) (T.self X.A 0 _ _ _ ?_ (loop _ hs4.symm))
  exact T.keep 0 _ _ st2 fun b _ o e => kp b o e
theorem comp_run {elt iter : Expr} {x : Str} {px pos : Pos} {ifs : List Expr} {scope : Scope} {cl : List (Str × Addr)} {caps : List Nat} {cn : List Str} {te : TE} {tt : TT} {it : Addr} {fp : List Addr} {tn : Nat → Heap → Prop} {J : It}
    {W : Nat → Nat → List V → Hp → Prop} {m0 : Nat} {Qe : V → Hp → Prop} {E : Value → Shared → Prop} {R : Value → Addr → Result → Shared → Prop}
    (S : CompScope X.env.scope scope x cn) (hcl : cl = clOf X.env.cells scope.names []) (hcap : ∀ j : Nat, ∀ y, cn[j]? = some y → ∃ i, caps[j]? = some i ∧ X.N[i]? = some y) (hlen : caps.length = cn.length)
    (hc : X.calm = true) (I2 : Inv X pins σ H2 s2) (T : Turn X.prog X.w X.K (.Name x px) J fp it tn) (st2 : tn 0 s2.heap) (f2 : ∀ b ∈ fp, FpOk X pins H2 b)
    (w0 : W 0 m0 [] H2) (turn : ∀ i m acc H, W i m acc H →
      (J.stop i H ∧ acc.length ≤ sizeLine ∧ ∀ p, H p = none → Qe (.ref p) (upd H p (.lst acc))) ∨
      (J.go i H ∧ acc.length ≤ sizeLine ∧ ∀ v H', J.yld i H v H' → tt (some v :: capσ caps σ) H' fun b H2 =>
        if b = true then te (some v :: capσ caps σ) H2 fun y H3 => ∃ m', m' < m ∧ W (i + 1) m' (acc ++ [y]) H3 else ∃ m', m' < m ∧ W (i + 1) m' acc H2))
    (he : ∀ C s₀ H₀ ex, PE (cxComp X scope cl C (x :: cn) s₀ H₀ ex) elt te) (ht : ∀ C s₀ H₀ ex, PQ (cxComp X scope cl C (x :: cn) s₀ H₀ ex) ifs tt)
    (hR : ∀ D C s' H', Inv X pins σ H' s' → (∃ m, s'.heap.Ns C m) → CFree X pins C H' → Qe (.ref D) H' → R (.ref D) C (.ok .next) s') :
    wpAny (model X.prog X.w) X.A (newList []) (fun acc s3 => wpAny (model X.prog X.w) X.A (newFunctionEnv scope X.env.globals cl [] X.env.qual none .none (some X.env)) (fun cenv s4 =>
      codeAny (model X.prog X.w) X.A (.compStart (.ListComp elt [⟨.Name x px, iter, ifs, 0⟩] scope pos) 0 (.ref it) acc { cenv with scope := relabel scope X.env }) (R acc cenv.locals) s4) E s3) E s2 :=
  comp_runZ (Z := fun _ _ _ => False) S hcl hcap hlen hc I2 T st2 f2 w0 turn (fun D s₀ _ _ => he (D + 1) s₀ H2 (D :: fp)) (fun D s₀ _ _ => ht (D + 1) s₀ H2 (D :: fp)) (fun _ _ _ _ h => h.elim) hR
variable {elt iter : Expr} {x : Str} {px pos : Pos} {ifs : List Expr} {scope : Scope} {cn : List Str} {wi : TI} {te : TE} {tt : TT}
theorem pe_comp (caps : List Nat) {sc : Scope} (hsc : X.env.scope = sc) (S : CompScope sc scope x cn) (hcap : caps.map (fun i => X.N[i]?) = cn.map some) (hc : X.calm = true)
    (hi : PI X (.Name x px) iter wi) (ht : ∀ cl C s₀ H₀ ex, PQ (cxComp X scope cl C (x :: cn) s₀ H₀ ex) ifs tt) (he : ∀ cl C s₀ H₀ ex, PE (cxComp X scope cl C (x :: cn) s₀ H₀ ex) elt te)
    (hs : ∀ v, foldedSetIterable iter X.env v = pure v := by intro _; rfl) :
    PE X (.ListComp elt [⟨.Name x px, iter, ifs, 0⟩] scope pos) (tComp caps wi tt te) := by
  subst hsc
  intro pins s σ H Q I h
  have hhas : ∀ y ∈ scope.names, y.2 = .free → ∃ c, X.env.cells.lookup y.1 = some c := fun y hy hk => I.ok.has y.1 (S.fr y hy hk)
  rw [eval_ListComp]
  refine wpAny_comprehension_free (use := none) rfl hs (closure_eq hhas) S.kind S.names (thn (hi pins s σ H _ I h) fun xv s1 h1 => thn h1 fun itv s2 h2 => ?_)
  obtain ⟨it, fp, tn, J, H2, rfl, I2, T, st2, f2, W, ⟨m0, w0⟩, turn⟩ := h2
  refine comp_run (R := fun acc C => compPost (model X.prog X.w) X.A X.xe none (EP X pins σ Q) acc C) S rfl (caps_at hcap) (caps_len hcap) hc I2 T st2 f2 w0 turn (he _) (ht _) ?_
  intro D C s' H' I' hm cf q
  obtain ⟨m, hm⟩ := hm
  refine ⟨m, hm, fun h' sb => ⟨.ref D, H', ?_, rfl, q⟩⟩
  exact I'.turned (t' := s'.toks) (fun b o hb e => (sb.2 b hb).trans e) cf.no cf.ne (.inr cf.up) cf.cells cf.pin
end
end L3
namespace L3
open PySem PySem.Spec PyProof.Rows L2
structure Cal (P : Program) (w : World) (K : PySem.W.Frag) (mg : Str → Option Value) (base : Heap) (k : Nat) (x : Str) (ps : List Str) (sp : Sp) : Prop where
  ex : ∃ (f : Addr) (fd : FuncData), FnOk P w K mg base CX0 k f fd ps sp ∧ Binds K fd ps [] ∧ PySem.W.keepIn K (.ref f) = true ∧ mg x = some (.ref f)
theorem Cal.mono {P : Program} {w : World} {K : PySem.W.Frag} {mg : Str → Option Value} {base : Heap} {j k : Nat} {x : Str} {ps : List Str} {sp : Sp} (c : Cal P w K mg base j x ps sp) (h : j ≤ k) : Cal P w K mg base k x ps sp := by
  obtain ⟨f, fd, F, b, kp, m⟩ := c.ex
  exact ⟨f, fd, F.mono h, b, kp, m⟩
section
variable {X : Cx} {k : Nat} {x : Str} {ps : List Str} {sp : Sp} {e : Expr} {es : List Expr} {t : TA} {p pos : Pos}
theorem pe_callC (C : Cal X.prog X.w X.K X.mg X.base k x ps sp) (hr : Room k X.A) (ha : PA X (e :: es) t) (hg : Gl X x := by rfl) (hdb : (x == ("__debug__" : Str)) = false := by decide)
    (he : starEach (e :: es) X.env = (false, eval e X.env) :: starEach es X.env := by rfl) (hpl : (backTo pos (starEach es X.env)).any (·.1) = false := by rfl) :
    PE X (.Call (.Name x p) (e :: es) [] pos) (tCall sp [] E0 t) := by
  obtain ⟨f, fd, F, b, kp, m⟩ := C.ex
  exact pe_call F hr hg m kp b .nil pass0 ha hdb he hpl
end
section
variable {P : Program} {w : World} {K : PySem.W.Frag} {mg : Str → Option Value} {base : Heap}
theorem Fun.cal {x qual : Str} {st : Stmt} {f : Addr} {fd : FuncData} {N ps : List Str} {k : Nat} {sp : Sp} (F : Fun K x qual st f fd) (hm : mg x = some (.ref f)) (hb : Binds K fd ps []) (S : FnScope N ps (defScope st)) (len : ∀ vs H Q E, sp vs H Q E → vs.length = ps.length)
    (hbody : ∀ (cdv : Value) (A : Around) (outer : List Env) (s : Shared) (H : Hp) (vs : List V) (Q : VK) (E : XK), Room k (A.deeper (envOfC qual (defScope st) s.heap.objs.size f cdv)) → sp vs H Q E →
      ∃ t, PSs (cxOf CX0 P w K mg base N qual (defScope st) f cdv A outer s H E).nox (defBody st) t ∧ t { nx := fun _ H' => Q .non H', rt := Q } (start N vs) H) : Cal P w K mg base (k + 1) x ps sp :=
  ⟨f, fd, F.ok S len hbody, hb, F.kp, hm⟩
structure Def (K : PySem.W.Frag) (mg : Str → Option Value) (x : Str) (st : Stmt) (ps : List Str) : Prop where
  ex : ∃ (f : Addr) (fd : FuncData), Fun K x x st f fd ∧ mg x = some (.ref f) ∧ Binds K fd ps []
theorem Def.cal {x : Str} {st : Stmt} {N ps : List Str} {k : Nat} {sp : Sp} (F : Def K mg x st ps) (S : FnScope N ps (defScope st)) (len : ∀ vs H Q E, sp vs H Q E → vs.length = ps.length)
    (hbody : ∀ (f : Addr) (cdv : Value) (A : Around) (outer : List Env) (s : Shared) (H : Hp) (vs : List V) (Q : VK) (E : XK), Room k (A.deeper (envOfC x (defScope st) s.heap.objs.size f cdv)) → sp vs H Q E →
      ∃ t, PSs (cxOf CX0 P w K mg base N x (defScope st) f cdv A outer s H E).nox (defBody st) t ∧ t { nx := fun _ H' => Q .non H', rt := Q } (start N vs) H) : Cal P w K mg base (k + 1) x ps sp := by
  obtain ⟨f, fd, F, hm, hb⟩ := F.ex
  exact Fun.cal F hm hb S len (hbody f)
end
theorem def_mk {K : PySem.W.Frag} {h : Heap} {mg : Str → Option Value} {x : Str} {st : Stmt} {ps : List Str} {f : Addr} {oc : Value} {od an : Option Addr} {osl : Array (Option Value)} {kV doc pm cdv ct : Value} (X : K.In h) (G : h.Ns mainGlobals mg)
    (a : PySem.W.nsIn K mainGlobals x = some (some (.ref f))) (l : K.lookup f = some ⟨oc, od, .func (PySem.W.fnOf x x (defArgs st) (defBody st) (defScope st) .none kV doc pm an cdv ct), osl⟩) (c : PySem.W.codeIn K cdv x = true) (k : PySem.W.keepIn K (.ref f) = true)
    (hb : ∀ (kV doc pm : Value) (an : Option Addr) (cdv ct : Value) (us : List Value), us.length = ps.length → bindArgs (PySem.W.fnOf x x (defArgs st) (defBody st) (defScope st) .none kV doc pm an cdv ct) ⟨us, []⟩ = pure (ps.zip us)) : Def K mg x st ps :=
  ⟨f, _, fun_mk l c k, PySem.W.mg_of X G a, (fun_mk l c k).binds hb⟩
theorem tupK {K : PySem.W.Frag} {f : Addr} {od : Option Addr} {osl : Array (Option Value)} {its : Array Value} {n : Nat} {xs : List V} (l : K.lookup f = some ⟨.type "tuple", od, .seq its n, osl⟩) (z : its.size ≤ sizeLine) (r : Vals xs its.toList) (H : Hp) : SqT K H f xs :=
  .inr ⟨_, its, n, l, rfl, rfl, z, r⟩
structure Blt (mg : Str → Option Value) : Prop where
  abs : mg "abs" = none
  len : mg "len" = none
  tuple : mg "tuple" = none
  list : mg "list" = none
  range : mg "range" = none
  isinstance : mg "isinstance" = none
  bool : mg "bool" = none
  int : mg "int" = none
  all : mg "all" = none
  set : mg "set" = none
  zip : mg "zip" = none
  str : mg "str" = none
  sorted : mg "sorted" = none
theorem bt_abs : bootBuiltins "abs" = some (.builtin "abs") := by decide +kernel
theorem bt_len : bootBuiltins "len" = some (.builtin "len") := by decide +kernel
theorem bt_isinstance : bootBuiltins "isinstance" = some (.builtin "isinstance") := by decide +kernel
theorem bt_tuple : bootBuiltins "tuple" = some (.type "tuple") := by decide +kernel
theorem bt_list : bootBuiltins "list" = some (.type "list") := by decide +kernel
theorem bt_str : bootBuiltins "str" = some (.type "str") := by decide +kernel
theorem bt_set : bootBuiltins "set" = some (.type "set") := by decide +kernel
theorem bt_zip : bootBuiltins "zip" = some (.type "zip") := by decide +kernel
theorem bt_sorted : bootBuiltins "sorted" = some (.builtin "sorted") := by decide +kernel
section
variable {X : Cx}
end
theorem cxOf_K {CX : CXT} {P : Program} {w : World} {K : PySem.W.Frag} {mg : Str → Option Value} {base : Heap} {N : List Str} {qual : Str} {scope : Scope} {f : Addr} {cd : Value} {A : Around} {outer : List Env} {s : Shared} {H : Hp} {E : XK} :
    (cxOf CX P w K mg base N qual scope f cd A outer s H E).K = K := rfl
theorem scal_int (i j : Int) : scal (.int i) (.int j) = true := rfl
theorem scal_bl (i j : Bool) : scal (.bl i) (.bl j) = true := rfl
theorem scal_str (i j : Str) : scal (.str i) (.str j) = true := rfl
def rIxTI (K : PySem.W.Frag) : R2 := fun x y H Q => ∃ ns i n, y = .int i ∧ Tp K H x ns ∧ atI ns i = some n ∧ Q (.int n) H
def Lp (K : PySem.W.Frag) (H : Hp) (v : V) (ns : List Int) : Prop := ∃ a, v = .ref a ∧ SqL K H a (ns.map V.int)
def rIxLI (K : PySem.W.Frag) : R2 := fun x y H Q => ∃ ns i n, y = .int i ∧ Lp K H x ns ∧ atI ns i = some n ∧ Q (.int n) H
theorem atI_map {α β : Type} {f : α → β} {xs : List α} {i : Int} {x : α} (h : atI xs i = some x) : atI (xs.map f) i = some (f x) := by
  unfold atI at h ⊢
  rw [List.length_map]
  cases e : ixN xs.length i with
  | none => rw [e] at h; cases h
  | some j =>
    rw [e] at h
    simp only [Option.bind_some] at h ⊢
    rw [List.getElem?_map, h]; rfl
section
variable {X : Cx}
theorem ixr_imp {r r' : R2} (h : IxR X r) (k : ∀ x y H Q, r' x y H Q → r x y H Q) : IxR X r' := by
  intro value slice pins s σ H x y v u Q I rx ry q hs
  exact h value slice pins s σ H x y v u Q I rx ry (k x y H Q q) hs
theorem ix_tupI : IxR X (rIxTI X.K) := ixr_imp ix_tup fun x y H Q h => by
  obtain ⟨ns, i, n, rfl, ⟨a, rfl, hq⟩, ha, q⟩ := h
  exact ⟨a, _, i, _, rfl, rfl, hq, atI_map ha, q⟩
theorem ix_lstI : IxR X (rIxLI X.K) := ixr_imp ix_list fun x y H Q h => by
  obtain ⟨ns, i, n, rfl, ⟨a, rfl, hq⟩, ha, q⟩ := h
  exact ⟨a, _, i, _, rfl, rfl, hq, atI_map ha, q⟩
end
theorem ixK_list {X : Cx} (K : PySem.W.Frag) (h : X.K = K) : IxR X (rIxL K) := h ▸ ix_list
theorem Lp.of {K : PySem.W.Frag} {H : Hp} {p : Addr} {ns : List Int} : Lp K (upd H p (.lst (ns.map V.int))) (.ref p) ns := ⟨p, rfl, SqL.of upd_same⟩
section
variable {t u tb : TS} {c : TT} {g : TG} {D : Ends} {σ : L2.St} {H : Hp}
theorem seq_by (I : L2.St → Hp → Prop) (h1 : ∀ k : L2.St → Hp → Prop, (∀ σ' H', I σ' H' → k σ' H') → t { D with nx := k } σ H) (h2 : ∀ σ' H', I σ' H' → u D σ' H') : tSeq t u D σ H := h1 (u D) h2
theorem seq_det {σ1 : L2.St} {H1 : Hp} (h1 : ∀ k : L2.St → Hp → Prop, k σ1 H1 → t { D with nx := k } σ H) (h2 : u D σ1 H1) : tSeq t u D σ H := h1 (u D) h2
theorem while_of (W : Nat → L2.St → Hp → Prop) (m0 : Nat) (h0 : W m0 σ H)
    (hs : ∀ W' : Nat → L2.St → Hp → Prop, (∀ m σ H, W m σ H → W' m σ H) → ∀ n σ H, W n σ H →
      c σ H fun b H1 => if b = true then ∃ N : L2.St → Hp → Prop, (∀ σ' H', N σ' H' → ∃ m', m' < n ∧ W' m' σ' H') ∧ tb { D with nx := N, ct := N, bk := D.nx } σ H1 else D.nx σ H1) : tWhile c tb D σ H :=
  ⟨W, ⟨m0, h0⟩, hs W fun _ _ _ h => h⟩
theorem forL {K : PySem.W.Frag} {a : Addr} {xs : List V} (Pv : Nat → L2.St → Hp → Prop) (h0 : Pv 0 σ H) (hl : ∀ i σ H, i ≤ xs.length → Pv i σ H → SqL K H a xs)
    (hs : ∀ Pv' : Nat → L2.St → Hp → Prop, (∀ i σ H, Pv i σ H → Pv' i σ H) → ∀ i x σ H, xs[i]? = some x → Pv i σ H → g x σ H fun σ2 H2 => tb { D with nx := Pv' (i + 1), ct := Pv' (i + 1), bk := D.nx } σ2 H2) (hd : ∀ σ H, Pv xs.length σ H → D.nx σ H) :
    ∃ W : Nat → Nat → L2.St → Hp → Prop, (∃ m, W 0 m σ H) ∧ ∀ i m σ H, W i m σ H →
      ((Itl K a).stop i H ∧ D.nx σ H) ∨ ((Itl K a).go i H ∧ ∃ N : L2.St → Hp → Prop, (∀ σ' H', N σ' H' → ∃ m', m' < m ∧ W (i + 1) m' σ' H') ∧ ∀ x H', (Itl K a).yld i H x H' → g x σ H' fun σ2 H2 => tb { D with nx := N, ct := N, bk := D.nx } σ2 H2) :=
  for_list Pv h0 hl (hs Pv fun _ _ _ h => h) hd
theorem forT {K : PySem.W.Frag} {a : Addr} {xs : List V} (Pv : Nat → L2.St → Hp → Prop) (h0 : Pv 0 σ H) (hl : ∀ i σ H, i ≤ xs.length → Pv i σ H → SqT K H a xs)
    (hs : ∀ Pv' : Nat → L2.St → Hp → Prop, (∀ i σ H, Pv i σ H → Pv' i σ H) → ∀ i x σ H, xs[i]? = some x → Pv i σ H → g x σ H fun σ2 H2 => tb { D with nx := Pv' (i + 1), ct := Pv' (i + 1), bk := D.nx } σ2 H2) (hd : ∀ σ H, Pv xs.length σ H → D.nx σ H) :
    ∃ W : Nat → Nat → L2.St → Hp → Prop, (∃ m, W 0 m σ H) ∧ ∀ i m σ H, W i m σ H →
      ((Itt K a).stop i H ∧ D.nx σ H) ∨ ((Itt K a).go i H ∧ ∃ N : L2.St → Hp → Prop, (∀ σ' H', N σ' H' → ∃ m', m' < m ∧ W (i + 1) m' σ' H') ∧ ∀ x H', (Itt K a).yld i H x H' → g x σ H' fun σ2 H2 => tb { D with nx := N, ct := N, bk := D.nx } σ2 H2) :=
  for_tup Pv h0 hl (hs Pv fun _ _ _ h => h) hd
theorem forR {lo : Int} {n : Nat} (Pv : Nat → L2.St → Hp → Prop) (h0 : Pv 0 σ H)
    (hs : ∀ Pv' : Nat → L2.St → Hp → Prop, (∀ i σ H, Pv i σ H → Pv' i σ H) → ∀ i σ H, i < n → Pv i σ H → g (.int (lo + i)) σ H fun σ2 H2 => tb { D with nx := Pv' (i + 1), ct := Pv' (i + 1), bk := D.nx } σ2 H2) (hd : ∀ σ H, Pv n σ H → D.nx σ H) :
    ∃ W : Nat → Nat → L2.St → Hp → Prop, (∃ m, W 0 m σ H) ∧ ∀ i m σ H, W i m σ H →
      ((Itr lo n).stop i H ∧ D.nx σ H) ∨ ((Itr lo n).go i H ∧ ∃ N : L2.St → Hp → Prop, (∀ σ' H', N σ' H' → ∃ m', m' < m ∧ W (i + 1) m' σ' H') ∧ ∀ x H', (Itr lo n).yld i H x H' → g x σ H' fun σ2 H2 => tb { D with nx := N, ct := N, bk := D.nx } σ2 H2) :=
  for_range Pv h0 (hs Pv fun _ _ _ h => h) hd
theorem compL {K : PySem.W.Frag} {a : Addr} {xs : List V} {tt : TT} {te : TE} {Q : VK} {τ : L2.St} (Pv : Nat → List V → Hp → Prop) (h0 : Pv 0 [] H) (hl : ∀ i acc H, i ≤ xs.length → Pv i acc H → SqL K H a xs ∧ acc.length ≤ sizeLine)
    (hs : ∀ i x acc H, xs[i]? = some x → Pv i acc H → ∀ R : List V → Hp → Prop, (∀ acc' H', Pv (i + 1) acc' H' → R acc' H') → tt (some x :: τ) H fun b H2 => if b = true then te (some x :: τ) H2 fun y H3 => R (acc ++ [y]) H3 else R acc H2)
    (hd : ∀ acc H p, Pv xs.length acc H → H p = none → Q (.ref p) (upd H p (.lst acc))) :
    ∃ W : Nat → Nat → List V → Hp → Prop, (∃ m, W 0 m [] H) ∧ ∀ i m acc H, W i m acc H →
      ((Itl K a).stop i H ∧ acc.length ≤ sizeLine ∧ ∀ p, H p = none → Q (.ref p) (upd H p (.lst acc))) ∨
      ((Itl K a).go i H ∧ acc.length ≤ sizeLine ∧ ∀ v H', (Itl K a).yld i H v H' → tt (some v :: τ) H' fun b H2 =>
        if b = true then te (some v :: τ) H2 fun y H3 => ∃ m', m' < m ∧ W (i + 1) m' (acc ++ [y]) H3 else ∃ m', m' < m ∧ W (i + 1) m' acc H2) := by
  refine ⟨fun i m acc H => m = xs.length - i ∧ i ≤ xs.length ∧ Pv i acc H, ⟨xs.length, by simp, Nat.zero_le _, h0⟩, ?_⟩
  rintro i m acc H ⟨rfl, hi, p⟩
  obtain ⟨q, z⟩ := hl i acc H hi p
  by_cases hlt : i < xs.length
  · refine .inr ⟨⟨xs, xs[i], q, by simp [hlt]⟩, z, fun v H' y => ?_⟩
    obtain ⟨e, y⟩ := y
    subst e
    exact hs i v acc _ (y xs q) p (fun acc' H' => ∃ m', m' < xs.length - i ∧ m' = xs.length - (i + 1) ∧ i + 1 ≤ xs.length ∧ Pv (i + 1) acc' H') fun acc' H' r => ⟨_, by omega, rfl, hlt, r⟩
  · have e : i = xs.length := by omega
    subst e
    exact .inl ⟨⟨xs, q, Nat.le_refl _⟩, z, fun p' hp => hd acc H p' p hp⟩
theorem compT {K : PySem.W.Frag} {a : Addr} {xs : List V} {tt : TT} {te : TE} {Q : VK} {τ : L2.St} (Pv : Nat → List V → Hp → Prop) (h0 : Pv 0 [] H) (hl : ∀ i acc H, i ≤ xs.length → Pv i acc H → SqT K H a xs ∧ acc.length ≤ sizeLine)
    (hs : ∀ i x acc H, xs[i]? = some x → Pv i acc H → ∀ R : List V → Hp → Prop, (∀ acc' H', Pv (i + 1) acc' H' → R acc' H') → tt (some x :: τ) H fun b H2 => if b = true then te (some x :: τ) H2 fun y H3 => R (acc ++ [y]) H3 else R acc H2)
    (hd : ∀ acc H p, Pv xs.length acc H → H p = none → Q (.ref p) (upd H p (.lst acc))) :
    ∃ W : Nat → Nat → List V → Hp → Prop, (∃ m, W 0 m [] H) ∧ ∀ i m acc H, W i m acc H →
      ((Itt K a).stop i H ∧ acc.length ≤ sizeLine ∧ ∀ p, H p = none → Q (.ref p) (upd H p (.lst acc))) ∨
      ((Itt K a).go i H ∧ acc.length ≤ sizeLine ∧ ∀ v H', (Itt K a).yld i H v H' → tt (some v :: τ) H' fun b H2 =>
        if b = true then te (some v :: τ) H2 fun y H3 => ∃ m', m' < m ∧ W (i + 1) m' (acc ++ [y]) H3 else ∃ m', m' < m ∧ W (i + 1) m' acc H2) := by
  refine ⟨fun i m acc H => m = xs.length - i ∧ i ≤ xs.length ∧ Pv i acc H, ⟨xs.length, by simp, Nat.zero_le _, h0⟩, ?_⟩
  rintro i m acc H ⟨rfl, hi, p⟩
  obtain ⟨q, z⟩ := hl i acc H hi p
  by_cases hlt : i < xs.length
  · refine .inr ⟨⟨xs, xs[i], q, by simp [hlt]⟩, z, fun v H' y => ?_⟩
    obtain ⟨e, y⟩ := y
    subst e
    exact hs i v acc _ (y xs q) p (fun acc' H' => ∃ m', m' < xs.length - i ∧ m' = xs.length - (i + 1) ∧ i + 1 ≤ xs.length ∧ Pv (i + 1) acc' H') fun acc' H' r => ⟨_, by omega, rfl, hlt, r⟩
  · have e : i = xs.length := by omega
    subst e
    exact .inl ⟨⟨xs, q, Nat.le_refl _⟩, z, fun p' hp => hd acc H p' p hp⟩
theorem tcompT {K : PySem.W.Frag} {j : Nat} {a : Addr} {xs : List V} {caps : List Nat} {tt : TT} {te : TE} {Q : VK} (hj : σ[j]? = some (some (.ref a))) (hq : SqT K H a xs) (Pv : Nat → List V → Hp → Prop) (h0 : Pv 0 [] H) (hl : ∀ i acc H, i ≤ xs.length → Pv i acc H → SqT K H a xs ∧ acc.length ≤ sizeLine)
    (hs : ∀ i x acc H, xs[i]? = some x → Pv i acc H → ∀ R : List V → Hp → Prop, (∀ acc' H', Pv (i + 1) acc' H' → R acc' H') → tt (some x :: capσ caps σ) H fun b H2 => if b = true then te (some x :: capσ caps σ) H2 fun y H3 => R (acc ++ [y]) H3 else R acc H2)
    (hd : ∀ acc H p, Pv xs.length acc H → H p = none → Q (.ref p) (upd H p (.lst acc))) : tComp caps (iTup K (tVar j)) tt te σ H Q :=
  ⟨_, hj, a, rfl, ⟨_, hq⟩, compT (Q := Q) (τ := capσ caps σ) Pv h0 hl hs hd⟩
theorem tcompL {K : PySem.W.Frag} {j : Nat} {a : Addr} {xs : List V} {caps : List Nat} {tt : TT} {te : TE} {Q : VK} (hj : σ[j]? = some (some (.ref a))) (hq : SqL K H a xs) (Pv : Nat → List V → Hp → Prop) (h0 : Pv 0 [] H) (hl : ∀ i acc H, i ≤ xs.length → Pv i acc H → SqL K H a xs ∧ acc.length ≤ sizeLine)
    (hs : ∀ i x acc H, xs[i]? = some x → Pv i acc H → ∀ R : List V → Hp → Prop, (∀ acc' H', Pv (i + 1) acc' H' → R acc' H') → tt (some x :: capσ caps σ) H fun b H2 => if b = true then te (some x :: capσ caps σ) H2 fun y H3 => R (acc ++ [y]) H3 else R acc H2)
    (hd : ∀ acc H p, Pv xs.length acc H → H p = none → Q (.ref p) (upd H p (.lst acc))) : tComp caps (iList K (tVar j)) tt te σ H Q :=
  ⟨_, hj, a, rfl, ⟨_, hq⟩, compL (Q := Q) (τ := capσ caps σ) Pv h0 hl hs hd⟩
end
end L3
namespace Cs
open PySem PySem.Spec PyProof.Rows L2 L3 Mx
theorem at0 {α : Type} (x : α) (r : List α) : atI (x :: r) 0 = some x := by
  unfold atI ixN
  rw [if_pos (by decide), if_pos (by simp only [List.length_cons]; omega)]; rfl
theorem at1 {α : Type} (x y : α) (r : List α) : atI (x :: y :: r) 1 = some y := by
  unfold atI ixN
  rw [if_pos (by decide), if_pos (by simp only [List.length_cons]; omega)]; rfl
theorem at2 {α : Type} (x y z : α) (r : List α) : atI (x :: y :: z :: r) 2 = some z := by
  unfold atI ixN
  rw [if_pos (by decide), if_pos (by simp only [List.length_cons]; omega)]; rfl
theorem at3 {α : Type} (x y z u : α) (r : List α) : atI (x :: y :: z :: u :: r) 3 = some u := by
  unfold atI ixN
  rw [if_pos (by decide), if_pos (by simp only [List.length_cons]; omega)]; rfl
theorem at_any {α : Type} (xs : List α) {i : Int} (h0 : 0 ≤ i) (h1 : i < xs.length) : ∃ v, atI xs i = some v ∧ v ∈ xs := by
  unfold atI ixN
  rw [if_pos h0, if_pos h1]
  have h : i.toNat < xs.length := by omega
  exact ⟨xs[i.toNat], by simp [h], List.getElem_mem h⟩
theorem ix_any {n : Nat} {i : Int} (h0 : 0 ≤ i) (h1 : i < n) : ixN n i = some i.toNat := by
  unfold ixN
  rw [if_pos h0, if_pos h1]
def Scr (K : PySem.W.Frag) (H : Hp) (a : Addr) (ns : List Int) : Prop := (∃ o, H a = some (.frz o (.lst (ns.map V.int)))) ∨ ∀ H', SqL K H' a (ns.map V.int)
theorem Scr.seq {K : PySem.W.Frag} {H : Hp} {a : Addr} {ns : List Int} (h : Scr K H a ns) : SqL K H a (ns.map V.int) := by
  rcases h with ⟨o, h⟩ | h
  · exact .inl (.inr ⟨o, h⟩)
  · exact h H
theorem Scr.mono {K : PySem.W.Frag} {H H' : Hp} {a : Addr} {ns : List Int} (h : Scr K H a ns) (e : Same H H') : Scr K H' a ns := by
  rcases h with ⟨o, h⟩ | h
  · exact .inl ⟨o, e _ _ h⟩
  · exact .inr h
theorem Scr.upd {K : PySem.W.Frag} {H : Hp} {a b : Addr} {ns : List Int} {ys : List V} {u : HO} (h : Scr K H a ns) (e : H b = some (.lst ys)) : Scr K (L2.upd H b u) a ns := by
  rcases h with ⟨o, h⟩ | h
  · exact .inl ⟨o, by rw [upd_ne (ne_of h e (by intro z; cases z))]; exact h⟩
  · exact .inr h
theorem SqT.upd {K : PySem.W.Frag} {H : Hp} {a b : Addr} {xs ys : List V} {o : HO} (h : SqT K H a xs) (e : H b = some (.lst ys)) : SqT K (upd H b o) a xs := by
  rcases h with (h | ⟨ob, h⟩) | h
  · exact .inl (.inl (by rw [upd_ne (ne_of h e (by intro z; cases z))]; exact h))
  · exact .inl (.inr ⟨ob, by rw [upd_ne (ne_of h e (by intro z; cases z))]; exact h⟩)
  · exact .inr h
theorem Tp.upd {K : PySem.W.Frag} {H : Hp} {b : Addr} {v : V} {ns : List Int} {ys : List V} {o : HO} (h : Tp K H v ns) (e : H b = some (.lst ys)) : Tp K (upd H b o) v ns := by
  obtain ⟨a, rfl, q⟩ := h
  exact ⟨a, rfl, SqT.upd q e⟩
theorem Only.scr {K : PySem.W.Frag} {H : Hp} {a : Addr} {ns : List Int} (h : SqL K H a (ns.map V.int)) (o : Only H) : Scr K H a ns := by
  rcases h with (q | ⟨ob, q⟩) | q
  · rcases o a with z | ⟨_, _, z⟩ <;> rw [z] at q <;> cases q
  · exact .inl ⟨ob, q⟩
  · exact .inr fun _ => .inr q
def pl (p : Int × Int) : List Int := [p.1, p.2]
def cl (m : Ch) : List Int := [m.a, m.b, m.c, m.d]
def BdC (k : Nat) (m : Ch) : Prop := Bd k m.a ∧ Bd k m.b ∧ Bd k m.c ∧ Bd k m.d
def Out (K : PySem.W.Frag) (H : Hp) (ns : List Int) (Q : VK) : Prop := ∀ v H', Same H H' → Tp K H' v ns → Q v H'
def OutB (H : Hp) (b : Bool) (Q : VK) : Prop := ∀ H', Same H H' → Q (.bl b) H'
def spGcd : Sp := fun vs H Q _ => ∃ a b : Int, vs = [.int a, .int b] ∧ Q (.int (Int.gcd a b : Int)) H
def spLowP (K : PySem.W.Frag) : Sp := fun vs H Q _ => ∃ x y : Int, vs = [.int x, .int y] ∧ Bd 4000 x ∧ Bd 4000 y ∧ Out K H (pl (npt x y)) Q
def spIsP (K : PySem.W.Frag) : Sp := fun vs H Q _ => ∃ (v : V) (x y : Int), vs = [v] ∧ Tp K H v [x, y] ∧ Bd 4000 x ∧ Bd 4000 y ∧ OutB H (decide (GoodP x y)) Q
def spLowC (K : PySem.W.Frag) : Sp := fun vs H Q _ => ∃ (v : V) (m : Ch), vs = [v] ∧ Tp K H v (cl m) ∧ m.det ≠ 0 ∧ BdC 4000 m ∧ Out K H (cl (nch m)) Q
def spIsC (K : PySem.W.Frag) : Sp := fun vs H Q _ => ∃ (v : V) (m : Ch), vs = [v] ∧ Tp K H v (cl m) ∧ BdC 4000 m ∧ OutB H (decide (GoodC m)) Q
def cellN (ns : List Int) (k : Int) : Int := ns.getD k.toNat 0
def spCell (K : PySem.W.Frag) : Sp := fun vs H Q _ => ∃ (a : Addr) (ns : List Int) (k : Int), vs = [.ref a, .int k] ∧ SqL K H a (ns.map V.int) ∧ 0 ≤ k ∧ Q (.int (cellN ns k)) H
def spNext (K : PySem.W.Frag) : Sp := fun vs H Q _ => ∃ (a b : Addr) (ns : List Int) (k : Int), vs = [.ref a, .ref b] ∧ Scr K H a ns ∧ H b = some (.lst [.int k]) ∧ 0 ≤ k ∧ Q (.int (cellN ns k)) (upd H b (.lst [.int (k + 1)]))
def spLawP (K : PySem.W.Frag) : Sp := fun vs H Q _ => ∃ x y : Int, vs = [.int x, .int y] ∧ (x ≠ 0 ∨ y ≠ 0) ∧ Bd 4000 x ∧ Bd 4000 y ∧ Out K H (pl (npt x y)) Q
def stir (c : Int) : Int := ((c + 7919) % 2147483647 * ((c + 7919) % 2147483647) + 48271 * ((c + 7919) % 2147483647) + 12345) % 2147483629
def spStir : Sp := fun vs H Q _ => ∃ c : Int, vs = [.int c] ∧ Q (.int (stir c)) H
def gI (xs : List Int) : Int := xs.foldl (fun g n => (Int.gcd g n : Int)) 0
theorem gI_step {xs : List Int} {i : Nat} {n : Int} (h : xs[i]? = some n) : gI (xs.take (i + 1)) = (Int.gcd (gI (xs.take i)) n : Int) := by
  unfold gI
  rw [List.take_add_one, h, List.foldl_append]
  rfl
theorem map_at {α β : Type} {f : α → β} {xs : List α} {i : Nat} {y : β} (h : (xs.map f)[i]? = some y) : ∃ x, xs[i]? = some x ∧ f x = y := by
  rw [List.getElem?_map] at h
  cases e : xs[i]? with
  | none => rw [e] at h; cases h
  | some x => rw [e] at h; exact ⟨x, rfl, Option.some.inj h⟩
theorem BdC.gcd {k : Nat} {m : Ch} (h : BdC k m) : Bd k (g4 m) := by
  obtain ⟨h1, h2, h3, h4⟩ := h
  exact Bd.gcd (Bd.gcd (Bd.gcd (Bd.gcd (Bd.lit (by simpa using Nat.two_pow_pos k)) h1) h2) h3) h4
theorem cl_inj {m n : Ch} : cl m = cl n ↔ m = n := by
  cases m; cases n
  simp [cl]
theorem pl_inj {p q : Int × Int} : pl p = pl q ↔ p = q := by
  obtain ⟨a, b⟩ := p
  obtain ⟨c, d⟩ := q
  simp [pl]
theorem cell_at {ns : List Int} {k : Int} (h0 : 0 ≤ k) (h : k < (ns.length : Int)) : atI ns k = some (cellN ns k) := by
  unfold atI ixN cellN
  rw [if_pos h0, if_pos h]
  have hk : k.toNat < ns.length := by omega
  simp [List.getD, hk]
theorem cell_no {ns : List Int} {k : Int} (h : (ns.length : Int) ≤ k) : cellN ns k = 0 := by
  unfold cellN
  rw [List.getD, List.getElem?_eq_none (by omega)]; rfl
def wideOf (k : Int) : Int := if k = 0 then 4 else if k = 1 then 9 else if k = 2 then 100 else 1000
theorem wide_at {k : Int} (h0 : 0 ≤ k) (h1 : k < 4) : atI [4, 9, 100, 1000] k = some (wideOf k) := by
  have : k = 0 ∨ k = 1 ∨ k = 2 ∨ k = 3 := by omega
  rcases this with rfl | rfl | rfl | rfl <;> rfl
theorem wide_pos (k : Int) : 4 ≤ wideOf k ∧ wideOf k ≤ 1000 := by
  unfold wideOf
  split
  · decide
  · split
    · decide
    · split <;> decide
def rawp (c : Int) : Int × Int :=
  if c % 2 = 0 then (if c / 2 % 40 = 7 then (1, 0) else (c / 80 % 201 - 100, 1 + c / 16080 % 60))
  else if stir c / 7 % 9 = 1 then (1, 0)
  else (stir (stir c) / 7 % (2 * wideOf (stir c / 63 % 4) + 1) - wideOf (stir c / 63 % 4), 1 + stir (stir (stir c)) / 7 % wideOf (stir c / 63 % 4))
def dp (c : Int) : Int × Int := npt (rawp c).1 (rawp c).2
theorem rawp_ok (c : Int) : ((rawp c).1 ≠ 0 ∨ (rawp c).2 ≠ 0) ∧ (rawp c).1.natAbs ≤ 1000 ∧ (rawp c).2.natAbs ≤ 1000 := by
  unfold rawp
  split
  · split
    · decide
    · have h1 := Int.emod_nonneg (c / 80) (b := 201) (by decide)
      have h2 := Int.emod_lt_of_pos (c / 80) (b := 201) (by decide)
      have h3 := Int.emod_nonneg (c / 16080) (b := 60) (by decide)
      have h4 := Int.emod_lt_of_pos (c / 16080) (b := 60) (by decide)
      refine ⟨.inr ?_, ?_, ?_⟩ <;> dsimp only <;> omega
  · split
    · decide
    · obtain ⟨w1, w2⟩ := wide_pos (stir c / 63 % 4)
      generalize wideOf (stir c / 63 % 4) = w at *
      have h1 := Int.emod_nonneg (stir (stir c) / 7) (b := 2 * w + 1) (by omega)
      have h2 := Int.emod_lt_of_pos (stir (stir c) / 7) (b := 2 * w + 1) (by omega)
      have h3 := Int.emod_nonneg (stir (stir (stir c)) / 7) (b := w) (by omega)
      have h4 := Int.emod_lt_of_pos (stir (stir (stir c)) / 7) (b := w) (by omega)
      refine ⟨.inr ?_, ?_, ?_⟩ <;> dsimp only <;> omega
theorem dp_good (c : Int) : GoodP (dp c).1 (dp c).2 := (npt_spec (rawp_ok c).1).choose_spec.2.2.2
theorem dp_bd (c : Int) : Bd 10 (dp c).1 ∧ Bd 10 (dp c).2 := by
  obtain ⟨h, h1, h2⟩ := rawp_ok c
  obtain ⟨l1, l2⟩ := npt_le h
  exact ⟨Bd.lit (Nat.lt_of_le_of_lt (Nat.le_trans l1 h1) (by decide)), Bd.lit (Nat.lt_of_le_of_lt (Nat.le_trans l2 h2) (by decide))⟩
def spDrawn (K : PySem.W.Frag) : Sp := fun vs H Q _ => ∃ c : Int, vs = [.int c] ∧ Out K H (pl (dp c)) Q
theorem Out.npt {K : PySem.W.Frag} {H : Hp} {Q : VK} {x y c : Int} (q : Out K H (pl (dp c)) Q) (e : rawp c = (x, y)) : Out K H (pl (npt x y)) Q := by
  unfold dp at q
  rw [e] at q
  exact q
theorem Out.from {K : PySem.W.Frag} {H H' : Hp} {Q : VK} {ns : List Int} (q : Out K H ns Q) (g : Same H H') : Out K H' ns Q := fun v H'' g' t => q v H'' (g.trans g') t
def spPlain (K : PySem.W.Frag) : Sp := fun vs H Q _ => ∃ (a : Addr) (m : Ch), vs = [.ref a] ∧ SqL K H a ((cl m).map V.int) ∧ m.det ≠ 0 ∧ BdC 4000 m ∧ Out K H (cl (nch m)) Q
theorem first_filter {a b c d : Int} (h : a ≠ 0 ∨ (a = 0 ∧ b ≠ 0)) : atI ([a, b, c, d].filter fun n => decide (n ≠ 0)) 0 = some (if a ≠ 0 then a else b) := by
  rcases h with h | ⟨h, h'⟩
  · rw [if_pos h, List.filter_cons_of_pos (by simpa using h)]
    exact at0 _ _
  · rw [if_neg (by simpa using h), List.filter_cons_of_neg (by simpa using h), List.filter_cons_of_pos (by simpa using h')]
    exact at0 _ _
def spLawAfter (K : PySem.W.Frag) : Sp := fun vs H Q _ => ∃ (v u : V) (m n : Ch), vs = [v, u] ∧ Tp K H v (cl m) ∧ Tp K H u (cl n) ∧ m.det ≠ 0 ∧ n.det ≠ 0 ∧ BdC 1900 m ∧ BdC 1900 n ∧ Out K H (cl (nch (mul m n))) Q
def spLawBack (K : PySem.W.Frag) : Sp := fun vs H Q _ => ∃ (v : V) (m : Ch), vs = [v] ∧ Tp K H v (cl m) ∧ m.det ≠ 0 ∧ BdC 1900 m ∧ Out K H (cl (nch (adj m))) Q
def spTurning (K : PySem.W.Frag) : Sp := fun vs H Q _ => ∃ c : Int, vs = [.int c] ∧ ∀ v H' m, Same H H' → Tp K H' v (cl m) → m.det ≠ 0 → BdC 2 m → Q v H'
theorem BdC.mono {j k : Nat} {m : Ch} (h : BdC j m) (l : j ≤ k) : BdC k m := ⟨h.1.mono l, h.2.1.mono l, h.2.2.1.mono l, h.2.2.2.mono l⟩
theorem BdC.mul {j k : Nat} {m n : Ch} (h : BdC j m) (h' : BdC k n) : BdC (k + j + 1) (mul m n) := by
  obtain ⟨a, b, c, d⟩ := h
  obtain ⟨a', b', c', d'⟩ := h'
  exact ⟨(a'.mul a).add (b'.mul c), (a'.mul b).add (b'.mul d), (c'.mul a).add (d'.mul c), (c'.mul b).add (d'.mul d)⟩
theorem BdC.adj {k : Nat} {m : Ch} (h : BdC k m) : BdC k (adj m) := ⟨h.2.2.2, h.2.1.neg, h.2.2.1.neg, h.1⟩
theorem BdC.nch {k : Nat} {m : Ch} (h : BdC k m) (hd : m.det ≠ 0) : BdC k (nch m) := by
  obtain ⟨l1, l2, l3, l4⟩ := nch_le hd
  exact ⟨h.1.of_le l1, h.2.1.of_le l2, h.2.2.1.of_le l3, h.2.2.2.of_le l4⟩
theorem same_upd {B H : Hp} {l : Addr} {o : HO} (g : Same B H) (n : B l = none) : Same B (upd H l o) := fun b u e => by
  rw [upd_ne (ne_of_none e n)]
  exact g b u e
theorem list4 {ns : List Int} (h : ns.length = 4) : ∃ m, ns = cl m := by
  match ns, h with
  | [a, b, c, d], _ => exact ⟨⟨a, b, c, d⟩, rfl⟩
theorem set_cl {k : Nat} {m : Ch} (h : BdC k m) {j : Nat} (hj : j < 4) {n : Int} (hn : Bd k n) : ∃ m', ((cl m).map V.int).set j (.int n) = (cl m').map V.int ∧ BdC k m' := by
  obtain ⟨h1, h2, h3, h4⟩ := h
  match j, hj with
  | 0, _ => exact ⟨⟨n, m.b, m.c, m.d⟩, rfl, hn, h2, h3, h4⟩
  | 1, _ => exact ⟨⟨m.a, n, m.c, m.d⟩, rfl, h1, hn, h3, h4⟩
  | 2, _ => exact ⟨⟨m.a, m.b, n, m.d⟩, rfl, h1, h2, hn, h4⟩
  | 3, _ => exact ⟨⟨m.a, m.b, m.c, n⟩, rfl, h1, h2, h3, hn⟩
theorem BdC.of_all {k : Nat} {m : Ch} (h : ∀ n ∈ cl m, Bd k n) : BdC k m := ⟨h _ (by simp [cl]), h _ (by simp [cl]), h _ (by simp [cl]), h _ (by simp [cl])⟩
theorem BdC.all {k : Nat} {m : Ch} (h : BdC k m) : ∀ n ∈ cl m, Bd k n := fun n hn => by
  simp only [cl, List.mem_cons, List.not_mem_nil, or_false] at hn
  obtain ⟨h1, h2, h3, h4⟩ := h
  rcases hn with rfl | rfl | rfl | rfl <;> assumption
def spLawChange (K : PySem.W.Frag) : Sp := fun vs H Q _ => ∃ (a b : Addr) (ns : List Int) (k : Int), vs = [.ref a, .ref b] ∧ Scr K H a ns ∧ H b = some (.lst [.int k]) ∧ 0 ≤ k ∧
  ∀ v H' m, Same (upd H b (.lst [.int (k + 1)])) H' → Tp K H' v (cl m) → GoodC m → BdC 24 m → Q v H'
def spLaw (K : PySem.W.Frag) : Sp := fun vs H Q _ => ∃ (a : Addr) (ns : List Int), vs = [.ref a] ∧ Scr K H a ns ∧ ∀ H', Q (.bl true) H'
theorem far_mk {K : PySem.W.Frag} {h : Heap} {mg : Str → Option Value} {f : Addr} {od : Option Addr} {osl : Array (Option Value)} {n : Nat} {t1 t2 : Tok} (X : K.In h) (G : h.Ns mainGlobals mg)
    (a : PySem.W.nsIn K mainGlobals "FAR" = some (some (.ref f))) (l : K.lookup f = some ⟨.type "tuple", od, .seq #[.int 1 t1, .int 0 t2] n, osl⟩) :
    ∃ aF, (mg "FAR" = some (.ref aF) ∧ RelV (.ref aF) (Value.ref aF)) ∧ ∀ H, SqT K H aF [.int 1, .int 0] :=
  ⟨f, ⟨PySem.W.mg_of X G a, rfl⟩, tupK l (by show 2 ≤ sizeLine; decide) (.cons ⟨_, rfl⟩ (.cons ⟨_, rfl⟩ .nil))⟩
end Cs
namespace L3
open PySem PySem.Spec PyProof.Rows L2
section
variable {X : Cx}
def rIsB (neg : Bool) : R2 := fun x y H Q => ∃ i j, x = .bl i ∧ y = .bl j ∧ Q (.bl (if neg then i != j else i == j)) H
def rAllB (K : PySem.W.Frag) : List V → Hp → VK → Prop := fun xs H Q => ∃ (p : Addr) (bs : List Bool), xs = [.ref p] ∧ SqL K H p (bs.map V.bl) ∧ Q (.bl (bs.all id)) H
end
theorem for_src {K : PySem.W.Frag} {tl : TE} {g : TG} {tb : TS} {D : Ends} {σ : L2.St} {H : Hp} (R : V → Hp → Prop) (h1 : ∀ k : VK, (∀ x H1, R x H1 → k x H1) → tl σ H k)
    (h2 : ∀ x H1, R x H1 → ∃ a, x = .ref a ∧ (∃ xs, SqL K H1 a xs) ∧ ∃ W : Nat → Nat → L2.St → Hp → Prop, (∃ m, W 0 m σ H1) ∧ ∀ i m σ H, W i m σ H →
      ((Itl K a).stop i H ∧ D.nx σ H) ∨ ((Itl K a).go i H ∧ ∃ N : L2.St → Hp → Prop, (∀ σ' H', N σ' H' → ∃ m', m' < m ∧ W (i + 1) m' σ' H') ∧ ∀ x H', (Itl K a).yld i H x H' → g x σ H' fun σ2 H2 => tb { D with nx := N, ct := N, bk := D.nx } σ2 H2)) :
    tFor (iList K tl) g tb D σ H := h1 _ h2
def Tps (K : PySem.W.Frag) (H : Hp) (vs : List V) (xs : List (List Int)) : Prop := Paired (fun v ns => Tp K H v ns) vs xs
theorem Tps.mono {K : PySem.W.Frag} {H H' : Hp} (g : Same H H') : ∀ {vs : List V} {xs : List (List Int)}, Tps K H vs xs → Tps K H' vs xs
  | _, _, .nil => .nil
  | _, _, .cons h t => .cons (h.mono g) (Tps.mono g t)
theorem Tps.snoc {K : PySem.W.Frag} {H : Hp} {vs : List V} {xs : List (List Int)} {v : V} {ns : List Int} (h : Tps K H vs xs) (t : Tp K H v ns) : Tps K H (vs ++ [v]) (xs ++ [ns]) := Paired.snoc h t
theorem Tps.append {K : PySem.W.Frag} {H : Hp} : ∀ {vs ws : List V} {xs ys : List (List Int)}, Tps K H vs xs → Tps K H ws ys → Tps K H (vs ++ ws) (xs ++ ys)
  | _, _, _, _, .nil, h => h
  | _, _, _, _, .cons a t, h => .cons a (Tps.append t h)
theorem Tps.length {K : PySem.W.Frag} {H : Hp} {vs : List V} {xs : List (List Int)} (h : Tps K H vs xs) : vs.length = xs.length := Paired.length h
theorem Tps.at {K : PySem.W.Frag} {H : Hp} : ∀ {vs : List V} {xs : List (List Int)} {i : Nat} {v : V}, Tps K H vs xs → vs[i]? = some v → ∃ ns, xs[i]? = some ns ∧ Tp K H v ns
  | _, _, _, _, .nil, e => by simp at e
  | _, _, 0, _, .cons h _, e => by simp at e; subst e; exact ⟨_, rfl, h⟩
  | _, _, i + 1, _, .cons _ t, e => by simpa using Tps.at (i := i) t (by simpa using e)
theorem Tps.isDs {K : PySem.W.Frag} {H : Hp} : ∀ {vs : List V} {xs : List (List Int)}, Tps K H vs xs → IsDs K H (xs.map fun ns => PyData.tuple (ns.map PyData.int)) vs
  | _, _, .nil => by simp [IsDs]
  | _, _, .cons h t => by
    simp only [List.map_cons, IsDs]
    exact ⟨_, _, rfl, h.isD, Tps.isDs t⟩
theorem lay_tups : ∀ xs : List (List Int), PyData.canLayAll0 (xs.map fun ns => PyData.tuple (ns.map PyData.int)) = true
  | [] => by simp [PyData.canLayAll0]
  | x :: xs => by simp [PyData.canLayAll0, PyData.canLay0, lay_ints, lay_tups xs]
theorem dep_tups : ∀ xs : List (List Int), PyData.depthAll (xs.map fun ns => PyData.tuple (ns.map PyData.int)) ≤ 1
  | [] => by simp [PyData.depthAll]
  | x :: xs => by
    have := dep_tups xs
    simp only [List.map_cons, PyData.depthAll, PyData.depth, dep_ints]
    omega
theorem shaped_tups (xs : List (List Int)) : SeqAt.shaped (.list (xs.map fun ns => PyData.tuple (ns.map PyData.int))) = true := by
  unfold SeqAt.shaped
  have h := dep_tups xs
  rw [Bool.and_eq_true]
  refine ⟨by simp only [PyData.canLay0, lay_tups], decide_eq_true ?_⟩
  simp only [PyData.depth]
  omega
theorem any_tups (ns : List Int) : ∀ xs : List (List Int), ((xs.map fun ns => PyData.tuple (ns.map PyData.int)).any fun z => PyData.eqv z (.tuple (ns.map PyData.int))) = decide (ns ∈ xs)
  | [] => by simp
  | x :: xs => by
    rw [List.map_cons, List.any_cons, any_tups ns xs]
    simp only [PyData.eqv, eqv_ints]
    by_cases h : x = ns
    · simp [h]
    · have h' : ¬ ns = x := fun e => h e.symm
      by_cases h2 : ns ∈ xs <;> simp [h, h', h2]
def rInT (K : PySem.W.Frag) (neg : Bool) : R2 := fun x y H Q => ∃ ns l vs xs, y = .ref l ∧ Tp K H x ns ∧ SqL K H l vs ∧ Tps K H vs xs ∧ Q (.bl (if neg then !decide (ns ∈ xs) else decide (ns ∈ xs))) H
theorem rInT.toD {K : PySem.W.Frag} {neg : Bool} {x y : V} {H : Hp} {Q : VK} (h : rInT K neg x y H Q) : rInD K neg x y H Q := by
  obtain ⟨ns, l, vs, xs, rfl, hx, hq, ht, q⟩ := h
  refine ⟨_, _, hx.isD, (by simp only [IsD]; exact ⟨l, vs, rfl, hq, ht.isDs⟩ : IsD K H (.list (xs.map fun ns => PyData.tuple (ns.map PyData.int))) (.ref l)), shaped_ints ns, shaped_tups xs, ?_⟩
  rw [any_tups]
  exact q
theorem op_inT {X : Cx} (hu : X.A.units + 80 < cLine) : OpR X (compareOp .In) (rInT X.K false) :=
  fun pins s σ H x y v u Q I rx ry h => op_inD hu pins s σ H x y v u Q I rx ry h.toD
end L3
namespace Cs
open PySem PySem.Spec PyProof.Rows L2 L3 Mx
theorem drawn_on (L : List (Int × Int)) (h : L.length ≤ 200) (c : Int) : ∃ j : Nat, dp (c + j) ∉ L := by
  obtain ⟨t, ht⟩ : ∃ t : Int, t = (c.natAbs : Int) + 1 := ⟨_, rfl⟩
  have base : ∀ r : Nat, r < 201 → dp (80 * (201 * t + r) + 2) = npt ((r : Int) - 100) (1 + t % 60) := fun r hr => by
    unfold dp
    have e1 : (80 * (201 * t + r) + 2) % 2 = 0 := by omega
    have e2 : (80 * (201 * t + r) + 2) / 2 % 40 = 1 := by omega
    have e3 : (80 * (201 * t + r) + 2) / 80 % 201 = r := by omega
    have e4 : (80 * (201 * t + r) + 2) / 16080 = t := by omega
    have e : rawp (80 * (201 * t + r) + 2) = ((r : Int) - 100, 1 + t % 60) := by
      unfold rawp
      rw [if_pos e1, e2, if_neg (by decide), e3, e4]
    rw [e]
  have hb : 1 + t % 60 ≠ 0 := by omega
  obtain ⟨r, hr, hm⟩ := pigeon L 201 (fun r => dp (80 * (201 * t + r) + 2)) (fun i j hi hj e => by
    rw [base i hi, base j hj] at e
    have := npt_inj hb e
    omega) (by omega)
  refine ⟨(80 * (201 * t + r) + 2 - c).toNat, ?_⟩
  have e : c + ((80 * (201 * t + (r : Int)) + 2 - c).toNat : Int) = 80 * (201 * t + r) + 2 := by omega
  rw [e]
  exact hm
theorem same_swap {H H1 : Hp} {b : Addr} {o o' : HO} (g : Same (upd H b o) H1) : Same (upd H b o') (upd H1 b o') := fun c u e => by
  by_cases h : c = b
  · subst h
    rw [upd_same] at e ⊢; exact e
  · rw [upd_ne h] at e ⊢
    exact g c u (by rw [upd_ne h]; exact e)
theorem Tps.upd {K : PySem.W.Frag} {H : Hp} {b : Addr} {ys : List V} {o : HO} (e : H b = some (.lst ys)) : ∀ {vs : List V} {xs : List (List Int)}, Tps K H vs xs → Tps K (L2.upd H b o) vs xs
  | _, _, .nil => .nil
  | _, _, .cons h t => .cons (Tp.upd h e) (Tps.upd e t)
def GoodPt (p : Int × Int) : Prop := GoodP p.1 p.2
def BdPt (k : Nat) (p : Int × Int) : Prop := Bd k p.1 ∧ Bd k p.2
theorem BdPt.mono {j k : Nat} {p : Int × Int} (h : BdPt j p) (l : j ≤ k) : BdPt k p := ⟨h.1.mono l, h.2.mono l⟩
def spCheckP (K : PySem.W.Frag) : Sp := fun vs H Q _ => ∃ (v : V) (p : Int × Int), vs = [v] ∧ Tp K H v (pl p) ∧ BdPt 4000 p ∧ GoodPt p ∧ ∀ H', Same H H' → Q .non H'
def spCheckC (K : PySem.W.Frag) : Sp := fun vs H Q _ => ∃ (v : V) (m : Ch), vs = [v] ∧ Tp K H v (cl m) ∧ BdC 4000 m ∧ GoodC m ∧ ∀ H', Same H H' → Q .non H'
def spMoved (K : PySem.W.Frag) : Sp := fun vs H Q _ => ∃ (v u : V) (m : Ch) (p : Int × Int), vs = [v, u] ∧ Tp K H v (cl m) ∧ Tp K H u (pl p) ∧ GoodC m ∧ GoodPt p ∧ BdC 1900 m ∧ BdPt 1900 p ∧ Out K H (pl (mv m p)) Q
def spBack (K : PySem.W.Frag) : Sp := fun vs H Q _ => ∃ (v : V) (m : Ch), vs = [v] ∧ Tp K H v (cl m) ∧ GoodC m ∧ BdC 1900 m ∧ Out K H (cl (nch (adj m))) Q
def spSome (K : PySem.W.Frag) : Sp := fun vs H Q _ => ∃ (a b : Addr) (ns : List Int) (k n : Int), vs = [.ref a, .ref b, .int n] ∧ Scr K H a ns ∧ H b = some (.lst [.int k]) ∧ 0 ≤ k ∧ 0 ≤ n ∧ n ≤ 100 ∧
  ∀ (l : Addr) (ws : List V) (ps : List (Int × Int)) (H' : Hp), Same (upd H b (.lst [.int (k + n)])) H' → H l = none → H' l = some (.lst ws) → Tps K H' ws (ps.map pl) → ps.Nodup → (ps.length : Int) = n → (∀ p ∈ ps, GoodPt p ∧ BdPt 10 p) → Q (.ref l) H'
theorem pl_mem {p : Int × Int} {ps : List (Int × Int)} : pl p ∈ ps.map pl ↔ p ∈ ps := by
  rw [List.mem_map]
  constructor
  · rintro ⟨q, hq, e⟩
    rw [pl_inj] at e
    rw [← e]; exact hq
  · intro h; exact ⟨p, h, rfl⟩
def spJoined (K : PySem.W.Frag) : Sp := fun vs H Q _ => ∃ (v u : V) (m n : Ch), vs = [v, u] ∧ Tp K H v (cl m) ∧ Tp K H u (cl n) ∧ BdC 50000 m ∧ BdC 50000 n ∧ Out K H (cl (mul m n)) Q
def spAfter (K : PySem.W.Frag) : Sp := fun vs H Q _ => ∃ (v u : V) (m n : Ch), vs = [v, u] ∧ Tp K H v (cl m) ∧ Tp K H u (cl n) ∧ GoodC m ∧ GoodC n ∧ BdC 1900 m ∧ BdC 1900 n ∧ Out K H (cl (nch (mul m n))) Q
theorem BdC.mpow {k : Nat} {s : Ch} (h : BdC k s) : ∀ n, BdC ((k + 1) * n + 2) (mpow s n)
  | 0 => BdC.mono (j := 2) (show BdC 2 one4 from ⟨by decide, by decide, by decide, by decide⟩) (by omega)
  | n + 1 => ((BdC.mpow h n).mul h).mono (by rw [Nat.mul_succ]; omega)
def spPower (K : PySem.W.Frag) : Sp := fun vs H Q _ => ∃ (v : V) (m : Ch) (t : Int) (kb : Nat), vs = [v, .int t] ∧ Tp K H v (cl m) ∧ GoodC m ∧ BdC kb m ∧ kb ≤ 1900 ∧ (kb + 1) * t.natAbs + 2 ≤ 4000 ∧ -60 ≤ t ∧ t ≤ 60 ∧ Out K H (cl (pw m t)) Q
theorem int_mk {K : PySem.W.Frag} {h : Heap} {mg : Str → Option Value} {x : Str} {i : Int} {t : Tok} (X : K.In h) (G : h.Ns mainGlobals mg) (a : PySem.W.nsIn K mainGlobals x = some (some (.int i t))) : ∃ u, mg x = some u ∧ RelV (.int i) u :=
  ⟨_, PySem.W.mg_of X G a, ⟨_, rfl⟩⟩
theorem still_mk {K : PySem.W.Frag} {h : Heap} {mg : Str → Option Value} {f : Addr} {od : Option Addr} {osl : Array (Option Value)} {n : Nat} {t1 t2 t3 t4 : Tok} (X : K.In h) (G : h.Ns mainGlobals mg)
    (a : PySem.W.nsIn K mainGlobals "STILL" = some (some (.ref f))) (l : K.lookup f = some ⟨.type "tuple", od, .seq #[.int 1 t1, .int 0 t2, .int 0 t3, .int 1 t4] n, osl⟩) :
    ∃ aS, (mg "STILL" = some (.ref aS) ∧ RelV (.ref aS) (Value.ref aS)) ∧ ∀ H, SqT K H aS [.int 1, .int 0, .int 0, .int 1] :=
  ⟨f, ⟨PySem.W.mg_of X G a, rfl⟩, tupK l (by show 4 ≤ sizeLine; decide) (.cons ⟨_, rfl⟩ (.cons ⟨_, rfl⟩ (.cons ⟨_, rfl⟩ (.cons ⟨_, rfl⟩ .nil))))⟩
end Cs
namespace Stb
open PySem PySem.SetTable
def Rise (xs : Array Nat) : Prop := ∀ a b u v : Nat, a < b → xs[a]? = some u → xs[b]? = some v → u < v
theorem below_go {xs : Array Nat} {j : Nat} (hr : Rise xs) : ∀ (fuel lo hi : Nat), hi - lo ≤ fuel → lo ≤ hi → hi ≤ xs.size →
    (∀ a v, a < lo → xs[a]? = some v → v < j) → (∀ a v, hi ≤ a → xs[a]? = some v → j ≤ v) →
    below.go xs j fuel lo hi ≤ xs.size ∧ (∀ a v, a < below.go xs j fuel lo hi → xs[a]? = some v → v < j) ∧ (∀ a v, below.go xs j fuel lo hi ≤ a → xs[a]? = some v → j ≤ v)
  | 0, lo, hi, hf, hl, hs, h1, h2 => by
    have e : lo = hi := by omega
    subst e
    exact ⟨hs, h1, h2⟩
  | fuel + 1, lo, hi, hf, hl, hs, h1, h2 => by
    unfold below.go
    by_cases hlt : lo < hi
    · rw [if_pos hlt]
      have hm : (lo + hi) / 2 < xs.size := by omega
      have eg : xs[(lo + hi) / 2]? = some xs[(lo + hi) / 2] := Array.getElem?_eq_getElem hm
      have ed : xs.getD ((lo + hi) / 2) j = xs[(lo + hi) / 2] := by simp [hm]
      by_cases hc : xs.getD ((lo + hi) / 2) j < j
      · simp only [hc, if_true]
        refine below_go hr fuel _ _ (by omega) (by omega) hs (fun a v ha e => ?_) h2
        by_cases ha' : a = (lo + hi) / 2
        · subst ha'
          rw [eg] at e; cases e
          rw [ed] at hc; exact hc
        · have := hr a _ v _ (show a < (lo + hi) / 2 by omega) e eg
          omega
      · simp only [hc, if_false]
        refine below_go hr fuel _ _ (by omega) (by omega) (by omega) h1 (fun a v ha e => ?_)
        rw [ed] at hc
        by_cases ha' : a = (lo + hi) / 2
        · subst ha'
          rw [eg] at e; cases e
          omega
        · have := hr _ a _ v (show (lo + hi) / 2 < a by omega) eg e
          omega
    · rw [if_neg hlt]
      have e : lo = hi := by omega
      subst e
      exact ⟨hs, h1, h2⟩
theorem below_spec {xs : Array Nat} (hr : Rise xs) (j : Nat) : below xs j ≤ xs.size ∧ (∀ a v, a < below xs j → xs[a]? = some v → v < j) ∧ (∀ a v, below xs j ≤ a → xs[a]? = some v → j ≤ v) :=
  below_go hr xs.size 0 xs.size (by omega) (Nat.zero_le _) (Nat.le_refl _) (fun a v h => absurd h (Nat.not_lt_zero _)) fun a v h e => by
    rw [Array.getElem?_eq_none h] at e; cases e
theorem below_at {xs : Array Nat} (hr : Rise xs) {i j : Nat} (h : xs[i]? = some j) : below xs j = i := by
  obtain ⟨h0, h1, h2⟩ := below_spec hr j
  rcases Nat.lt_trichotomy (below xs j) i with c | c | c
  · have hb : below xs j < xs.size := by
      have : i < xs.size := by
        rcases Nat.lt_or_ge i xs.size with z | z
        · exact z
        · rw [Array.getElem?_eq_none z] at h; cases h
      omega
    have e := Array.getElem?_eq_getElem hb
    have l1 := h2 _ _ (Nat.le_refl _) e
    have l2 := hr _ _ _ _ c e h
    omega
  · exact c
  · have := h1 _ _ c h
    omega
theorem insertAt_get {α : Type} (xs : Array α) {p : Nat} (hp : p ≤ xs.size) (x : α) (i : Nat) : (insertAt xs p x)[i]? = if i < p then xs[i]? else if i = p then some x else xs[i - 1]? := by
  have hl : (insertAt xs p x).toList = xs.toList.take p ++ x :: xs.toList.drop p := by
    simp [insertAt, List.extract_eq_take_drop, List.take_of_length_le]
  rw [← Array.getElem?_toList, hl]
  have lp : (xs.toList.take p).length = p := by simp; omega
  by_cases h1 : i < p
  · rw [if_pos h1, List.getElem?_append_left (by omega), List.getElem?_take_of_lt h1, Array.getElem?_toList]
  · rw [if_neg h1, List.getElem?_append_right (by omega), lp]
    by_cases h2 : i = p
    · subst h2; simp
    · rw [if_neg h2]
      obtain ⟨k, rfl⟩ : ∃ k, i = p + k + 1 := ⟨i - p - 1, by omega⟩
      have e1 : p + k + 1 - p = k + 1 := by omega
      rw [e1, List.getElem?_cons_succ, List.getElem?_drop, Array.getElem?_toList]
      rfl
theorem insertAt_size {α : Type} (xs : Array α) {p : Nat} (hp : p ≤ xs.size) (x : α) : (insertAt xs p x).size = xs.size + 1 := by
  simp [insertAt]; omega
theorem insert_rise {xs : Array Nat} (hr : Rise xs) {j : Nat} (hj : ∀ a : Nat, xs[a]? ≠ some j) : Rise (insertAt xs (below xs j) j) := by
  obtain ⟨h0, h1, h2⟩ := below_spec hr j
  have h3 : ∀ a v, below xs j ≤ a → xs[a]? = some v → j < v := fun a v ha e => by
    have := h2 a v ha e
    have : v ≠ j := fun z => hj a (by rw [e, z])
    omega
  intro a b u v hab ea eb
  rw [insertAt_get _ h0] at ea eb
  by_cases ca : a < below xs j
  · rw [if_pos ca] at ea
    by_cases cb : b < below xs j
    · rw [if_pos cb] at eb
      exact hr _ _ _ _ hab ea eb
    · rw [if_neg cb] at eb
      have l1 := h1 _ _ ca ea
      by_cases cb' : b = below xs j
      · rw [if_pos cb'] at eb; cases eb; exact l1
      · rw [if_neg cb'] at eb
        have := h3 _ _ (by omega) eb
        omega
  · rw [if_neg ca] at ea
    have cb : ¬ b < below xs j := by omega
    rw [if_neg cb] at eb
    have cb' : ¬ b = below xs j := by omega
    rw [if_neg cb'] at eb
    by_cases ca' : a = below xs j
    · rw [if_pos ca'] at ea; cases ea
      exact h3 _ _ (by omega) eb
    · rw [if_neg ca'] at ea
      exact hr (a - 1) (b - 1) _ _ (by omega) ea eb
structure Tb (t : SetTable) : Prop where
  rise : Rise t.place
  nod : t.dummies = #[]
  low : ∀ i j : Nat, t.place[i]? = some j → j ≤ t.mask
theorem slot_live {t : SetTable} (T : Tb t) {i j : Nat} : t.slot j = .live i ↔ t.place[i]? = some j := by
  unfold slot
  constructor
  · intro h
    by_cases c : t.place[below t.place j]? == some j
    · simp only [c, if_true] at h
      cases h
      exact eq_of_beq c
    · simp only [c] at h
      rw [if_neg (by simp), T.nod] at h
      simp [has] at h
  · intro h
    have e := below_at T.rise h
    rw [e]
    simp [h]
theorem slot_empty {t : SetTable} (T : Tb t) {j : Nat} : t.slot j = .empty ↔ ∀ i : Nat, t.place[i]? ≠ some j := by
  constructor
  · intro h i e
    rw [(slot_live T).mpr e] at h
    cases h
  · intro h
    unfold slot
    rw [if_neg (by simpa using h _), T.nod]
    simp [has]
theorem slot_two {t : SetTable} (T : Tb t) (j : Nat) : t.slot j = .empty ∨ ∃ i, t.slot j = .live i := by
  by_cases h : ∃ i : Nat, t.place[i]? = some j
  · obtain ⟨i, h⟩ := h
    exact .inr ⟨i, (slot_live T).mpr h⟩
  · exact .inl ((slot_empty T).mpr fun i e => h ⟨i, e⟩)
theorem some_free {t : SetTable} (T : Tb t) (h : t.place.size ≤ t.mask) : ∃ j, j ≤ t.mask ∧ t.slot j = .empty := by
  refine Classical.byContradiction fun hn => ?_
  have all : ∀ j, j ≤ t.mask → ∃ i : Nat, t.place[i]? = some j := fun j hj => by
    refine Classical.byContradiction fun hi => hn ⟨j, hj, (slot_empty T).mpr fun i e => hi ⟨i, e⟩⟩
  -- the i-th place is at least i, so mask + 1 places
  have mem : ∀ j, j ≤ t.mask → j ∈ t.place.toList := fun j hj => by
    obtain ⟨i, e⟩ := all j hj
    rw [← Array.getElem?_toList] at e
    exact List.mem_of_getElem? e
  have sub : List.Subset (List.range (t.mask + 1)) t.place.toList := fun j hj => mem j (by have := List.mem_range.mp hj; omega)
  have := (List.nodup_range (n := t.mask + 1)).length_le_of_subset sub
  simp at this
  omega
def adv (m : Nat) (q : Probe) : Probe := if q.more > 0 then ⟨q.j + 1, q.more - 1, q.i, q.perturb, q.dummy⟩ else ⟨(leap m q.i q.perturb).1, runEnd m (leap m q.i q.perturb).1 - (leap m q.i q.perturb).1, (leap m q.i q.perturb).1, (leap m q.i q.perturb).2, q.dummy⟩
def stand (m : Nat) (p : Probe) : Nat → Probe
  | 0 => p
  | n + 1 => adv m (stand m p n)
theorem stand_adv (t : SetTable) (p : Probe) (n : Nat) : t.advance (stand t.mask p n) = stand t.mask p (n + 1) := by
  show _ = adv _ _
  unfold advance adv
  split <;> rfl
def start (m : Nat) (h : Int) : Probe := { j := bits h % (m + 1), more := runEnd m (bits h % (m + 1)) - bits h % (m + 1), i := bits h % (m + 1), perturb := bits h, dummy := none }
def at_ (m : Nat) (h : Int) (n : Nat) : Nat := (stand m (start m h) n).j
theorem stand_dummy (m : Nat) (p : Probe) (hp : p.dummy = none) : ∀ n, (stand m p n).dummy = none
  | 0 => hp
  | n + 1 => by
    have := stand_dummy m p hp n
    show (adv m _).dummy = none
    unfold adv
    split <;> exact this
def runs (m : Nat) (h : Int) : Nat → Nat × Nat
  | 0 => (bits h % (m + 1), bits h)
  | k + 1 => leap m (runs m h k).1 (runs m h k).2
theorem runs_pert (m : Nat) (h : Int) : ∀ k, (runs m h k).2 = bits h / 32 ^ k
  | 0 => by simp [runs]
  | k + 1 => by
    show (runs m h k).2 / 32 = _
    rw [runs_pert m h k, Nat.div_div_eq_div_mul, Nat.pow_succ]
theorem runEnd_ge (m i : Nat) : i ≤ runEnd m i ∧ runEnd m i ≤ i + 9 := by unfold runEnd; split <;> omega
theorem within {m : Nat} {p : Probe} {n k : Nat} (h : k ≤ (stand m p n).more) : (stand m p (n + k)).j = (stand m p n).j + k ∧ (stand m p (n + k)).more = (stand m p n).more - k ∧ (stand m p (n + k)).i = (stand m p n).i ∧ (stand m p (n + k)).perturb = (stand m p n).perturb := by
  induction k with
  | zero => exact ⟨rfl, rfl, rfl, rfl⟩
  | succ k ih =>
    obtain ⟨a, b, c, d⟩ := ih (by omega)
    have e : stand m p (n + (k + 1)) = adv m (stand m p (n + k)) := rfl
    generalize stand m p (n + k) = q at *
    rw [e]
    unfold adv
    rw [if_pos (by omega)]
    exact ⟨by show q.j + 1 = _; omega, by show q.more - 1 = _; omega, c, d⟩
theorem heads (m : Nat) (h : Int) : ∀ k, ∃ n, n ≤ 10 * k ∧ k ≤ n ∧ (stand m (start m h) n).j = (runs m h k).1 ∧ (stand m (start m h) n).i = (runs m h k).1 ∧ (stand m (start m h) n).perturb = (runs m h k).2 ∧ (stand m (start m h) n).more = runEnd m (runs m h k).1 - (runs m h k).1
  | 0 => ⟨0, by omega, by omega, rfl, rfl, rfl, rfl⟩
  | k + 1 => by
    obtain ⟨n, hn, hk, e1, e2, e3, e4⟩ := heads m h k
    obtain ⟨g1, g2⟩ := runEnd_ge m (runs m h k).1
    obtain ⟨a, b, c, d⟩ := within (m := m) (p := start m h) (n := n) (k := (stand m (start m h) n).more) (Nat.le_refl _)
    refine ⟨n + (stand m (start m h) n).more + 1, by omega, by omega, ?_⟩
    rw [stand, adv, if_neg (by omega), c, d, e2, e3]
    exact ⟨rfl, rfl, rfl, rfl⟩
theorem bits_lt (h : Int) : bits h < 2 ^ 64 := by
  unfold bits
  have h1 := Int.emod_lt_of_pos h (b := 2 ^ 64) (by decide)
  have h0 := Int.emod_nonneg h (b := 2 ^ 64) (by decide)
  omega
theorem runs_lt (m : Nat) (h : Int) : ∀ k, (runs m h k).1 < m + 1
  | 0 => Nat.mod_lt _ (by omega)
  | k + 1 => Nat.mod_lt _ (by omega)
def lcg (m i : Nat) : Nat → Nat
  | 0 => i
  | k + 1 => (lcg m i k * 5 + 1) % (m + 1)
theorem runs_late (m : Nat) (h : Int) : ∀ k, (runs m h (13 + k)).1 = lcg m (runs m h 13).1 k
  | 0 => rfl
  | k + 1 => by
    show (leap m (runs m h (13 + k)).1 (runs m h (13 + k)).2).1 = _
    have hp : (runs m h (13 + k)).2 / 32 = 0 := by
      rw [runs_pert, Nat.div_div_eq_div_mul]
      apply Nat.div_eq_of_lt
      refine Nat.lt_of_lt_of_le (bits_lt h) ?_
      have e : 32 ^ (13 + k) * 32 = 32 ^ 13 * (32 ^ k * 32) := by rw [Nat.pow_add, Nat.mul_assoc]
      rw [e]
      have : 1 ≤ 32 ^ k := Nat.one_le_pow _ _ (by decide)
      calc 2 ^ 64 ≤ 32 ^ 13 * 1 := by decide
        _ ≤ 32 ^ 13 * (32 ^ k * 32) := Nat.mul_le_mul_left _ (by omega)
    unfold leap
    rw [hp, runs_late m h k]
    rfl
def Msk (m : Nat) : Prop := m = 7 ∨ m = 31
theorem lcg_all {m : Nat} (hm : Msk m) : ∀ i, i < m + 1 → ∀ j, j < m + 1 → ∃ k, k < m + 1 ∧ lcg m i k = j := by
  rcases hm with rfl | rfl
  · decide +kernel
  · decide +kernel
theorem runs_all {m : Nat} (hm : Msk m) (h : Int) {j : Nat} (hj : j ≤ m) : ∃ k, k ≤ m + 13 ∧ (runs m h k).1 = j := by
  obtain ⟨k, hk, e⟩ := lcg_all hm (runs m h 13).1 (runs_lt m h 13) j (by omega)
  exact ⟨13 + k, by omega, by rw [runs_late, e]⟩
theorem at_all {m : Nat} (hm : Msk m) (h : Int) {j : Nat} (hj : j ≤ m) : ∃ n, n < 10 * turns m ∧ at_ m h n = j := by
  obtain ⟨k, hk, e⟩ := runs_all hm h hj
  obtain ⟨n, hn, _, e1, _⟩ := heads m h k
  exact ⟨n, by unfold turns; omega, by unfold at_; rw [e1, e]⟩
theorem first_free {t : SetTable} (T : Tb t) (hm : Msk t.mask) (hs : t.place.size ≤ t.mask) (h : Int) : ∃ N, N < 10 * turns t.mask ∧ t.slot (at_ t.mask h N) = .empty ∧ ∀ k, k < N → ∃ i, t.slot (at_ t.mask h k) = .live i := by
  obtain ⟨j, hj, e⟩ := some_free T hs
  obtain ⟨n, hn, en⟩ := at_all hm h hj
  have : ∀ n, t.slot (at_ t.mask h n) = .empty → ∃ N, N ≤ n ∧ t.slot (at_ t.mask h N) = .empty ∧ ∀ k, k < N → ∃ i, t.slot (at_ t.mask h k) = .live i := by
    intro n
    induction n using Nat.strongRecOn with
    | ind n ih =>
      intro e
      by_cases hx : ∃ k, k < n ∧ t.slot (at_ t.mask h k) = .empty
      · obtain ⟨k, hk, ek⟩ := hx
        obtain ⟨N, a, b, c⟩ := ih k hk ek
        exact ⟨N, by omega, b, c⟩
      · refine ⟨n, Nat.le_refl _, e, fun k hk => ?_⟩
        rcases slot_two T (at_ t.mask h k) with z | z
        · exact absurd ⟨k, hk, z⟩ hx
        · exact z
  obtain ⟨N, a, b, c⟩ := this n (by rw [en]; exact e)
  exact ⟨N, by omega, b, c⟩
theorem look {t : SetTable} {hashAt : Nat → Int} {h : Int} {N : Nat} (he : t.slot (at_ t.mask h N) = .empty) (hl : ∀ k, k < N → ∃ i, t.slot (at_ t.mask h k) = .live i) :
    ∀ (fuel n : Nat), n ≤ N → N - n < fuel →
      (∃ m i, n ≤ m ∧ m < N ∧ t.slot (at_ t.mask h m) = .live i ∧ hashAt i = h ∧ (∀ k, n ≤ k → k < m → ∀ i, t.slot (at_ t.mask h k) = .live i → hashAt i ≠ h) ∧
        probe.go t hashAt h fuel (stand t.mask (start t.mask h) n) = some (.candidate (at_ t.mask h m) i (stand t.mask (start t.mask h) (m + 1)))) ∨
      ((∀ k, n ≤ k → k < N → ∀ i, t.slot (at_ t.mask h k) = .live i → hashAt i ≠ h) ∧ probe.go t hashAt h fuel (stand t.mask (start t.mask h) n) = some (.empty (at_ t.mask h N) none))
  | 0, n, hn, hf => absurd hf (Nat.not_lt_zero _)
  | fuel + 1, n, hn, hf => by
    unfold probe.go
    by_cases e : n = N
    · subst e
      right
      refine ⟨fun k h1 h2 => absurd h1 (by omega), ?_⟩
      have he' : t.slot (stand t.mask (start t.mask h) n).j = .empty := he
      rw [he']
      dsimp only
      rw [stand_dummy _ _ rfl]
      rfl
    · obtain ⟨i, hi⟩ := hl n (by omega)
      have hi' : t.slot (stand t.mask (start t.mask h) n).j = .live i := hi
      rw [hi']
      dsimp only
      by_cases c : hashAt i = h
      · left
        refine ⟨n, i, Nat.le_refl _, by omega, hi, c, fun k h1 h2 => absurd h1 (by omega), ?_⟩
        rw [if_pos (by simpa using c), stand_adv]
        rfl
      · rw [if_neg (by simpa using c), stand_adv]
        rcases look he hl fuel (n + 1) (by omega) (by omega) with ⟨m, i', a1, a2, a3, a4, a5, a6⟩ | ⟨a1, a2⟩
        · left
          refine ⟨m, i', by omega, a2, a3, a4, fun k h1 h2 => ?_, a6⟩
          by_cases z : k = n
          · subst z
            intro i2 e2
            rw [hi] at e2; cases e2
            exact c
          · exact a5 k (by omega) h2
        · right
          refine ⟨fun k h1 h2 => ?_, a2⟩
          by_cases z : k = n
          · subst z
            intro i2 e2
            rw [hi] at e2; cases e2
            exact c
          · exact a1 k (by omega) h2
end Stb
namespace Stb
open PySem PySem.SetTable
structure Good (t : SetTable) (hs : Array Int) : Prop extends Tb t where
  msk : Msk t.mask
  siz : t.place.size = hs.size
  few : hs.size ≤ t.mask
  come : ∀ (i : Nat) (h : Int), hs[i]? = some h → ∃ n, t.slot (at_ t.mask h n) = .live i ∧ ∀ k, k < n → ∃ i', t.slot (at_ t.mask h k) = .live i'
theorem good_fresh (f m : Nat) (led : Bool) : Good (SetTable.fresh f m led) #[] where
  rise := fun a b u v _ e => by simp [SetTable.fresh] at e
  nod := rfl
  low := fun i j e => by simp [SetTable.fresh] at e
  msk := .inl rfl
  siz := rfl
  few := Nat.zero_le _
  come := fun i h e => by simp at e
theorem put_eq {t : SetTable} (T : Tb t) (j : Nat) : t.put j = ({ t with place := insertAt t.place (below t.place j) j }, below t.place j) := by
  unfold put
  have e : has t.dummies j = false := by rw [T.nod]; simp [has]
  rw [e]
  rfl
theorem good_put {t : SetTable} {hs : Array Int} (G : Good t hs) {h : Int} {N : Nat} (he : t.slot (at_ t.mask h N) = .empty) (hl : ∀ k, k < N → ∃ i, t.slot (at_ t.mask h k) = .live i) (hj : at_ t.mask h N ≤ t.mask) (hf : hs.size + 1 ≤ t.mask) :
    Good (t.put (at_ t.mask h N)).1 (insertAt hs (below t.place (at_ t.mask h N)) h) := by
  obtain ⟨b0, b1, b2⟩ := below_spec G.rise (at_ t.mask h N)
  have hno := (slot_empty G.toTb).mp he
  rw [put_eq G.toTb]
  generalize hp : below t.place (at_ t.mask h N) = p at *
  have hp2 : p ≤ hs.size := by rw [← G.siz]; exact b0
  have T' : Tb { t with place := insertAt t.place p (at_ t.mask h N) } := by
    refine ⟨by rw [← hp]; exact insert_rise G.rise hno, G.nod, fun i j e => ?_⟩
    have e : (insertAt t.place p (at_ t.mask h N))[i]? = some j := e
    rw [insertAt_get _ b0] at e
    by_cases c : i < p
    · rw [if_pos c] at e; exact G.low _ _ e
    · rw [if_neg c] at e
      by_cases c' : i = p
      · rw [if_pos c'] at e; cases e; exact hj
      · rw [if_neg c'] at e; exact G.low _ _ e
  have up : ∀ {i j : Nat}, t.slot j = .live i → SetTable.slot { t with place := insertAt t.place p (at_ t.mask h N) } j = .live (if i < p then i else i + 1) := fun {i j} e => by
    rw [slot_live T']
    rw [slot_live G.toTb] at e
    show (insertAt t.place p (at_ t.mask h N))[_]? = some j
    rw [insertAt_get _ b0]
    by_cases c : i < p
    · rw [if_pos c, if_pos c]; exact e
    · rw [if_neg c, if_neg (by omega), if_neg (by omega)]; exact e
  refine ⟨T', G.msk, ?_, ?_, fun i h' e => ?_⟩
  · show (insertAt t.place p (at_ t.mask h N)).size = _
    rw [insertAt_size _ b0, insertAt_size _ hp2, G.siz]
  · rw [insertAt_size _ hp2]; exact hf
  · rw [insertAt_get _ hp2] at e
    have old : ∀ i0, hs[i0]? = some h' → (if i0 < p then i0 else i0 + 1) = i → ∃ n, SetTable.slot { t with place := insertAt t.place p (at_ t.mask h N) } (at_ t.mask h' n) = .live i ∧ ∀ k, k < n → ∃ i', SetTable.slot { t with place := insertAt t.place p (at_ t.mask h N) } (at_ t.mask h' k) = .live i' := fun i0 e0 ei => by
      obtain ⟨n, a, b⟩ := G.come i0 h' e0
      exact ⟨n, by rw [up a, ei], fun k hk => by obtain ⟨i', z⟩ := b k hk; exact ⟨_, up z⟩⟩
    by_cases c : i < p
    · rw [if_pos c] at e
      exact old i e (by rw [if_pos c])
    · rw [if_neg c] at e
      by_cases c' : i = p
      · rw [if_pos c'] at e; cases e
        refine ⟨N, ?_, fun k hk => by obtain ⟨i', z⟩ := hl k hk; exact ⟨_, up z⟩⟩
        rw [slot_live T']
        show (insertAt t.place p (at_ t.mask h N))[i]? = some _
        rw [insertAt_get _ b0, if_neg c, if_pos c']
      · rw [if_neg c'] at e
        exact old (i - 1) e (by rw [if_neg (by omega)]; omega)
def Free (owner : Array (Option Nat)) (j : Nat) : Prop := (owner.getD j (some 0)).isNone = true
theorem free_spec {m : Nat} {h : Int} {owner : Array (Option Nat)} : ∀ (fuel k n0 : Nat), (stand m (start m h) n0).j = (runs m h k).1 → (stand m (start m h) n0).i = (runs m h k).1 → (stand m (start m h) n0).perturb = (runs m h k).2 →
    (stand m (start m h) n0).more = runEnd m (runs m h k).1 - (runs m h k).1 →
    (∀ j, layClean.free m owner fuel (runs m h k).1 (runs m h k).2 = some j → ∃ n, n0 ≤ n ∧ at_ m h n = j ∧ Free owner j ∧ ∀ n', n0 ≤ n' → n' < n → ¬ Free owner (at_ m h n')) ∧
    (layClean.free m owner fuel (runs m h k).1 (runs m h k).2 = none → ∀ k', k' < fuel → ¬ Free owner (runs m h (k + k')).1)
  | 0, k, n0, e1, e2, e3, e4 => by
    refine ⟨fun j e => ?_, fun _ k' hk => absurd hk (Nat.not_lt_zero _)⟩
    simp [layClean.free] at e
  | fuel + 1, k, n0, e1, e2, e3, e4 => by
    obtain ⟨g1, g2⟩ := runEnd_ge m (runs m h k).1
    have wi : ∀ d, d ≤ runEnd m (runs m h k).1 - (runs m h k).1 → at_ m h (n0 + d) = (runs m h k).1 + d := fun d hd => by
      obtain ⟨a, _⟩ := within (m := m) (p := start m h) (n := n0) (k := d) (by omega)
      unfold at_; rw [a, e1]
    unfold layClean.free
    cases hf : (List.range (runEnd m (runs m h k).1 + 1 - (runs m h k).1)).find? fun d => (owner.getD ((runs m h k).1 + d) (some 0)).isNone with
    | some d =>
      dsimp only
      rw [List.find?_range_eq_some] at hf
      obtain ⟨f1, f2, f3⟩ := hf
      have f2' := List.mem_range.mp f2
      refine ⟨fun j e => ?_, fun e => by cases e⟩
      cases e
      refine ⟨n0 + d, by omega, wi d (by omega), f1, fun n' h1 h2 z => ?_⟩
      have h3 := f3 (n' - n0) (by omega)
      have h4 := wi (n' - n0) (by omega)
      have e5 : n0 + (n' - n0) = n' := by omega
      rw [e5] at h4
      rw [h4] at z
      unfold Free at z
      rw [z] at h3
      simp at h3
    | none =>
      dsimp only
      rw [List.find?_eq_none] at hf
      have none_in : ∀ d, d ≤ runEnd m (runs m h k).1 - (runs m h k).1 → ¬ Free owner ((runs m h k).1 + d) := fun d hd => hf d (List.mem_range.mpr (by omega))
      obtain ⟨a, b, c, d⟩ := within (m := m) (p := start m h) (n := n0) (k := (stand m (start m h) n0).more) (Nat.le_refl _)
      have hd : ∀ z, stand m (start m h) (n0 + (stand m (start m h) n0).more + 1) = z → z.j = (runs m h (k + 1)).1 ∧ z.i = (runs m h (k + 1)).1 ∧ z.perturb = (runs m h (k + 1)).2 ∧ z.more = runEnd m (runs m h (k + 1)).1 - (runs m h (k + 1)).1 := fun z ez => by
        rw [← ez, stand, adv, if_neg (by omega), c, d, e2, e3]
        exact ⟨rfl, rfl, rfl, rfl⟩
      obtain ⟨d1, d2, d3, d4⟩ := hd _ rfl
      obtain ⟨r1, r2⟩ := free_spec (owner := owner) fuel (k + 1) (n0 + (stand m (start m h) n0).more + 1) d1 d2 d3 d4
      refine ⟨fun j e => ?_, fun e k' hk => ?_⟩
      · obtain ⟨n, q1, q2, q3, q4⟩ := r1 j e
        refine ⟨n, by omega, q2, q3, fun n' h1 h2 => ?_⟩
        by_cases z : n' ≤ n0 + (stand m (start m h) n0).more
        · have h4 := wi (n' - n0) (by omega)
          have e5 : n0 + (n' - n0) = n' := by omega
          rw [e5] at h4
          rw [h4]
          exact none_in _ (by omega)
        · exact q4 n' (by omega) h2
      · cases k' with
        | zero => exact none_in 0 (Nat.zero_le _)
        | succ k' =>
          have := r2 e k' (by omega)
          have e5 : k + 1 + k' = k + (k' + 1) := by omega
          rw [e5] at this; exact this
structure Own (m : Nat) (hs : Array Int) (k : Nat) (owner : Array (Option Nat)) : Prop where
  siz : owner.size = m + 1
  come : ∀ (i : Nat) (h : Int), i < k → hs[i]? = some h → ∃ n, owner[at_ m h n]? = some (some i) ∧ ∀ n', n' < n → ∃ i', owner[at_ m h n']? = some (some i')
  lt : ∀ (j i : Nat), owner[j]? = some (some i) → i < k
  inj : ∀ (j j' i : Nat), owner[j]? = some (some i) → owner[j']? = some (some i) → j = j'
theorem free_iff {owner : Array (Option Nat)} {j : Nat} : Free owner j ↔ owner[j]? = some none := by
  unfold Free
  by_cases h : j < owner.size
  · rw [Array.getElem?_eq_getElem h]
    simp [h]
  · rw [Array.getElem?_eq_none (by omega)]
    simp [h]
theorem not_free {m : Nat} {hs : Array Int} {k : Nat} {owner : Array (Option Nat)} (O : Own m hs k owner) {j : Nat} (hj : j ≤ m) (h : ¬ Free owner j) : ∃ i, owner[j]? = some (some i) := by
  have hlt : j < owner.size := by rw [O.siz]; omega
  rw [free_iff, Array.getElem?_eq_getElem hlt] at h
  rw [Array.getElem?_eq_getElem hlt]
  cases e : owner[j] with
  | none => rw [e] at h; exact absurd rfl h
  | some i => exact ⟨i, rfl⟩
open Classical in
theorem own_free {m : Nat} {hs : Array Int} {k : Nat} {owner : Array (Option Nat)} (O : Own m hs k owner) (hk : k ≤ m) : ∃ j, j ≤ m ∧ Free owner j := by
  refine Classical.byContradiction fun hn => ?_
  have all : ∀ j, j ≤ m → ∃ i, owner[j]? = some (some i) := fun j hj => not_free O hj fun z => hn ⟨j, hj, z⟩
  let s : Nat → Nat := fun i => if h : ∃ j : Nat, owner[j]? = some (some i) then h.choose else 0
  have sub : List.Subset (List.range (m + 1)) ((List.range k).map s) := fun j hj => by
    obtain ⟨i, e⟩ := all j (by have := List.mem_range.mp hj; omega)
    refine List.mem_map.mpr ⟨i, List.mem_range.mpr (O.lt j i e), ?_⟩
    have hx : ∃ j : Nat, owner[j]? = some (some i) := ⟨j, e⟩
    show (if h : ∃ j : Nat, owner[j]? = some (some i) then h.choose else 0) = j
    rw [dif_pos hx]
    exact O.inj _ _ i hx.choose_spec e
  have := (List.nodup_range (n := m + 1)).length_le_of_subset sub
  simp at this
  omega
theorem at_low {m : Nat} (h : Int) : ∀ n, (stand m (start m h) n).j + (stand m (start m h) n).more ≤ m
  | 0 => by
    have h1 : bits h % (m + 1) < m + 1 := Nat.mod_lt _ (by omega)
    show bits h % (m + 1) + (runEnd m (bits h % (m + 1)) - bits h % (m + 1)) ≤ m
    unfold runEnd; split <;> omega
  | n + 1 => by
    have ih := at_low (m := m) h n
    rw [stand]
    generalize stand m (start m h) n = q at *
    unfold adv
    split
    · show q.j + 1 + (q.more - 1) ≤ m
      omega
    · have h1 : (leap m q.i q.perturb).1 < m + 1 := Nat.mod_lt _ (by omega)
      show (leap m q.i q.perturb).1 + (runEnd m (leap m q.i q.perturb).1 - (leap m q.i q.perturb).1) ≤ m
      unfold runEnd; split <;> omega
theorem at_le (m : Nat) (h : Int) (n : Nat) : at_ m h n ≤ m := by have := at_low (m := m) h n; unfold at_; omega
theorem own_step {m : Nat} {hs : Array Int} {k : Nat} {owner : Array (Option Nat)} (hm : Msk m) (O : Own m hs k owner) (hk : k ≤ m) {h : Int} (hh : hs[k]? = some h) :
    ∃ j, layClean.free m owner (turns m) (bits h % (m + 1)) (bits h) = some j ∧ Own m hs (k + 1) (owner.setIfInBounds j (some k)) := by
  obtain ⟨r1, r2⟩ := free_spec (m := m) (h := h) (owner := owner) (turns m) 0 0 rfl rfl rfl rfl
  cases e : layClean.free m owner (turns m) (runs m h 0).1 (runs m h 0).2 with
  | none =>
    exfalso
    obtain ⟨j, hj, fj⟩ := own_free O hk
    obtain ⟨k', hk', ek⟩ := runs_all hm h hj
    refine r2 e k' (by unfold turns; omega) ?_
    rw [Nat.zero_add, ek]; exact fj
  | some j =>
    refine ⟨j, e, ?_⟩
    obtain ⟨n, _, en, fj, before⟩ := r1 j e
    have ej := free_iff.mp fj
    have jlt : j < owner.size := by
      rcases Nat.lt_or_ge j owner.size with z | z
      · exact z
      · rw [Array.getElem?_eq_none z] at ej; cases ej
    have get : ∀ j' : Nat, (owner.setIfInBounds j (some k))[j']? = if j' = j then some (some k) else owner[j']? := fun j' => by
      by_cases c : j' = j
      · subst c; rw [if_pos rfl]; simp [jlt]
      · rw [if_neg c]
        rw [Array.getElem?_setIfInBounds_ne (fun z => c z.symm)]
    have keep : ∀ {j' i : Nat}, owner[j']? = some (some i) → (owner.setIfInBounds j (some k))[j']? = some (some i) := fun {j' i} e' => by
      rw [get, if_neg (fun z => by rw [z, ej] at e'; cases e')]; exact e'
    refine ⟨by rw [Array.size_setIfInBounds]; exact O.siz, fun i h' hi hih => ?_, fun j' i e' => ?_, fun j1 j2 i e1 e2 => ?_⟩
    · by_cases c : i = k
      · subst c
        rw [hh] at hih; cases hih
        refine ⟨n, by rw [get, if_pos en], fun n' hn' => ?_⟩
        obtain ⟨i', z⟩ := not_free O (at_le m h n') (before n' (Nat.zero_le _) hn')
        exact ⟨i', keep z⟩
      · obtain ⟨n1, a, b⟩ := O.come i h' (by omega) hih
        exact ⟨n1, keep a, fun n' hn' => by obtain ⟨i', z⟩ := b n' hn'; exact ⟨i', keep z⟩⟩
    · rw [get] at e'
      by_cases c : j' = j
      · rw [if_pos c] at e'; cases e'; omega
      · rw [if_neg c] at e'
        have := O.lt j' i e'
        omega
    · rw [get] at e1 e2
      by_cases c1 : j1 = j
      · rw [if_pos c1] at e1; cases e1
        by_cases c2 : j2 = j
        · omega
        · rw [if_neg c2] at e2
          have := O.lt j2 k e2
          omega
      · rw [if_neg c1] at e1
        by_cases c2 : j2 = j
        · rw [if_pos c2] at e2; cases e2
          have := O.lt j1 k e1
          omega
        · rw [if_neg c2] at e2
          exact O.inj j1 j2 i e1 e2
theorem own_start (m : Nat) (hs : Array Int) : Own m hs 0 (Array.replicate (m + 1) none) where
  siz := by simp
  come := fun i h hi => absurd hi (Nat.not_lt_zero _)
  lt := fun j i e => by
    rw [Array.getElem?_replicate] at e
    split at e <;> cases e
  inj := fun j j' i e => by
    rw [Array.getElem?_replicate] at e
    split at e <;> cases e
theorem own_fold {m : Nat} {hs : Array Int} (hm : Msk m) (hk : hs.size ≤ m) : ∃ owner, layClean m hs = some owner ∧ Own m hs hs.size owner := by
  have go : ∀ (l : List Int) (k : Nat) (owner : Array (Option Nat)), k ≤ hs.size → hs.toList.drop k = l → Own m hs k owner → ∃ owner', l.foldl (fun acc h => do
      let (owner, k) ← acc
      let j ← layClean.free m owner (turns m) (bits h % (m + 1)) (bits h)
      pure (owner.setIfInBounds j (some k), k + 1)) (some (owner, k)) = some (owner', hs.size) ∧ Own m hs hs.size owner' := by
    intro l
    induction l with
    | nil =>
      intro k owner hle hl O
      have hkk : hs.size ≤ k := by
        have := List.drop_eq_nil_iff.mp hl
        simpa using this
      obtain rfl : k = hs.size := by omega
      exact ⟨owner, rfl, O⟩
    | cons h l ih =>
      intro k owner hle hl O
      have hk' : hs[k]? = some h := by
        have := congrArg (fun x => x[0]?) hl
        simp only [List.getElem?_drop, Nat.add_zero, List.getElem?_cons_zero] at this
        rw [Array.getElem?_toList] at this
        exact this
      have hlt : k < hs.size := by
        rcases Nat.lt_or_ge k hs.size with z | z
        · exact z
        · rw [Array.getElem?_eq_none z] at hk'; cases hk'
      obtain ⟨j, ej, O'⟩ := own_step hm O (by omega) hk'
      have hl' : hs.toList.drop (k + 1) = l := by
        rw [← List.drop_drop, hl]; rfl
      obtain ⟨owner', e, O2⟩ := ih (k + 1) _ hlt hl' O'
      refine ⟨owner', ?_, O2⟩
      rw [List.foldl_cons]
      simp only [Option.bind_eq_bind, Option.bind_some, ej, Option.pure_def]
      exact e
  obtain ⟨owner', e, O⟩ := go hs.toList 0 _ (Nat.zero_le _) rfl (own_start m hs)
  refine ⟨owner', ?_, O⟩
  unfold layClean
  rw [← Array.foldl_toList, e]
  rfl
theorem good_laid {t : SetTable} {hs : Array Int} {m : Nat} (hm : Msk m) (hk : hs.size ≤ m) (f mv : Nat) (led plain : Bool) :
    ∃ (t' : SetTable) (order : Array Nat), SetTable.laid m f mv led plain hs = some (t', order) ∧ t'.mask = m ∧ t'.plain = plain ∧ t'.led = led ∧ t'.moves = mv ∧ order.toList.Perm (List.range hs.size) ∧ Good t' (order.map fun i => hs.getD i 0) := by
  obtain ⟨owner, e, O⟩ := own_fold hm hk
  obtain ⟨live, hlive⟩ : ∃ live : List (Nat × Nat), live = (List.range (m + 1)).filterMap fun j => (owner.getD j none).map (j, ·) := ⟨_, rfl⟩
  have mem : ∀ j i : Nat, (j, i) ∈ live ↔ owner[j]? = some (some i) := fun j i => by
    rw [hlive, List.mem_filterMap]
    constructor
    · rintro ⟨j', hj', ej⟩
      have hlt : j' < owner.size := by rw [O.siz]; exact List.mem_range.mp hj'
      have eg : owner.getD j' none = owner[j'] := by simp [hlt]
      rw [eg] at ej
      cases ec : owner[j'] with
      | none => rw [ec] at ej; cases ej
      | some i' =>
        rw [ec] at ej
        simp only [Option.map_some, Option.some.injEq, Prod.mk.injEq] at ej
        obtain ⟨rfl, rfl⟩ := ej
        rw [Array.getElem?_eq_getElem hlt, ec]
    · intro ej
      have hlt : j < owner.size := by
        rcases Nat.lt_or_ge j owner.size with z | z
        · exact z
        · rw [Array.getElem?_eq_none z] at ej; cases ej
      refine ⟨j, List.mem_range.mpr (by rw [← O.siz]; exact hlt), ?_⟩
      rw [Array.getElem?_eq_getElem hlt] at ej
      have eg : owner.getD j none = owner[j] := by simp [hlt]
      rw [eg, Option.some.inj ej]; rfl
  have pw : live.Pairwise (fun x y => x.1 < y.1) := by
    rw [hlive]
    refine List.Pairwise.filterMap _ (fun a a' h b hb b' hb' => ?_) (List.pairwise_lt_range (n := m + 1))
    have e1 : b.1 = a := by
      cases hq : owner.getD a none with
      | none => rw [hq] at hb; cases hb
      | some z => rw [hq] at hb; cases hb; rfl
    have e2 : b'.1 = a' := by
      cases hq : owner.getD a' none with
      | none => rw [hq] at hb'; cases hb'
      | some z => rw [hq] at hb'; cases hb'; rfl
    rw [e1, e2]; exact h
  have pos : ∀ {r : Nat} {x : Nat × Nat}, live[r]? = some x → owner[x.1]? = some (some x.2) := fun {r x} ex => (mem x.1 x.2).mp (List.mem_of_getElem? ex)
  have nd : (live.map (·.2)).Nodup := by
    rw [List.Nodup, List.pairwise_map]
    refine List.Pairwise.imp_of_mem (fun {a b} ha hb hab z => ?_) pw
    have h1 := (mem a.1 a.2).mp ha
    have h2 := (mem b.1 b.2).mp hb
    rw [← z] at h2
    have := O.inj _ _ _ h1 h2
    omega
  have perm : (live.map (·.2)).Perm (List.range hs.size) := by
    rw [List.perm_ext_iff_of_nodup nd List.nodup_range]
    intro i
    rw [List.mem_map, List.mem_range]
    constructor
    · rintro ⟨x, hx, rfl⟩
      exact O.lt _ _ ((mem x.1 x.2).mp hx)
    · intro hi
      obtain ⟨n, a, _⟩ := O.come i hs[i] hi (Array.getElem?_eq_getElem hi)
      exact ⟨(_, i), (mem _ _).mpr a, rfl⟩
  have hlen : live.length = hs.size := by
    have := perm.length_eq
    simpa using this
  refine ⟨{ mask := m, place := (live.map (·.1)).toArray, dummies := #[], finger := f, led := led, moves := mv, plain := plain }, (live.map (·.2)).toArray, ?_, rfl, rfl, rfl, rfl, by simpa using perm, ?_⟩
  · unfold SetTable.laid
    rw [e]
    simp only [Option.bind_eq_bind, Option.bind_some, Option.pure_def, ← hlive]
  have plc : ∀ (r j : Nat), ((live.map (·.1)).toArray)[r]? = some j → ∃ i, live[r]? = some (j, i) := fun r j ej => by
    rw [List.getElem?_toArray, List.getElem?_map] at ej
    cases ec : live[r]? with
    | none => rw [ec] at ej; cases ej
    | some x =>
      rw [ec] at ej
      obtain ⟨j', i'⟩ := x
      cases ej
      exact ⟨i', rfl⟩
  have T : Tb { mask := m, place := (live.map (·.1)).toArray, dummies := #[], finger := f, led := led, moves := mv, plain := plain } := by
    refine ⟨fun a b u v hab ea eb => ?_, rfl, fun i j ej => ?_⟩
    · obtain ⟨i1, h1⟩ := plc a u ea
      obtain ⟨i2, h2⟩ := plc b v eb
      obtain ⟨la, ga⟩ := List.getElem?_eq_some_iff.mp h1
      obtain ⟨lb, gb⟩ := List.getElem?_eq_some_iff.mp h2
      have := List.pairwise_iff_getElem.mp pw a b la lb hab
      rw [ga, gb] at this
      exact this
    · obtain ⟨i1, h1⟩ := plc i j ej
      have h2 := pos h1
      have hlt : j < owner.size := by
        rcases Nat.lt_or_ge j owner.size with z | z
        · exact z
        · rw [Array.getElem?_eq_none z] at h2; cases h2
      rw [O.siz] at hlt
      show j ≤ m
      omega
  have lv : ∀ {j i : Nat}, owner[j]? = some (some i) → ∃ r, live[r]? = some (j, i) ∧ SetTable.slot { mask := m, place := (live.map (·.1)).toArray, dummies := #[], finger := f, led := led, moves := mv, plain := plain } j = .live r := fun {j i} ej => by
    obtain ⟨r, hr⟩ := List.mem_iff_getElem?.mp ((mem j i).mpr ej)
    refine ⟨r, hr, (slot_live T).mpr ?_⟩
    show ((live.map (·.1)).toArray)[r]? = some j
    rw [List.getElem?_toArray, List.getElem?_map, hr]; rfl
  refine ⟨T, hm, by simp, ?_, fun r h er => ?_⟩
  · show _ ≤ m
    simp [hlen, hk]
  · have er' : (live.map (·.2))[r]?.map (fun i => hs.getD i 0) = some h := by
      simpa using er
    rw [List.getElem?_map] at er'
    cases ec : live[r]? with
    | none => rw [ec] at er'; cases er'
    | some x =>
      rw [ec] at er'
      obtain ⟨j0, i⟩ := x
      have hh : hs.getD i 0 = h := by simpa using er'
      have hi : i < hs.size := O.lt _ _ (pos ec)
      have ei : hs[i]? = some h := by
        rw [Array.getElem?_eq_getElem hi]
        have : hs.getD i 0 = hs[i] := by simp [hi]
        rw [← this, hh]
      obtain ⟨n, a, b⟩ := O.come i h hi ei
      obtain ⟨r', hr', hs'⟩ := lv a
      have e0 : at_ m h n = j0 := O.inj _ _ i a (pos ec)
      have err : r' = r := by
        -- the same pair stands once
        obtain ⟨l1, g1⟩ := List.getElem?_eq_some_iff.mp hr'
        obtain ⟨l2, g2⟩ := List.getElem?_eq_some_iff.mp ec
        rcases Nat.lt_trichotomy r' r with z | z | z
        · have := List.pairwise_iff_getElem.mp pw r' r l1 l2 z
          rw [g1, g2, e0] at this
          exact absurd this (Nat.lt_irrefl _)
        · exact z
        · have := List.pairwise_iff_getElem.mp pw r r' l2 l1 z
          rw [g1, g2, e0] at this
          exact absurd this (Nat.lt_irrefl _)
      refine ⟨n, by rw [← err]; exact hs', fun k hk' => ?_⟩
      obtain ⟨i', z⟩ := b k hk'
      obtain ⟨r2, _, h2⟩ := lv z
      exact ⟨r2, h2⟩
end Stb
namespace Stb
open PySem PySem.SetTable
section
variable {prog : Program} {w : World} {A : Around} {E : Value → Shared → Prop} {s : Shared}
abbrev TK (prog : Program) (w : World) (h : Heap) (k : List Int) (b : Addr) : Prop := IsTupleKey (intKind prog w) h k b
abbrev TH (prog : Program) (w : World) (k : List Int) : Int := tupleKeyHash (intKind prog w) k
theorem items_int : ∀ {k : List Int} {vs : List Value}, ItemsAre (intKind prog w) k vs → ∀ v ∈ vs, ∃ n t, v = .int n t
  | _, _, .nil, v, hv => by simp at hv
  | _, _, .cons (k := n) (v := u) h1 h2, v, hv => by
    rcases List.mem_cons.mp hv with rfl | z
    · cases v <;> first | exact ⟨_, _, rfl⟩ | (simp [intKind, Value.isInt] at h1)
    · exact items_int h2 v z
theorem plain_tuple {k : List Int} {b : Addr} {Q : Bool → Shared → Prop} (hk : TK prog w s.heap k b) (h : Q false s) : wpAny (model prog w) A (ofAClassStatement 8 (.ref b)) Q E s := by
  have hT := hk.typeIs
  obtain ⟨o, items, n, ho, _, hd, hi⟩ := hk
  have hv := items_int hi
  unfold ofAClassStatement
  refine wpAny_bind (wpAny_typeOf hT ?_)
  dsimp only
  have e1 : ("tuple" == "tuple") = true := by decide
  simp only [e1, if_true]
  refine wpAny_bind (wpAny_pure ?_)
  simp only [Bool.not_true, Bool.false_eq_true, if_false]
  refine wpAny_bind (wpAny_seqItems ho hd ?_)
  dsimp only
  refine wpAny_bind ?_
  rw [← Array.forIn_toList]
  refine wpAny_forIn_list _ (fun rest r s' => r.1 = none ∧ s' = s ∧ ∀ v ∈ rest, ∃ n t, v = Value.int n t) _ ?_ ?_ _ _ ⟨rfl, rfl, hv⟩
  · rintro v rest r s' ⟨hr, rfl, hall⟩
    obtain ⟨n, t, rfl⟩ := hall v List.mem_cons_self
    have e : ofAClassStatement 7 (.int n t) = pure false := by unfold ofAClassStatement; rfl
    rw [e]
    refine wpAny_bind (wpAny_pure ?_)
    simp only [Bool.false_eq_true, if_false]
    exact wpAny_pure ⟨rfl, rfl, fun u hu => hall u (List.mem_cons_of_mem _ hu)⟩
  · rintro ⟨r1, r2⟩ s' ⟨hr, rfl, _⟩
    simp only at hr
    subst hr
    exact wpAny_pure h
theorem unseen {k : List Int} {b : Addr} {stored : List Value} {Q : Bool → Shared → Prop} (hk : TK prog w s.heap k b) (hs : ∀ y ∈ stored, ∃ k' b', y = .ref b' ∧ TK prog w s.heap k' b') (h : Q false s) : wpAny (model prog w) A (searchCouldBeSeen (.ref b) stored) Q E s := by
  unfold searchCouldBeSeen
  refine wpAny_bind ?_
  refine wpAny_forIn_list _ (fun rest r s' => r.1 = none ∧ s' = s ∧ ∀ y ∈ rest, ∃ k' b', y = Value.ref b' ∧ TK prog w s.heap k' b') _ ?_ ?_ _ _ ⟨rfl, rfl, hs⟩
  · rintro v rest r s' ⟨hr, rfl, hall⟩
    obtain ⟨k', b', rfl, hk'⟩ := hall v List.mem_cons_self
    have next : ∀ y ∈ rest, ∃ k' b', y = Value.ref b' ∧ TK prog w s'.heap k' b' := fun u hu => hall u (List.mem_cons_of_mem _ hu)
    dsimp only
    by_cases c : ((b == b') || (carriedByValue (.ref b) && carriedByValue (.ref b'))) = true
    · simp only [c, if_true]
      exact wpAny_pure ⟨rfl, rfl, next⟩
    · simp only [c]
      refine wpAny_bind (wpAny_eqIsQuiet_tuple hk ?_)
      simp only [Bool.not_true, Bool.false_eq_true, if_false]
      refine wpAny_bind (wpAny_eqIsQuiet_tuple hk' ?_)
      simp only [Bool.not_true, Bool.false_eq_true, if_false]
      refine wpAny_bind (plain_tuple hk ?_)
      simp only [Bool.false_eq_true, if_false]
      refine wpAny_bind (plain_tuple hk' ?_)
      simp only [Bool.false_eq_true, if_false]
      exact wpAny_pure ⟨rfl, rfl, next⟩
  · rintro ⟨r1, r2⟩ s' ⟨hr, rfl, _⟩
    simp only at hr
    subst hr
    exact wpAny_pure h
theorem byValue {k : List Int} {b : Addr} {Q : Bool → Shared → Prop} (hk : TK prog w s.heap k b) (h : Q true s) : wpAny (model prog w) A (hashByValue 8 (.ref b)) Q E s := by
  have hT := hk.typeIs
  obtain ⟨o, items, n, ho, _, hd, hi⟩ := hk
  have hv := items_int hi
  unfold hashByValue
  refine wpAny_bind (wpAny_specialOf hT F.slot_tuple_hash.lookup ?_)
  dsimp only
  refine wpAny_bind (wpAny_seqItems ho hd ?_)
  dsimp only [Option.getD_some]
  refine wpAny_bind ?_
  rw [← Array.forIn_toList]
  refine wpAny_forIn_list _ (fun rest r s' => r.1 = none ∧ s' = s ∧ ∀ v ∈ rest, ∃ n t, v = Value.int n t) _ ?_ ?_ _ _ ⟨rfl, rfl, hv⟩
  · rintro v rest r s' ⟨hr, rfl, hall⟩
    obtain ⟨n, t, rfl⟩ := hall v List.mem_cons_self
    have e : hashByValue 7 (.int n t) = pure true := by unfold hashByValue; rfl
    rw [e]
    refine wpAny_bind (wpAny_pure ?_)
    simp only [Bool.not_true, Bool.false_eq_true, if_false]
    exact wpAny_pure ⟨rfl, rfl, fun u hu => hall u (List.mem_cons_of_mem _ hu)⟩
  · rintro ⟨r1, r2⟩ s' ⟨hr, rfl, _⟩
    simp only at hr
    subst hr
    exact wpAny_pure h
def Ents (prog : Program) (w : World) (h : Heap) (es : Array (Int × Value)) : Prop := ∀ (i : Nat) e, es[i]? = some e → ∃ k b, e.2 = .ref b ∧ TK prog w h k b ∧ e.1 = TH prog w k
def In (prog : Program) (w : World) (h : Heap) (es : Array (Int × Value)) (k : List Int) : Prop := ∃ (i : Nat) (e : Int × Value) (b : Addr), es[i]? = some e ∧ e.2 = .ref b ∧ TK prog w h k b
theorem hash_at {es : Array (Int × Value)} {i : Nat} {h : Int} : (es.map (·.1))[i]? = some h ↔ ∃ v, es[i]? = some (h, v) := by
  rw [Array.getElem?_map]
  cases es[i]? with
  | none => simp
  | some e => obtain ⟨a, b⟩ := e; simp
theorem search {a b : Addr} {o : Obj} {es : Array (Int × Value)} {ep : Nat} {t : SetTable} {k : List Int} {Q : SetFound → Shared → Prop} (hu : A.units < cLine) (ho : s.heap.get? a = some o) (hd : o.data = .set es ep t)
    (G : Good t (es.map (·.1))) (en : Ents prog w s.heap es) (hk : TK prog w s.heap k b) {N : Nat} (hN : N < 10 * turns t.mask) (he : t.slot (at_ t.mask (TH prog w k) N) = .empty) (hl : ∀ m, m < N → ∃ i, t.slot (at_ t.mask (TH prog w k) m) = .live i)
    (q1 : In prog w s.heap es k → Q (.there none) s) (q2 : ¬ In prog w s.heap es k → Q (.free (at_ t.mask (TH prog w k) N) false) s) :
    ∀ (fuel n : Nat) (st : Option Probe), st.getD (t.probeStart (TH prog w k)) = stand t.mask (start t.mask (TH prog w k)) n → n ≤ N → N - n < fuel →
      (∀ m, m < n → ∀ i e b', t.slot (at_ t.mask (TH prog w k) m) = .live i → es[i]? = some e → e.2 = .ref b' → ¬ TK prog w s.heap k b') →
      wpAny (model prog w) A (setSearchFrom a (.ref b) (TH prog w k) true fuel st) Q E s
  | 0, n, st, _, _, hf, _ => absurd hf (Nat.not_lt_zero _)
  | fuel + 1, n, st, hst, hn, hf, hb => by
    have fits : t.fits es.size = true := by
      have h1 := G.siz
      have h2 := G.few
      simp only [Array.size_map] at h1 h2
      simp only [SetTable.fits, SetTable.fill, G.nod, Bool.and_eq_true, beq_iff_eq, decide_eq_true_eq]
      refine ⟨h1, ?_⟩
      simp; omega
    have nogw : t.gaveWay = false := by
      unfold SetTable.gaveWay
      rcases G.msk with e | e <;> rw [e] <;> rfl
    unfold setSearchFrom
    refine wpAny_bind (wpAny_setState_of ho hd fits ?_)
    dsimp only
    rw [nogw]
    simp only [Bool.false_eq_true, if_false]
    rw [hst]
    unfold SetTable.probe
    rcases look (t := t) (hashAt := fun i => (es[i]?.map (·.1)).getD 0) he hl (10 * turns t.mask) n hn (by omega) with ⟨m, i, a1, a2, a3, a4, a5, a6⟩ | ⟨a1, a2⟩
    · obtain ⟨e, ee⟩ : ∃ e, es[i]? = some e := by
        have h1 := (slot_live G.toTb).mp a3
        have h2 : i < es.size := by
          have h3 := G.siz
          simp only [Array.size_map] at h3
          rw [← h3]
          exact (Array.getElem?_eq_some_iff.mp h1).1
        exact ⟨_, Array.getElem?_eq_getElem h2⟩
      obtain ⟨k', b', e2, hk', e1⟩ := en i e ee
      obtain ⟨eh, ev⟩ := e
      simp only at e1 e2
      subst e2
      erw [a6]
      dsimp only
      have later : wpAny (model prog w) A (setSearchFrom a (.ref b) (TH prog w k) true fuel (some (stand t.mask (start t.mask (TH prog w k)) (m + 1)))) Q E s ∨ k' = k := by
        by_cases c : k' = k
        · exact .inr c
        · refine .inl (search hu ho hd G en hk hN he hl q1 q2 fuel (m + 1) _ rfl (by omega) (by omega) fun m' hm' i' e' b2 z1 z2 z3 z4 => ?_)
          by_cases c1 : m' < n
          · exact hb m' c1 i' e' b2 z1 z2 z3 z4
          · obtain ⟨k5, b5, e5, hk5, e6⟩ := en i' e' z2
            rw [z3] at e5; cases e5
            have ek := hk5.inj z4
            subst ek
            by_cases c2 : m' = m
            · subst c2
              rw [a3] at z1; cases z1
              rw [ee] at z2; cases z2
              cases z3
              exact c (hk'.inj z4)
            · refine a5 m' (by omega) (by omega) i' z1 ?_
              simp only [z2, Option.map_some, Option.getD_some]
              exact e6
      have body : wpAny (model prog w) A (holding [Value.ref b'] (eqBool (.ref b') (.ref b))) (fun (q : Bool) s' => s' = s ∧ q = decide (k' = k)) E s := wpAny_holding (wpAny_eqBool_tuple hu hk' hk ⟨rfl, rfl⟩)
      have same : t.sameMemory t.moves t.mask = some true := by unfold SetTable.sameMemory; simp
      have stored : ∀ y ∈ ((es.filter fun x => x.1 == TH prog w k).toList.map fun x => x.2), ∃ k' b', y = Value.ref b' ∧ TK prog w s.heap k' b' := fun y hy => by
        obtain ⟨x, hx, rfl⟩ := List.mem_map.mp hy
        have hx' : x ∈ es := by
          have := Array.mem_toList_iff.mp hx
          exact (Array.mem_filter.mp this).1
        obtain ⟨i2, h2, e2⟩ := Array.mem_iff_getElem.mp hx'
        obtain ⟨k2, b2, q1, q2, _⟩ := en i2 x (by rw [Array.getElem?_eq_getElem h2, e2])
        exact ⟨k2, b2, q1, q2⟩
      rw [ee]
      dsimp only
      cases hled : t.led with
      | true =>
        simp only [Bool.not_true, Bool.false_eq_true, if_false]
        refine wpAny_bind (wpAny_mono body (fun q s' ⟨es', eq⟩ => ?_) fun _ _ z => z)
        subst es' eq
        refine wpAny_bind (wpAny_setState_of ho hd fits ?_)
        dsimp only
        by_cases c : k' = k
        · subst c
          simp only [decide_true, Bool.and_self, if_true]
          exact wpAny_pure (q1 ⟨i, _, b', ee, rfl, hk'⟩)
        · rw [decide_eq_false c]
          simp only [Bool.and_false, Bool.false_eq_true, if_false, same, if_true, a3, ee]
          refine wpAny_bind (wpAny_isSame_ref_self ?_)
          refine wpAny_bind (wpAny_pure ?_)
          simp only [if_true]
          exact later.resolve_right c
      | false =>
        simp only [Bool.not_false, if_true]
        refine wpAny_bind (unseen hk stored ?_)
        simp only [Bool.false_eq_true, if_false]
        refine wpAny_bind (wpAny_mono body (fun q s' ⟨es', eq⟩ => ?_) fun _ _ z => z)
        subst es' eq
        refine wpAny_bind (wpAny_setState_of ho hd fits ?_)
        dsimp only
        by_cases c : k' = k
        · subst c
          simp only [decide_true, Bool.and_self, if_true]
          exact wpAny_pure (q1 ⟨i, _, b', ee, rfl, hk'⟩)
        · rw [decide_eq_false c]
          simp only [Bool.and_false, Bool.false_eq_true, if_false, same, if_true, a3, ee]
          refine wpAny_bind (wpAny_isSame_ref_self ?_)
          refine wpAny_bind (wpAny_pure ?_)
          simp only [if_true]
          exact later.resolve_right c
    · have fin : ¬ In prog w s.heap es k := by
        rintro ⟨i, e, b', ei, eb, hk2⟩
        obtain ⟨k3, b3, e3, hk3, e4⟩ := en i e ei
        rw [eb] at e3; cases e3
        have ek : k3 = k := hk3.inj hk2
        subst ek
        obtain ⟨n', z1, z2⟩ := G.come i (TH prog w k3) (hash_at.mpr ⟨e.2, by rw [← e4]; exact ei⟩)
        have hn' : n' < N := by
          rcases Nat.lt_trichotomy n' N with c | c | c
          · exact c
          · rw [c, he] at z1; cases z1
          · obtain ⟨i', z⟩ := z2 N c
            rw [he] at z; cases z
        by_cases c : n' < n
        · exact hb n' c i e b' z1 ei eb hk2
        · refine a1 n' (by omega) hn' i z1 ?_
          simp only [ei, Option.map_some, Option.getD_some]
          exact e4
      erw [a2]
      dsimp only
      exact wpAny_pure (q2 fin)
end
end Stb
namespace Stb
open PySem PySem.SetTable
section
variable {prog : Program} {w : World} {A : Around} {E : Value → Shared → Prop} {s : Shared}
def SetT (prog : Program) (w : World) (h : Heap) (a : Addr) (ks : List (List Int)) : Prop :=
  ∃ o es ep t, h.get? a = some o ∧ o.ExactSet ∧ o.data = .set es ep t ∧ Good t (es.map (·.1)) ∧ Ents prog w h es ∧ (∀ k, In prog w h es k ↔ k ∈ ks) ∧ es.size = ks.length ∧ (t.mask = 7 → es.size ≤ 4)
theorem TK.stay {h h' : Heap} {k : List Int} {a b : Addr} {o : Obj} {es : Array (Int × Value)} {ep : Nat} {t : SetTable} (x : TK prog w h k b) (ho : h.get? a = some o) (hd : o.data = .set es ep t) (hs : Heap.SameBut a h h') : TK prog w h' k b := by
  obtain ⟨o', items, n, ho', hc, hd', hi⟩ := x
  have hne : b ≠ a := by
    rintro rfl
    rw [ho] at ho'; cases ho'
    rw [hd] at hd'; cases hd'
  exact ⟨o', items, n, (hs.2 b hne).trans ho', hc, hd', hi⟩
theorem TK.gone {h h' : Heap} {k : List Int} {a b : Addr} {o : Obj} {es : Array (Int × Value)} {ep : Nat} {t : SetTable} (x : TK prog w h' k b) (ho : h'.get? a = some o) (hd : o.data = .set es ep t) (hs : Heap.SameBut a h h') : TK prog w h k b := by
  obtain ⟨o', items, n, ho', hc, hd', hi⟩ := x
  have hne : b ≠ a := by
    rintro rfl
    rw [ho] at ho'; cases ho'
    rw [hd] at hd'; cases hd'
  exact ⟨o', items, n, (hs.2 b hne).symm.trans ho', hc, hd', hi⟩
theorem fits_good {t : SetTable} {es : Array (Int × Value)} (G : Good t (es.map (·.1))) : t.fits es.size = true := by
  have h1 := G.siz
  have h2 := G.few
  simp only [Array.size_map] at h1 h2
  simp only [SetTable.fits, SetTable.fill, G.nod, Bool.and_eq_true, beq_iff_eq, decide_eq_true_eq]
  refine ⟨h1, ?_⟩
  simp; omega
theorem map_insertAt {α β : Type} (f : α → β) (xs : Array α) (p : Nat) (x : α) : (insertAt xs p x).map f = insertAt (xs.map f) p (f x) := by
  simp [insertAt]
theorem pick {α : Type} [Inhabited α] (es : Array α) : ∀ l : List Nat, (∀ i ∈ l, i < es.size) → l.filterMap (fun i => es[i]?) = l.map fun i => es.getD i default
  | [], _ => rfl
  | i :: l, h => by
    have hi := h i List.mem_cons_self
    have e : es[i]? = some (es.getD i default) := by rw [Array.getElem?_eq_getElem hi]; simp [hi]
    rw [List.filterMap_cons, e, List.map_cons, pick es l fun j hj => h j (List.mem_cons_of_mem _ hj)]
theorem above_few {n : Nat} (h5 : 5 ≤ n) (h7 : n ≤ 7) : SetTable.sizeAbove (SetTable.grown n) = 32 := by
  have : n = 5 ∨ n = 6 ∨ n = 7 := by omega
  rcases this with rfl | rfl | rfl <;> decide
theorem relay {a : Addr} {o : Obj} {es : Array (Int × Value)} {ep : Nat} {t : SetTable} {ks : List (List Int)} {Q : Unit → Shared → Prop} (ho : s.heap.get? a = some o) (hex : o.ExactSet) (hd : o.data = .set es ep t) (G : Good t (es.map (·.1)))
    (en : Ents prog w s.heap es) (hin : ∀ k, In prog w s.heap es k ↔ k ∈ ks) (hsz : es.size = ks.length) (h5 : 5 ≤ es.size) (h7 : es.size ≤ 7)
    (q : ∀ h', Heap.SameBut a s.heap h' → SetT prog w h' a ks → Q () { s with heap := h' }) :
    wpAny (model prog w) A (setRelay a (SetTable.grown es.size)) Q E s := by
  unfold setRelay
  refine wpAny_bind (wpAny_setState_of ho hd (fits_good G) ?_)
  dsimp only
  rw [above_few h5 h7, if_neg (by rw [sizeLine_eq]; omega)]
  have hsm : (es.map (·.1)).size ≤ 31 := by rw [Array.size_map]; omega
  obtain ⟨t', order, el, m1, m2, m3, m4, perm, G'⟩ := good_laid (t := t) (hs := es.map (·.1)) (m := 31) (.inr rfl) hsm t.finger (t.movedTo 31) t.led t.plain
  rw [Array.size_map] at perm
  have hlt : ∀ i ∈ order.toList, i < es.size := fun i hi => List.mem_range.mp (perm.mem_iff.mp hi)
  obtain ⟨es', hes⟩ : ∃ es' : Array (Int × Value), es' = order.filterMap (es[·]?) := ⟨_, rfl⟩
  have hl : es'.toList = order.toList.map fun i => es.getD i default := by
    rw [hes, Array.toList_filterMap]
    exact pick es _ hlt
  have hes_size : es'.size = es.size := by
    rw [← Array.length_toList, hl, List.length_map, perm.length_eq, List.length_range]
  have rel : t.relaid (es.map (·.1)) (SetTable.grown es.size) = some (t', order) := by
    unfold SetTable.relaid
    rw [above_few h5 h7]
    exact el
  rw [rel]
  refine wpAny_bind ?_
  show wpAny (model prog w) A (do
    let es₂ := order.filterMap (es[·]?)
    if es₂.size != es.size then unsupported "internal:set-table-lost-an-element"
    pure (es₂, t')) _ E s
  rw [← hes]
  dsimp only
  rw [hes_size]
  simp only [bne_self_eq_false, Bool.false_eq_true, if_false]
  refine wpAny_bind (wpAny_pure (wpAny_pure ?_))
  dsimp only
  refine wpAny_storeSet_of ho hd ?_ (by rw [hes_size, sizeLine_eq]; omega)
  have hg : (s.heap.update a (Obj.putSet es' t')).get? a = some { o with data := .set es' (ep + 1) t' } := by
    have := Heap.get?_update_self (Obj.putSet es' t') ho (by rw [putSet_of es' t' hd]; rfl)
    rw [putSet_of es' t' hd] at this; exact this
  have sb := Heap.SameBut.update s.heap a (Obj.putSet es' t')
  have at' : ∀ (r : Nat) e, es'[r]? = some e → ∃ i : Nat, es[i]? = some e := fun r e er => by
    rw [← Array.getElem?_toList, hl, List.getElem?_map] at er
    cases eo : order.toList[r]? with
    | none => rw [eo] at er; cases er
    | some i =>
      rw [eo] at er
      have hi := hlt i (List.mem_of_getElem? eo)
      refine ⟨i, ?_⟩
      rw [Array.getElem?_eq_getElem hi]
      have : es.getD i default = es[i] := by simp [hi]
      rw [← this]; exact er
  have of' : ∀ (i : Nat) e, es[i]? = some e → ∃ r : Nat, es'[r]? = some e := fun i e ei => by
    have hi : i < es.size := (Array.getElem?_eq_some_iff.mp ei).1
    have hm : i ∈ order.toList := perm.mem_iff.mpr (List.mem_range.mpr hi)
    obtain ⟨r, hr⟩ := List.mem_iff_getElem?.mp hm
    refine ⟨r, ?_⟩
    rw [← Array.getElem?_toList, hl, List.getElem?_map, hr]
    rw [Array.getElem?_eq_getElem hi] at ei
    have : es.getD i default = es[i] := by simp [hi]
    rw [Option.map_some, this]; exact ei
  refine q _ sb ⟨_, es', ep + 1, t', hg, hex, rfl, ?_, fun r e er => ?_, fun k => ?_, by rw [hes_size, hsz], fun z => by omega⟩
  · have e : es'.map (·.1) = order.map fun i => (es.map (·.1)).getD i 0 := by
      apply Array.toList_inj.mp
      rw [Array.toList_map, hl, Array.toList_map, List.map_map]
      refine List.map_congr_left fun i hi => ?_
      have h2 := hlt i hi
      simp [h2]
    rw [e]; exact G'
  · obtain ⟨i, ei⟩ := at' r e er
    obtain ⟨k, b, x1, x2, x3⟩ := en i e ei
    exact ⟨k, b, x1, TK.stay x2 ho hd sb, x3⟩
  · rw [← hin k]
    constructor
    · rintro ⟨r, e, b, er, eb, hk⟩
      obtain ⟨i, ei⟩ := at' r e er
      exact ⟨i, e, b, ei, eb, TK.gone hk hg rfl sb⟩
    · rintro ⟨i, e, b, ei, eb, hk⟩
      obtain ⟨r, er⟩ := of' i e ei
      exact ⟨r, e, b, er, eb, TK.stay hk ho hd sb⟩
theorem add {a b : Addr} {k : List Int} {ks : List (List Int)} {Q : Bool → Shared → Prop} (hu : A.units < cLine) (hS : SetT prog w s.heap a ks) (hk : TK prog w s.heap k b) (hf : ks.length ≤ 17)
    (q : ∀ h', Heap.SameBut a s.heap h' → SetT prog w h' a (if k ∈ ks then ks else ks ++ [k]) → Q (decide (k ∉ ks)) { s with heap := h' }) :
    wpAny (model prog w) A (setAddHashed a (.ref b) (TH prog w k)) Q E s := by
  obtain ⟨o, es, ep, t, ho, hex, hd, G, en, hin, hsz, h4⟩ := id hS
  have fits := fits_good G
  have hplace : t.place.size = es.size := by have := G.siz; simpa using this
  have hmask : es.size + 1 ≤ t.mask := by
    rcases G.msk with e | e
    · have := h4 e; omega
    · omega
  obtain ⟨N, hN, he, hl⟩ := first_free G.toTb G.msk (by omega) (TH prog w k)
  unfold setAddHashed setAddHashedIn
  refine wpAny_holding (wpAny_bind (wpAny_setState_of ho hd fits ?_))
  dsimp only
  have nb : byScan (.ref b) es = false := by simp [byScan, Value.scannable]
  rw [nb]
  simp only [Bool.false_eq_true, if_false]
  refine wpAny_bind ?_
  unfold setSearch
  have hN' : N - 0 < 100000 := by
    have : 10 * turns t.mask ≤ 460 := by
      unfold turns
      rcases G.msk with e | e <;> omega
    omega
  refine search hu ho hd G en hk hN he hl (fun yes => ?_) (fun no => ?_) 100000 0 none (by rfl) (Nat.zero_le _) hN' (fun m hm => absurd hm (Nat.not_lt_zero _))
  · have hm : k ∈ ks := (hin k).mp yes
    dsimp only
    refine wpAny_pure ?_
    have e : s = { s with heap := s.heap } := by cases s; rfl
    have := q s.heap (Heap.SameBut.refl a s.heap) (by rw [if_pos hm]; exact hS)
    rw [decide_eq_false (by simpa using hm)] at this
    rw [e]; exact this
  · have hm : k ∉ ks := fun z => no ((hin k).mpr z)
    dsimp only
    refine wpAny_bind (wpAny_setState_of ho hd fits ?_)
    dsimp only
    have hP := put_eq G.toTb (at_ t.mask (TH prog w k) N)
    have Gp := good_put G he hl (at_le _ _ _) (by rw [Array.size_map]; exact hmask)
    generalize hput : t.put (at_ t.mask (TH prog w k) N) = pp at *
    obtain ⟨t1, p⟩ := pp
    simp only at Gp hP ⊢
    have hp : p = below t.place (at_ t.mask (TH prog w k) N) := by cases hP; rfl
    have ht1 : t1.mask = t.mask := by cases hP; rfl
    have hpl : p ≤ es.size := by
      rw [hp, ← hplace]
      exact (below_spec G.rise _).1
    rw [← hp] at Gp
    obtain ⟨es1, hes1⟩ : ∃ es1, es1 = SetTable.insertAt es p (TH prog w k, Value.ref b) := ⟨_, rfl⟩
    have hsize1 : es1.size = es.size + 1 := by rw [hes1, insertAt_size _ hpl]
    have Ge : Good t1 (es1.map (·.1)) := by rw [hes1, map_insertAt]; exact Gp
    rw [← hes1]
    suffices tail : wpAny (model prog w) A (do
        storeSet a es1 t1
        if (!false && t1.tooFull) = true then do
            setRelay a (SetTable.grown (es.size + 1))
            pure true
          else pure true) Q E s by
      split
      · refine wpAny_bind (byValue hk ?_)
        simp only [if_true]
        exact tail
      · refine wpAny_bind (wpAny_pure ?_)
        simp only [if_true]
        exact tail
    refine wpAny_bind (wpAny_storeSet_of ho hd ?_ (by rw [hsize1, sizeLine_eq]; omega))
    have hg : (s.heap.update a (Obj.putSet es1 t1)).get? a = some { o with data := .set es1 (ep + 1) t1 } := by
      have := Heap.get?_update_self (Obj.putSet es1 t1) ho (by rw [putSet_of es1 t1 hd]; rfl)
      rw [putSet_of es1 t1 hd] at this; exact this
    have sb := Heap.SameBut.update s.heap a (Obj.putSet es1 t1)
    have get1 : ∀ i : Nat, es1[i]? = if i < p then es[i]? else if i = p then some (TH prog w k, Value.ref b) else es[i - 1]? := fun i => by rw [hes1]; exact insertAt_get _ hpl _ i
    have en1 : Ents prog w (s.heap.update a (Obj.putSet es1 t1)) es1 := fun i e ei => by
      have old : ∀ i0 : Nat, es[i0]? = some e → ∃ k b, e.2 = .ref b ∧ TK prog w (s.heap.update a (Obj.putSet es1 t1)) k b ∧ e.1 = TH prog w k := fun i0 e0 => by
        obtain ⟨k', b', x1, x2, x3⟩ := en i0 e e0
        exact ⟨k', b', x1, TK.stay x2 ho hd sb, x3⟩
      rw [get1] at ei
      by_cases c : i < p
      · rw [if_pos c] at ei; exact old _ ei
      · rw [if_neg c] at ei
        by_cases c' : i = p
        · rw [if_pos c'] at ei; cases ei
          exact ⟨k, b, rfl, TK.stay hk ho hd sb, rfl⟩
        · rw [if_neg c'] at ei; exact old _ ei
    have in1 : ∀ k', In prog w (s.heap.update a (Obj.putSet es1 t1)) es1 k' ↔ k' ∈ ks ++ [k] := fun k' => by
      rw [List.mem_append, List.mem_singleton, ← hin k']
      constructor
      · rintro ⟨i, e, b', ei, eb, hk'⟩
        have hk0 := TK.gone hk' hg rfl sb
        rw [get1] at ei
        by_cases c : i < p
        · rw [if_pos c] at ei; exact .inl ⟨_, e, b', ei, eb, hk0⟩
        · rw [if_neg c] at ei
          by_cases c' : i = p
          · rw [if_pos c'] at ei; cases ei
            cases eb
            exact .inr (hk0.inj hk)
          · rw [if_neg c'] at ei; exact .inl ⟨_, e, b', ei, eb, hk0⟩
      · rintro (⟨i, e, b', ei, eb, hk'⟩ | rfl)
        · refine ⟨if i < p then i else i + 1, e, b', ?_, eb, TK.stay hk' ho hd sb⟩
          rw [get1]
          by_cases c : i < p
          · rw [if_pos c, if_pos c]; exact ei
          · rw [if_neg c, if_neg (by omega), if_neg (by omega)]; exact ei
        · refine ⟨p, (TH prog w k', Value.ref b), b, ?_, rfl, TK.stay hk ho hd sb⟩
          rw [get1, if_neg (Nat.lt_irrefl _), if_pos rfl]
    have q' : ∀ h', Heap.SameBut a s.heap h' → SetT prog w h' a (ks ++ [k]) → Q true { s with heap := h' } := fun h' x y => by
      have := q h' x (by rw [if_neg hm]; exact y)
      rw [decide_eq_true (by simpa using hm)] at this
      exact this
    have hsz1 : es1.size = (ks ++ [k]).length := by rw [hsize1, hsz]; simp
    by_cases full : t1.tooFull = true
    · have h57 : 5 ≤ es1.size ∧ es1.size ≤ 7 := by
        have h1 : t1.fill = es1.size := by
          have := Ge.siz
          simp only [Array.size_map] at this
          unfold SetTable.fill; rw [Ge.nod, this]; rfl
        unfold SetTable.tooFull at full
        rw [h1] at full
        simp only [ge_iff_le, decide_eq_true_eq] at full
        rcases Ge.msk with e | e
        · rw [e] at full
          have := h4 (by rw [← ht1]; exact e)
          omega
        · rw [e] at full
          rw [hsz1] at full
          simp at full
          omega
      simp only [full, Bool.not_false, Bool.and_self, if_true]
      have eg : SetTable.grown (es.size + 1) = SetTable.grown es1.size := by rw [hsize1]
      rw [eg]
      refine wpAny_bind (relay (s := { s with heap := s.heap.update a (Obj.putSet es1 t1) }) (ks := ks ++ [k]) hg hex rfl Ge en1 in1 hsz1 h57.1 h57.2 fun h' sb' S' => ?_)
      exact wpAny_pure (q' h' (sb.trans sb') S')
    · have full' : t1.tooFull = false := by simpa using full
      simp only [full', Bool.not_false, Bool.and_false, Bool.false_eq_true, if_false]
      refine wpAny_bind (wpAny_pure (wpAny_pure (q' _ sb ⟨_, es1, ep + 1, t1, hg, hex, rfl, Ge, en1, in1, hsz1, fun z => ?_⟩)))
      have h1 : t1.fill = es1.size := by
        have := Ge.siz
        simp only [Array.size_map] at this
        unfold SetTable.fill; rw [Ge.nod, this]; rfl
      unfold SetTable.tooFull at full'
      rw [h1, z] at full'
      simp only [ge_iff_le, decide_eq_false_iff_not] at full'
      omega
end
end Stb
namespace Stb
open PySem PySem.Spec PySem.SetTable
section
variable {prog : Program} {w : World} {A : Around} {E : Value → Shared → Prop} {s : Shared}
theorem SetT.move {h h' : Heap} {a : Addr} {ks : List (List Int)} (hS : SetT prog w h a ks) (hk : ∀ b o, o.cls = .type "tuple" ∨ o.cls = .type "set" → h.get? b = some o → h'.get? b = some o) : SetT prog w h' a ks := by
  obtain ⟨o, es, ep, t, ho, hex, hd, G, en, hin, hsz, h4⟩ := hS
  have up : ∀ {k b}, TK prog w h k b → TK prog w h' k b := fun {k b} x => by
    obtain ⟨o', items, n, ho', hc, hd', hi⟩ := x
    exact ⟨o', items, n, hk b o' (.inl hc) ho', hc, hd', hi⟩
  refine ⟨o, es, ep, t, hk a o (.inr hex.1) ho, hex, hd, G, fun i e ei => ?_, fun k => ?_, hsz, h4⟩
  · obtain ⟨k, b, x1, x2, x3⟩ := en i e ei
    exact ⟨k, b, x1, up x2, x3⟩
  · rw [← hin k]
    constructor
    · rintro ⟨i, e, b, ei, eb, hk'⟩
      obtain ⟨k2, b2, x1, x2, x3⟩ := en i e ei
      rw [eb] at x1; cases x1
      have := (up x2).inj hk'
      subst this
      exact ⟨i, e, b, ei, eb, x2⟩
    · rintro ⟨i, e, b, ei, eb, hk'⟩
      exact ⟨i, e, b, ei, eb, up hk'⟩
def put1 (ks : List (List Int)) (k : List Int) : List (List Int) := if k ∈ ks then ks else ks ++ [k]
def uniq (ks : List (List Int)) : List (List Int) := ks.foldl put1 []
theorem uniq_step {ks : List (List Int)} {i : Nat} {k : List Int} (h : ks[i]? = some k) : uniq (ks.take (i + 1)) = put1 (uniq (ks.take i)) k := by
  unfold uniq
  rw [List.take_add_one, h, List.foldl_append]
  rfl
theorem put1_len (ks : List (List Int)) (k : List Int) : (put1 ks k).length ≤ ks.length + 1 := by
  unfold put1; split
  · omega
  · simp
theorem fold_len : ∀ (ks acc : List (List Int)), (ks.foldl put1 acc).length ≤ acc.length + ks.length
  | [], acc => by simp
  | k :: ks, acc => by
    have h1 := fold_len ks (put1 acc k)
    have h2 := put1_len acc k
    rw [List.foldl_cons, List.length_cons]
    omega
theorem uniq_len (ks : List (List Int)) : (uniq ks).length ≤ ks.length := by have := fold_len ks []; simpa [uniq] using this
theorem fold_nodup : ∀ (ks acc : List (List Int)), ((ks.foldl put1 acc).length = acc.length + ks.length ↔ ks.Nodup ∧ ∀ x ∈ ks, x ∉ acc)
  | [], acc => by simp
  | k :: ks, acc => by
    rw [List.foldl_cons, List.length_cons]
    by_cases h : k ∈ acc
    · have e : put1 acc k = acc := by unfold put1; rw [if_pos h]
      have := fold_len ks acc
      rw [e]
      constructor
      · intro z; omega
      · rintro ⟨_, z⟩
        exact absurd h (z k List.mem_cons_self)
    · have e : put1 acc k = acc ++ [k] := by unfold put1; rw [if_neg h]
      have ih := fold_nodup ks (acc ++ [k])
      rw [List.length_append, List.length_singleton] at ih
      rw [e, show acc.length + (ks.length + 1) = acc.length + 1 + ks.length by omega, ih, List.nodup_cons]
      constructor
      · rintro ⟨n, a⟩
        refine ⟨⟨fun z => ?_, n⟩, fun x hx => ?_⟩
        · exact a k z (List.mem_append_right _ (List.mem_singleton.mpr rfl))
        · rcases List.mem_cons.mp hx with rfl | z
          · exact h
          · exact fun y => a x z (List.mem_append_left _ y)
      · rintro ⟨⟨a, n⟩, b⟩
        refine ⟨n, fun x hx z => ?_⟩
        rcases List.mem_append.mp z with y | y
        · exact b x (List.mem_cons_of_mem _ hx) y
        · have e := List.mem_singleton.mp y
          rw [e] at hx; exact a hx
theorem uniq_all {ks : List (List Int)} : (uniq ks).length = ks.length ↔ ks.Nodup := by
  have := fold_nodup ks []
  simpa [uniq] using this
def Tuples (prog : Program) (w : World) (h : Heap) (items : Array Value) (ks : List (List Int)) : Prop := items.size = ks.length ∧ ∀ (i : Nat) v, items[i]? = some v → ∃ b k, v = .ref b ∧ ks[i]? = some k ∧ TK prog w h k b
theorem upd_loop {R : Result → Shared → Prop} {l S I : Addr} {items : Array Value} {ks : List (List Int)} (hh : A.in1.handled = none) (hu : A.in1.units < cLine) (hlI : l ≠ I) (hSI : S ≠ I) (hSl : S ≠ l) (hsm : items.size ≤ 17) :
    ∀ (d i : Nat) (s : Shared), items.size - i = d → i ≤ items.size → s.heap.IsListIter I l i ∧ s.heap.IsList l items → SetT prog w s.heap S (uniq (ks.take i)) → Tuples prog w s.heap items ks →
      (∀ s', Moved [S, I] (fun a b => b = a) s s' → SetT prog w s'.heap S (uniq ks) → R (.ok (.ret .none)) s') → codeAny (model prog w) A (.builtin "set.update.loop" ⟨[.ref S, .ref I], []⟩) R s := by
  have W := (Walks.list (prog := prog) (w := w) hh I l hlI items).toS
  have tup_move : ∀ {h h' : Heap}, Tuples prog w h items ks → (∀ b o, o.cls = .type "tuple" → h.get? b = some o → h'.get? b = some o) → Tuples prog w h' items ks := fun {h h'} x k => by
    refine ⟨x.1, fun i v e => ?_⟩
    obtain ⟨b, k', e1, e2, o', its, n, ho', hc, hd', hi⟩ := x.2 i v e
    exact ⟨b, k', e1, e2, o', its, n, k b o' hc ho', hc, hd', hi⟩
  have notI : ∀ {h : Heap} {i : Nat} {b : Addr} {o : Obj}, h.IsListIter I l i → h.get? b = some o → o.cls = .type "tuple" ∨ o.cls = .type "set" → b ∉ [I] := fun {h i b o} st e hc hm => by
    have hb : b = I := by simpa using hm
    subst hb
    obtain ⟨o', e', c', _⟩ := st
    rw [e] at e'; cases e'
    rw [c'] at hc
    rcases hc with z | z <;> simp at z
  intro d
  induction d with
  | zero =>
    intro i s hd hi st hS hT hR
    obtain rfl : i = items.size := by omega
    refine codeAny_builtin PyProof.Rows.F.entry_set_update_loop ?_
    rw [Around.under_plainId PyProof.Rows.F.plain_set_update_loop _]
    show wpAny _ A.in1 (pyNext (.ref I) >>= _) _ _ s
    refine wpAny_bind (W.done s _ _ st fun s' mv => ?_)
    have hS' := hS.move fun b o hc e => mv.heap b o (notI st.1 e hc) e
    rw [List.take_of_length_le (by rw [hT.1]; exact Nat.le_refl _)] at hS'
    exact wpAny_pure (hR s' (mv.mono fun b hb => List.mem_cons_of_mem _ hb) hS')
  | succ d ih =>
    intro i s hd hi st hS hT hR
    have hlt : i < items.size := by omega
    refine codeAny_builtin PyProof.Rows.F.entry_set_update_loop ?_
    rw [Around.under_plainId PyProof.Rows.F.plain_set_update_loop _]
    show wpAny _ A.in1 (pyNext (.ref I) >>= _) _ _ s
    refine wpAny_bind (W.item i s _ _ hlt st fun v s' hP st' mv => ?_)
    obtain ⟨b, k, rfl, ek, tk⟩ := hT.2 i v hP
    have hS' := hS.move fun b o hc e => mv.heap b o (notI st.1 e hc) e
    have hT' := tup_move hT fun b o hc e => mv.heap b o (notI st.1 e (.inl hc)) e
    obtain ⟨b2, k2, e2, ek2, tk'⟩ := hT'.2 i _ hP
    cases e2
    rw [ek] at ek2; cases ek2
    show wpAny _ A.in1 (holding [Value.ref b] (setAdd S (.ref b)) >>= _) _ _ s'
    unfold setAdd
    refine wpAny_bind (wpAny_holding (wpAny_holding (wpAny_bind (wpAny_pyHash_tuple (knd := intKind prog w) hu tk' ?_))))
    have few : (uniq (ks.take i)).length ≤ 17 := by
      have h1 := uniq_len (ks.take i)
      rw [List.length_take] at h1
      omega
    refine add (s := { s' with toks := s'.toks + (k.length + 1) }) hu hS' tk' few fun h' sb S2 => ?_
    have S3 : SetT prog w h' S (uniq (ks.take (i + 1))) := by rw [uniq_step ek]; exact S2
    have others : ∀ b o, b ≠ S → s'.heap.get? b = some o → h'.get? b = some o := fun b o hb e => (sb.2 b hb).trans e
    have setS : ∃ oS, s'.heap.get? S = some oS ∧ oS.cls = .type "set" := by
      obtain ⟨oS, _, _, _, e, hex, _⟩ := hS'
      exact ⟨oS, e, hex.1⟩
    refine wpAny_pure ⟨plainId_quiet PyProof.Rows.F.plain_set_update_loop _, ih (i + 1) _ (by omega) hlt (W.frame _ s' _ _ st' (Nat.le_add_right _ _) fun b hb o e => ?_) S3 (tup_move hT' fun b o hc e => others b o (fun z => ?_) e) fun s'' mv2 S4 => ?_⟩
    · refine others b o (fun z => ?_) e
      subst z
      rcases List.mem_cons.mp hb with z | z
      · exact hSI z
      · exact hSl (by simpa using z)
    · subst z
      obtain ⟨oS, eS, cS⟩ := setS
      rw [e] at eS; cases eS
      rw [hc] at cS; simp at cS
    · refine hR s'' (Moved.trans (fun a b c h1 h2 => h2.trans h1) ((mv.mono fun b hb => List.mem_cons_of_mem _ hb).then_heap (Nat.le_add_right _ _) fun b o hb e => ?_) mv2) S4
      exact others b o (fun z => hb (by rw [z]; exact List.mem_cons_self)) e
end
end Stb
namespace Stb
open PySem PySem.Spec PySem.SetTable
section
variable {prog : Program} {w : World} {A : Around} {E : Value → Shared → Prop} {s : Shared}
abbrev bare (led : Bool) : Obj := { cls := .type "set", dict := none, data := .set #[] 0 (.fresh 0 0 led) }
theorem setT_bare {h : Heap} {a : Addr} {led : Bool} (e : h.get? a = some (bare led)) : SetT prog w h a [] :=
  ⟨_, #[], 0, _, e, ⟨rfl, rfl, rfl⟩, rfl, by simpa using good_fresh 0 0 led, fun i e h => by simp at h, fun k => ⟨fun ⟨i, e, b, h, _⟩ => by simp at h, fun h => by simp at h⟩, rfl, fun _ => Nat.zero_le _⟩
theorem init_T {P : Fin → Shared → Prop} {l : Addr} {led : Bool} {items : Array Value} {ks : List (List Int)} (hh : A.handled = none) (hu : A.units + 8 < cLine) (hl : s.heap.IsList l items) (hT : Tuples prog w s.heap items ks) (hsm : items.size ≤ 17)
    (h : ∀ h' tk, SetT prog w h' s.heap.objs.size (uniq ks) → (∀ b o, b < s.heap.objs.size → s.heap.get? b = some o → h'.get? b = some o) → P (.done (.ret .none)) { s with heap := h', toks := tk }) :
    wpAny (model prog w) A.in1.in1 (Builtin.«set.__init__» ⟨[.ref s.heap.objs.size, .ref l], []⟩) P E { s with heap := s.heap.push (bare led) } := by
  obtain ⟨ol, hol, hcl, nl, hdl⟩ := id hl
  obtain ⟨ocls, odict, odata, oslots⟩ := ol
  simp only at hcl hdl
  subst hcl hdl
  have at_l : (s.heap.push (bare led)).get? l = some ⟨.type "list", odict, .seq items nl, oslots⟩ := Heap.get?_push_of_some _ hol
  have at_S : (s.heap.push (bare led)).get? s.heap.objs.size = some (bare led) := Heap.get?_push_size _ rfl
  have sub1 := F.sub_list_set
  have sub2 := F.sub_list_frozenset
  have nod : (Value.type "list" == Value.type "dict") = false := by decide
  have lst : (s.heap.push (bare led)).IsList l items := hl.push _
  have lt_l : l < s.heap.objs.size := Heap.lt_size hol
  unfold Builtin.«set.__init__» noKeywords Builtin.Frozenset.updateFrom
  generalize hPI : pyIter = PI
  wp_walk
  subst hPI
  refine wpAny_pyIter_list lst ?_
  refine wpAny_bind (wpAny_runValue ?_)
  have hsz : (s.heap.push (bare led)).objs.size = s.heap.objs.size + 1 := Heap.size_push ..
  have ne_lI : l ≠ (s.heap.push (bare led)).objs.size := by rw [hsz]; exact Nat.ne_of_lt (Nat.lt_succ_of_lt lt_l)
  have ne_SI : s.heap.objs.size ≠ (s.heap.push (bare led)).objs.size := by rw [hsz]; exact Nat.ne_of_lt (Nat.lt_succ_self _)
  have keep2 : ∀ {x : Obj} {b : Addr} {o : Obj}, s.heap.get? b = some o → ((s.heap.push (bare led)).push x).get? b = some o := fun e => Heap.get?_push_of_some _ (Heap.get?_push_of_some _ e)
  refine upd_loop (ks := ks) (by simp [hh]) (by show A.units + 1 + 1 + 1 < cLine; omega) ne_lI ne_SI (Nat.ne_of_gt lt_l) hsm (items.size - 0) 0 _ rfl (Nat.zero_le _) ⟨⟨_, Heap.get?_push_size _ rfl, rfl, rfl⟩, lst.push _⟩ ?_ ?_ ?_
  · exact setT_bare (Heap.get?_push_of_some _ at_S)
  · refine ⟨hT.1, fun i v e => ?_⟩
    obtain ⟨b, k, e1, e2, o', its, n, ho', hc, hd', hi⟩ := hT.2 i v e
    exact ⟨b, k, e1, e2, o', its, n, keep2 ho', hc, hd', hi⟩
  · intro s' mv S'
    obtain ⟨h', g', d', tk', os'⟩ := s'
    have eg : g' = s.gens := mv.gens
    have ed : d' = s.drawn := mv.drawn
    have eo : os' = s.os := mv.os
    subst eg ed eo
    refine wpAny_pure (wpAny_pure ?_)
    refine h h' tk' S' fun b o hb e => mv.heap b o (fun hm => ?_) (keep2 e)
    rcases List.mem_cons.mp hm with z | z
    · exact Nat.ne_of_lt hb z
    · have z' : b = (s.heap.push (bare led)).objs.size := by simpa using z
      rw [hsz] at z'
      omega
theorem call_T {Q : Value → Shared → Prop} {l : Addr} {items : Array Value} {ks : List (List Int)} (hh : A.handled = none) (hu : A.units + 8 < cLine) (hl : s.heap.IsList l items) (hT : Tuples prog w s.heap items ks) (hsm : items.size ≤ 17)
    (h : ∀ h' tk, SetT prog w h' s.heap.objs.size (uniq ks) → (∀ b o, b < s.heap.objs.size → s.heap.get? b = some o → h'.get? b = some o) → Q (.ref s.heap.objs.size) { s with heap := h', toks := tk }) :
    wpAny (model prog w) A (call (.type "set") [.ref l]) Q E s := by
  obtain ⟨c, tl, hmro⟩ := F.called_set.mro
  have made := F.called_set.made
  have sub := F.called_set.sub
  have h1 := F.called_set.notType
  have h2 := F.called_set.canCreate
  have h3 := F.typeCall_set_1 (.ref l)
  refine wpAny_call (codeAny_of_tree (?_ : wpAny _ _ (callAny (.type "set") _) _ _ _))
  refine wpAny_pure ⟨Code.quiet_builtin _ (by decide +kernel), codeAny_builtin F.entry_type_call ?_⟩
  rw [Around.under_plain (weight_type_call_type "set" [.ref l] []) rfl]
  repeat (any_goals (first | assumption | wp_step))
  refine codeAny_mono (code_set_new_1 (.ref l) (E := E) (Q₁ := fun v s₁ => ∃ led : Bool, v = .ref s.heap.objs.size ∧ s₁ = { s with heap := s.heap.push (bare led) }) fun led => ⟨led, rfl, rfl⟩) fun r s₁ hr => ?_
  cases r with
  | error e => exact hr
  | ok fl =>
    cases fl with
    | ret obj =>
      obtain ⟨led, rfl, rfl⟩ := hr
      have at_S : (s.heap.push (bare led)).get? s.heap.objs.size = some (bare led) := Heap.get?_push_size _ rfl
      have ty : Shared.TypeIs { s with heap := s.heap.push (bare led) } (.ref s.heap.objs.size) "set" := ⟨_, at_S, rfl⟩
      have g1 := F.called_set.init.lookup
      have g2 := F.called_set.init.bind (.ref s.heap.objs.size)
      repeat (any_goals (first | assumption | wp_step))
      refine codeAny_mono (codeAny_call_builtin (R := wants (fun r s₂ => r = .none ∧ ∃ h' tk, s₂ = { s with heap := h', toks := tk } ∧ SetT prog w h' s.heap.objs.size (uniq ks) ∧
          (∀ b o, b < s.heap.objs.size → s.heap.get? b = some o → h'.get? b = some o)) E) F.called_set.init.plain F.entry_set_init (check_set_init_1 ty ?_)) fun r₂ s₂ hr₂ => ?_
      · exact init_T hh hu hl hT hsm fun h' tk S' k' => ⟨rfl, h', tk, rfl, S', k'⟩
      · cases r₂ with
        | error e => exact hr₂
        | ok fl₂ =>
          cases fl₂ with
          | ret r =>
            obtain ⟨rfl, h', tk, rfl, S', k'⟩ := hr₂
            repeat (any_goals (first | assumption | wp_step))
            exact h _ _ S' k'
          | _ => exact hr₂.elim
    | _ => exact hr.elim
end
end Stb
namespace Stb
open PySem PySem.Spec PySem.SetTable
section
variable {prog : Program} {w : World} {A : Around} {E : Value → Shared → Prop} {s : Shared}
theorem upd_loopT {R : Result → Shared → Prop} {l S I : Addr} {items : Array Value} {ks : List (List Int)} (hh : A.in1.handled = none) (hu : A.in1.units < cLine) (hlI : l ≠ I) (hSI : S ≠ I) (hSl : S ≠ l) (hsm : items.size ≤ 17) :
    ∀ (d i : Nat) (s : Shared), items.size - i = d → i ≤ items.size → s.heap.IsTupleIter I l i ∧ s.heap.IsTuple l items → SetT prog w s.heap S (uniq (ks.take i)) → Tuples prog w s.heap items ks →
      (∀ s', Moved [S, I] (fun a b => b = a) s s' → SetT prog w s'.heap S (uniq ks) → R (.ok (.ret .none)) s') → codeAny (model prog w) A (.builtin "set.update.loop" ⟨[.ref S, .ref I], []⟩) R s := by
  have W := (Walks.tuple (prog := prog) (w := w) hh I l hlI items).toS
  have tup_move : ∀ {h h' : Heap}, Tuples prog w h items ks → (∀ b o, o.cls = .type "tuple" → h.get? b = some o → h'.get? b = some o) → Tuples prog w h' items ks := fun {h h'} x k => by
    refine ⟨x.1, fun i v e => ?_⟩
    obtain ⟨b, k', e1, e2, o', its, n, ho', hc, hd', hi⟩ := x.2 i v e
    exact ⟨b, k', e1, e2, o', its, n, k b o' hc ho', hc, hd', hi⟩
  have notI : ∀ {h : Heap} {i : Nat} {b : Addr} {o : Obj}, h.IsTupleIter I l i → h.get? b = some o → o.cls = .type "tuple" ∨ o.cls = .type "set" → b ∉ [I] := fun {h i b o} st e hc hm => by
    have hb : b = I := by simpa using hm
    subst hb
    obtain ⟨o', e', c', _⟩ := st
    rw [e] at e'; cases e'
    rw [c'] at hc
    rcases hc with z | z <;> simp at z
  intro d
  induction d with
  | zero =>
    intro i s hd hi st hS hT hR
    obtain rfl : i = items.size := by omega
    refine codeAny_builtin PyProof.Rows.F.entry_set_update_loop ?_
    rw [Around.under_plainId PyProof.Rows.F.plain_set_update_loop _]
    show wpAny _ A.in1 (pyNext (.ref I) >>= _) _ _ s
    refine wpAny_bind (W.done s _ _ st fun s' mv => ?_)
    have hS' := hS.move fun b o hc e => mv.heap b o (notI st.1 e hc) e
    rw [List.take_of_length_le (by rw [hT.1]; exact Nat.le_refl _)] at hS'
    exact wpAny_pure (hR s' (mv.mono fun b hb => List.mem_cons_of_mem _ hb) hS')
  | succ d ih =>
    intro i s hd hi st hS hT hR
    have hlt : i < items.size := by omega
    refine codeAny_builtin PyProof.Rows.F.entry_set_update_loop ?_
    rw [Around.under_plainId PyProof.Rows.F.plain_set_update_loop _]
    show wpAny _ A.in1 (pyNext (.ref I) >>= _) _ _ s
    refine wpAny_bind (W.item i s _ _ hlt st fun v s' hP st' mv => ?_)
    obtain ⟨b, k, rfl, ek, tk⟩ := hT.2 i v hP
    have hS' := hS.move fun b o hc e => mv.heap b o (notI st.1 e hc) e
    have hT' := tup_move hT fun b o hc e => mv.heap b o (notI st.1 e (.inl hc)) e
    obtain ⟨b2, k2, e2, ek2, tk'⟩ := hT'.2 i _ hP
    cases e2
    rw [ek] at ek2; cases ek2
    show wpAny _ A.in1 (holding [Value.ref b] (setAdd S (.ref b)) >>= _) _ _ s'
    unfold setAdd
    refine wpAny_bind (wpAny_holding (wpAny_holding (wpAny_bind (wpAny_pyHash_tuple (knd := intKind prog w) hu tk' ?_))))
    have few : (uniq (ks.take i)).length ≤ 17 := by
      have h1 := uniq_len (ks.take i)
      rw [List.length_take] at h1
      omega
    refine add (s := { s' with toks := s'.toks + (k.length + 1) }) hu hS' tk' few fun h' sb S2 => ?_
    have S3 : SetT prog w h' S (uniq (ks.take (i + 1))) := by rw [uniq_step ek]; exact S2
    have others : ∀ b o, b ≠ S → s'.heap.get? b = some o → h'.get? b = some o := fun b o hb e => (sb.2 b hb).trans e
    have setS : ∃ oS, s'.heap.get? S = some oS ∧ oS.cls = .type "set" := by
      obtain ⟨oS, _, _, _, e, hex, _⟩ := hS'
      exact ⟨oS, e, hex.1⟩
    refine wpAny_pure ⟨plainId_quiet PyProof.Rows.F.plain_set_update_loop _, ih (i + 1) _ (by omega) hlt (W.frame _ s' _ _ st' (Nat.le_add_right _ _) fun b hb o e => ?_) S3 (tup_move hT' fun b o hc e => others b o (fun z => ?_) e) fun s'' mv2 S4 => ?_⟩
    · refine others b o (fun z => ?_) e
      subst z
      rcases List.mem_cons.mp hb with z | z
      · exact hSI z
      · exact hSl (by simpa using z)
    · subst z
      obtain ⟨oS, eS, cS⟩ := setS
      rw [e] at eS; cases eS
      rw [hc] at cS; simp at cS
    · refine hR s'' (Moved.trans (fun a b c h1 h2 => h2.trans h1) ((mv.mono fun b hb => List.mem_cons_of_mem _ hb).then_heap (Nat.le_add_right _ _) fun b o hb e => ?_) mv2) S4
      exact others b o (fun z => hb (by rw [z]; exact List.mem_cons_self)) e
theorem init_TT {P : Fin → Shared → Prop} {l : Addr} {led : Bool} {items : Array Value} {ks : List (List Int)} (hh : A.handled = none) (hu : A.units + 8 < cLine) (hl : s.heap.IsTuple l items) (hT : Tuples prog w s.heap items ks) (hsm : items.size ≤ 17)
    (h : ∀ h' tk, SetT prog w h' s.heap.objs.size (uniq ks) → (∀ b o, b < s.heap.objs.size → s.heap.get? b = some o → h'.get? b = some o) → P (.done (.ret .none)) { s with heap := h', toks := tk }) :
    wpAny (model prog w) A.in1.in1 (Builtin.«set.__init__» ⟨[.ref s.heap.objs.size, .ref l], []⟩) P E { s with heap := s.heap.push (bare led) } := by
  obtain ⟨ol, hol, hcl, nl, hdl⟩ := id hl
  obtain ⟨ocls, odict, odata, oslots⟩ := ol
  simp only at hcl hdl
  subst hcl hdl
  have at_l : (s.heap.push (bare led)).get? l = some ⟨.type "tuple", odict, .seq items nl, oslots⟩ := Heap.get?_push_of_some _ hol
  have at_S : (s.heap.push (bare led)).get? s.heap.objs.size = some (bare led) := Heap.get?_push_size _ rfl
  have sub1 := F.sub_tuple_set
  have sub2 := F.sub_tuple_frozenset
  have nod : (Value.type "tuple" == Value.type "dict") = false := by decide
  have lst : (s.heap.push (bare led)).IsTuple l items := hl.push _
  have lt_l : l < s.heap.objs.size := Heap.lt_size hol
  unfold Builtin.«set.__init__» noKeywords Builtin.Frozenset.updateFrom
  generalize hPI : pyIter = PI
  wp_walk
  subst hPI
  refine wpAny_pyIter_tuple lst ?_
  refine wpAny_bind (wpAny_runValue ?_)
  have hsz : (s.heap.push (bare led)).objs.size = s.heap.objs.size + 1 := Heap.size_push ..
  have ne_lI : l ≠ (s.heap.push (bare led)).objs.size := by rw [hsz]; exact Nat.ne_of_lt (Nat.lt_succ_of_lt lt_l)
  have ne_SI : s.heap.objs.size ≠ (s.heap.push (bare led)).objs.size := by rw [hsz]; exact Nat.ne_of_lt (Nat.lt_succ_self _)
  have keep2 : ∀ {x : Obj} {b : Addr} {o : Obj}, s.heap.get? b = some o → ((s.heap.push (bare led)).push x).get? b = some o := fun e => Heap.get?_push_of_some _ (Heap.get?_push_of_some _ e)
  refine upd_loopT (ks := ks) (by simp [hh]) (by show A.units + 1 + 1 + 1 < cLine; omega) ne_lI ne_SI (Nat.ne_of_gt lt_l) hsm (items.size - 0) 0 _ rfl (Nat.zero_le _) ⟨⟨_, Heap.get?_push_size _ rfl, rfl, rfl⟩, lst.push _⟩ ?_ ?_ ?_
  · exact setT_bare (Heap.get?_push_of_some _ at_S)
  · refine ⟨hT.1, fun i v e => ?_⟩
    obtain ⟨b, k, e1, e2, o', its, n, ho', hc, hd', hi⟩ := hT.2 i v e
    exact ⟨b, k, e1, e2, o', its, n, keep2 ho', hc, hd', hi⟩
  · intro s' mv S'
    obtain ⟨h', g', d', tk', os'⟩ := s'
    have eg : g' = s.gens := mv.gens
    have ed : d' = s.drawn := mv.drawn
    have eo : os' = s.os := mv.os
    subst eg ed eo
    refine wpAny_pure (wpAny_pure ?_)
    refine h h' tk' S' fun b o hb e => mv.heap b o (fun hm => ?_) (keep2 e)
    rcases List.mem_cons.mp hm with z | z
    · exact Nat.ne_of_lt hb z
    · have z' : b = (s.heap.push (bare led)).objs.size := by simpa using z
      rw [hsz] at z'
      omega
theorem call_TT {Q : Value → Shared → Prop} {l : Addr} {items : Array Value} {ks : List (List Int)} (hh : A.handled = none) (hu : A.units + 8 < cLine) (hl : s.heap.IsTuple l items) (hT : Tuples prog w s.heap items ks) (hsm : items.size ≤ 17)
    (h : ∀ h' tk, SetT prog w h' s.heap.objs.size (uniq ks) → (∀ b o, b < s.heap.objs.size → s.heap.get? b = some o → h'.get? b = some o) → Q (.ref s.heap.objs.size) { s with heap := h', toks := tk }) :
    wpAny (model prog w) A (call (.type "set") [.ref l]) Q E s := by
  obtain ⟨c, tl, hmro⟩ := F.called_set.mro
  have made := F.called_set.made
  have sub := F.called_set.sub
  have h1 := F.called_set.notType
  have h2 := F.called_set.canCreate
  have h3 := F.typeCall_set_1 (.ref l)
  refine wpAny_call (codeAny_of_tree (?_ : wpAny _ _ (callAny (.type "set") _) _ _ _))
  refine wpAny_pure ⟨Code.quiet_builtin _ (by decide +kernel), codeAny_builtin F.entry_type_call ?_⟩
  rw [Around.under_plain (weight_type_call_type "set" [.ref l] []) rfl]
  repeat (any_goals (first | assumption | wp_step))
  refine codeAny_mono (code_set_new_1 (.ref l) (E := E) (Q₁ := fun v s₁ => ∃ led : Bool, v = .ref s.heap.objs.size ∧ s₁ = { s with heap := s.heap.push (bare led) }) fun led => ⟨led, rfl, rfl⟩) fun r s₁ hr => ?_
  cases r with
  | error e => exact hr
  | ok fl =>
    cases fl with
    | ret obj =>
      obtain ⟨led, rfl, rfl⟩ := hr
      have at_S : (s.heap.push (bare led)).get? s.heap.objs.size = some (bare led) := Heap.get?_push_size _ rfl
      have ty : Shared.TypeIs { s with heap := s.heap.push (bare led) } (.ref s.heap.objs.size) "set" := ⟨_, at_S, rfl⟩
      have g1 := F.called_set.init.lookup
      have g2 := F.called_set.init.bind (.ref s.heap.objs.size)
      repeat (any_goals (first | assumption | wp_step))
      refine codeAny_mono (codeAny_call_builtin (R := wants (fun r s₂ => r = .none ∧ ∃ h' tk, s₂ = { s with heap := h', toks := tk } ∧ SetT prog w h' s.heap.objs.size (uniq ks) ∧
          (∀ b o, b < s.heap.objs.size → s.heap.get? b = some o → h'.get? b = some o)) E) F.called_set.init.plain F.entry_set_init (check_set_init_1 ty ?_)) fun r₂ s₂ hr₂ => ?_
      · exact init_TT hh hu hl hT hsm fun h' tk S' k' => ⟨rfl, h', tk, rfl, S', k'⟩
      · cases r₂ with
        | error e => exact hr₂
        | ok fl₂ =>
          cases fl₂ with
          | ret r =>
            obtain ⟨rfl, h', tk, rfl, S', k'⟩ := hr₂
            repeat (any_goals (first | assumption | wp_step))
            exact h _ _ S' k'
          | _ => exact hr₂.elim
    | _ => exact hr.elim
end
end Stb
namespace L3
open PySem PySem.Spec PyProof.Rows L2
section
variable {X : Cx} {pins : List (Addr × Obj)} {σ : L2.St} {H : Hp} {s : Shared}
theorem Inv.turnL {h' : Heap} {t' : Nat} {ch : List Addr} (I : Inv X pins σ H s) (hch : ∀ b ∈ ch, FpOk X pins H b) (k : ∀ b o, b ∉ ch → s.heap.get? b = some o → h'.get? b = some o) : Inv X pins σ H { s with heap := h', toks := t' } := by
  have nch : ∀ b u, H b = some u → b ∉ ch := fun b u e z => by rw [(hch b z).1] at e; cases e
  refine I.step (g' := s.gens) (d' := s.drawn) (ch := ch) (fun b hb => ?_) (fun b o _ _ hc e _ => k b o hc e) (fun b o _ _ hc e _ => ⟨o.slots, k b o hc e⟩) (fun _ _ _ _ n => n)
    (fun b o hc e => ⟨o, k b o hc e⟩) (fun _ _ e => e) (fun _ _ _ e => e) (fun b ps e => ⟨#[], by rw [e]; simp⟩) (fun m hm => ?_) (fun b u e => ?_) I.bare
  · obtain ⟨_, f1, _, f3, f4, f5⟩ := hch b hb
    exact ⟨f3, f1, f4, f5⟩
  · obtain ⟨o, es, ep, ho, r⟩ := hm
    exact ⟨o, es, ep, k _ o (fun z => (hch _ z).2.1 rfl) ho, r⟩
  · refine (I.hok b u e).stay (fun c v hc q => k c v ?_ q) (fun _ q => q) fun _ _ q => q
    rcases hc with z | z
    · rw [z]; exact nch b u e
    · exact nch c _ z
theorem Inv.turnT {h' : Heap} {t' : Nat} {ch : List Addr} {T : Addr} {xs : List V} {us : List Value} (I : Inv X pins σ H s) (hch : ∀ b ∈ ch, FpOk X pins H b) (k : ∀ b o, b ∉ ch → s.heap.get? b = some o → h'.get? b = some o)
    (hT : s.heap.objs.size ≤ T) (ht : h'.IsTuple T us.toArray) (rv : Vals xs us) (hz : xs.length ≤ sizeLine) : Inv X pins σ (upd H T (.tup xs)) { s with heap := h', toks := t' } := by
  have nch : ∀ b u, H b = some u → b ∉ ch := fun b u e z => by rw [(hch b z).1] at e; cases e
  have hn : H T = none := I.hok.fresh hT
  have neT : ∀ b o, s.heap.get? b = some o → b ≠ T := fun b o e => Nat.ne_of_lt (Nat.lt_of_lt_of_le (Heap.lt_size e) hT)
  refine I.step (g' := s.gens) (d' := s.drawn) (ch := ch) (fun b hb => ?_) (fun b o _ _ hc e _ => k b o hc e) (fun b o _ _ hc e _ => ⟨o.slots, k b o hc e⟩) (fun b o _ e n => by rw [upd_ne (neT b o e)]; exact n)
    (fun b o hc e => ⟨o, k b o hc e⟩) (fun b _ e => by rw [upd_ne (ne_of_none e hn)]; exact e) (fun b _ _ e => by rw [upd_ne (ne_of_none e hn)]; exact e) (fun b ps e => ⟨#[], by rw [upd_ne (ne_of_none e hn), e]; simp⟩) (fun m hm => ?_) (fun b u e => ?_) I.bare
  · obtain ⟨_, f1, _, f3, f4, f5⟩ := hch b hb
    exact ⟨f3, f1, f4, f5⟩
  · obtain ⟨o, es, ep, ho, r⟩ := hm
    exact ⟨o, es, ep, k _ o (fun z => (hch _ z).2.1 rfl) ho, r⟩
  · by_cases hb : b = T
    · subst hb
      rw [upd_same] at e; cases e
      exact ⟨hz, us, rv, ht⟩
    · rw [upd_ne hb] at e
      refine (I.hok b u e).stay (fun c v hc q => k c v ?_ q) (fun c q => by rw [upd_ne (ne_of_none q hn)]; exact q) fun c xs q => by rw [upd_ne (ne_of_none q hn)]; exact q
      rcases hc with z | z
      · rw [z]; exact nch b u e
      · exact nch c _ z
end
def Itz (K : PySem.W.Frag) (l1 l2 : Addr) : It :=
  ⟨fun i H => ∃ xs ys x y, SqL K H l1 xs ∧ SqL K H l2 ys ∧ xs[i]? = some x ∧ ys[i]? = some y,
   fun i H v H' => ∃ T x y, v = .ref T ∧ H T = none ∧ H' = upd H T (.tup [x, y]) ∧ ∀ xs ys, SqL K H l1 xs → SqL K H l2 ys → xs[i]? = some x ∧ ys[i]? = some y,
   fun i H => ∃ xs ys, SqL K H l1 xs ∧ SqL K H l2 ys ∧ (xs.length ≤ i ∨ ys.length ≤ i)⟩
theorem turn_zip {P : Program} {w : World} {K : PySem.W.Frag} {elts : List Expr} {kt : Nat} {pt : Pos} (z TI TO i1 i2 l1 l2 : Addr) (D : ZipApart z TI TO i1 i2 l1 l2) :
    Turn P w K (.Tuple elts kt pt) (Itz K l1 l2) [z, TI, TO, i1, i2] z (fun i h => IsZip h z TI TO .none ∧ IsPair h TI (.ref i1) (.ref i2) ∧ (∃ a b, IsPair h TO a b) ∧ h.IsListIter i1 l1 i ∧ h.IsListIter i2 l2 i) where
  mem := by simp
  obj := fun i h st b hb => by
    obtain ⟨hz, hTI, ⟨a, c, hTO⟩, ⟨o1, e1, _, d1⟩, ⟨o2, e2, _, d2⟩⟩ := st
    simp only [List.mem_cons, List.not_mem_nil, or_false] at hb
    rcases hb with rfl | rfl | rfl | rfl | rfl
    · exact ⟨_, hz, fun v q => by cases q⟩
    · exact ⟨_, hTI, fun v q => by cases q⟩
    · exact ⟨_, hTO, fun v q => by cases q⟩
    · exact ⟨o1, e1, fun v q => by rw [d1] at q; cases q⟩
    · exact ⟨o2, e2, fun v q => by rw [d2] at q; cases q⟩
  keep := fun i h h' st k => by
    obtain ⟨hz, hTI, ⟨a, c, hTO⟩, h1, h2⟩ := st
    exact ⟨k z (by simp) _ hz, k TI (by simp) _ hTI, ⟨a, c, k TO (by simp) _ hTO⟩, h1.at fun o e => k i1 (by simp) o e, h2.at fun o e => k i2 (by simp) o e⟩
  item := by
    intro X hP hw hK hc i pins s σ H E I hf st hg
    subst hP hw hK
    obtain ⟨xs, ys, x, y, q1, q2, hx, hy⟩ := hg
    obtain ⟨its1, rv1, p1, _⟩ := I.list q1
    obtain ⟨its2, rv2, p2, _⟩ := I.list q2
    obtain ⟨u1, hu1, ru1⟩ := rv1.get hx
    obtain ⟨u2, hu2, ru2⟩ := rv2.get hy
    obtain ⟨hz, hTI, ⟨a, c, hTO⟩, h1, h2⟩ := st
    have hsz : s.heap.objs.size ≤ s.heap.objs.size := Nat.le_refl _
    have hn : H s.heap.objs.size = none := I.hok.fresh hsz
    have lt : ∀ {c o}, s.heap.get? c = some o → c ≠ s.heap.objs.size := fun e => Nat.ne_of_lt (Heap.lt_size e)
    refine wpAny_pyNext_zip_item D hz hTI hTO h1 h2 p1.isList p2.isList (x := u1) (y := u2) (by simpa using hu1) (by simpa using hu2) fun h' a1 a2 a3 a4 a5 a6 hk => ?_
    refine ⟨_, rfl, wpAny_letOwnedTupleGo_zip (s := { s with heap := h' }) a1 fun h'' b1 b2 => ?_⟩
    have Tz : s.heap.objs.size ≠ z := (lt hz).symm
    have keep2 : ∀ b o, b ∉ [z, TI, TO, i1, i2] → s.heap.get? b = some o → h''.get? b = some o := fun b o hb e => by
      simp only [List.mem_cons, List.not_mem_nil, or_false, not_or] at hb
      obtain ⟨n1, n2, n3, n4, n5⟩ := hb
      exact (b2.2 b n1).trans (hk b o n1 n3 n4 n5 e)
    have tup : h''.IsTuple s.heap.objs.size [u1, u2].toArray := ⟨_, (b2.2 _ Tz).trans a5, rfl, _, rfl⟩
    have I2 : Inv X pins σ (upd H s.heap.objs.size (.tup [x, y])) { s with heap := h'' } := Inv.turnT (t' := s.toks) I hf keep2 hsz tup (.cons ru1 (.cons ru2 .nil)) (by show 2 ≤ sizeLine; decide)
    refine ⟨.ref s.heap.objs.size, _, I2, rfl, ⟨_, x, y, rfl, hn, rfl, fun xs' ys' z1 z2 => ?_⟩, ⟨b1, ?_, ⟨_, _, (b2.2 _ D.TOz).trans a2⟩, ?_, ?_⟩, fun b hb => ?_⟩
    · rw [I.list_inj z1 q1, I.list_inj z2 q2]; exact ⟨hx, hy⟩
    · exact (b2.2 _ D.TIz).trans (hk _ _ D.TIz D.TITO D.TIi1 D.TIi2 hTI)
    · exact a3.at fun o e => (b2.2 _ D.i1z).trans e
    · exact a4.at fun o e => (b2.2 _ D.i2z).trans e
    · have hb0 := (hf b hb).1
      have : ∃ o, s.heap.get? b = some o := by
        simp only [List.mem_cons, List.not_mem_nil, or_false] at hb
        rcases hb with rfl | rfl | rfl | rfl | rfl
        · exact ⟨_, hz⟩
        · exact ⟨_, hTI⟩
        · exact ⟨_, hTO⟩
        · obtain ⟨o, e, _⟩ := h1; exact ⟨o, e⟩
        · obtain ⟨o, e, _⟩ := h2; exact ⟨o, e⟩
      obtain ⟨o, e⟩ := this
      rw [upd_ne (lt e)]; exact hb0
  done := by
    intro X hP hw hK hc i pins s σ H E I hf st hg
    subst hP hw hK
    obtain ⟨xs, ys, q1, q2, hx⟩ := hg
    obtain ⟨its1, rv1, p1, _⟩ := I.list q1
    obtain ⟨its2, rv2, p2, _⟩ := I.list q2
    obtain ⟨hz, hTI, ⟨a, c, hTO⟩, h1, h2⟩ := st
    have e1 := rv1.length
    have e2 := rv2.length
    refine wpAny_pyNext_zip_end (I.ok.hd hc) D hz hTI hTO h1 h2 p1.isList p2.isList ?_ fun h' hk => ⟨rfl, ?_⟩
    · rcases hx with z | z
      · left; simp; omega
      · right; simp; omega
    · refine Inv.turnL (t' := s.toks) I hf fun b o hb e => ?_
      simp only [List.mem_cons, List.not_mem_nil, or_false, not_or] at hb
      obtain ⟨n1, n2, n3, n4, n5⟩ := hb
      exact hk b o n1 n3 n4 n5 e
  self := fun _ _ _ _ _ st h => wpAny_pyIter_zip st.1 h
def iZip (K : PySem.W.Frag) (ta : TA) : TI := fun σ H R => ta σ H fun vs H1 => ∃ l1 l2 xs ys, vs = [.ref l1, .ref l2] ∧ SqL K H1 l1 xs ∧ SqL K H1 l2 ys ∧ R (Itz K l1 l2) H1
section
variable {X : Cx}
theorem pi_zip {a b : Expr} {ta : TA} {p pos : Pos} {elts : List Expr} {kt : Nat} {pt : Pos} (hg : Gl X "zip") (hm : X.mg "zip" = none) (ha : PA X [a, b] ta) (hs : starEach [a, b] X.env = [(false, eval a X.env), (false, eval b X.env)] := by rfl) (hs2 : starEach [b] X.env = [(false, eval b X.env)] := by rfl) :
    PI X (.Tuple elts kt pt) (.Call (.Name "zip" p) [a, b] [] pos) (iZip X.K ta) := by
  intro pins s σ H R I h
  refine Call_ (ld_blt I hg hm bt_zip (PyProof.Rows.callWith_type1 (thn (ha pos pins s σ H _ I h) fun us s1 ⟨vs, H1, I1, r1, q1⟩ => ?_) (by rw [hs, hs2]) (by rw [hs2]; rfl)))
  obtain ⟨l1, l2, xs, ys, rfl, s1q, s2q, q⟩ := q1
  obtain ⟨u1, u2, rfl, ru1, ru2⟩ := vals2 r1
  cases (show u1 = Value.ref l1 from ru1)
  cases (show u2 = Value.ref l2 from ru2)
  obtain ⟨its1, rv1, p1, _⟩ := I1.list s1q
  obtain ⟨its2, rv2, p2, _⟩ := I1.list s2q
  refine call_zip_2 p1.isList p2.isList fun h' hz hTI hTO hi1 hi2 hsz hk => ?_
  refine wpAny_pyIter_zip (s := { s1 with heap := h' }) hz ?_
  have I2 : Inv X pins σ H1 { s1 with heap := h' } := I1.kept (t' := s1.toks) hk
  refine ⟨_, [s1.heap.objs.size + 4, s1.heap.objs.size + 2, s1.heap.objs.size + 3, s1.heap.objs.size, s1.heap.objs.size + 1], _, _, H1, rfl, I2, turn_zip _ _ _ _ _ l1 l2 (zipApart_new p1.lt p2.lt), ⟨hz, hTI, ⟨_, _, hTO⟩, hi1, hi2⟩, fun b hb => ?_, q⟩
  have hle : s1.heap.objs.size ≤ b := by
    simp only [List.mem_cons, List.not_mem_nil, or_false] at hb
    rcases hb with rfl | rfl | rfl | rfl | rfl <;> omega
  exact I1.fpOk hle (I1.hok.fresh hle)
end
theorem forZ {K : PySem.W.Frag} {l1 l2 : Addr} {xs ys : List V} {g : TG} {tb : TS} {D : Ends} {σ : L2.St} {H : Hp} (Pv : Nat → L2.St → Hp → Prop) (h0 : Pv 0 σ H) (he : xs.length = ys.length) (hl : ∀ i σ H, i ≤ xs.length → Pv i σ H → SqL K H l1 xs ∧ SqL K H l2 ys)
    (hs : ∀ Pv' : Nat → L2.St → Hp → Prop, (∀ i σ H, Pv i σ H → Pv' i σ H) → ∀ i x y σ H T, xs[i]? = some x → ys[i]? = some y → Pv i σ H → H T = none → g (.ref T) σ (upd H T (.tup [x, y])) fun σ2 H2 => tb { D with nx := Pv' (i + 1), ct := Pv' (i + 1), bk := D.nx } σ2 H2) (hd : ∀ σ H, Pv xs.length σ H → D.nx σ H) :
    ∃ W : Nat → Nat → L2.St → Hp → Prop, (∃ m, W 0 m σ H) ∧ ∀ i m σ H, W i m σ H →
      ((Itz K l1 l2).stop i H ∧ D.nx σ H) ∨ ((Itz K l1 l2).go i H ∧ ∃ N : L2.St → Hp → Prop, (∀ σ' H', N σ' H' → ∃ m', m' < m ∧ W (i + 1) m' σ' H') ∧ ∀ x H', (Itz K l1 l2).yld i H x H' → g x σ H' fun σ2 H2 => tb { D with nx := N, ct := N, bk := D.nx } σ2 H2) := by
  refine ⟨fun i m σ H => m = xs.length - i ∧ i ≤ xs.length ∧ Pv i σ H, ⟨xs.length, by simp, Nat.zero_le _, h0⟩, ?_⟩
  rintro i m σ H ⟨rfl, hi, p⟩
  obtain ⟨q1, q2⟩ := hl i σ H hi p
  by_cases hlt : i < xs.length
  · have hlt2 : i < ys.length := by omega
    refine .inr ⟨⟨xs, ys, xs[i], ys[i], q1, q2, by simp [hlt], by simp [hlt2]⟩, Pv (i + 1), fun σ' H' p' => ⟨xs.length - (i + 1), by omega, rfl, hlt, p'⟩, fun v H' y => ?_⟩
    obtain ⟨T, x, y, rfl, hn, rfl, hxy⟩ := y
    obtain ⟨e1, e2⟩ := hxy xs ys q1 q2
    exact hs Pv (fun _ _ _ h => h) i x y σ H T e1 e2 p hn
  · have e : i = xs.length := by omega
    subst e
    exact .inl ⟨⟨xs, ys, q1, q2, .inl (Nat.le_refl _)⟩, hd σ H p⟩
section
variable {X : Cx} {pins : List (Addr × Obj)} {σ : L2.St} {H : Hp} {s : Shared}
theorem ints_items {prog : Program} {w : World} : ∀ {ns : List Int} {us : List Value}, Vals (ns.map V.int) us → ItemsAre (intKind prog w) ns us
  | [], _, r => by cases r; exact .nil
  | n :: ns, _, r => by
    cases r with
    | cons r1 r2 =>
      obtain ⟨t, rfl⟩ := (show ∃ t, _ = Value.int n t from r1)
      exact .cons (intKind_is _ _ _ _) (ints_items r2)
theorem Tp.key {v : V} {u : Value} {ns : List Int} (I : Inv X pins σ H s) (h : Tp X.K H v ns) (r : RelV v u) : ∃ b, u = .ref b ∧ Stb.TK X.prog X.w s.heap ns b := by
  obtain ⟨a, rfl, q⟩ := h
  cases (show u = Value.ref a from r)
  obtain ⟨its, rv, ⟨o, e, c, n, d⟩, _⟩ := I.tuple q
  exact ⟨a, rfl, o, its.toArray, n, e, c, d, by simpa using ints_items rv⟩
theorem Tps.keys (I : Inv X pins σ H s) {vs : List V} {us : List Value} {xs : List (List Int)} (h : Tps X.K H vs xs) (r : Vals vs us) : Stb.Tuples X.prog X.w s.heap us.toArray xs := by
  refine ⟨by rw [List.size_toArray, ← r.length, h.length], fun i v e => ?_⟩
  have e' : us[i]? = some v := by simpa using e
  obtain ⟨x, hx⟩ : ∃ x, vs[i]? = some x := by
    have : i < vs.length := by rw [r.length]; exact (List.getElem?_eq_some_iff.mp e').1
    exact ⟨_, List.getElem?_eq_getElem this⟩
  obtain ⟨u, hu, ru⟩ := r.get hx
  rw [e'] at hu; cases hu
  obtain ⟨ns, en, t⟩ := h.at hx
  obtain ⟨b, rfl, k⟩ := Tp.key I t ru
  exact ⟨b, ns, rfl, en, k⟩
def tLenSet (K : PySem.W.Frag) (te : TE) : TE := fun σ H Q => te σ H fun x H1 => ∃ l vs xs, x = .ref l ∧ (SqL K H1 l vs ∨ SqT K H1 l vs) ∧ Tps K H1 vs xs ∧ xs.length ≤ 17 ∧ Q (.int ((Stb.uniq xs).length : Int)) H1
theorem pe_lenSet {e : Expr} {te : TE} {p p' pos pos' : Pos} (hu : X.A.units + 64 < cLine) (hc : X.calm = true) (hg1 : Gl X "len") (hm1 : X.mg "len" = none) (hg2 : Gl X "set") (hm2 : X.mg "set" = none) (he : PE X e te)
    (s1 : starEach [Expr.Call (.Name "set" p') [e] [] pos'] X.env = [(false, eval (.Call (.Name "set" p') [e] [] pos') X.env)] := by rfl) (s2 : starEach [e] X.env = [(false, eval e X.env)] := by rfl) :
    PE X (.Call (.Name "len" p) [.Call (.Name "set" p') [e] [] pos'] [] pos) (tLenSet X.K te) := by
  intro pins s σ H Q I h
  have inner : wpAny (model X.prog X.w) X.A (eval (.Call (.Name "set" p') [e] [] pos') X.env) (fun u s' => ∃ S ks H1, u = .ref S ∧ Inv X pins σ H1 s' ∧ Stb.SetT X.prog X.w s'.heap S ks ∧ ks.length ≤ 17 ∧ Q (.int (ks.length : Int)) H1) X.xe s := by
    refine wpAny_Call_Name_kw (ld_blt I hg2 hm2 bt_set ?_ (by decide) (by decide))
    have pa : PA X [e] (tCons te tNil) := pa_cons he pa_nil s2
    refine PyProof.Rows.callWith_type1 (thn (pa pos' pins s σ H (fun vs H1 => match vs with
        | [x] => ∃ l ws xs, x = .ref l ∧ (SqL X.K H1 l ws ∨ SqT X.K H1 l ws) ∧ Tps X.K H1 ws xs ∧ xs.length ≤ 17 ∧ Q (.int ((Stb.uniq xs).length : Int)) H1
        | _ => False) I h) fun us s1' ⟨vs, H1, I1, r1, z⟩ => ?_) s2 rfl
    match vs, r1, z with
    | [x], r1, ⟨l, ws, xs, ev, hq, ht, hn, q⟩ =>
      obtain ⟨u, rfl, ru⟩ := vals1 r1
      subst ev
      cases (show u = Value.ref l from ru)
      rcases hq with hq | hq
      · obtain ⟨its, rv, pl, _⟩ := I1.list hq
        have hT := Tps.keys I1 ht rv
        refine Stb.call_T (I1.ok.hd hc) (by omega) pl.isList hT (by rw [hT.1]; exact hn) fun h' tk S' k' => ?_
        exact ⟨_, _, H1, rfl, I1.kept fun b o e => k' b o (Heap.lt_size e) e, S', Nat.le_trans (Stb.uniq_len xs) hn, q⟩
      · obtain ⟨its, rv, pt, _⟩ := I1.tuple hq
        have hT := Tps.keys I1 ht rv
        refine Stb.call_TT (I1.ok.hd hc) (by omega) pt hT (by rw [hT.1]; exact hn) fun h' tk S' k' => ?_
        exact ⟨_, _, H1, rfl, I1.kept fun b o e => k' b o (Heap.lt_size e) e, S', Nat.le_trans (Stb.uniq_len xs) hn, q⟩
  refine wpAny_Call_Name_kw (ld_blt I hg1 hm1 bt_len ?_ (by decide) (by decide))
  refine PyProof.Rows.callWith_builtin1 ?_ s1 rfl
  rw [s1]
  show wpAny _ _ (spliced ((false, eval (.Call (.Name "set" p') [e] [] pos') X.env) :: backTo pos [])) _ _ s
  refine Calls.spliced_cons (thn inner fun u s' ⟨S, ks, H1, eu, I1, hS, hn, q⟩ => Calls.spliced_nil ?_)
  subst eu
  obtain ⟨o, es, ep, t, ho, hex, hd, G, _, _, hsz, _⟩ := hS
  refine call_len_set ho hex hd (Stb.fits_good G) (by omega) ⟨.int (ks.length : Int), H1, I1.tok _, ⟨_, by rw [hsz]⟩, q⟩
end
end L3
namespace L3
open PySem PySem.Spec PyProof.Rows L2
def dT (ns : List Int) : PyData := .tuple (ns.map PyData.int)
def Lts (K : PySem.W.Frag) (H : Hp) (v : V) (xs : List (List Int)) : Prop := ∃ l vs, v = .ref l ∧ SqL K H l vs ∧ Tps K H vs xs
def rEqLT (K : PySem.W.Frag) (neg : Bool) : R2 := fun x y H Q => ∃ xs ys, Lts K H x xs ∧ Lts K H y ys ∧ Q (.bl (if neg then !decide (xs = ys) else decide (xs = ys))) H
end L3
namespace Cs
open PySem PySem.Spec PyProof.Rows L2 L3 Mx
def spGap (K : PySem.W.Frag) : Sp := fun vs H Q _ => ∃ (v u : V) (x y : Int × Int), vs = [v, u] ∧ Tp K H v (pl x) ∧ Tp K H u (pl y) ∧ BdPt 1900 x ∧ BdPt 1900 y ∧ Q (.int (gap x y)) H
def Unlike3 (p q r : Int × Int) : Prop := GoodPt p ∧ GoodPt q ∧ GoodPt r ∧ p ≠ q ∧ p ≠ r ∧ q ≠ r
def spBase (K : PySem.W.Frag) : Sp := fun vs H Q _ => ∃ (u v w : V) (p q r : Int × Int), vs = [u, v, w] ∧ Tp K H u (pl p) ∧ Tp K H v (pl q) ∧ Tp K H w (pl r) ∧ Unlike3 p q r ∧ BdPt 400 p ∧ BdPt 400 q ∧ BdPt 400 r ∧ Out K H (cl (nch (base3 p q r))) Q
theorem Unlike3.det {p q r : Int × Int} (h : Unlike3 p q r) : (base3 p q r).det ≠ 0 := base_ne h.1 h.2.1 h.2.2.1 h.2.2.2.1 h.2.2.2.2.1 h.2.2.2.2.2
theorem Bd.gap {k : Nat} {x y : Int × Int} (hx : BdPt k x) (hy : BdPt k y) : Bd (k + k + 1) (gap x y) := (hx.1.mul hy.2).sub (hx.2.mul hy.1)
theorem BdC.base {k : Nat} {p q r : Int × Int} (hp : BdPt k p) (hq : BdPt k q) (hr : BdPt k r) : BdC (k + (k + k + 1)) (base3 p q r) :=
  ⟨hq.2.mul (Bd.gap hr hp), hq.1.neg.mul (Bd.gap hr hp), hp.2.mul (Bd.gap hr hq), hp.1.neg.mul (Bd.gap hr hq)⟩
def Sts (K : PySem.W.Frag) (H : Hp) (v : V) (xs : List (List Int)) : Prop := ∃ l vs, v = .ref l ∧ (SqL K H l vs ∨ SqT K H l vs) ∧ Tps K H vs xs
def spUnlike (K : PySem.W.Frag) : Sp := fun vs H Q _ => ∃ (v : V) (ps : List (Int × Int)), vs = [v] ∧ Sts K H v (ps.map pl) ∧ ps.length ≤ 17 ∧ Q (.bl (decide ps.Nodup)) H
theorem nodup_pl {ps : List (Int × Int)} : (ps.map pl).Nodup ↔ ps.Nodup := by
  rw [List.Nodup, List.pairwise_map]
  constructor
  · exact List.Pairwise.imp fun h z => h (by rw [z])
  · exact List.Pairwise.imp fun h z => h (pl_inj.mp z)
def GoodL (ps : List (Int × Int)) : Prop := ∀ p ∈ ps, GoodPt p ∧ BdPt 200 p
def Ltr (K : PySem.W.Frag) (H : Hp) (v : V) (xs : List (List Int)) : Prop := ∃ l vs, v = .ref l ∧ H l = some (.lst vs) ∧ Tps K H vs xs
theorem Ltr.mono {K : PySem.W.Frag} {H H' : Hp} {v : V} {xs : List (List Int)} (h : Ltr K H v xs) (g : Same H H') : Ltr K H' v xs := by
  obtain ⟨l, vs, rfl, hq, ht⟩ := h
  exact ⟨l, vs, rfl, g _ _ hq, ht.mono g⟩
def TellB (K : PySem.W.Frag) (H : Hp) (v u : V) (ps gs : List (Int × Int)) : Prop := Ltr K H v (ps.map pl) ∧ Ltr K H u (gs.map pl) ∧ GoodL ps ∧ GoodL gs ∧ ps.length = gs.length ∧ 3 ≤ ps.length ∧ ps.length ≤ 8 ∧ ps.Nodup ∧ gs.Nodup
def spCheckTold (K : PySem.W.Frag) : Sp := fun vs H Q _ => ∃ (v u : V) (ps gs : List (Int × Int)), vs = [v, u] ∧ TellB K H v u ps gs ∧ ∀ H', Same H H' → Q .non H'
def toldL : List (Int × Int) → List (Int × Int) → Option Ch
  | p :: q :: r :: ps, p' :: q' :: r' :: gs => if (p :: q :: r :: ps).map (mv (told3 p q r p' q' r')) = p' :: q' :: r' :: gs then some (told3 p q r p' q' r') else none
  | _, _ => none
theorem toldL_cons (p q r p' q' r' : Int × Int) (ps gs : List (Int × Int)) : toldL (p :: q :: r :: ps) (p' :: q' :: r' :: gs) = if (p :: q :: r :: ps).map (mv (told3 p q r p' q' r')) = p' :: q' :: r' :: gs then some (told3 p q r p' q' r') else none := rfl
def IsO (K : PySem.W.Frag) (H : Hp) (v : V) : Option Ch → Prop
  | none => v = .non
  | some m => Tp K H v (cl m)
def spTold (K : PySem.W.Frag) : Sp := fun vs H Q _ => ∃ (v u : V) (ps gs : List (Int × Int)), vs = [v, u] ∧ TellB K H v u ps gs ∧ ∀ w H', Same H H' → IsO K H' w (toldL ps gs) → Q w H'
theorem list3 {ps : List (Int × Int)} (h : 3 ≤ ps.length) : ∃ p q r ps', ps = p :: q :: r :: ps' := by
  match ps, h with
  | p :: q :: r :: ps', _ => exact ⟨p, q, r, ps', rfl⟩
theorem unlike_of {p q r : Int × Int} {ps : List (Int × Int)} (hg : GoodL (p :: q :: r :: ps)) (hn : (p :: q :: r :: ps).Nodup) : Unlike3 p q r := by
  simp only [List.nodup_cons, List.mem_cons, not_or] at hn
  exact ⟨(hg p (by simp)).1, (hg q (by simp)).1, (hg r (by simp)).1, hn.1.1, hn.1.2.1, hn.2.1.1⟩
theorem Unlike3.good {p q r p' q' r' : Int × Int} (h : Unlike3 p q r) (h' : Unlike3 p' q' r') : GoodC (told3 p q r p' q' r') :=
  told_good h.1 h.2.1 h.2.2.1 h.2.2.2.1 h.2.2.2.2.1 h.2.2.2.2.2 h'.1 h'.2.1 h'.2.2.1 h'.2.2.2.1 h'.2.2.2.2.1 h'.2.2.2.2.2
theorem BdC.told {k : Nat} {p q r p' q' r' : Int × Int} (h : Unlike3 p q r) (h' : Unlike3 p' q' r') (hp : BdPt k p) (hq : BdPt k q) (hr : BdPt k r) (hp' : BdPt k p') (hq' : BdPt k q') (hr' : BdPt k r') :
    BdC (k + (k + k + 1) + (k + (k + k + 1)) + 1) (told3 p q r p' q' r') := by
  have b1 := (BdC.base hp hq hr).nch h.det
  have b2 := (BdC.base hp' hq' hr').nch h'.det
  have d1 := (nch_goodC h.det).det
  have d2 := (nch_goodC h'.det).det
  have d3 : (Mx.adj (Mx.nch (base3 p' q' r'))).det ≠ 0 := by rw [det_adj]; exact d2
  exact (b1.mul (b2.adj.nch d3)).nch (mul_ne d1 (nch_goodC d3).det)
theorem tps3 {K : PySem.W.Frag} {H : Hp} {ws : List V} {a b c : List Int} {xs : List (List Int)} (h : Tps K H ws (a :: b :: c :: xs)) : ∃ w1 w2 w3 ws', ws = w1 :: w2 :: w3 :: ws' ∧ Tp K H w1 a ∧ Tp K H w2 b ∧ Tp K H w3 c ∧ Tps K H ws' xs := by
  cases h with
  | cons h1 h =>
    cases h with
    | cons h2 h =>
      cases h with
      | cons h3 h => exact ⟨_, _, _, _, rfl, h1, h2, h3, h⟩
structure G6 (K : PySem.W.Frag) (H : Hp) (a b l l2 : Addr) (u : V) (ns : List Int) (m : Ch) (ps gs : List (Int × Int)) : Prop where
  scr : Scr K H a ns
  spot : ∃ kk, 0 ≤ kk ∧ H b = some (.lst [.int kk])
  tu : Tp K H u (cl m)
  hp : Ltr K H (.ref l) (ps.map pl)
  hg : Ltr K H (.ref l2) (gs.map pl)
  lb : l ≠ b
  l2b : l2 ≠ b
  ll : l ≠ l2
end Cs
namespace L3
open PySem PySem.Spec PyProof.Rows L2
def gTupL (K : PySem.W.Frag) (n : Nat) (t : TGs) : TG := fun v σ H Q => ∃ a xs, v = .ref a ∧ SqL K H a xs ∧ xs.length = n ∧ t xs σ H Q
theorem for_srcT {K : PySem.W.Frag} {tl : TE} {g : TG} {tb : TS} {D : Ends} {σ : L2.St} {H : Hp} (R : V → Hp → Prop) (h1 : ∀ k : VK, (∀ x H1, R x H1 → k x H1) → tl σ H k)
    (h2 : ∀ x H1, R x H1 → ∃ a, x = .ref a ∧ (∃ xs, SqT K H1 a xs) ∧ ∃ W : Nat → Nat → L2.St → Hp → Prop, (∃ m, W 0 m σ H1) ∧ ∀ i m σ H, W i m σ H →
      ((Itt K a).stop i H ∧ D.nx σ H) ∨ ((Itt K a).go i H ∧ ∃ N : L2.St → Hp → Prop, (∀ σ' H', N σ' H' → ∃ m', m' < m ∧ W (i + 1) m' σ' H') ∧ ∀ x H', (Itt K a).yld i H x H' → g x σ H' fun σ2 H2 => tb { D with nx := N, ct := N, bk := D.nx } σ2 H2)) :
    tFor (iTup K tl) g tb D σ H := h1 _ h2
end L3
namespace Cs
open PySem PySem.Spec PyProof.Rows L2 L3 Mx
theorem Unlike3.un3 {p q r : Int × Int} (h : Unlike3 p q r) : Un3 p q r := ⟨h.1, h.2.1, h.2.2.1, h.2.2.2.1, h.2.2.2.2.1, h.2.2.2.2.2⟩
theorem un3_unlike {p q r : Int × Int} (h : Un3 p q r) : Unlike3 p q r := ⟨h.gp, h.gq, h.gr, h.pq, h.pr, h.qr⟩
structure F4 (K : PySem.W.Frag) (H : Hp) (u v w t : V) (p q r x : Int × Int) : Prop where
  tp : Tp K H u (pl p)
  tq : Tp K H v (pl q)
  tr : Tp K H w (pl r)
  tx : Tp K H t (pl x)
  un : Un3 p q r
  gx : GoodPt x
  bp : BdPt 400 p
  bq : BdPt 400 q
  br : BdPt 400 r
  bx : BdPt 1900 x
theorem F4.mono {K : PySem.W.Frag} {H H' : Hp} {u v w t : V} {p q r x : Int × Int} (h : F4 K H u v w t p q r x) (g : Same H H') : F4 K H' u v w t p q r x :=
  ⟨h.tp.mono g, h.tq.mono g, h.tr.mono g, h.tx.mono g, h.un, h.gx, h.bp, h.bq, h.br, h.bx⟩
theorem F4.all {K : PySem.W.Frag} {H : Hp} {u v w t : V} {p q r x : Int × Int} (h : F4 K H u v w t p q r x) : ∀ y ∈ [p, q, r, x], GoodPt y ∧ BdPt 4000 y := fun y hy => by
  simp only [List.mem_cons, List.not_mem_nil, or_false] at hy
  rcases hy with rfl | rfl | rfl | rfl
  · exact ⟨h.un.gp, h.bp.mono (by decide)⟩
  · exact ⟨h.un.gq, h.bq.mono (by decide)⟩
  · exact ⟨h.un.gr, h.br.mono (by decide)⟩
  · exact ⟨h.gx, h.bx.mono (by decide)⟩
theorem F4.tps {K : PySem.W.Frag} {H : Hp} {u v w t : V} {p q r x : Int × Int} (h : F4 K H u v w t p q r x) : Tps K H [u, v, w, t] ([p, q, r, x].map pl) := .cons h.tp (.cons h.tq (.cons h.tr (.cons h.tx .nil)))
theorem F4.nd {K : PySem.W.Frag} {H : Hp} {u v w t : V} {p q r x : Int × Int} (h : F4 K H u v w t p q r x) : [p, q, r].Nodup := by
  simp only [List.nodup_cons, List.mem_cons, List.not_mem_nil, or_false, not_or, not_false_eq_true, List.nodup_nil, and_true]
  exact ⟨⟨h.un.pq, h.un.pr⟩, h.un.qr⟩
def spCheckThree (K : PySem.W.Frag) : Sp := fun vs H Q _ => ∃ (u v w t : V) (p q r x : Int × Int), vs = [u, v, w, t] ∧ F4 K H u v w t p q r x ∧ ∀ H', Same H H' → Q .non H'
def spCross (K : PySem.W.Frag) : Sp := fun vs H Q _ => ∃ (u v w t : V) (p q r x : Int × Int), vs = [u, v, w, t] ∧ F4 K H u v w t p q r x ∧ Out K H (pl (cr p q r x)) Q
def spFourth (K : PySem.W.Frag) : Sp := fun vs H Q _ => ∃ (u v w t : V) (p q r x : Int × Int), vs = [u, v, w, t] ∧ F4 K H u v w t p q r x ∧ Out K H (pl (fo p q r x)) Q
theorem bd_base {k : Nat} {p q r : Int × Int} (h : Un3 p q r) (hp : BdPt k p) (hq : BdPt k q) (hr : BdPt k r) : BdC (k + (k + k + 1)) (nch (base3 p q r)) := (BdC.base hp hq hr).nch h.det
theorem det_fo {p q r : Int × Int} (h : Un3 p q r) : (adj (nch (base3 p q r))).det ≠ 0 := by rw [det_adj]; exact (nch_goodC h.det).det
end Cs
namespace Cs
open PySem PySem.Spec PyProof.Rows L2 L3 Mx
end Cs
namespace Cs
open PySem PySem.Spec PyProof.Rows L2 L3 Mx
theorem nd3 {p q r : Int × Int} (h : Un3 p q r) : [p, q, r].Nodup := by
  simp only [List.nodup_cons, List.mem_cons, List.not_mem_nil, or_false, not_or, not_false_eq_true, List.nodup_nil, and_true]
  exact ⟨⟨h.pq, h.pr⟩, h.qr⟩
end Cs
namespace Cs
open PySem PySem.Spec PyProof.Rows L2 L3 Mx
def ordV : Option Nat → V
  | none => .non
  | some k => .int (k : Int)
def spTurns (K : PySem.W.Frag) : Sp := fun vs H Q _ => ∃ (v : V) (m : Ch), vs = [v] ∧ Tp K H v (cl m) ∧ GoodC m ∧ BdC 600 m ∧ ∀ H', Same H H' → Q (ordV (ord m)) H'
theorem turn_mk {K : PySem.W.Frag} {h : Heap} {mg : Str → Option Value} {f : Addr} {od : Option Addr} {osl : Array (Option Value)} {n : Nat} {t1 t2 t3 t4 t5 : Tok} (X : K.In h) (G : h.Ns mainGlobals mg)
    (a : PySem.W.nsIn K mainGlobals "TURN_NUMBERS" = some (some (.ref f))) (l : K.lookup f = some ⟨.type "tuple", od, .seq #[.int 1 t1, .int 2 t2, .int 3 t3, .int 4 t4, .int 6 t5] n, osl⟩) :
    ∃ aT, (mg "TURN_NUMBERS" = some (.ref aT) ∧ RelV (.ref aT) (Value.ref aT)) ∧ ∀ H, SqT K H aT (tn.map fun k : Nat => V.int (k : Int)) :=
  ⟨f, ⟨PySem.W.mg_of X G a, rfl⟩, tupK l (by show 5 ≤ sizeLine; decide) (.cons ⟨_, rfl⟩ (.cons ⟨_, rfl⟩ (.cons ⟨_, rfl⟩ (.cons ⟨_, rfl⟩ (.cons ⟨_, rfl⟩ .nil)))))⟩
end Cs
namespace L3
open PySem PySem.Spec PyProof.Rows L2
section
variable {σ : L2.St} {H : Hp}
end
def rInI (K : PySem.W.Frag) (neg : Bool) : R2 := fun x y H Q => ∃ n ms, x = .int n ∧ Lp K H y ms ∧ Q (.bl (if neg then !decide (n ∈ ms) else decide (n ∈ ms))) H
end L3
namespace Cs
open PySem PySem.Spec PyProof.Rows L2 L3 Mx
def spFirst (K : PySem.W.Frag) : Sp := fun vs H Q _ => ∃ (v : V) (m : Ch), vs = [v] ∧ Tp K H v (cl m) ∧ GoodC m ∧ BdC 1000 m ∧ Out K H (cl (ft m)) Q
theorem bd_ft {k : Nat} {m : Ch} (g : GoodC m) (h : BdC k m) : BdC (k + 1) (ft m) := by
  obtain ⟨b1, b2, b3, b4⟩ := h
  have z : Bd (k + 1) 0 := Bd.lit (by simpa using Nat.two_pow_pos (k + 1))
  have o : Bd (k + 1) 1 := Bd.lit (by have := Nat.two_pow_pos k; rw [Nat.pow_succ]; simp; omega)
  unfold ft
  split
  · rename_i hb
    refine BdC.nch ⟨b2.mono (by omega), z, b4.sub b1, (b2.neg).mono (by omega)⟩ ?_
    have := Int.mul_ne_zero hb hb
    simp only [Ch.det]; grind
  · split
    · rename_i hc
      refine BdC.nch ⟨b3.mono (by omega), b4.sub b1, z, (b3.neg).mono (by omega)⟩ ?_
      have := Int.mul_ne_zero hc hc
      simp only [Ch.det]; grind
    · exact ⟨z, o, o, z⟩
def spTwo (K : PySem.W.Frag) : Sp := fun vs H Q _ => ∃ (v : V) (m : Ch), vs = [v] ∧ Tp K H v (cl m) ∧ GoodC m ∧ BdC 800 m ∧
  ∀ l y1 y2 H', Same H H' → SqT K H' l [y1, y2] → Tp K H' y1 (cl (ft m)) → Tp K H' y2 (cl (nch (mul (ft m) m))) → Q (.ref l) H'
end Cs
namespace L3
open PySem PySem.Spec PyProof.Rows L2 PySem.W
section
variable {prog : Program} {w : World} {A : Around} {E : Value → Shared → Prop} {s : Shared}
def P2 (h : Heap) (v : Value) (p : Int × Int) : Prop := ∃ a o t u n, v = .ref a ∧ h.get? a = some o ∧ o.cls = .type "tuple" ∧ o.data = .seq #[.int p.1 t, .int p.2 u] n
theorem P2.keep {h h' : Heap} {v : Value} {p : Int × Int} (x : P2 h v p) (k : ∀ b o, h.get? b = some o → h'.get? b = some o) : P2 h' v p := by
  obtain ⟨a, o, t, u, n, e, ho, r⟩ := x
  exact ⟨a, o, t, u, n, e, k a o ho, r⟩
theorem lt_pair {x y : Int × Int} {v u : Value} {Q : Bool → Shared → Prop} (hv : P2 s.heap v x) (hu : P2 s.heap u y) (h : Q (Mx.ltp x y) s) : wpAny (model prog w) A (keyLt' (tuples' true) v u) Q E s := by
  obtain ⟨a, o, t1, t2, n, rfl, ho, hc, hd⟩ := hv
  obtain ⟨b, o', t3, t4, n', rfl, ho', hc', hd'⟩ := hu
  refine kat_lt ho hd ho' hd' ?_
  show KatLex prog w A true _ Q [(.int x.1 t1, .int y.1 t3), (.int x.2 t2, .int y.2 t4)] 0 s
  refine kat_cons (wpAny_eqBool_int ?_)
  refine kat_go (fun e => kat_yes (kat_cons (wpAny_eqBool_int ?_))) (fun e => kat_no ?_)
  · have e1 : x.1 = y.1 := by simpa using e
    refine kat_go (fun e2 => kat_yes (kat_nil ?_)) (fun e2 => kat_no (kat_one _ _ ?_))
    · have e2' : x.2 = y.2 := by simpa using e2
      have : Mx.ltp x y = false := by unfold Mx.ltp; rw [e1, e2']; simp
      rw [this] at h
      exact h
    · refine lt_int ?_
      have : Mx.ltp x y = decide (x.2 < y.2) := by unfold Mx.ltp; rw [e1]; simp
      rw [this] at h
      exact h
  · have e1 : x.1 ≠ y.1 := by simpa using e
    refine oneLt_int ?_
    have : Mx.ltp x y = decide (x.1 < y.1) := by
      unfold Mx.ltp
      rw [decide_eq_decide]
      constructor
      · rintro (z | z)
        · exact z
        · exact absurd z.1 e1
      · exact .inl
    rw [this] at h
    exact h
def sortG {α : Type} : List α → List (Int × Int) → List α
  | [a, b], [p, q] => if Mx.ltp q p = true then [b, a] else [a, b]
  | vs, _ => vs
theorem sortG_len {α : Type} (xs : List α) (ps : List (Int × Int)) : (sortG xs ps).length = xs.length := by
  unfold sortG
  split
  · split <;> rfl
  · rfl
theorem lsort2 {a : Addr} {vs : List Value} {ps : List (Int × Int)} {n : Nat} {P : PySem.Fin → Shared → Prop} (ho : s.heap.get? a = some (seqObj "list" vs.toArray n)) (hT : Paired (fun v p => P2 (s.heap.update a (Obj.mapSeq fun _ => #[])) v p) vs ps) (h2 : vs.length ≤ 2)
    (h : P (.done (.ret .none)) { s with heap := sortedHeap s.heap a vs (sortG vs ps).toArray }) :
    wpAny (model prog w) A (Builtin.«list.sort» ⟨[.ref a], []⟩) P E s := by
  rw [list_sort_plain]
  have ha : a < s.heap.objs.size := Heap.lt_size ho
  have hb : vs.length ≤ sizeLine := Nat.le_trans h2 (by decide)
  refine wpAny_bind (listItems_at ho rfl ?_)
  refine wpAny_bind (listUpdate_at ho rfl ?_ (by simpa using hb) (Nat.zero_le _))
  obtain ⟨e1, ho1⟩ : ∃ e1, (s.heap.update a (Obj.mapSeq fun _ => #[])).get? a = some (seqObj "list" #[] e1) := ⟨_, get?_update_seq ho (fun _ => #[])⟩
  refine wpAny_bind (seqEpoch_at ho1 rfl ?_)
  refine wpAny_bind (wpAny_newTuple ?_ (by simpa using hb))
  refine wpAny_bind (wpAny_newList ?_ (Nat.zero_le _))
  refine wpAny_holding ?_
  have ho6 : (((s.heap.update a (Obj.mapSeq fun _ => #[])).push (seqObj "tuple" vs.toArray 0)).push (seqObj "list" #[] 0)).get? a = some (seqObj "list" #[] e1) := by
    rw [Heap.get?_push_ne _ _ _ (by rw [size_push', Heap.size_update]; exact Nat.ne_of_lt (Nat.lt_succ_of_lt ha)), Heap.get?_push_ne _ _ _ (by rw [Heap.size_update]; exact Nat.ne_of_lt ha)]
    exact ho1
  show wpAny (model prog w) A _ P E { s with heap := ((s.heap.update a (Obj.mapSeq fun _ => #[])).push (seqObj "tuple" vs.toArray 0)).push (seqObj "list" #[] 0) }
  dsimp only
  by_cases hf : vs.toArray.size < 2
  · rw [if_pos hf, if_pos hf]
    refine wpAny_bind (wpAny_pure ?_)
    rw [StateT.run_pure]
    refine wpAny_bind (wpAny_pure ?_)
    dsimp only
    refine wpAny_bind (seqEpoch_at ho6 rfl ?_)
    refine wpAny_bind (listUpdate_at ho6 rfl ?_ (Nat.zero_le _) (by rw [Array.size_map]; show (pairsOf vs).size ≤ _; rw [pairsOf_size]; omega))
    simp only [bne_self_eq_false, Bool.false_eq_true, if_false]
    have es : sortG vs ps = vs := by
      match vs, hf with
      | [], _ => rfl
      | [_], _ => rfl
      | _ :: _ :: _, hf => simp at hf; omega
    rw [es] at h
    have eo : (arrOf (SortSt.mk' general' (vs.toArray.zip vs.toArray) #[] 7 none)).map (·.2) = vs.toArray := by
      show (vs.toArray.zip vs.toArray).map (·.2) = vs.toArray
      have e : vs.toArray.zip vs.toArray = (vs.zip vs).toArray := by simp
      rw [e, List.map_toArray, List.map_snd_zip (Nat.le_refl _)]
    rw [eo]
    exact wpAny_pure h
  · rw [if_neg hf, if_neg hf]
    obtain ⟨v₀, v₁, rfl⟩ : ∃ v₀ v₁, vs = [v₀, v₁] := by
      match vs, h2, hf with
      | [], _, hf => simp at hf
      | [_], _, hf => simp at hf
      | [v₀, v₁], _, _ => exact ⟨v₀, v₁, rfl⟩
      | _ :: _ :: _ :: _, h2, _ => simp at h2
    cases hT with
    | cons t0 hT =>
      cases hT with
      | cons t1 hT =>
        cases hT
        rename_i p0 p1
        have k6 : ∀ b o, (s.heap.update a (Obj.mapSeq fun _ => #[])).get? b = some o → (((s.heap.update a (Obj.mapSeq fun _ => #[])).push (seqObj "tuple" [v₀, v₁].toArray 0)).push (seqObj "list" #[] 0)).get? b = some o := fun b o e => Heap.get?_push_of_some _ (Heap.get?_push_of_some _ e)
        have u0 := t0.keep k6
        have u1 := t1.keep k6
        obtain ⟨a0, o0, x0, y0, n0, e0, g0, c0, d0⟩ := id u0
        obtain ⟨a1, o1, x1, y1, n1, e1', g1, c1, d1⟩ := id u1
        refine wpAny_bind (kat_kind (vs := [v₀, v₁]) (fs := [.int p0.1 x0, .int p1.1 x1]) (T := .type "int") ⟨⟨a0, o0, _, n0, e0, g0, c0, d0, rfl⟩, ⟨a1, o1, _, n1, e1', g1, c1, d1, rfl⟩, trivial⟩ (Nat.succ_pos _) (fun v hv => ?_) rfl ?_)
        · simp only [List.mem_cons, List.not_mem_nil, or_false] at hv
          rcases hv with rfl | rfl
          · exact Looks.now
          · exact Looks.now
        have run := kat_run (prog := prog) (w := w) (A := A) (E := E) (κ := tuples' true) (ks := [v₀, v₁]) (vs := [v₀, v₁]) (s := { s with heap := ((s.heap.update a (Obj.mapSeq fun _ => #[])).push (seqObj "tuple" [v₀, v₁].toArray 0)).push (seqObj "list" #[] 0) })
          (Q := fun st' s' => s' = { s with heap := ((s.heap.update a (Obj.mapSeq fun _ => #[])).push (seqObj "tuple" [v₀, v₁].toArray 0)).push (seqObj "list" #[] 0) } ∧ failedOf st' = none ∧ ∃ p : Array Nat, arrOf st' = p.map (kas_item ([v₀, v₁].toArray.zip [v₀, v₁].toArray)) ∧ p = if Mx.ltp p1 p0 = true then #[1, 0] else #[0, 1])
          (G := fun p s' => s' = { s with heap := ((s.heap.update a (Obj.mapSeq fun _ => #[])).push (seqObj "tuple" [v₀, v₁].toArray 0)).push (seqObj "list" #[] 0) } ∧ p = if Mx.ltp p1 p0 = true then #[1, 0] else #[0, 1])
          rfl (Nat.le_refl 2) (show 2 < 64 by decide) (fun p st' s' a1 a2 a3 a4 => ⟨a4.1, a3, p, a2, a4.2⟩) ?_
        · refine wpAny_bind (wpAny_mono run ?_ fun _ _ e => e)
          rintro ⟨⟨⟩, st'⟩ s' ⟨rfl, hfl, p, har, hp⟩
          dsimp only
          have hout := kat_snds (ks := [v₀, v₁]) (vs := [v₀, v₁]) rfl har
          rw [hout]
          refine wpAny_bind (seqEpoch_at ho6 rfl ?_)
          refine wpAny_bind (listUpdate_at ho6 rfl ?_ (Nat.zero_le _) ?_)
          · rw [hfl]
            simp only [bne_self_eq_false, Bool.false_eq_true, if_false]
            have eo : (p.toList.map fun i => [v₀, v₁].getD i Value.none) = sortG [v₀, v₁] [p0, p1] := by
              rw [hp]
              show _ = if Mx.ltp p1 p0 = true then [v₁, v₀] else [v₀, v₁]
              by_cases hlt : Mx.ltp p1 p0 = true
              · rw [if_pos hlt, if_pos hlt]; rfl
              · rw [if_neg hlt, if_neg hlt]; rfl
            rw [eo]
            exact wpAny_pure h
          · rw [hp]
            by_cases hlt : Mx.ltp p1 p0 = true
            · rw [if_pos hlt]; show 2 ≤ sizeLine + 1; decide
            · rw [if_neg hlt]; show 2 ≤ sizeLine + 1; decide
        · show (kas_sort 2).kasWp _ _ _
          unfold kas_sort kas_count
          rw [KasT.kasWp_bind, KasT.kasWp_bind]
          show wpAny _ _ (keyLt' (tuples' true) v₁ v₀) _ _ _
          refine lt_pair u1 u0 ?_
          cases hlt : Mx.ltp p1 p0 with
          | true => exact ⟨rfl, rfl⟩
          | false => exact ⟨rfl, rfl⟩
theorem sorted2 {l : Addr} {vs : List Value} {ps : List (Int × Int)} {Q : Value → Shared → Prop} (hl : s.heap.IsList l vs.toArray) (hT : Paired (fun v p => P2 s.heap v p) vs ps) (h2 : vs.length ≤ 2)
    (h : Q (.ref (s.heap.objs.size + 1)) { s with heap := sortedAll s.heap vs (sortG vs ps).toArray }) :
    wpAny (model prog w) A (call (.builtin "sorted") [.ref l]) Q E s := by
  have hb : vs.length ≤ sizeLine := Nat.le_trans h2 (by decide)
  refine Calls.call_function_entry kind_sorted plain_sorted entry_sorted (args_sorted1 _) ?_
  unfold Builtin.«sorted»
  refine wpAny_bind (m := checkCount "sorted" 1 1 _) (wpAny_pure ?_)
  refine wpAny_bind (collect_list hl ?_ hb)
  refine wpAny_bind (wpAny_newList ?_ hb)
  have hsz : ((s.heap.push (seqObj "list" #[] 0)).update s.heap.objs.size (Obj.mapSeq (· ++ vs.toArray))).objs.size = s.heap.objs.size + 1 := by
    rw [Heap.size_update, size_push']
  have hoL : (((s.heap.push (seqObj "list" #[] 0)).update s.heap.objs.size (Obj.mapSeq (· ++ vs.toArray))).push (seqObj "list" vs.toArray 0)).get? (s.heap.objs.size + 1) = some (seqObj "list" vs.toArray 0) := by
    rw [← hsz]; exact Heap.get?_push_size _ rfl
  have keep : ∀ b o, s.heap.get? b = some o → ((((s.heap.push (seqObj "list" #[] 0)).update s.heap.objs.size (Obj.mapSeq (· ++ vs.toArray))).push (seqObj "list" vs.toArray 0)).update (s.heap.objs.size + 1) (Obj.mapSeq fun _ => #[])).get? b = some o := fun b o q => by
    have hlt : b < s.heap.objs.size := Heap.lt_size q
    rw [Heap.get?_update_ne _ _ _ _ (Nat.ne_of_lt (Nat.lt_succ_of_lt hlt)), Heap.get?_push_ne _ _ _ (by rw [hsz]; exact Nat.ne_of_lt (Nat.lt_succ_of_lt hlt)), Heap.get?_update_ne _ _ _ _ (Nat.ne_of_lt hlt), Heap.get?_push_ne _ _ _ (Nat.ne_of_lt hlt)]
    exact q
  show wpAny _ _ _ _ _ { s with heap := ((s.heap.push (seqObj "list" #[] 0)).update s.heap.objs.size (Obj.mapSeq (· ++ vs.toArray))).push (seqObj "list" vs.toArray 0) }
  rw [hsz]
  have up : ∀ {xs : List Value} {zs : List (Int × Int)}, Paired (fun v p => P2 s.heap v p) xs zs → Paired (fun v p => P2 ((((s.heap.push (seqObj "list" #[] 0)).update s.heap.objs.size (Obj.mapSeq (· ++ vs.toArray))).push (seqObj "list" vs.toArray 0)).update (s.heap.objs.size + 1) (Obj.mapSeq fun _ => #[])) v p) xs zs := fun {xs zs} x => by
    induction x with
    | nil => exact .nil
    | cons a _ ih => exact .cons (a.keep keep) ih
  refine wpAny_bind (wpAny_holding (wpAny_call_entry slot_list_sort ⟨_, hoL, rfl⟩ entry_list_sort (lsort2 hoL (up hT) h2 ⟨_, rfl, ?_⟩) (args_list_sort _)))
  exact wpAny_pure ⟨_, rfl, h⟩
end
section
variable {X : Cx} {pins : List (Addr × Obj)} {σ : L2.St} {H : Hp} {s : Shared}
theorem Tps.pairs (I : Inv X pins σ H s) : ∀ {vs : List V} {us : List Value} {ps : List (Int × Int)}, Tps X.K H vs (ps.map Cs.pl) → Vals vs us → Paired (fun v p => P2 s.heap v p) us ps
  | [], _, [], _, r => by cases r; exact .nil
  | [], _, _ :: _, h, _ => by cases h
  | _ :: _, _, [], h, _ => by cases h
  | v :: vs, _, p :: ps, h, r => by
    cases r with
    | cons r1 r2 =>
      cases h with
      | cons h1 h2 =>
        refine .cons ?_ (Tps.pairs I h2 r2)
        obtain ⟨a, rfl, q⟩ := h1
        cases r1
        obtain ⟨its, rv, ⟨o, e, c, n, d⟩, _⟩ := I.tuple q
        cases rv with
        | cons x1 rv =>
          cases rv with
          | cons x2 rv =>
            cases rv
            obtain ⟨t1, rfl⟩ := x1
            obtain ⟨t2, rfl⟩ := x2
            exact ⟨a, o, t1, t2, n, rfl, e, c, d⟩
theorem vals_sort : ∀ {ws : List V} {us : List Value} {ps : List (Int × Int)}, Vals ws us → Vals (sortG ws ps) (sortG us ps)
  | [], _, _, r => by cases r; exact .nil
  | [_], _, _, r => by
    cases r with
    | cons r1 r2 => cases r2; exact .cons r1 .nil
  | [a, b], _, ps, r => by
    cases r with
    | cons r1 r2 =>
      cases r2 with
      | cons r2 r3 =>
        cases r3
        match ps with
        | [p, q] =>
          show Vals (if Mx.ltp q p = true then [b, a] else [a, b]) (if Mx.ltp q p = true then _ else _)
          by_cases h : Mx.ltp q p = true
          · rw [if_pos h, if_pos h]; exact .cons r2 (.cons r1 .nil)
          · rw [if_neg h, if_neg h]; exact .cons r1 (.cons r2 .nil)
        | [] => exact .cons r1 (.cons r2 .nil)
        | [_] => exact .cons r1 (.cons r2 .nil)
        | _ :: _ :: _ :: _ => exact .cons r1 (.cons r2 .nil)
  | a :: b :: c :: ws, _, ps, r => by
    cases r with
    | cons r1 r2 =>
      cases r2 with
      | cons r2 r3 =>
        cases r3 with
        | cons r3 r4 => exact .cons r1 (.cons r2 (.cons r3 r4))
theorem tps_sort {K : PySem.W.Frag} : ∀ {ws : List V} {ps : List (Int × Int)}, Tps K H ws (ps.map Cs.pl) → Tps K H (sortG ws ps) ((Mx.sort2 ps).map Cs.pl)
  | [], [], h => h
  | [_], [_], h => h
  | [a, b], [p, q], h => by
    cases h with
    | cons h1 h2 =>
      cases h2 with
      | cons h2 h3 =>
        show Tps K H (if Mx.ltp q p = true then [b, a] else [a, b]) ((if Mx.ltp q p = true then [q, p] else [p, q]).map Cs.pl)
        by_cases h : Mx.ltp q p = true
        · rw [if_pos h, if_pos h]; exact .cons h2 (.cons h1 .nil)
        · rw [if_neg h, if_neg h]; exact .cons h1 (.cons h2 .nil)
  | a :: b :: c :: ws, p :: q :: r :: ps, h => h
  | [], _ :: _, h => by cases h
  | _ :: _, [], h => by cases h
  | [_], _ :: _ :: _, h => by
    cases h with
    | cons _ h => cases h
  | _ :: _ :: _, [_], h => by
    cases h with
    | cons _ h => cases h
  | [_, _], _ :: _ :: _ :: _, h => by
    cases h with
    | cons _ h =>
      cases h with
      | cons _ h => cases h
  | _ :: _ :: _ :: _, [_, _], h => by
    cases h with
    | cons _ h =>
      cases h with
      | cons _ h => cases h
def rSort (K : PySem.W.Frag) : List V → Hp → VK → Prop := fun xs H Q => ∃ l ws ps, xs = [.ref l] ∧ SqL K H l ws ∧ Tps K H ws (ps.map Cs.pl) ∧ ps.length ≤ 2 ∧ ∀ p, H p = none → Q (.ref p) (upd H p (.lst (sortG ws ps)))
theorem call_sort2 : CallR X (.builtin "sorted") (rSort X.K) := by
  intro pins s σ H xs us Q I r h
  obtain ⟨l, ws, ps, rfl, hq, ht, h2, q⟩ := h
  obtain ⟨u, rfl, rx⟩ := vals1 r
  cases (show u = Value.ref l from rx)
  obtain ⟨its, rv, pl, hz⟩ := I.list hq
  have hlen : its.length ≤ 2 := by rw [← rv.length, ht.length, List.length_map]; exact h2
  refine sorted2 pl.isList (Tps.pairs I ht rv) hlen ?_
  obtain ⟨c, hc⟩ := sortedAll_at s.heap its (sortG its ps).toArray
  refine ⟨.ref (s.heap.objs.size + 1), _, I.laid (t' := s.toks) (fun b o e => sortedAll_old e) (Nat.le_succ _) (show ObjOk X.prog X.w _ _ _ (.lst (sortG ws ps)) from ⟨?_, _, c, vals_sort rv, hc⟩), rfl, q _ (I.hok.fresh (Nat.le_succ _))⟩
  have := (vals_sort (ps := ps) rv).length
  rw [this, sortG_len]
  exact Nat.le_trans hlen (by show 2 ≤ sizeLine; decide)
end
end L3
namespace Cs
open PySem PySem.Spec PyProof.Rows L2 L3 Mx
def spRoot (K : PySem.W.Frag) : Sp := fun vs H Q _ => ∃ n : Int, vs = [.int n] ∧ 0 ≤ n ∧ Bd 7000 n ∧ Q (.int (rt n)) H
def OutL (K : PySem.W.Frag) (H : Hp) (ps : List (Int × Int)) (Q : VK) : Prop := ∀ l ws H', Same H H' → H l = none → H' l = some (.lst ws) → Tps K H' ws (ps.map pl) → Q (.ref l) H'
theorem OutL.from {K : PySem.W.Frag} {H H' : Hp} {ps : List (Int × Int)} {Q : VK} (q : OutL K H ps Q) (g : Same H H') : OutL K H' ps Q := fun l ws H'' g' n e t => q l ws H'' (g.trans g') (g.free n) e t
def spKeptFar (K : PySem.W.Frag) : Sp := fun vs H Q _ => ∃ (v : V) (m : Ch), vs = [v] ∧ Tp K H v (cl m) ∧ m.c = 0 ∧ BdC 400 m ∧ OutL K H (keptL m) Q
def spKeptNoFar (K : PySem.W.Frag) : Sp := fun vs H Q _ => ∃ (v : V) (m : Ch), vs = [v] ∧ Tp K H v (cl m) ∧ m.c ≠ 0 ∧ BdC 400 m ∧ OutL K H (keptL m) Q
def spKept (K : PySem.W.Frag) : Sp := fun vs H Q _ => ∃ (v : V) (m : Ch), vs = [v] ∧ Tp K H v (cl m) ∧ GoodC m ∧ BdC 400 m ∧ (m = one4 → ∀ H', Same H H' → Q .non H') ∧ (m ≠ one4 → OutL K H (sort2 (keptL m)) Q)
theorem Bd.two {k : Nat} {a : Int} (h : Bd k a) : Bd (k + 2) (2 * a) := (Bd.mul (j := 2) (by decide) h).mono (by omega)
theorem bd_disc {k : Nat} {m : Ch} (h : BdC k m) : Bd (k + 1 + (k + 1) + 5) (disc m) := by
  obtain ⟨a, b, c, d⟩ := h
  have h1 : Bd (k + 1 + (k + 1)) ((m.a - m.d) * (m.a - m.d)) := (a.sub d).mul (a.sub d)
  have h2 : Bd (3 + k + k) (4 * m.b * m.c) := (Bd.mul (Bd.mul (j := 3) (by decide) b) c)
  unfold disc
  exact ((h1.mono (show k + 1 + (k + 1) ≤ k + 1 + (k + 1) + 4 by omega)).add (h2.mono (by omega))).mono (by omega)
theorem rt_le {n : Int} (h : 0 ≤ n) : rt n ≤ n := by
  obtain ⟨a, b, c⟩ := rt_spec h
  refine Classical.byContradiction fun hn => ?_
  have h1 : n + 1 ≤ rt n := by omega
  have h2 := Int.mul_le_mul h1 h1 (by omega) a
  have h3 : (n + 1) * (n + 1) = n * n + 2 * n + 1 := by grind
  have h4 := self_nonneg n
  omega
theorem bd_rt {k : Nat} {n : Int} (h : 0 ≤ n) (b : Bd k n) : Bd k (rt n) := by
  refine b.of_le ?_
  have := rt_le h
  have := (rt_spec h).1
  omega
end Cs
namespace L3
open PySem PySem.Spec PyProof.Rows L2 PySem.Builtin PySem.Builtin.Str
section
variable {X : Cx}
def rSlS : V → Option Int → Option Int → Hp → VK → Prop := fun x lo hi H Q => ∃ z, x = .str z ∧ z.length ≤ sizeLine ∧ Q (.str (Txt.slice z lo hi)) H
def rStarts : V → List V → Hp → VK → Prop := fun x xs H Q => ∃ z y, x = .str z ∧ xs = [.str y] ∧ Q (.bl (Txt.startswith z y)) H
def rSplit : V → List V → Hp → VK → Prop := fun x xs H Q => ∃ z y, x = .str z ∧ xs = [.str y] ∧ (y.length == 0) = false ∧ z.length + 2 ≤ sizeLine ∧ ∀ p, H p = none → Q (.ref p) (upd H p (.lst ((Txt.split z y).map V.str)))
theorem strs_vals : ∀ {ys : List Str} {us : List Value}, Vals (ys.map V.str) us → ∃ l : List (Str × Tok), l.map (·.1) = ys ∧ us = strValues l
  | [], _, r => by cases r; exact ⟨[], rfl, rfl⟩
  | y :: ys, _, r => by
    cases r with
    | cons r1 r2 =>
      obtain ⟨t, rfl⟩ := r1
      obtain ⟨l, e, rfl⟩ := strs_vals r2
      exact ⟨(y, t) :: l, by simp [e], rfl⟩
def rJoin (K : PySem.W.Frag) : V → List V → Hp → VK → Prop := fun x xs H Q => ∃ z l ys, x = .str z ∧ xs = [.ref l] ∧ SqL K H l (ys.map V.str) ∧ JoinOk z ys = true ∧ Q (.str (Txt.join z ys)) H
theorem mt_join : MtR X "str.join" (rJoin X.K) := by
  intro pins s σ H x xs v us Q I rx rv h
  obtain ⟨z, l, ys, rfl, rfl, hq, hj, q⟩ := h
  obtain ⟨t, rfl⟩ := rx
  obtain ⟨u, rfl, ru⟩ := rv.one
  cases (show u = Value.ref l from ru)
  obtain ⟨its, rv', pl, _⟩ := I.list hq
  obtain ⟨ls, e, rfl⟩ := strs_vals rv'
  exact SC.join pl.isList e hj fun t' k => ⟨.str _, H, I.tok k, ⟨t', rfl⟩, q⟩
end
section
variable {σ : L2.St} {H : Hp}
end
end L3
namespace Tx
open PySem PyProof.Rows PySem.NumText
def jn (c : Nat) : List (List Nat) → List Nat
  | [] => []
  | [p] => p
  | p :: q :: r => p ++ c :: jn c (q :: r)
theorem app_list (a y : Str) : (a ++ y).cps.toList = a.cps.toList ++ y.cps.toList := PySem.W.KT.app_list a y
theorem join_list (c : Nat) : ∀ ps : List Str, (Str.join ⟨#[c]⟩ ps).cps.toList = jn c (ps.map (·.cps.toList))
  | [] => rfl
  | [p] => rfl
  | p :: q :: r => by
    show (p ++ ⟨#[c]⟩ ++ Str.join ⟨#[c]⟩ (q :: r)).cps.toList = _
    rw [app_list, app_list, join_list c (q :: r)]
    show (p.cps.toList ++ [c]) ++ jn c _ = p.cps.toList ++ c :: jn c _
    simp
def dg (m : Nat) : List Nat := (Nat.toDigits 10 m).map Char.toNat
def tx (n : Int) : List Nat := if n < 0 then 45 :: dg n.natAbs else dg n.natAbs
def T (n : Int) : Str := Str.ofString (toString n)
theorem T_list (n : Int) : (T n).cps.toList = tx n := by
  unfold T tx
  by_cases h : n < 0
  · rw [if_pos h, toString_neg h]
    obtain ⟨m, hm⟩ : ∃ m : Nat, 0 - n = (m : Int) := ⟨n.natAbs, by omega⟩
    rw [hm]
    have e : n.natAbs = m := by omega
    rw [e, signs_ofString, String.toList_append, List.map_append, ← signs_ofString (toString (m : Int)), PySem.W.KIN.signs_num]
    rfl
  · rw [if_neg h]
    obtain ⟨m, rfl⟩ := Int.eq_ofNat_of_zero_le (by omega : 0 ≤ n)
    rw [PySem.W.KIN.signs_num]
    rfl
def figs (l : List Nat) : List Nat := if l.head? = some 45 then l.tail else l
def dig (c : Nat) : Bool := decide (48 ≤ c) && decide (c ≤ 57)
def okN (l : List Nat) : Prop := 1 ≤ (figs l).length ∧ (figs l).length ≤ 30 ∧ (figs l).all dig = true
def canN (l : List Nat) : Prop := ¬ ((figs l).head? = some 48 ∧ l ≠ [48])
instance (l : List Nat) : Decidable (okN l) := by unfold okN; infer_instance
instance (l : List Nat) : Decidable (canN l) := by unfold canN; infer_instance
end Tx
namespace Tx
open PySem PyProof.Rows PySem.NumText
def FARL : List Nat := [102, 97, 114]
def shP (p : Int × Int) : List Nat := if p = (1, 0) then FARL else if p.2 = 1 then tx p.1 else tx p.1 ++ 47 :: tx p.2
def shC (m : Mx.Ch) : List Nat := jn 32 [tx m.a, tx m.b, tx m.c, tx m.d]
theorem len_list (x : Str) : x.length = x.cps.toList.length := (Array.length_toList).symm
end Tx
namespace Cs
open PySem PySem.Spec PyProof.Rows L2 L3 Mx Tx
def spShownP (K : PySem.W.Frag) : Sp := fun vs H Q _ => ∃ (v : V) (p : Int × Int), vs = [v] ∧ Tp K H v (pl p) ∧ GoodPt p ∧ BdPt 1000 p ∧ ∀ x H', Same H H' → x.cps.toList = shP p → Q (.str x) H'
def spShownC (K : PySem.W.Frag) : Sp := fun vs H Q _ => ∃ (v : V) (m : Ch), vs = [v] ∧ Tp K H v (cl m) ∧ GoodC m ∧ BdC 1000 m ∧ ∀ x H', Same H H' → x.cps.toList = shC m → Q (.str x) H'
theorem Bd.log {n : Int} (h : Bd 1900 n) : n.natAbs.log2 < 1920 := by
  by_cases h0 : n.natAbs = 0
  · rw [h0]; decide
  · exact Nat.lt_of_lt_of_le ((Nat.log2_lt h0).mpr h) (by decide)
theorem T_len {n : Int} (h : Bd 1900 n) : (T n).length ≤ 1921 := int_text_len_1921 (Bd.log h)
theorem str_mk {K : PySem.W.Frag} {h : Heap} {mg : Str → Option Value} {x : Str} {i : Str} {t : Tok} (X : K.In h) (G : h.Ns mainGlobals mg) (a : PySem.W.nsIn K mainGlobals x = some (some (.str i t))) : ∃ u, mg x = some u ∧ RelV (.str i) u :=
  ⟨_, PySem.W.mg_of X G a, ⟨_, rfl⟩⟩
end Cs
namespace Tx
open PySem PyProof.Rows PySem.NumText
end Tx
namespace L2
open PySem PySem.Spec PyProof.Rows
theorem ObjOk.there {P : Program} {w : World} {H : Hp} {h : Heap} {a : Addr} {o : HO} (x : ObjOk P w H h a o) : ∃ ob, h.get? a = some ob := by
  cases o with
  | lst xs => obtain ⟨_, _, _, _, e⟩ := x; exact ⟨_, e⟩
  | tup xs => obtain ⟨_, _, _, ob, e, _⟩ := x; exact ⟨_, e⟩
  | dK kvs => obtain ⟨_, _, _, _, o, _, _, e, _⟩ := x; exact ⟨_, e⟩
  | dT kvs => obtain ⟨_, _, _, _, o, _, _, e, _⟩ := x; exact ⟨_, e⟩
  | set S n => obtain ⟨o, _, _, _, e, _⟩ := x; exact ⟨_, e⟩
  | ins C dx fs => obtain ⟨_, _, _, e, _⟩ := x; exact ⟨_, e⟩
  | own y => exact x
  | xd fs => obtain ⟨mA, ⟨od, es, ep, e, c⟩, r⟩ := x; exact ⟨_, e⟩
  | rng lo hi => obtain ⟨t, u, v, e⟩ := x; exact ⟨_, e⟩
  | frz ob u => exact ⟨_, x.1⟩
  | tbl ps => exact ⟨_, x⟩
  | met f y => exact ⟨_, x⟩
  | ext φ => exact x.2.1
end L2
namespace L4
open PySem PySem.Spec PyProof.Rows L2 L3
structure Cover (fs : List Addr) (h : Heap) (H' : Hp) (B : Heap) : Prop where
  trk : ∀ b u, H' b = some u → ∃ o, B.get? b = some o
  old : ∀ b o, h.get? b = some o → b ∉ fs → ∃ o', B.get? b = some o'
theorem Cover.sub {fs fs' : List Addr} {h h1 : Heap} {H' : Hp} {B : Heap} (c : Cover fs h H' B) (k : ∀ b o, h1.get? b = some o → b ∉ fs' → (∃ o', h.get? b = some o') ∧ b ∉ fs) : Cover fs' h1 H' B :=
  ⟨c.trk, fun b o e n => by
    obtain ⟨⟨o', e'⟩, n'⟩ := k b o e n
    exact c.old b o' e' n'⟩
theorem un_fly {fs : List Addr} {H H1 : Hp} {h h1 h' B : Heap} (u : Un fs [] H H1 h h1) (hB : B.StaysIn h1) (hB' : B.StaysIn h') (c : Cover fs h H1 B) (sl : h1.UpToSlots h') (nf : ∀ b ∈ fs, ∀ o, h1.get? b = some o → ∀ vs, o.data ≠ .fields vs) : Un fs [] H H1 h h' where
  keep := fun b o e n hb _ => by
    have e1 := u.keep b o e n hb (by simp)
    obtain ⟨o', eB⟩ := c.old b o e hb
    have := hB b o' eB
    rw [e1] at this; cases this
    exact hB' b o eB
  slot := fun b o e n hb _ => by
    obtain ⟨s1, e1⟩ := u.slot b o e n hb (by simp)
    obtain ⟨s2, e2⟩ := sl b _ e1 (nf b hb _ e1)
    exact ⟨s2, e2⟩
  free := u.free
  there := fun b o e _ => by
    by_cases hb : b ∈ fs
    · obtain ⟨o1, e1⟩ := u.there b o e (by simp)
      obtain ⟨s2, e2⟩ := sl b _ e1 (nf b hb _ e1)
      exact ⟨_, e2⟩
    · obtain ⟨o', eB⟩ := c.old b o e hb
      exact ⟨o', hB' b o' eB⟩
  tups := u.tups
  frzs := u.frzs
  tbls := u.tbls
theorem hok_fly {P : Program} {w : World} {H1 : Hp} {h1 h' B : Heap} (x : HOk P w H1 h1) (hB : B.StaysIn h1) (hB' : B.StaysIn h') (t : ∀ b u, H1 b = some u → ∃ o, B.get? b = some o) : HOk P w H1 h' := fun a o e => by
  refine (x a o e).stay (fun b u hb q => ?_) (fun _ q => q) fun _ _ q => q
  have hH : ∃ u', H1 b = some u' := by
    rcases hb with rfl | hb
    · exact ⟨o, e⟩
    · exact ⟨_, hb⟩
  obtain ⟨u', hu⟩ := hH
  obtain ⟨o', eB⟩ := t b u' hu
  have := hB b o' eB
  rw [q] at this; cases this
  exact hB' b _ eB
structure Lies (P : Program) (w : World) (outer : List Env) (H : Hp) (s : Shared) (x C : Addr) (H' : Hp) (s' : Shared) : Prop where
  os : s'.os = s.os
  bare : AllBare s'.gens
  un : Un (frs outer) [] H H' s.heap s'.heap
  hok : HOk P w H' s'.heap
  fly : ∃ B a0, Heap.FlyingW B outer x (.ref C) a0 s'.heap ∧ Cover (frs outer) s.heap H' B
  free : H' x = none
  new : s.heap.get? x = none
def CXE (P : Program) (w : World) : CXT := fun outer H s E e s' => ∃ x C H', e = .ref x ∧ E (.ref C) none H' ∧ Lies P w outer H s x C H' s'
theorem funFrames_nf {h base : Heap} {l : List Env} (hl : h.FunFrames base l) : ∀ b ∈ frs l, ∀ o, h.get? b = some o → ∀ vs, o.data ≠ .fields vs := fun b hb o e => by
  obtain ⟨_, o', e', d⟩ := hl.mem hb
  rw [e] at e'; cases e'
  exact d
theorem funFrames_base {h base base' : Heap} : ∀ {l : List Env}, h.FunFrames base l → (∀ b ∈ frs l, base'.get? b = none) → h.FunFrames base' l
  | [], _, _ => trivial
  | env :: rest, ⟨hk, ⟨L, o, hf, hn, ho, hd⟩, hr⟩, k => by
    refine ⟨hk, ⟨L, o, hf, k L ?_, ho, hd⟩, funFrames_base hr fun b hb => k b ?_⟩
    · unfold frs; rw [List.filterMap_cons, hf]; exact List.mem_cons_self
    · unfold frs; rw [List.filterMap_cons, hf]; exact List.mem_cons_of_mem _ hb
section
variable {P : Program} {w : World} {K : PySem.W.Frag} {mg : Str → Option Value} {base : Heap} {N : List Str} {qual : Str} {scope : Scope} {f : Addr} {cd : Value} {A : Around} {outer : List Env} {s : Shared} {H : Hp} {E : XK}
theorem not_own {X : Cx} {pins : List (Addr × Obj)} {σ : L2.St} {H1 : Hp} {s1 : Shared} (I : Inv X pins σ H1 s1) {b : Addr} {o : Obj} (e : X.s₀.heap.get? b = some o) : b ≠ X.env.locals := fun z => by
  have h1 := Heap.lt_size e
  have h2 := I.ok.above
  rw [z] at h1
  exact Nat.lt_irrefl _ (Nat.lt_of_lt_of_le h1 h2)
theorem passes_cx : Passes (CXE P w) (cxOf (CXE P w) P w K mg base N qual scope f cd A outer s H E) E := by
  intro pins σ H1 s1 e s2 I h
  obtain ⟨x, C, H2, rfl, hE, L⟩ := h
  obtain ⟨B, a0, fl, cov⟩ := L.fly
  have hl : (envOfC qual scope s.heap.objs.size f cd).frame = some s.heap.objs.size := rfl
  have hfr : (A.deeper (envOfC qual scope s.heap.objs.size f cd)).frames = some (envOfC qual scope s.heap.objs.size f cd :: outer) := I.ok.frames
  refine wpAny_leaves_onW hfr hl fl fun h' fl' sl => ?_
  have sub : ∀ b o, s.heap.get? b = some o → b ∉ frs outer → (∃ o', s1.heap.get? b = some o') ∧ b ∉ frs (envOfC qual scope s.heap.objs.size f cd :: outer) := fun b o e n => by
    refine ⟨I.base.there b o e (by show b ∉ []; simp), ?_⟩
    show b ∉ List.filterMap _ _
    rw [List.filterMap_cons, hl]
    intro z
    rcases List.mem_cons.mp z with z | z
    · exact not_own I e z
    · exact n z
  have cov' : Cover (frs outer) s.heap H2 B := cov.sub sub
  have u1 : Un (frs outer) [] H H1 s.heap s1.heap := I.base
  have u2 : Un (frs outer) [] H1 H2 s1.heap s2.heap → True := fun _ => trivial
  refine ⟨x, C, H2, rfl, hE, ⟨(L.os.trans I.os), L.bare, ?_, hok_fly L.hok fl.1 fl'.1 cov.trk, ⟨B, a0, fl', cov'⟩, L.free, ?_⟩⟩
  · have u12 : Un (frs outer) [] H H2 s.heap s2.heap := by
      refine ⟨fun b o e n hb hx => ?_, fun b o e n hb hx => ?_, fun b o e n hx => ?_, fun b o e hx => ?_, fun b xs q => L.un.tups b xs (u1.tups b xs q), fun b o u q => L.un.frzs b o u (u1.frzs b o u q), fun b ps q => ?_⟩
      · exact L.un.keep b o (u1.keep b o e n hb hx) (u1.free b o e n hx) (sub b o e hb).2 (by simp)
      · obtain ⟨sl1, e1⟩ := u1.slot b o e n hb hx
        have hm : b ∈ frs (envOfC qual scope s.heap.objs.size f cd :: outer) := by
          show b ∈ List.filterMap _ _
          rw [List.filterMap_cons, hl]; exact List.mem_cons_of_mem _ hb
        obtain ⟨sl2, e2⟩ := L.un.slot b _ e1 (u1.free b o e n hx) hm (by simp)
        exact ⟨sl2, e2⟩
      · obtain ⟨o1, e1⟩ := u1.there b o e hx
        exact L.un.free b o1 e1 (u1.free b o e n hx) (by simp)
      · obtain ⟨o1, e1⟩ := u1.there b o e hx
        exact L.un.there b o1 e1 (by simp)
      · obtain ⟨m1, q1⟩ := u1.tbls b ps q
        obtain ⟨m2, q2⟩ := L.un.tbls b _ q1
        exact ⟨m1 ++ m2, by rw [q2, Array.append_assoc]⟩
    refine un_fly u12 fl.1 fl'.1 cov' sl fun b hb o e => ?_
    have hm : b ∈ frs (envOfC qual scope s.heap.objs.size f cd :: outer) := by
      show b ∈ List.filterMap _ _
      rw [List.filterMap_cons, hl]; exact List.mem_cons_of_mem _ hb
    exact funFrames_nf fl.2.2.1 b hm o e
  · cases q : s.heap.get? x with
    | none => rfl
    | some o =>
      obtain ⟨o1, e1⟩ := I.base.there x o q (by show x ∉ []; simp)
      rw [L.new] at e1; cases e1
theorem made_cx {pins : List (Addr × Obj)} {σ : L2.St} {H1 : Hp} {s1 : Shared} {h' : Heap} {x C : Addr} {args : List Value} {k : Nat} (I : Inv (cxOf (CXE P w) P w K mg base N qual scope f cd A outer s H E) pins σ H1 s1) (hE : E (.ref C) none H1) (hx : Heap.MadeExcOf s1.heap h' x (.ref C) args) :
    (cxOf (CXE P w) P w K mg base N qual scope f cd A outer s H E).xe (.ref x) { s1 with heap := h', toks := k } := by
  have hl : (envOfC qual scope s.heap.objs.size f cd).frame = some s.heap.objs.size := rfl
  have hfr : (A.deeper (envOfC qual scope s.heap.objs.size f cd)).frames = some (envOfC qual scope s.heap.objs.size f cd :: outer) := I.ok.frames
  have efs : frs (envOfC qual scope s.heap.objs.size f cd :: outer) = s.heap.objs.size :: frs outer := by
    show List.filterMap _ _ = _
    rw [List.filterMap_cons, hl]; rfl
  obtain ⟨B, hB⟩ : ∃ B, B = PySem.W.hideAll s1.heap (frs (envOfC qual scope s.heap.objs.size f cd :: outer)) := ⟨_, rfl⟩
  have stays : B.StaysIn s1.heap := fun b o e => by rw [hB] at e; exact PySem.W.of_hideAll _ e
  have ff : s1.heap.FunFrames B (envOfC qual scope s.heap.objs.size f cd :: outer) := funFrames_base I.stack fun b hb => by rw [hB]; exact PySem.W.hideAll_none _ hb
  have getB : ∀ {b o}, s1.heap.get? b = some o → b ∉ frs (envOfC qual scope s.heap.objs.size f cd :: outer) → B.get? b = some o := fun {b o} e n => by rw [hB]; exact PySem.W.hideAll_get _ e n
  refine wpAny_leaves_madeW (s := { s1 with heap := h', toks := k }) hfr hl stays ff hx fun h'' t fl' _ _ sl => ?_
  have trk : ∀ b u, H1 b = some u → ∃ o, B.get? b = some o := fun b u q => by
    have hlt := (I.hok b u q).lt
    have ex : ∃ o, s1.heap.get? b = some o := by
      cases e : s1.heap.get? b with
      | some o => exact ⟨o, rfl⟩
      | none =>
        exfalso
        have z := I.hok b u q
        have := ObjOk.there z
        obtain ⟨o, e'⟩ := this
        rw [e] at e'; cases e'
    obtain ⟨o, e⟩ := ex
    refine ⟨o, getB e fun hb => ?_⟩
    have := I.stkFree b hb
    rw [q] at this; cases this
  have cov : Cover (frs outer) s.heap H1 B := ⟨trk, fun b o e n => by
    obtain ⟨o1, e1⟩ := I.base.there b o e (by show b ∉ []; simp)
    refine ⟨o1, getB e1 ?_⟩
    rw [efs]
    intro z
    rcases List.mem_cons.mp z with z | z
    · exact not_own I e z
    · exact n z⟩
  have keep1 : B.StaysIn h' := fun b o e => hx.keeps b o (stays b o e)
  have u1 : Un (frs outer) [] H H1 s.heap s1.heap := I.base
  have u2 : Un (frs outer) [] H H1 s.heap h' := u1.trans (Un.kept fun b o e => hx.keeps b o e)
  refine ⟨x, C, H1, rfl, hE, ⟨I.os, I.bare, un_fly u2 keep1 fl'.1 cov sl (fun b hb o e => ?_), hok_fly (I.hok.kept fun b o e => hx.keeps b o e) keep1 fl'.1 trk, ⟨B, _, fl', cov⟩, ?_, ?_⟩⟩
  · have hm : b ∈ frs (envOfC qual scope s.heap.objs.size f cd :: outer) := by rw [efs]; exact List.mem_cons_of_mem _ hb
    obtain ⟨_, o', e', d⟩ := ff.mem hm
    have := hx.keeps b o' e'
    rw [e] at this; cases this
    exact d
  · cases q : H1 x with
    | none => rfl
    | some u =>
      obtain ⟨o, e⟩ := ObjOk.there (I.hok x u q)
      rw [hx.new] at e; cases e
  · cases q : s.heap.get? x with
    | none => rfl
    | some o =>
      obtain ⟨o1, e1⟩ := I.base.there x o q (by show x ∉ []; simp)
      rw [hx.new] at e1; cases e1
end
end L4
namespace L4
open PySem PySem.Spec PyProof.Rows L2 L3
abbrev VE : List Value := [.type "ValueError", .type "Exception", .type "BaseException", .type "object"]
theorem own_in {K : PySem.W.Frag} {h : Heap} {mg : Str → Option Value} {x : Str} {C : Addr} (X : K.In h) (b : mg x = some (.ref C)) (q : PySem.W.excIn K C VE "ValueError.__new__" = true) : OwnCls x C VE "ValueError.__new__" mg h := by
  refine ⟨b, ?_⟩
  unfold PySem.W.excIn at q
  split at q
  case h_2 => cases q
  rename_i d1 cdat slts look
  split at q
  case h_2 => cases q
  rename_i C1 mro1 a0 a1 a2 a3 n1 a5 em es
  simp only [Bool.and_eq_true, beq_iff_eq, Bool.not_eq_true'] at q
  obtain ⟨⟨⟨⟨⟨e1, e2⟩, e3⟩, e4⟩, e5⟩, e6⟩ := q
  subst e1 e2
  obtain ⟨c1, c2, c3, c4, c5, c6, c7, c8, c9, c10, c11⟩ := cdat
  dsimp only at em e3 e5 e6
  subst em e3
  have esl : slts = #[a0, a1, a2, a3, some (.builtin "ValueError.__new__"), a5] := by
    cases slts
    dsimp only at es
    rw [es]
  subst esl
  exact ⟨mro1, c4, c1, c5, c2, c6, c7, c8, c9, c10, d1, a0, a1, a2, a3, a5, _, X _ _ look, .of_isNs (PySem.W.isNs_of_in X e5), PySem.W.nsMap_none_of_in X e5 e6, PySem.W.tail_of_in X e4⟩
structure OwnX (K : PySem.W.Frag) (mg : Str → Option Value) (x : Str) (C : Addr) : Prop where
  bound : mg x = some (.ref C)
  exc : PySem.W.excIn K C VE "ValueError.__new__" = true
theorem OwnX.cls {K : PySem.W.Frag} {mg : Str → Option Value} {x : Str} {C : Addr} (O : OwnX K mg x C) {h : Heap} (X : K.In h) : OwnCls x C VE "ValueError.__new__" mg h := own_in X O.bound O.exc
def tRaise (C : Addr) (E : XK) (ta : TA) : TS := fun _ σ H => ta σ H fun vs H1 => vs.length = 1 ∧ E (.ref C) none H1
def MadeOk (X : Cx) (E : XK) : Prop := ∀ (pins : List (Addr × Obj)) (σ : L2.St) (H : Hp) (s : Shared) (h' : Heap) (y C : Addr) (args : List Value), Inv X pins σ H s → E (.ref C) none H → Heap.MadeExcOf s.heap h' y (.ref C) args → X.xe (.ref y) { s with heap := h' }
section
variable {X : Cx}
theorem tail_base {h : Heap} {bm : List Value} (T : OwnTail h VE bm) : bm.contains (.type "BaseException") = true := by
  rw [T.hasType (by decide : VE.contains (.type "BaseException") = true)]
theorem ps_raise {C : Addr} {x : Str} {np cpos pos : Pos} {e : Expr} {ta : TA} {E : XK} (hc : X.calm = true) (hm : MadeOk X E) (O : OwnX X.K X.mg x C) (hg : Gl X x) (ha : PA X [e] ta) (hd : (x == ("__debug__" : Str)) = false := by decide)
    (hs : starEach [e] X.env = [(false, eval e X.env)] := by rfl) :
    PS X (.Raise (some (.Call (.Name x np) [e] [] cpos)) none pos) (tRaise C E ta) := by
  intro pins s σ H D I h
  obtain ⟨bm, N, nm, q, bs, hdct, sn, sub, ab, col, dd, k0, k1, k2, k3, k5, mN, hC, hN, hni, T⟩ := (O.cls I.ok.mod.kin).obj
  refine wpAny_Raise_call_subU (C := C) (nm := nm) (q := q) (N := N) (bs := bs) (bm := bm) (hdct := hdct) (sn := sn) (sub := sub) (ab := ab) (col := col) (dd := dd) (k0 := k0) (k1 := k1) (k2 := k2) (k3 := k3) (k5 := k5) (mN := mN) PySem.F.excBase_ValueError (by decide) PySem.F.excBase_ValueError (tail_base T) (I.ok.hd hc) (by rw [hs]; rfl) hni ?_
  refine thn (pe_glob (v := .ref C) hg O.bound rfl hd pins s σ H (fun v H1 => v = .ref C ∧ ta σ H1 fun vs H2 => vs.length = 1 ∧ E (.ref C) none H2) I ⟨rfl, h⟩) fun u s1 ⟨v, H1, I1, r1, ev, q1⟩ => ?_
  subst ev
  cases r1
  refine ⟨rfl, ?_⟩
  have hA := ha cpos pins s1 σ H1 _ I1 q1
  rw [hs] at hA ⊢
  refine Calls.evalArgs_plain (thn hA fun us s2 ⟨vs, H2, I2, r2, hlen, q2⟩ => ?_)
  refine ⟨rfl, ?_, I2.bk _ _ hC, hN.keeps I2.bk, T.keeps I2.bk, fun h' y hy => hm pins σ H2 s2 h' y C us I2 q2 hy⟩
  show us.length ≤ sizeLine
  rw [← r2.length, hlen]; decide
end
end L4
namespace L4
open PySem PySem.Spec PyProof.Rows L2 L3
structure CalX (P : Program) (w : World) (K : PySem.W.Frag) (mg : Str → Option Value) (base : Heap) (k : Nat) (x : Str) (ps : List Str) (sp : Sp) : Prop where
  ex : ∃ f : Addr, PySem.W.keepIn K (.ref f) = true ∧ mg x = some (.ref f) ∧ (∀ vs H Q E, sp vs H Q E → vs.length = ps.length) ∧
    ∀ (A : Around) (outer : List Env) (s : Shared) (H : Hp) (us : List Value) (vs : List V) (Q : VK) (E : XK), Room k A → Env0 P w K mg base A outer s H → Vals vs us → sp vs H Q E →
      codeAny (model P w) A (.call (.ref f) ⟨us, []⟩) (CR (CXE P w) outer P w H s Q E) s
section
variable {P : Program} {w : World} {K : PySem.W.Frag} {mg : Str → Option Value} {base : Heap} {k : Nat} {x : Str} {ps : List Str} {sp sp' : Sp}
theorem CalX.mono {j : Nat} (c : CalX P w K mg base j x ps sp) (h : j ≤ k) : CalX P w K mg base k x ps sp := by
  obtain ⟨f, kp, m, l, run⟩ := c.ex
  exact ⟨f, kp, m, l, fun A outer s H us vs Q E hr e r q => run A outer s H us vs Q E (hr.mono h) e r q⟩
theorem cr_lift {outer : List Env} {H : Hp} {s : Shared} {Q : VK} {E : XK} {r : Result} {s' : Shared} (h : CR CX0 outer P w H s Q E r s') : CR (CXE P w) outer P w H s Q E r s' := by
  cases r with
  | error e => exact False.elim h
  | ok fl => cases fl <;> exact h
theorem CalX.of (c : Cal P w K mg base k x ps sp) : CalX P w K mg base k x ps sp := by
  obtain ⟨f, fd, F, b, kp, m⟩ := c.ex
  refine ⟨f, kp, m, F.len, fun A outer s H us vs Q E hr e r q => ?_⟩
  have kin : K.In s.heap := e.mod.kin.keeps fun b o z => (e.bs b o z).1
  have hl : (us ++ []).length = ps.length := by rw [List.append_nil, ← r.length]; exact F.len _ _ _ _ q
  have hb := b s us kin hl
  rw [List.append_nil] at hb
  exact codeAny_mono (F.run A outer s H ⟨us, []⟩ us vs Q E hr e hb r q) fun r s' z => cr_lift z
theorem CalX.or (a : CalX P w K mg base k x ps sp) (b : CalX P w K mg base k x ps sp') : CalX P w K mg base k x ps (fun vs H Q E => sp vs H Q E ∨ sp' vs H Q E) := by
  obtain ⟨f, kp, m, l, run⟩ := a.ex
  obtain ⟨f', kp', m', l', run'⟩ := b.ex
  rw [m] at m'; cases m'
  refine ⟨f, kp, m, fun vs H Q E q => ?_, fun A outer s H us vs Q E hr e r q => ?_⟩
  · rcases q with q | q
    · exact l vs H Q E q
    · exact l' vs H Q E q
  · rcases q with q | q
    · exact run A outer s H us vs Q E hr e r q
    · exact run' A outer s H us vs Q E hr e r q
theorem made_ok {N : List Str} {qual : Str} {scope : Scope} {f : Addr} {cd : Value} {A : Around} {outer : List Env} {s : Shared} {H : Hp} {E : XK} : MadeOk (cxOf (CXE P w) P w K mg base N qual scope f cd A outer s H E) E :=
  fun _ _ _ s1 _ _ _ _ I hE hx => made_cx (k := s1.toks) I hE hx
theorem _root_.L3.Def.calX {st : Stmt} {N : List Str} (F : Def K mg x st ps) (S : FnScope N ps (defScope st)) (len : ∀ vs H Q E, sp vs H Q E → vs.length = ps.length)
    (hbody : ∀ (f : Addr) (cdv : Value) (A : Around) (outer : List Env) (s : Shared) (H : Hp) (vs : List V) (Q : VK) (E : XK), Room k (A.deeper (envOfC x (defScope st) s.heap.objs.size f cdv)) → sp vs H Q E →
      ∃ t, PSs (cxOf (CXE P w) P w K mg base N x (defScope st) f cdv A outer s H E) (defBody st) t ∧ t { nx := fun _ H' => Q .non H', rt := Q } (start N vs) H) : CalX P w K mg base (k + 1) x ps sp := by
  obtain ⟨f, fd, Fn, hm, hb⟩ := F.ex
  have kp := Fn.kp
  obtain ⟨oc, od, kV, doc, pm, an, cdv, ct, osl, rfl, lk, hcd⟩ := Fn.ex
  have ok := fn_of (CX := CXE P w) (P := P) (w := w) (mg := mg) (base := base) lk hcd S len fun A outer s H vs Q E hr hsp => hbody f cdv A outer s H vs Q E hr hsp
  refine ⟨f, kp, hm, len, fun A outer s H us vs Q E hr e r q => ?_⟩
  have kin : K.In s.heap := e.mod.kin.keeps fun b o z => (e.bs b o z).1
  have hl : (us ++ []).length = ps.length := by rw [List.append_nil, ← r.length]; exact len _ _ _ _ q
  have hbb := hb s us kin hl
  rw [List.append_nil] at hbb
  exact ok.run A outer s H ⟨us, []⟩ us vs Q E hr e hbb r q
end
section
variable {X : Cx} {k : Nat} {x : Str} {ps : List Str} {sp : Sp} {E : XK} {e : Expr} {es : List Expr} {t : TA} {p pos : Pos}
theorem pe_callX (C : CalX X.prog X.w X.K X.mg X.base k x ps sp) (hr : Room k X.A) (hx : Passes (CXE X.prog X.w) X E) (ha : PA X (e :: es) t) (hg : Gl X x := by rfl) (hdb : (x == ("__debug__" : Str)) = false := by decide)
    (he : starEach (e :: es) X.env = (false, eval e X.env) :: starEach es X.env := by rfl) (hpl : (backTo pos (starEach es X.env)).any (·.1) = false := by rfl) :
    PE X (.Call (.Name x p) (e :: es) [] pos) (tCall sp [] E t) := by
  obtain ⟨f, kp, m, l, run⟩ := C.ex
  intro pins s σ H Q I h
  refine wpAny_Call_Name_kw (ld_glob I hg m ?_ hdb)
  refine PySem.W.callWith_K (h₀ := X.base) I.ok.mod.kin kp (thn (ha pos pins s σ H _ I h) fun us s1 ⟨vs, H1, I1, r, q⟩ => ⟨I1.kIn, ?_⟩) he hpl
  have q' : sp vs H1 Q E := by
    have z : sp (vs ++ []) H1 Q E := q
    rwa [List.append_nil] at z
  refine wpAny_call (codeAny_mono (run X.A X.stack s1 H1 us vs Q E hr I1.env0 r q') fun r s' hq => ?_)
  cases r with
  | error e => exact hx pins σ H1 s1 e s' I1 hq
  | ok fl =>
    cases fl with
    | ret u => exact I1.after hq
    | next => exact False.elim hq
    | brk => exact False.elim hq
    | cont => exact False.elim hq
end
end L4
namespace L4
open PySem PySem.Spec PyProof.Rows L2 L3
abbrev tried (X : Cx) (pn : List (Addr × Obj)) (E : Value → Shared → Prop) : Cx := { X with pn := pn, xe := E }
abbrev hand (X : Cx) (pn : List (Addr × Obj)) (x : Addr) : Cx := { X with A := X.A.mark (some (.ref x)), calm := false, pn := pn, xe := fun _ _ => False }
def excO (x C : Addr) : HO := .ext fun h => ∃ o vs, h.get? x = some o ∧ o.cls = .ref C ∧ o.data = .fields vs
section
variable {X : Cx} {pins pins' : List (Addr × Obj)} {σ : L2.St} {H : Hp} {s : Shared} {E : Value → Shared → Prop}
theorem inv_tried (I : Inv X pins σ H s) : Inv (tried X (X.pn ++ pins) E) [] σ H s := by
  have ok := I.ok
  refine ⟨⟨ok.mod, ok.kind, ok.glob, ok.blt, ok.above, ok.inj, ok.has, ok.cab, ok.hd, ok.frames, ok.stk, ok.exf, ok.bs, ok.bsz, ok.noex, ok.exfs, ok.funs, ok.frf⟩, I.os, I.bare, I.base, I.loc, I.cell, I.free, I.freeC, fun p hp => ?_, I.hok, I.len⟩
  have hp' : p ∈ (X.pn ++ pins) ++ [] := hp
  rw [List.append_nil] at hp'
  exact I.pin p hp'
theorem inv_untried (I : Inv (tried X (X.pn ++ pins) E) pins' σ H s) : Inv X pins σ H s := by
  have ok := I.ok
  refine ⟨⟨ok.mod, ok.kind, ok.glob, ok.blt, ok.above, ok.inj, ok.has, ok.cab, ok.hd, ok.frames, ok.stk, ok.exf, ok.bs, ok.bsz, ok.noex, ok.exfs, ok.funs, ok.frf⟩, I.os, I.bare, I.base, I.loc, I.cell, I.free, I.freeC, fun p hp => ?_, I.hok, I.len⟩
  exact I.pin p (List.mem_append_left _ hp)
theorem inv_hand {x : Addr} (I : Inv X pins σ H s) : Inv (hand X (X.pn ++ pins) x) [] σ H s := by
  have ok := I.ok
  refine ⟨⟨ok.mod, ok.kind, ok.glob, ok.blt, ok.above, ok.inj, ok.has, ok.cab, fun z => (by cases z), ok.frames, ok.stk, ok.exf, ok.bs, ok.bsz, ok.noex, ok.exfs, ok.funs, ok.frf⟩, I.os, I.bare, I.base, I.loc, I.cell, I.free, I.freeC, fun p hp => ?_, I.hok, I.len⟩
  have hp' : p ∈ (X.pn ++ pins) ++ [] := hp
  rw [List.append_nil] at hp'
  exact I.pin p hp'
theorem inv_unhand {x : Addr} (okX : X.Ok) (I : Inv (hand X (X.pn ++ pins) x) pins' σ H s) : Inv X pins σ H s := by
  refine ⟨okX, I.os, I.bare, I.base, I.loc, I.cell, I.free, I.freeC, fun p hp => ?_, I.hok, I.len⟩
  exact I.pin p (List.mem_append_left _ hp)
theorem inv_track {x C : Addr} (I : Inv X pins σ H s) (hn : H x = none) (h0 : X.s₀.heap.get? x = none) (hx : x ≠ X.env.locals) (hc : ∀ y c, X.env.cells.lookup y = some c → c ≠ x) (hp : ∀ p ∈ X.pn ++ pins, p.1 ≠ x)
    (ho : ∃ o vs, s.heap.get? x = some o ∧ o.cls = .ref C ∧ o.data = .fields vs) : Inv X pins σ (upd H x (excO x C)) s := by
  have nx : ∀ b u, H b = some u → b ≠ x := fun b u e z => by rw [z, hn] at e; cases e
  refine ⟨I.ok, I.os, I.bare, ⟨I.base.keep, I.base.slot, fun b o e n hb => ?_, I.base.there, fun b xs e => ?_, fun b o u e => ?_, fun b ps e => ?_⟩, I.loc, I.cell, ?_, fun y c e => ?_, fun p hpp => ?_, fun b u e => ?_, I.len⟩
  · have : b ≠ x := fun z => by rw [z, h0] at e; cases e
    rw [upd_ne this]; exact I.base.free b o e n hb
  · have := I.base.tups b xs e
    rw [upd_ne (nx b _ this)]; exact this
  · have := I.base.frzs b o u e
    rw [upd_ne (nx b _ this)]; exact this
  · obtain ⟨more, q⟩ := I.base.tbls b ps e
    exact ⟨more, by rw [upd_ne (nx b _ q)]; exact q⟩
  · rw [upd_ne hx.symm]; exact I.free
  · rw [upd_ne (hc y c e)]; exact I.freeC y c e
  · obtain ⟨e1, e2, e3, e4, e5⟩ := I.pin p hpp
    exact ⟨e1, by rw [upd_ne (hp p hpp)]; exact e2, e3, e4, e5⟩
  · by_cases hb : b = x
    · subst hb
      rw [upd_same] at e
      cases e
      obtain ⟨o, vs, e1, e2, e3⟩ := ho
      exact ⟨⟨o, vs, e1, e2, e3⟩, ⟨o, e1⟩, fun h1 h2 ⟨o, vs, a1, a2, a3⟩ k => ⟨o, vs, k o a1, a2, a3⟩⟩
    · rw [upd_ne hb] at e
      exact (I.hok b u e).stay (fun _ _ _ q => q) (fun c q => by rw [upd_ne (nx c _ q)]; exact q) fun c xs q => by rw [upd_ne (nx c _ q)]; exact q
theorem inv_forget {i : Nat} {n : Str} {m : Str → Option Value} {v : Option Value} {h' : Heap} {t : Nat} (I : Inv X pins σ H s) (hN : X.N.Nodup) (hi : X.N[i]? = some n) (hm : s.heap.Ns X.env.locals m)
    (hl : ∀ (j : Nat) (y : Str) (v' : V), X.N[j]? = some y → σ[j]? = some (some v') → Vis X.env.scope y → ∃ u, RelV v' u ∧ Look X.env s.heap m y u)
    (hn : h'.Ns X.env.locals (fun y => if y = n then v else m y)) (hs : Heap.SameBut X.env.locals s.heap h') : Inv X pins (σ.set i none) H { s with heap := h', toks := t } := by
  have cne := I.cne
  obtain ⟨oL, _, _, hoL, _⟩ := id hm
  have ne0 : ∀ {b o}, X.s₀.heap.get? b = some o → b ≠ X.env.locals := fun {b o} e => Nat.ne_of_lt (Nat.lt_of_lt_of_le (Heap.lt_size e) I.ok.above)
  have hiσ : i < σ.length := by rw [I.len]; exact (List.getElem?_eq_some_iff.mp hi).1
  refine ⟨I.ok, I.os, I.bare, ⟨fun b o e n hb hx => ?_, fun b o e n hb hx => ?_, I.base.free, fun b o e hx => ?_, I.base.tups, I.base.frzs, I.base.tbls⟩, ⟨_, hn, fun j y v' e1 e2 e3 => ?_⟩, fun y c e => ?_, I.free, I.freeC, fun p hp => ?_, fun b ob e => ?_, by simpa using I.len⟩
  · exact (hs.2 b (ne0 e)).trans (I.base.keep b o e n hb hx)
  · obtain ⟨sl, q⟩ := I.base.slot b o e n hb hx
    exact ⟨sl, (hs.2 b (ne0 e)).trans q⟩
  · obtain ⟨o', q⟩ := I.base.there b o e hx
    exact ⟨o', (hs.2 b (ne0 e)).trans q⟩
  · by_cases hj : j = i
    · subst hj
      rw [List.getElem?_set_self hiσ] at e2
      cases e2
    · rw [List.getElem?_set_ne (Ne.symm hj)] at e2
      obtain ⟨u', r', q⟩ := hl j y v' e1 e2 e3
      refine ⟨u', r', ?_⟩
      rcases q with ⟨k, e⟩ | ⟨k, c, e, z⟩
      · have : y ≠ n := fun e => hj (nodup_ix hN e1 (e ▸ hi))
        exact .inl ⟨k, by simp [this, e]⟩
      · exact .inr ⟨k, c, e, z.sameBut hs (cne y c e)⟩
  · obtain ⟨w', z⟩ := I.cell y c e
    exact ⟨w', z.sameBut hs (cne y c e)⟩
  · obtain ⟨e, n, ne, nf, d⟩ := I.pin p hp
    exact ⟨(hs.2 p.1 ne).trans e, n, ne, nf, d⟩
  · refine (I.hok b ob e).stay (fun c w' hc q => (hs.2 c ?_).trans q) (fun _ q => q) fun _ _ q => q
    rintro rfl
    rcases hc with rfl | hc
    · rw [I.free] at e; cases e
    · rw [I.free] at hc; cases hc
end
def tTry (i n : Nat) (Fit : Addr → Prop) (tb : XK → TS) (th : TS) : TS := fun D σ H => ∃ Ec : XK, tb Ec D σ H ∧ ∀ Cv d H', Ec Cv d H' → ∃ C, Cv = .ref C ∧ Fit C ∧ ∀ x, H' x = none →
  th { nx := fun σ' H'' => D.nx (σ'.set i none) H'', rt := D.rt, bk := fun σ' H'' => D.bk (σ'.set i none) H'', ct := fun σ' H'' => D.ct (σ'.set i none) H'' } ((List.replicate n none).set i (some (.ref x))) (upd H' x (excO x C))
section
variable {X : Cx}
theorem ps_try (hex : X.ex = []) {body suite : List Stmt} {b0 : Stmt} {i : Nat} {n cn : Str} {CL : Addr} {cp hp pos : Pos} {tb : XK → TS} {th : TS} (hst : X.stack = X.env :: X.outer ∧ X.env.frame = some X.env.locals) (hN : X.N.Nodup) (hi : X.N[i]? = some n)
    (hloc : X.env.scope.names.lookup n = some .local) (hg : Gl X cn) (hm : X.mg cn = some (.ref CL)) (hb : ∀ pn Ec E', Passes (CXE X.prog X.w) (tried X pn E') Ec → PSs (tried X pn E') body (tb Ec)) (hh : ∀ pn x, PSs (hand X pn x) (b0 :: suite) th)
    (hd : (cn == ("__debug__" : Str)) = false := by decide) :
    PS X (.Try body [.ExceptHandler (some (.Name cn cp)) (some n) (b0 :: suite) hp] [] [] pos) (tTry i X.N.length (fun C => PySem.W.exmOne X.K (.ref C) (.ref CL) = some true) tb th) := by
  intro pins s σ H D I h
  obtain ⟨Ec, hbody, hcat⟩ := h
  refine wpAny_Try_except ?_
  have okX := I.ok
  have hfr : X.A.frames = some (X.env :: X.outer) := by rw [I.ok.frames, hst.1]
  have hkind : X.env.kindOf n = some .local := hloc
  have hcls : (X.env.scope.kind == .class || (X.env.scope.kind == .module && X.env.locals != X.env.globals)) = false := by rw [I.ok.kind]; rfl
  obtain ⟨Et, hEt⟩ : ∃ Et : Value → Shared → Prop, Et = fun e s₁ => wpAny (model X.prog X.w) X.A (noteFrame e X.env) (fun _ s₂ => wpAny (model X.prog X.w) X.A (setFlight e none) (fun _ s₃ => wpAny (model X.prog X.w) X.A (handleBy e X.env [.ExceptHandler (some (.Name cn cp)) (some n) (b0 :: suite) hp]) (SP X pins D) X.xe s₃) X.xe s₂) X.xe s₁ := ⟨_, rfl⟩
  have pass : Passes (CXE X.prog X.w) (tried X (X.pn ++ pins) Et) Ec := by
    intro pins' σ' H1 s1 e s2 I1 hcx
    obtain ⟨x, C, H2, rfl, hE, L⟩ := hcx
    obtain ⟨B, a0, fl, cov⟩ := L.fly
    obtain ⟨C', eC, hOk, hth⟩ := hcat _ _ _ hE
    cases eC
    show Et (.ref x) s2
    rw [hEt]
    have stk : (tried X (X.pn ++ pins) Et).stack = X.env :: X.outer := hst.1
    have fl0 : Heap.FlyingW B (X.env :: X.outer) x (.ref C) a0 s2.heap := by rw [← stk]; exact fl
    refine wpAny_looks_onW hfr hst.2 fl0 fun h1 held sl1 => ?_
    refine wpAny_landsW held fun h2 fl2 sl2 => ?_
    have up := sl1.trans sl2
    have nf := funFrames_nf fl.2.2.1
    have un3 := un_fly L.un fl.1 fl2.1 cov up nf
    have hok3 := hok_fly L.hok fl.1 fl2.1 cov.trk
    have I3 : Inv (tried X (X.pn ++ pins) Et) pins' σ' H2 { s2 with heap := h2 } := I1.call' (s' := { s2 with heap := h2 }) L.os un3 hok3 L.bare (fun b z => absurd z (by simp))
    have J3 := inv_hand (x := x) (inv_untried I3)
    refine wpAny_handleBy_cons (codeAny_handlers_test (ld_glob J3 hg hm ?_ hd)) (by intro q; cases q)
    obtain ⟨oe, he, hce⟩ := fl2.there
    have LT : PySem.W.Looks (model X.prog X.w) h2 (typeOf (.ref x)) (.ref C) := hce ▸ (PySem.W.Looks.ld he).andThen .now
    refine (PySem.W.exm_one (M := model X.prog X.w) J3.kIn LT hOk).here ?_
    show codeAny _ _ _ _ _
    refine codeAny_handlers_suite_as ?_
    refine wpAny_setFlight_noneW fl2.1 fl2.2.2.1 fl2.2.2.2 fun h4 st4 ff4 tr4 k4 => ?_
    have up4 : h2.UpToSlots h4 := fun b o e z => ⟨o.slots, k4 b o e z⟩
    have un4 := un_fly L.un fl.1 st4 cov (up.trans up4) nf
    have hok4 := hok_fly L.hok fl.1 st4 cov.trk
    have I4 : Inv (tried X (X.pn ++ pins) Et) pins' σ' H2 { s2 with heap := h4 } := I1.call' (s' := { s2 with heap := h4 }) L.os un4 hok4 L.bare (fun b z => absurd z (by simp))
    have s1x : s1.heap.get? x = none := L.new
    have x0 : X.s₀.heap.get? x = none := by
      cases q : X.s₀.heap.get? x with
      | none => rfl
      | some o =>
        obtain ⟨o', e1⟩ := I1.base.there x o q (by show x ∉ X.ex; rw [hex]; simp)
        rw [s1x] at e1; cases e1
    have xl : x ≠ X.env.locals := fun z => by
      obtain ⟨m, hn, _⟩ := I1.loc
      obtain ⟨o, _, _, e, _⟩ := hn
      have e' : s1.heap.get? X.env.locals = some o := e
      rw [← z, s1x] at e'; cases e'
    have xc : ∀ y c, X.env.cells.lookup y = some c → c ≠ x := fun y c e z => by
      obtain ⟨v, o, e1, _⟩ := I1.cell y c e
      rw [z, s1x] at e1; cases e1
    have xp : ∀ p ∈ X.pn ++ pins, p.1 ≠ x := fun p hp z => by
      obtain ⟨e1, _⟩ := I1.pin p (List.mem_append_left _ hp)
      rw [z, s1x] at e1; cases e1
    obtain ⟨oe4, vs4, T4, oT4, ts4, he4, ⟨hc4, _⟩, hd4, _⟩ := tr4
    have J4 := inv_track (C := C) (inv_untried I4) L.free x0 xl xc xp ⟨oe4, vs4, he4, hc4, hd4⟩
    have J5 := inv_hand (x := x) J4
    refine store_ok2 (X := hand X (X.pn ++ pins) x) J5 hN hi (.inl hloc) (v := .ref x) (u := .ref x) rfl (fun s5 J6 _ => ?_) (.inr hloc)
    have J7 : Inv (hand X (X.pn ++ pins) x) [] ((List.replicate X.N.length none).set i (some (.ref x))) (upd H2 x (excO x C)) s5 := by
      refine J6.weak ?_ fun j v e => ?_
      · have := J6.len
        rw [List.length_set, List.length_replicate]
        exact this.symm
      · by_cases hj : j = i
        · subst hj
          have hlt : j < (List.replicate X.N.length (none : Option V)).length := by rw [List.length_replicate]; exact (List.getElem?_eq_some_iff.mp hi).1
          rw [List.getElem?_set_self hlt] at e
          cases e
          have hlt2 : j < σ'.length := by
            have : σ'.length = X.N.length := I1.len
            rw [this]; exact (List.getElem?_eq_some_iff.mp hi).1
          rw [List.getElem?_set_self hlt2]
        · rw [List.getElem?_set_ne (Ne.symm hj), List.getElem?_replicate] at e
          split at e <;> cases e
    refine wpAny_mono (hh (X.pn ++ pins) x [] s5 _ _ _ J7 (hth x L.free)) (fun fl6 s6 hs6 => ?_) (fun _ _ z => z.elim)
    have goes : ∀ {σ6 : L2.St} {H6 : Hp}, Inv (hand X (X.pn ++ pins) x) [] σ6 H6 s6 → (∀ s7, Inv X pins (σ6.set i none) H6 s7 → SP X pins D fl6 s7) →
        wpAny (model X.prog X.w) X.A (do bindName X.env n .none; unbindBehindTheSuite X.env n hp) (fun _ s₃ => SP X pins D fl6 s₃) X.xe s6 := fun {σ6 H6} K6 k => by
      obtain ⟨m, hn6, hl6⟩ := K6.loc
      exact wpAny_nameGoes_keeps hkind hn6 hcls fun h7 v hn7 hs7 => k _ (inv_forget (inv_unhand okX K6) hN hi hn6 hl6 hn7 hs7)
    cases fl6 with
    | next =>
      obtain ⟨σ6, H6, K6, q6⟩ := hs6
      exact goes K6 fun s7 I7 => ⟨_, H6, I7, q6⟩
    | brk =>
      obtain ⟨σ6, H6, K6, q6⟩ := hs6
      exact goes K6 fun s7 I7 => ⟨_, H6, I7, q6⟩
    | cont =>
      obtain ⟨σ6, H6, K6, q6⟩ := hs6
      exact goes K6 fun s7 I7 => ⟨_, H6, I7, q6⟩
    | ret u =>
      obtain ⟨v, σ6, H6, K6, r6, q6⟩ := hs6
      exact goes K6 fun s7 I7 => ⟨v, _, H6, I7, r6, q6⟩
  rw [← hEt]
  refine thn (hb (X.pn ++ pins) Ec Et pass [] s σ H D (inv_tried I) hbody) fun f s1 h1 => ?_
  cases f with
  | next =>
    obtain ⟨σ1, H1, K1, q1⟩ := h1
    exact wpAny_execs_nil ⟨σ1, H1, inv_untried K1, q1⟩
  | brk =>
    obtain ⟨σ1, H1, K1, q1⟩ := h1
    exact ⟨σ1, H1, inv_untried K1, q1⟩
  | cont =>
    obtain ⟨σ1, H1, K1, q1⟩ := h1
    exact ⟨σ1, H1, inv_untried K1, q1⟩
  | ret u =>
    obtain ⟨v, σ1, H1, K1, r1, q1⟩ := h1
    exact ⟨v, σ1, H1, inv_untried K1, r1, q1⟩
end
end L4
namespace L4
open PySem PySem.Spec PyProof.Rows L2 L3
structure ExcC (K : PySem.W.Frag) (C : Addr) : Prop where
  exc : PySem.W.excIn K C VE "ValueError.__new__" = true
  ga : PySem.W.findIn K (.ref C) "__getattribute__" = some (some (.builtin "BaseException.__getattribute__"))
  gx : PySem.W.findIn K (.ref C) "__getattr__" = some none
  cl : PySem.W.findIn K (.ref C) "__class__" = some (some (.builtin "object.__class__"))
section
variable {prog : Program} {w : World} {A : Around} {E : Value → Shared → Prop} {h : Heap} {g : Array GenState} {d : Drawn} {t : Nat} {os : OsState} {a : Addr} {o : Obj} {K : PySem.W.Frag} {C : Addr}
  {nm q : Str} {N : Addr} {bs bm : List Value} {hdct : Bool} {sn : List Str} {sub : List Value} {ab : Bool} {col : Option Bool} {dd : Option Addr} {k0 k1 k2 k3 k5 : Option Value}
theorem xclass_get {R : Result → Shared → Prop} (hC : h.get? C = some (excClassObj nm q C N bs bm hdct sn sub ab col dd k0 k1 k2 k3 k5 "ValueError.__new__")) (T : OwnTail h VE bm) (hx : h.get? a = some o) (hc : o.cls = .ref C)
    (hq : R (.ok (.ret (.ref C))) ⟨h, g, d, t, os⟩) : codeAny (model prog w) A (.call (.builtin "getset_descriptor.__get__") ⟨[.builtin "object.__class__", .ref a, .ref C], []⟩) R ⟨h, g, d, t, os⟩ := by
  have hT5 : (⟨h, g, d, t, os⟩ : Shared).TypeIs (.builtin "object.__class__") "getset_descriptor" := F.typeOf_object_class
  have hcB : (Value.ref C :: bm).contains (.type (".".intercalate ("object.__class__".cutAt '.').dropLast)) = true := by
    rw [F.owner_object_class, List.contains_cons, T.hasType (by decide : VE.contains (.type "object") = true)]; rfl
  refine codeAny_call_builtin F.slot_gs_get.plain F.entry_gs_get (F.slot_gs_get.check _ _ _ _ _ _ _ _ hT5 (F.args_gs_get _ _ _) ?_)
  repeat (any_goals (first | assumption | (with_reducible refine wpAny_loadPart_at hx ?_; rw [hc]) | (with_reducible refine wpAny_isSubtype_exc hC ?_; rw [hcB]) | wp_step))
  refine ⟨Code.quiet_builtin _ (by decide +kernel), codeAny_builtin F.entry_object_class ?_⟩
  repeat (any_goals (first | assumption | (with_reducible refine wpAny_loadPart_at hx ?_; rw [hc]) | wp_step))
theorem xclass_entry {tk : Tok} {Q : Fin → Shared → Prop} (X : K.In h) (Z : ExcC K C) (hC : h.get? C = some (excClassObj nm q C N bs bm hdct sn sub ab col dd k0 k1 k2 k3 k5 "ValueError.__new__")) (T : OwnTail h VE bm) (hx : h.get? a = some o) (hc : o.cls = .ref C)
    (hq : Q (.done (.ret (.ref C))) ⟨h, g, d, t, os⟩) : wpAny (model prog w) A (Builtin.«object.__getattribute__» ⟨[.ref a, .str "__class__" tk], []⟩) Q E ⟨h, g, d, t, os⟩ := by
  have hT5 : (⟨h, g, d, t, os⟩ : Shared).TypeIs (.builtin "object.__class__") "getset_descriptor" := F.typeOf_object_class
  have f5 := F.typeOf_object_class
  have f6 := F.slot_gs_get.lookup
  have f7 := F.slot_gs_set.lookup
  have L := PySem.W.looks_findIn (M := model prog w) X Z.cl
  repeat (any_goals (first | assumption | (with_reducible refine wpAny_loadPart_at hx ?_; rw [hc]) | with_reducible refine L.at ?_ | with_reducible refine wpAny_bind (L.at ?_) | wp_step))
  refine xclass_get hC T hx hc ?_
  repeat (any_goals (first | assumption | wp_step))
theorem xcheck {M : Model} {nameV : Value} {Q : Unit → Shared → Prop} (hC : h.get? C = some (excClassObj nm q C N bs bm hdct sn sub ab col dd k0 k1 k2 k3 k5 "ValueError.__new__")) (T : OwnTail h VE bm) (hx : h.get? a = some o) (hc : o.cls = .ref C)
    (hq : Q () ⟨h, g, d, t, os⟩) : wpAny M A (checkBuiltinCall "BaseException.__getattribute__" ⟨[.ref a, nameV], []⟩) Q E ⟨h, g, d, t, os⟩ := by
  have kindIs : builtinKind "BaseException.__getattribute__" = some .slot := by decide +kernel
  have splitIs : splitId "BaseException.__getattribute__" = some ("BaseException", "__getattribute__") := by decide +kernel
  have hcB : (Value.ref C :: bm).contains (.type "BaseException") = true := by rw [List.contains_cons, T.hasType (by decide : VE.contains (.type "BaseException") = true)]; rfl
  have argsFine := F.args_bexc_ga (.ref a) nameV
  simp only [checkBuiltinCall, kindIs, splitIs]
  refine wpAny_bind ?_
  unfold isInstance
  repeat (first | (with_reducible refine wpAny_loadPart_at hx ?_; rw [hc]) | (with_reducible refine wpAny_isSubtype_exc hC ?_; rw [hcB]) | wp_step)
  exact hq
theorem xclass_call {tk : Tok} {R : Result → Shared → Prop} (X : K.In h) (Z : ExcC K C) (hC : h.get? C = some (excClassObj nm q C N bs bm hdct sn sub ab col dd k0 k1 k2 k3 k5 "ValueError.__new__")) (T : OwnTail h VE bm) (hx : h.get? a = some o) (hc : o.cls = .ref C)
    (hq : R (.ok (.ret (.ref C))) ⟨h, g, d, t, os⟩) : codeAny (model prog w) A (.call (.builtin "BaseException.__getattribute__") ⟨[.ref a, .str "__class__" tk], []⟩) R ⟨h, g, d, t, os⟩ :=
  codeAny_call_builtin F.attr_ValueError.ga.plain F.entry_bexc_ga (xcheck hC T hx hc (xclass_entry X Z hC T hx hc hq))
theorem xclass_by {tk : Tok} {Q : Value → Shared → Prop} (X : K.In h) (Z : ExcC K C) (hC : h.get? C = some (excClassObj nm q C N bs bm hdct sn sub ab col dd k0 k1 k2 k3 k5 "ValueError.__new__")) (T : OwnTail h VE bm) (hx : h.get? a = some o) (hc : o.cls = .ref C)
    (hq : Q (.ref C) ⟨h, g, d, t, os⟩) : wpAny (model prog w) A (getAttrBy (.ref a) (.str "__class__" tk) false) Q E ⟨h, g, d, t, os⟩ := by
  have f3 := F.attr_ValueError.ga.bind (.ref a)
  have notObj : (Value.builtin "BaseException.__getattribute__" == Value.builtin "object.__getattribute__") = false := by decide +kernel
  have notOwn : (onTheHeap (Value.ref C) && Value.builtin "BaseException.__getattribute__" == Value.builtin "object.__getattribute__") = false := by rw [notObj]; rfl
  have L1 := PySem.W.looks_findIn (M := model prog w) X Z.ga
  have L2 := PySem.W.looks_findIn (M := model prog w) X Z.gx
  repeat (any_goals (first | assumption | (with_reducible refine wpAny_loadPart_at hx ?_; rw [hc]) | with_reducible refine L1.at ?_ | with_reducible refine L2.at ?_ | wp_step))
  refine xclass_call X Z hC T hx hc ?_
  repeat (any_goals (first | assumption | wp_step))
theorem xclass_attr {Q : Option Value → Shared → Prop} (X : K.In h) (Z : ExcC K C) (hC : h.get? C = some (excClassObj nm q C N bs bm hdct sn sub ab col dd k0 k1 k2 k3 k5 "ValueError.__new__")) (T : OwnTail h VE bm) (hx : h.get? a = some o) (hc : o.cls = .ref C)
    (hq : Q (some (.ref C)) ⟨h, g, d, t + 1, os⟩) : wpAny (model prog w) A (getAttr? (.ref a) "__class__") Q E ⟨h, g, d, t, os⟩ := by
  unfold getAttr? getAttrBy?
  repeat (any_goals (first | assumption | with_reducible apply xclass_by X Z hC T hx hc | wp_step))
end
end L4
namespace L4
open PySem PySem.Spec PyProof.Rows L2 L3
theorem exc_obj {K : PySem.W.Frag} {C : Addr} (q : PySem.W.excIn K C VE "ValueError.__new__" = true) : ∃ (d1 : Option Addr) (cd : ClassData) (sl : Array (Option Value)) (c : Value), K.lookup C = some ⟨c, d1, .cls cd, sl⟩ := by
  unfold PySem.W.excIn at q
  split at q
  · exact ⟨_, _, _, _, ‹_›⟩
  · cases q
theorem kitx_exc {K : PySem.W.Frag} {x C : Addr} (Z : ExcC K C) : PySem.W.KitX K (.ref x) (.ref C) (fun h => ∃ o, h.get? x = some o ∧ o.cls = .ref C) where
  ty := fun M h X ⟨o, h1, h2⟩ => h2 ▸ (PySem.W.Looks.ld h1).andThen .now
  it := fun _ _ X _ => by
    obtain ⟨d1, cd, sl, c, ho⟩ := exc_obj Z.exc
    intro A' Q' E' s' k q
    unfold isType loadHead
    exact wpAny_bind (wpAny_loadPart (k _ _ (X _ _ ho)) (wpAny_pure q))
  ne := fun h tp dd its n sl X htp => by
    obtain ⟨d1, cd, sl', c, ho⟩ := exc_obj Z.exc
    refine Bool.eq_false_iff.mpr fun q => ?_
    have e : C = tp := Value.ref.inj (beq_iff_eq.mp q)
    subst e
    have := X _ _ ho
    rw [htp] at this
    cases this
  ca := fun {prog w A E Q s} X p k => by
    obtain ⟨h, g, d, t, os⟩ := s
    obtain ⟨o, h1, h2⟩ := p
    have O := own_in (mg := fun _ => some (.ref C)) (x := "") X rfl Z.exc
    obtain ⟨bm, N, nm, q, bs, hdct, sn, sub, ab, col, dd, k0, k1, k2, k3, k5, mN, hC, hN, hni, T⟩ := O.obj
    exact xclass_attr X Z hC T h1 h2 k
section
variable {X : Cx}
inductive ClV : V → Value → Prop where
  | own (D : Addr) : ClV (.ref D) (.ref D)
  | ty (n : String) : ClV (.ty n) (.type n)
def rInstX (K : PySem.W.Frag) : List V → Hp → VK → Prop := fun xs H Q => ∃ x c C cv b, xs = [.ref x, c] ∧ H x = some (excO x C) ∧ ExcC K C ∧ ClV c cv ∧ PySem.W.kitOne K (.ref C) cv = some b ∧ Q (.bl b) H
theorem call_isinstX : CallR X (.builtin "isinstance") (rInstX X.K) := by
  intro pins s σ H xs us Q I rv h
  obtain ⟨x, c, C, cv, b, rfl, hx, Z, hc, e, q⟩ := h
  obtain ⟨u, cu, rfl, rx, rc⟩ := vals2 rv
  cases (show u = Value.ref x from rx)
  have ec : cu = cv := by cases hc <;> exact rc
  subst ec
  obtain ⟨⟨o, vs, h1, h2, _⟩, _⟩ := I.hok x _ hx
  exact PySem.W.kia_one (kitx_exc Z) I.kIn ⟨o, h1, h2⟩ e (fun z => nomatch z) fun tk => ⟨.bl b, H, I.tok tk, rfl, q⟩
def isTr : Value → Bool | .bool b => b | _ => false
theorem eqGives_tr (b : Bool) : MeetsSeq.EqGives (.bool b) (.bool true) (isTr (.bool b)) := by
  intro prog w A E s Q h
  refine PySem.SeqAt.EqAt.bool_bool b true prog w E Q ?_
  cases b <;> exact h
theorem vals_bl : ∀ {bs : List Bool} {us : List Value}, Vals (bs.map V.bl) us → us = bs.map Value.bool
  | [], _, r => by cases r; rfl
  | b :: bs, _, r => by
    cases r with
    | cons r1 r2 => cases (show _ = Value.bool b from r1); rw [vals_bl r2]; rfl
theorem eq_all {bs : List Bool} : ∀ y, y ∈ (bs.map Value.bool).toArray → MeetsSeq.EqGives y (.bool true) (isTr y) := fun y hy => by
  have : y ∈ bs.map Value.bool := by simpa using hy
  obtain ⟨b, _, rfl⟩ := List.mem_map.mp this
  exact eqGives_tr b
def rCountB : V → List V → Hp → VK → Prop := fun x xs H Q => ∃ (l : Addr) (bs : List Bool), x = .ref l ∧ xs = [.bl true] ∧ H l = some (.lst (bs.map V.bl)) ∧ Q (.int (bs.countP id : Nat)) H
theorem mt_countB : MtR X "list.count" rCountB := by
  intro pins s σ H x vs v us Q I rx rv h
  obtain ⟨l, bs, rfl, rfl, hH, q⟩ := h
  cases rx
  obtain ⟨u, rfl, ru⟩ := rv.one
  cases (show u = Value.bool true from ru)
  obtain ⟨z, its, n, r, hl, e⟩ := I.lstM hH
  cases vals_bl r
  refine call_meets PySem.F.slot_list_count ⟨_, e, rfl⟩ PySem.F.entry_list_count (PySem.F.args_list_count_2 _ _) (MeetsSeq.list_count l _ n (.bool true) isTr eq_all) ⟨e, ?_⟩
  refine ⟨.int _, H, I.tok _, ⟨_, rfl⟩, ?_⟩
  have : List.countP isTr (bs.map Value.bool).toArray.toList = bs.countP id := by
    rw [List.toList_toArray, List.countP_map]
    rfl
  rw [this]; exact q
def rIndexB : V → List V → Hp → VK → Prop := fun x xs H Q => ∃ (l : Addr) (bs : List Bool) (j : Nat), x = .ref l ∧ xs = [.bl true] ∧ H l = some (.lst (bs.map V.bl)) ∧ bs[j]? = some true ∧ (∀ m, m < j → bs[m]? = some false) ∧ Q (.int (j : Nat)) H
theorem mt_indexB : MtR X "list.index" rIndexB := by
  intro pins s σ H x vs v us Q I rx rv h
  obtain ⟨l, bs, j, rfl, rfl, hH, hj, hno, q⟩ := h
  cases rx
  obtain ⟨u, rfl, ru⟩ := rv.one
  cases (show u = Value.bool true from ru)
  obtain ⟨z, its, n, r, hl, e⟩ := I.lstM hH
  cases vals_bl r
  obtain ⟨hjl, hjt⟩ := List.getElem?_eq_some_iff.mp hj
  have hsz : (bs.map Value.bool).toArray.size = bs.length := by simp
  refine call_meets PySem.F.slot_list_index ⟨_, e, rfl⟩ PySem.F.entry_list_index (PySem.F.args_list_index_2 _ _)
    (MeetsSeq.list_index l _ n (.bool true) isTr eq_all j (by rw [hsz]; exact hjl) ?_ ?_ ?_) ⟨e, ?_⟩
  · have h1 : bs.length ≤ sizeLine := by simpa using z
    have h2 := PySem.sizeLine_eq
    rw [h2] at h1
    omega
  · simp [hjt, isTr]
  · intro m hm hlt
    have := hno m hlt
    obtain ⟨h1, h2⟩ := List.getElem?_eq_some_iff.mp this
    simp [h2, isTr]
  · exact ⟨.int _, H, I.tok _, ⟨_, rfl⟩, q⟩
end
structure RoomU (k : Nat) (A : Around) : Prop where
  dp : A.depth + 3 * k + 5 < recursionLimit
  un : A.units + 16 * k + 200 < cLine
theorem RoomU.deeper {k : Nat} {A : Around} (r : RoomU (k + 1) A) (env : Env) : RoomU k (A.deeper env) :=
  ⟨by have := r.dp; show A.depth + 1 + 3 * k + 5 < _; omega, by have := r.un; show A.units + 3 + 16 * k + 200 < _; omega⟩
theorem roomU_mark {k : Nat} {A : Around} {v : Option Value} (r : Room k A) : RoomU k (A.mark v) := ⟨r.dp, r.un⟩
abbrev cxU (P : Program) (w : World) (K : PySem.W.Frag) (mg : Str → Option Value) (base : Heap) (N : List Str) (qual : Str) (scope : Scope) (f : Addr) (cd : Value) (A : Around) (outer : List Env) (s : Shared) (H : Hp) (E : XK) : Cx :=
  { cxOf CX0 P w K mg base N qual scope f cd A outer s H E with calm := false }
structure CalU (P : Program) (w : World) (K : PySem.W.Frag) (mg : Str → Option Value) (base : Heap) (k : Nat) (x : Str) (ps : List Str) (sp : Sp) : Prop where
  ex : ∃ f : Addr, PySem.W.keepIn K (.ref f) = true ∧ mg x = some (.ref f) ∧ (∀ vs H Q E, sp vs H Q E → vs.length = ps.length) ∧
    ∀ (A : Around) (outer : List Env) (s : Shared) (H : Hp) (us : List Value) (vs : List V) (Q : VK) (E : XK), RoomU k A → Env0 P w K mg base A outer s H → Vals vs us → sp vs H Q E →
      codeAny (model P w) A (.call (.ref f) ⟨us, []⟩) (CR CX0 outer P w H s Q E) s
section
variable {P : Program} {w : World} {K : PySem.W.Frag} {mg : Str → Option Value} {base : Heap} {k : Nat} {x : Str} {ps : List Str} {sp : Sp}
abbrev calmA (A : Around) : Around := { A with handled := none }
theorem env0_mark {A : Around} {outer : List Env} {s : Shared} {H : Hp} (e : Env0 P w K mg base A outer s H) : Env0 P w K mg base (calmA A) outer s H := ⟨e.frames, e.mod, e.bs, e.bsz, e.funs, e.frf, e.hok, e.bare⟩
theorem inv_uncalm {N : List Str} {qual : Str} {scope : Scope} {f : Addr} {cd : Value} {A : Around} {outer : List Env} {s s1 : Shared} {H H1 : Hp} {E : XK} {pins : List (Addr × Obj)} {σ : L2.St} (e0 : Env0 P w K mg base A outer s H)
    (I : Inv (cxOf CX0 P w K mg base N qual scope f cd (calmA A) outer s H E) pins σ H1 s1) : Inv (cxU P w K mg base N qual scope f cd A outer s H E) pins σ H1 s1 := by
  have ok := I.ok
  exact ⟨⟨ok.mod, ok.kind, ok.glob, ok.blt, ok.above, ok.inj, ok.has, ok.cab, fun z => (by cases z), Around.frames_deeper e0.frames, ok.stk, ok.exf, ok.bs, ok.bsz, ok.noex, ok.exfs, ok.funs, ok.frf⟩, I.os, I.bare, I.base, I.loc, I.cell, I.free, I.freeC, I.pin, I.hok, I.len⟩
theorem RoomU.mono {j k : Nat} {A : Around} (r : RoomU k A) (h : j ≤ k) : RoomU j A := ⟨by have := r.dp; omega, by have := r.un; omega⟩
theorem CalU.mono {j : Nat} (c : CalU P w K mg base j x ps sp) (h : j ≤ k) : CalU P w K mg base k x ps sp := by
  obtain ⟨f, kp, m, l, run⟩ := c.ex
  exact ⟨f, kp, m, l, fun A outer s H us vs Q E hr e r q => run A outer s H us vs Q E (hr.mono h) e r q⟩
theorem _root_.L3.Def.calU {st : Stmt} {N : List Str} (F : Def K mg x st ps) (S : FnScope N ps (defScope st)) (len : ∀ vs H Q E, sp vs H Q E → vs.length = ps.length)
    (hbody : ∀ (f : Addr) (cdv : Value) (A : Around) (outer : List Env) (s : Shared) (H : Hp) (vs : List V) (Q : VK) (E : XK), RoomU k (A.deeper (envOfC x (defScope st) s.heap.objs.size f cdv)) → sp vs H Q E →
      ∃ t, PSs (cxU P w K mg base N x (defScope st) f cdv A outer s H E) (defBody st) t ∧ t { nx := fun _ H' => Q .non H', rt := Q } (start N vs) H) : CalU P w K mg base (k + 1) x ps sp := by
  obtain ⟨f, fd, Fn, hm, hb⟩ := F.ex
  have kp := Fn.kp
  obtain ⟨oc, od, kV, doc, pm, an, cdv, ct, osl, rfl, lk, hcd⟩ := Fn.ex
  refine ⟨f, kp, hm, len, fun A outer s H us vs Q E hr e0 r hsp => ?_⟩
  have KX : K.In s.heap := e0.mod.kin.keeps fun b o z => (e0.bs b o z).1
  have hl := len _ _ _ _ hsp
  have hl2 : (us ++ []).length = ps.length := by rw [List.append_nil, ← r.length]; exact hl
  have hbb := hb s us KX hl2
  rw [List.append_nil] at hbb
  have lim : s.heap.NoLimit := e0.mod.nolimit.keeps fun b o e => (e0.bs b o e).1
  have hkind : ∀ y ∈ ps.zip us, (defScope st).names.lookup y.1 = some .local ∨ ((defScope st).names.lookup y.1 = some .cell ∧ ((cellsFrom (s.heap.objs.size + 1) (defScope st).names []).lookup y.1).isSome = true) := fun ⟨n, v⟩ hy => by
    rcases S.par n (List.of_mem_zip hy).1 with q | q
    · exact .inl q
    · exact .inr ⟨q, PySem.W.cellsFrom_some _ _ _ (.inl q)⟩
  have hdep : A.depth < recursionLimit := by have := hr.dp; omega
  refine codeAny_call_function (by first | exact hdep | (have := hr.dp; omega)) (KX _ _ lk) rfl S.co S.gen rfl (PySem.W.codeRec_of KX hcd) (hbb _ _ _ _ ?_)
  refine wpAny_newFunctionEnv_cells S.kind hkind fun env he s1 xc => ?_
  subst he
  refine ⟨lim.keeps xc.toInCall.keep, codeAny_func ?_⟩
  obtain ⟨t, ht, hq⟩ := hbody f cdv A outer s H vs Q E (hr.deeper _) hsp
  have I := inv_uncalm e0 (inv_start (CX := CX0) (E := E) S rfl (env0_mark e0) hl r xc)
  refine wpAny_mono (ht [] s1 (start N vs) H _ I hq) (fun fl s' hs => ?_) fun e s' hs => hs
  have fin : ∀ {σ' : L2.St} {H' : Hp} {v : V} {u : Value}, Inv (cxU P w K mg base N x (defScope st) f cdv A outer s H E) [] σ' H' s' → RelV v u → Q v H' → CE outer P w H s Q u s' :=
    fun {σ' H' v u} J rv q => ⟨v, H', J.os, J.bare, J.base, J.hok, rv, q⟩
  cases fl with
  | ret u =>
    obtain ⟨v, σ', H', J, rv, q⟩ := hs
    exact fin J rv q
  | next =>
    obtain ⟨σ', H', J, q⟩ := hs
    exact fin (v := V.non) (u := Value.none) J rfl q
  | brk =>
    obtain ⟨_, _, _, q⟩ := hs
    exact False.elim q
  | cont =>
    obtain ⟨_, _, _, q⟩ := hs
    exact False.elim q
end
section
variable {X : Cx} {k : Nat} {x : Str} {ps : List Str} {sp : Sp} {E : XK} {e : Expr} {es : List Expr} {t : TA} {p pos : Pos}
theorem pe_callU (C : CalU X.prog X.w X.K X.mg X.base k x ps sp) (hr : RoomU k X.A) (ha : PA X (e :: es) t) (hg : Gl X x := by rfl) (hdb : (x == ("__debug__" : Str)) = false := by decide)
    (he : starEach (e :: es) X.env = (false, eval e X.env) :: starEach es X.env := by rfl) (hpl : (backTo pos (starEach es X.env)).any (·.1) = false := by rfl) :
    PE X (.Call (.Name x p) (e :: es) [] pos) (tCall sp [] E t) := by
  obtain ⟨f, kp, m, l, run⟩ := C.ex
  intro pins s σ H Q I h
  refine wpAny_Call_Name_kw (ld_glob I hg m ?_ hdb)
  refine PySem.W.callWith_K (h₀ := X.base) I.ok.mod.kin kp (thn (ha pos pins s σ H _ I h) fun us s1 ⟨vs, H1, I1, r, q⟩ => ⟨I1.kIn, ?_⟩) he hpl
  have q' : sp vs H1 Q E := by
    have z : sp (vs ++ []) H1 Q E := q
    rwa [List.append_nil] at z
  refine wpAny_call (codeAny_mono (run X.A X.stack s1 H1 us vs Q E hr I1.env0 r q') fun r s' hq => ?_)
  cases r with
  | error e => exact False.elim hq
  | ok fl =>
    cases fl with
    | ret u => exact I1.after hq
    | next => exact False.elim hq
    | brk => exact False.elim hq
    | cont => exact False.elim hq
end
end L4
namespace L4
open PySem PySem.Spec PyProof.Rows L2 L3
section
variable {M : Model} {A : Around} {E : Value → Shared → Prop} {s : Shared}
end
section
variable {P : Program} {w : World} {K : PySem.W.Frag} {mg : Str → Option Value} {base : Heap} {N : List Str} {qual : Str} {scope : Scope} {f : Addr} {cd : Value} {A : Around} {outer : List Env} {s : Shared} {H : Hp} {E : XK}
end
end L4
namespace L4
open PySem PySem.Spec PyProof.Rows L2 L3
section
variable {P : Program} {w : World} {K : PySem.W.Frag} {mg : Str → Option Value} {base : Heap} {N : List Str} {qual : Str} {scope : Scope} {f : Addr} {cd : Value} {A : Around} {outer : List Env} {s : Shared} {H : Hp} {E : XK}
end
section
variable {X : Cx} {P : Program} {w : World} {K : PySem.W.Frag} {mg : Str → Option Value} {base : Heap} {N : List Str} {qual : Str} {scope : Scope} {f : Addr} {cd : Value} {A : Around} {outer : List Env} {s : Shared} {H : Hp} {E : XK}
variable {elt iter : Expr} {x : Str} {px pos : Pos} {ifs : List Expr} {scope' : Scope} {cn : List Str} {wi : TI} {te : TE} {tt : TT}
end
end L4
namespace Tx
open PySem PyProof.Rows PySem.NumText
end Tx
namespace Cs
open PySem PySem.Spec PyProof.Rows L2 L3 L4 Mx Tx
section
variable {X : Cx}
def rMulS : R2 := fun x y H Q => ∃ z n, x = .str z ∧ y = .int n ∧ 1 ≤ n ∧ n ≤ 1000 ∧ z.length = 1 ∧ ∀ c, (∀ d ∈ c.cps.toList, d ∈ z.cps.toList) → c.length = n.toNat → Q (.str c) H
end
abbrev whichN : List Str := ["change", "note", "point", "three", "times"]
structure KindOf (K : PySem.W.Frag) (nc nn np nth nt C : Addr) (j : Nat) : Prop where
  exc : ExcC K C
  ve : PySem.W.kitOne K (.ref C) (.type "ValueError") = some true
  k0 : PySem.W.kitOne K (.ref C) (.ref nc) = some (decide (j = 0))
  k1 : PySem.W.kitOne K (.ref C) (.ref nn) = some (decide (j = 1))
  k2 : PySem.W.kitOne K (.ref C) (.ref np) = some (decide (j = 2))
  k3 : PySem.W.kitOne K (.ref C) (.ref nth) = some (decide (j = 3))
  k4 : PySem.W.kitOne K (.ref C) (.ref nt) = some (decide (j = 4))
  lt : j < 5
def spWhich (K : PySem.W.Frag) (nc nn np nth nt : Addr) : Sp := fun vs H Q _ => ∃ (x C : Addr) (j : Nat) (t : Str), vs = [.ref x] ∧ H x = some (excO x C) ∧ KindOf K nc nn np nth nt C j ∧ whichN[j]? = some t ∧ ∀ H', Same H H' → Q (.str t) H'
end Cs
namespace Cs
open PySem PySem.Spec PyProof.Rows L2 L3 L4 Mx Tx
theorem pick {xs : List V} {i : Int} {P : V → Prop} (h0 : 0 ≤ i) (h1 : i < (xs.length : Int)) (k : ∀ v ∈ xs, P v) : ∃ v, atI xs i = some v ∧ P v := by
  obtain ⟨v, e, m⟩ := at_any xs h0 h1
  exact ⟨v, e, k v m⟩
theorem pa_consC {X : Cx} {c : Const} {k : Tok} {p : Pos} {es : List Expr} {te : TE} {t : TA} (ha : PE X (.Constant c k p) te) (hr : PA X es t) : PA X (.Constant c k p :: es) (tCons te t) := pa_cons ha hr rfl
theorem inst_own {K : PySem.W.Frag} {x C D : Addr} {b : Bool} {H : Hp} {Q : VK} (hx : H x = some (excO x C)) (Z : ExcC K C) (k : PySem.W.kitOne K (.ref C) (.ref D) = some b) (q : Q (.bl b) H) : rInstX K [.ref x, .ref D] H Q := ⟨x, _, C, _, b, rfl, hx, Z, .own D, k, q⟩
theorem inst_ty {K : PySem.W.Frag} {x C : Addr} {n : String} {b : Bool} {H : Hp} {Q : VK} (hx : H x = some (excO x C)) (Z : ExcC K C) (k : PySem.W.kitOne K (.ref C) (.type n) = some b) (q : Q (.bl b) H) : rInstX K [.ref x, .ty n] H Q := ⟨x, _, C, _, b, rfl, hx, Z, .ty n, k, q⟩
theorem bt_ValueError : bootBuiltins "ValueError" = some (.type "ValueError") := by decide +kernel
structure ClsOk (K : PySem.W.Frag) (mg : Str → Option Value) (nc nn np nth nt le : Addr) : Prop where
  b_NoChange : mg "NoChange" = some (.ref nc)
  b_NoNote : mg "NoNote" = some (.ref nn)
  b_NoPoint : mg "NoPoint" = some (.ref np)
  b_NoThree : mg "NoThree" = some (.ref nth)
  b_NoTimes : mg "NoTimes" = some (.ref nt)
  b_LineError : mg "LineError" = some (.ref le)
  b_ValueError : mg "ValueError" = none
  kind : ∀ (C : Addr) (j : Nat), [nc, nn, np, nth, nt][j]? = some C → KindOf K nc nn np nth nt C j ∧ PySem.W.exmOne K (.ref C) (.ref le) = some true
section
variable {K : PySem.W.Frag} {mg : Str → Option Value} {nc nn np nth nt le : Addr}
theorem ClsOk.own (c : ClsOk K mg nc nn np nth nt le) {x : Str} {C : Addr} {j : Nat} (b : mg x = some (.ref C)) (h : [nc, nn, np, nth, nt][j]? = some C) : OwnX K mg x C := ⟨b, (c.kind C j h).1.exc.exc⟩
theorem kind_mk {C : Addr} {j : Nat} (h1 : PySem.W.excIn K C VE "ValueError.__new__" = true)
    (h2 : PySem.W.findIn K (.ref C) "__getattribute__" = some (some (.builtin "BaseException.__getattribute__"))) (h3 : PySem.W.findIn K (.ref C) "__getattr__" = some none) (h4 : PySem.W.findIn K (.ref C) "__class__" = some (some (.builtin "object.__class__")))
    (h5 : PySem.W.kitOne K (.ref C) (.type "ValueError") = some true) {b0 b1 b2 b3 b4 : Bool} (k0 : PySem.W.kitOne K (.ref C) (.ref nc) = some b0) (k1 : PySem.W.kitOne K (.ref C) (.ref nn) = some b1) (k2 : PySem.W.kitOne K (.ref C) (.ref np) = some b2) (k3 : PySem.W.kitOne K (.ref C) (.ref nth) = some b3) (k4 : PySem.W.kitOne K (.ref C) (.ref nt) = some b4)
    (lt : j < 5) (ex : PySem.W.exmOne K (.ref C) (.ref le) = some true) (e : [b0, b1, b2, b3, b4] = [decide (j = 0), decide (j = 1), decide (j = 2), decide (j = 3), decide (j = 4)]) : KindOf K nc nn np nth nt C j ∧ PySem.W.exmOne K (.ref C) (.ref le) = some true := by
  simp only [List.cons.injEq, and_true] at e
  obtain ⟨rfl, rfl, rfl, rfl, rfl⟩ := e
  exact ⟨⟨⟨h1, h2, h3, h4⟩, h5, k0, k1, k2, k3, k4, lt⟩, ex⟩
theorem cls_mk {h : Heap} (X : K.In h) (G : h.Ns mainGlobals mg) (a0 : PySem.W.nsIn K mainGlobals "NoChange" = some (some (.ref nc))) (a1 : PySem.W.nsIn K mainGlobals "NoNote" = some (some (.ref nn))) (a2 : PySem.W.nsIn K mainGlobals "NoPoint" = some (some (.ref np)))
    (a3 : PySem.W.nsIn K mainGlobals "NoThree" = some (some (.ref nth))) (a4 : PySem.W.nsIn K mainGlobals "NoTimes" = some (some (.ref nt))) (a5 : PySem.W.nsIn K mainGlobals "LineError" = some (some (.ref le))) (a6 : PySem.W.nsIn K mainGlobals "ValueError" = some none)
    (q0 : KindOf K nc nn np nth nt nc 0 ∧ PySem.W.exmOne K (.ref nc) (.ref le) = some true) (q1 : KindOf K nc nn np nth nt nn 1 ∧ PySem.W.exmOne K (.ref nn) (.ref le) = some true) (q2 : KindOf K nc nn np nth nt np 2 ∧ PySem.W.exmOne K (.ref np) (.ref le) = some true)
    (q3 : KindOf K nc nn np nth nt nth 3 ∧ PySem.W.exmOne K (.ref nth) (.ref le) = some true) (q4 : KindOf K nc nn np nth nt nt 4 ∧ PySem.W.exmOne K (.ref nt) (.ref le) = some true) : ∃ nc nn np nth nt le : Addr, ClsOk K mg nc nn np nth nt le := by
  refine ⟨nc, nn, np, nth, nt, le, PySem.W.mg_of X G a0, PySem.W.mg_of X G a1, PySem.W.mg_of X G a2, PySem.W.mg_of X G a3, PySem.W.mg_of X G a4, PySem.W.mg_of X G a5, PySem.W.mg_none_of X G a6, fun C j hj => ?_⟩
  match j, hj with
  | 0, hj => cases hj; exact q0
  | 1, hj => cases hj; exact q1
  | 2, hj => cases hj; exact q2
  | 3, hj => cases hj; exact q3
  | 4, hj => cases hj; exact q4
  | j + 5, hj => simp at hj
end
end Cs
namespace Cs
open PySem PySem.Spec PyProof.Rows L2 L3 L4 Mx
def spCheckPX (K : PySem.W.Frag) (np : Addr) : Sp := fun vs H _ E => ∃ (v : V) (p : Int × Int), vs = [v] ∧ Tp K H v (pl p) ∧ BdPt 4000 p ∧ ¬ GoodPt p ∧ ∀ H', Same H H' → E (.ref np) none H'
def spCheckCX (K : PySem.W.Frag) (nc : Addr) : Sp := fun vs H _ E => ∃ (v : V) (m : Ch), vs = [v] ∧ Tp K H v (cl m) ∧ BdC 4000 m ∧ ¬ GoodC m ∧ ∀ H', Same H H' → E (.ref nc) none H'
def spMovedX (K : PySem.W.Frag) (nc np : Addr) : Sp := fun vs H _ E => ∃ (v u : V) (m : Ch) (p : Int × Int), vs = [v, u] ∧ Tp K H v (cl m) ∧ Tp K H u (pl p) ∧ BdC 1900 m ∧ BdPt 1900 p ∧
  ((¬ GoodC m ∧ ∀ H', Same H H' → E (.ref nc) none H') ∨ (GoodC m ∧ ¬ GoodPt p ∧ ∀ H', Same H H' → E (.ref np) none H'))
def spAfterX (K : PySem.W.Frag) (nc : Addr) : Sp := fun vs H _ E => ∃ (v u : V) (m n : Ch), vs = [v, u] ∧ Tp K H v (cl m) ∧ Tp K H u (cl n) ∧ BdC 1900 m ∧ BdC 1900 n ∧ (¬ GoodC m ∨ ¬ GoodC n) ∧ ∀ H', Same H H' → E (.ref nc) none H'
def spPowerX (K : PySem.W.Frag) (nc nt : Addr) : Sp := fun vs H _ E => ∃ (v : V) (m : Ch) (t : Int), vs = [v, .int t] ∧ Tp K H v (cl m) ∧ BdC 1900 m ∧
  ((¬ GoodC m ∧ ∀ H', Same H H' → E (.ref nc) none H') ∨ (GoodC m ∧ 60 < t.natAbs ∧ ∀ H', Same H H' → E (.ref nt) none H'))
def spToldX (K : PySem.W.Frag) (np nth : Addr) : Sp := fun vs H _ E => ∃ (v u : V) (ps gs : List (Int × Int)), vs = [v, u] ∧ Ltr K H v (ps.map pl) ∧ Ltr K H u (gs.map pl) ∧ (∀ p ∈ ps ++ gs, BdPt 200 p) ∧ ps.length ≤ 16 ∧ gs.length ≤ 16 ∧
  (((∃ p ∈ ps ++ gs, ¬ GoodPt p) ∧ ∀ H', Same H H' → E (.ref np) none H') ∨
   ((∀ p ∈ ps ++ gs, GoodPt p) ∧ ¬ (ps.length = gs.length ∧ 3 ≤ ps.length ∧ ps.length ≤ 8 ∧ ps.Nodup ∧ gs.Nodup) ∧ ∀ H', Same H H' → E (.ref nth) none H'))
def spThreeX (K : PySem.W.Frag) (np nth : Addr) : Sp := fun vs H _ E => ∃ (u v w t : V) (p q r x : Int × Int), vs = [u, v, w, t] ∧ Tp K H u (pl p) ∧ Tp K H v (pl q) ∧ Tp K H w (pl r) ∧ Tp K H t (pl x) ∧ (∀ y ∈ [p, q, r, x], BdPt 200 y) ∧
  (((∃ y ∈ [p, q, r, x], ¬ GoodPt y) ∧ ∀ H', Same H H' → E (.ref np) none H') ∨
   ((∀ y ∈ [p, q, r, x], GoodPt y) ∧ ¬ [p, q, r].Nodup ∧ ∀ H', Same H H' → E (.ref nth) none H'))
def Bad1 (way : Int) (m : Ch) (p : Int × Int) (t : Int) (j : Nat) : Prop :=
  (j = 0 ∧ ¬ GoodC m) ∨ (j = 2 ∧ way = 0 ∧ GoodC m ∧ ¬ GoodPt p) ∨ (j = 4 ∧ way = 4 ∧ GoodC m ∧ 60 < t.natAbs)
def BadL (ps gs : List (Int × Int)) (j : Nat) : Prop :=
  (j = 2 ∧ ∃ p ∈ ps ++ gs, ¬ GoodPt p) ∨ (j = 3 ∧ (∀ p ∈ ps ++ gs, GoodPt p) ∧ ¬ (ps.length = gs.length ∧ 3 ≤ ps.length ∧ ps.length ≤ 8 ∧ ps.Nodup ∧ gs.Nodup))
def Bad3 (p q r x : Int × Int) (j : Nat) : Prop :=
  (j = 2 ∧ ∃ y ∈ [p, q, r, x], ¬ GoodPt y) ∨ (j = 3 ∧ (∀ y ∈ [p, q, r, x], GoodPt y) ∧ ¬ [p, q, r].Nodup)
def Bad2 (way : Int) (ps gs : List (Int × Int)) (j : Nat) : Prop :=
  (way = 9 ∧ BadL ps gs j) ∨ ((way = 10 ∨ way = 11) ∧ ∃ p q r x, ps = [p, q, r, x] ∧ Bad3 p q r x j) ∨ (way = 12 ∧ ∃ p q r x, ps = [p, q, r, x] ∧ j = 2 ∧ ¬ GoodPt x)
def Good2 (ps gs : List (Int × Int)) : Prop := ps.length = 4 ∧ gs.length = 4 ∧ ps.Nodup ∧ gs.Nodup ∧ ∀ p ∈ ps ++ gs, GoodPt p
def spMet1 (K : PySem.W.Frag) : Sp := fun vs H Q _ => ∃ (way t : Int) (v u w : V) (m n : Ch) (p : Int × Int), vs = [.int way, v, u, w, .int t] ∧ Tp K H v (cl m) ∧ Tp K H u (cl n) ∧ Tp K H w (pl p) ∧ BdC 30 m ∧ BdC 30 n ∧ BdPt 12 p ∧
  GoodC m ∧ GoodC n ∧ GoodPt p ∧ t.natAbs ≤ 60 ∧ ∀ x H', Same H H' → Q x H'
def spMet1X (K : PySem.W.Frag) (nc nn np nth nt : Addr) : Sp := fun vs H _ E => ∃ (way t : Int) (v u w : V) (m n : Ch) (p : Int × Int) (j : Nat) (C : Addr), vs = [.int way, v, u, w, .int t] ∧ Tp K H v (cl m) ∧ Tp K H u (cl n) ∧ Tp K H w (pl p) ∧ BdC 30 m ∧ BdC 30 n ∧ BdPt 12 p ∧
  Bad1 way m p t j ∧ [nc, nn, np, nth, nt][j]? = some C ∧ ∀ H', Same H H' → E (.ref C) none H'
def spMet2 (K : PySem.W.Frag) : Sp := fun vs H Q _ => ∃ (way : Int) (v u : V) (ps gs : List (Int × Int)), vs = [.int way, v, u] ∧ Ltr K H v (ps.map pl) ∧ Ltr K H u (gs.map pl) ∧ (∀ p ∈ ps ++ gs, BdPt 12 p) ∧ Good2 ps gs ∧ ∀ x H', Same H H' → Q x H'
def spMet2X (K : PySem.W.Frag) (nc nn np nth nt : Addr) : Sp := fun vs H _ E => ∃ (way : Int) (v u : V) (ps gs : List (Int × Int)) (j : Nat) (C : Addr), vs = [.int way, v, u] ∧ Ltr K H v (ps.map pl) ∧ Ltr K H u (gs.map pl) ∧ (∀ p ∈ ps ++ gs, BdPt 12 p) ∧ ps.length ≤ 16 ∧ gs.length ≤ 16 ∧
  Bad2 way ps gs j ∧ [nc, nn, np, nth, nt][j]? = some C ∧ ∀ H', Same H H' → E (.ref C) none H'
def Met (way : Int) (m n : Ch) (ps gs : List (Int × Int)) (t : Int) (a : Str) : Prop :=
  (way < 9 ∧ ∃ p ps', ps = p :: ps' ∧ ((∃ j, Bad1 way m p t j ∧ whichN[j]? = some a) ∨ (GoodC m ∧ GoodC n ∧ GoodPt p ∧ t.natAbs ≤ 60 ∧ a = "told"))) ∨
  (9 ≤ way ∧ ((∃ j, Bad2 way ps gs j ∧ whichN[j]? = some a) ∨ (Good2 ps gs ∧ a = "told")))
def spMet (K : PySem.W.Frag) : Sp := fun vs H Q _ => ∃ (way t : Int) (v u w z : V) (m n : Ch) (ps gs : List (Int × Int)) (a : Str), vs = [.int way, v, u, w, z, .int t] ∧ Tp K H v (cl m) ∧ Tp K H u (cl n) ∧ Ltr K H w (ps.map pl) ∧ Ltr K H z (gs.map pl) ∧ BdC 30 m ∧ BdC 30 n ∧ (∀ p ∈ ps ++ gs, BdPt 12 p) ∧ ps.length ≤ 16 ∧ gs.length ≤ 16 ∧
  Met way m n ps gs t a ∧ ∀ H', Same H H' → Q (.str a) H'
def spBadC (K : PySem.W.Frag) : Sp := fun vs H Q _ => ∃ (v : V) (m : Ch) (c : Int), vs = [v, .int c] ∧ Tp K H v (cl m) ∧ GoodC m ∧ BdC 24 m ∧ ∀ x m' H', Same H H' → Tp K H' x (cl m') → ¬ GoodC m' → BdC 30 m' → Q x H'
def spBadP (K : PySem.W.Frag) : Sp := fun vs H Q _ => ∃ (v : V) (p : Int × Int) (c : Int), vs = [v, .int c] ∧ Tp K H v (pl p) ∧ GoodPt p ∧ BdPt 10 p ∧ ∀ x p' H', Same H H' → Tp K H' x (pl p') → ¬ GoodPt p' → BdPt 12 p' → Q x H'
def spThrees (K : PySem.W.Frag) : Sp := fun vs H Q _ => ∃ (c : Int) (v w z y : V) (m : Ch) (ps gs ns : List (Int × Int)), vs = [.int c, v, w, z, y] ∧ Tp K H v (cl m) ∧ Ltr K H w (ps.map pl) ∧ Ltr K H z (gs.map pl) ∧ Ltr K H y (ns.map pl) ∧ GoodC m ∧ BdC 30 m ∧ (∀ p ∈ ps ++ gs ++ ns, GoodPt p ∧ BdPt 12 p) ∧ ps.length = 4 ∧ gs.length = 4 ∧ ns.length = 9 ∧ ps.Nodup ∧ gs.Nodup ∧ OutB H true Q
theorem len4 {α : Type} {xs : List α} (h : xs.length = 4) : ∃ p q r x, xs = [p, q, r, x] := by
  match xs, h with
  | [p, q, r, x], _ => exact ⟨p, q, r, x, rfl⟩
theorem tps4 {K : PySem.W.Frag} {H : Hp} {ws : List V} {a b c d : List Int} (h : Tps K H ws [a, b, c, d]) : ∃ w1 w2 w3 w4, ws = [w1, w2, w3, w4] ∧ Tp K H w1 a ∧ Tp K H w2 b ∧ Tp K H w3 c ∧ Tp K H w4 d := by
  obtain ⟨w1, w2, w3, ws', rfl, t1, t2, t3, tr⟩ := tps3 h
  cases tr with
  | cons t4 tn =>
    cases tn
    exact ⟨w1, w2, w3, _, rfl, t1, t2, t3, t4⟩
theorem atL4 {α : Type} (x y z w : α) : atI [x, y, z, w] (-1) = some w := rfl
theorem bad_two {m : Ch} (h : GoodC m) : ¬ GoodC ⟨2 * m.a, 2 * m.b, 2 * m.c, 2 * m.d⟩ := fun g => by
  have e := g4_sc 2 m
  have e1 : g4 (m.sc 2) = 1 := g.2.1
  have e2 := h.2.1
  rw [e1, e2] at e
  omega
theorem bad_neg {m : Ch} (h : GoodC m) : ¬ GoodC ⟨-m.a, -m.b, -m.c, -m.d⟩ := fun g => by
  have e1 := g.2.2
  have e2 := h.2.2
  simp only at e1
  omega
theorem bad_row (a b : Int) : ¬ GoodC ⟨a, b, a, b⟩ := fun g => g.1 (Int.mul_comm a b)
theorem badp_two {p : Int × Int} (h : GoodPt p) : ¬ GoodPt (2 * p.1, 2 * p.2) := fun g => by
  rcases g with ⟨e1, e2⟩ | ⟨e1, e2⟩
  · simp only at e1 e2; omega
  · simp only at e1 e2
    rw [Int.gcd_mul_left] at e2
    have e3 : 2 * Int.gcd p.1 p.2 = 1 := e2
    omega
theorem badp_neg {p : Int × Int} (h : GoodPt p) : ¬ GoodPt (-p.1, -p.2) := fun g => by
  rcases g with ⟨e1, e2⟩ | ⟨e1, e2⟩ <;> rcases h with ⟨f1, f2⟩ | ⟨f1, f2⟩ <;> simp only at e1 e2 <;> omega
theorem badp_low (x : Int) : ¬ GoodPt (x, -1) := fun g => by
  rcases g with ⟨e1, e2⟩ | ⟨e1, e2⟩ <;> simp only at e1 e2 <;> omega
def NotC (K : PySem.W.Frag) (H : Hp) (v : V) : Prop := ∃ m, Tp K H v (cl m) ∧ ¬ GoodC m ∧ BdC 30 m
theorem NotC.mono {K : PySem.W.Frag} {H H' : Hp} {v : V} (h : NotC K H v) (g : Same H H') : NotC K H' v := by
  obtain ⟨m, t, r⟩ := h
  exact ⟨m, t.mono g, r⟩
def NotP (K : PySem.W.Frag) (H : Hp) (v : V) : Prop := ∃ p, Tp K H v (pl p) ∧ ¬ GoodPt p ∧ BdPt 12 p
theorem NotP.mono {K : PySem.W.Frag} {H H' : Hp} {v : V} (h : NotP K H v) (g : Same H H') : NotP K H' v := by
  obtain ⟨m, t, r⟩ := h
  exact ⟨m, t.mono g, r⟩
def NotT (K : PySem.W.Frag) (H : Hp) (v : V) : Prop := ∃ (a : Addr) (s e : V) (ps gs : List (Int × Int)), v = .ref a ∧ SqT K H a [s, e] ∧ Ltr K H s (ps.map pl) ∧ Ltr K H e (gs.map pl) ∧ (∀ p ∈ ps ++ gs, GoodPt p ∧ BdPt 12 p) ∧ ps.length ≤ 16 ∧ gs.length ≤ 16 ∧
  ¬ (ps.length = gs.length ∧ 3 ≤ ps.length ∧ ps.length ≤ 8 ∧ ps.Nodup ∧ gs.Nodup)
theorem NotT.mono {K : PySem.W.Frag} {H H' : Hp} {v : V} (h : NotT K H v) (g : Same H H') : NotT K H' v := by
  obtain ⟨a, s, e, ps, gs, rfl, t, l1, l2, r⟩ := h
  exact ⟨a, s, e, ps, gs, rfl, Same.tup g t, l1.mono g, l2.mono g, r⟩
theorem nw {H G : Hp} {p : Addr} {o : HO} (n : H p = none) (e : upd H p o = G) : Same H G ∧ G p = some o := by
  subst e
  exact ⟨same_new n o, upd_same⟩
section
variable {way t : Int} {m n : Ch} {a b d x : Int × Int} {ps gs : List (Int × Int)}
theorem met_twice (hw : way = 9 ∨ way = 10 ∨ way = 11) (h : ∀ p ∈ [a, b, d, x] ++ gs, GoodPt p) (nd : ¬ [a, b, d].Nodup) : Met way m n [a, b, d, x] gs t "three" := by
  refine .inr ⟨by omega, .inl ⟨3, ?_, rfl⟩⟩
  rcases hw with rfl | hw
  · exact .inl ⟨rfl, .inr ⟨rfl, h, fun z => nd (List.Nodup.sublist (List.sublist_append_left [a, b, d] [x]) z.2.2.2.1)⟩⟩
  · exact .inr (.inl ⟨hw, a, b, d, x, rfl, .inr ⟨rfl, fun y hy => h y (List.mem_append_left _ hy), nd⟩⟩)
theorem met_not (h : ∀ p ∈ ps ++ gs, GoodPt p) (hn : ¬ (ps.length = gs.length ∧ 3 ≤ ps.length ∧ ps.length ≤ 8 ∧ ps.Nodup ∧ gs.Nodup)) : Met 9 m n ps gs t "three" :=
  .inr ⟨by decide, .inl ⟨3, .inl ⟨rfl, .inr ⟨rfl, h, hn⟩⟩, rfl⟩⟩
theorem met_good (gm : GoodC m) (gn : GoodC n) (h : Good2 (a :: ps) gs) (ht : t.natAbs ≤ 60) : Met way m n (a :: ps) gs t "told" := by
  by_cases hw : way < 9
  · exact .inl ⟨hw, a, ps, rfl, .inr ⟨gm, gn, h.2.2.2.2 a (by simp), ht, rfl⟩⟩
  · exact .inr ⟨by omega, .inr ⟨h, rfl⟩⟩
theorem met_change (hw : way < 9) (hg : ¬ GoodC m) : Met way m n (a :: ps) gs t "change" := .inl ⟨hw, a, ps, rfl, .inl ⟨0, .inl ⟨rfl, hg⟩, rfl⟩⟩
theorem met_point0 (gm : GoodC m) (hg : ¬ GoodPt a) : Met 0 m n (a :: ps) gs t "point" := .inl ⟨by decide, a, ps, rfl, .inl ⟨2, .inr (.inl ⟨rfl, rfl, gm, hg⟩), rfl⟩⟩
theorem met_times (gm : GoodC m) (ht : 60 < t.natAbs) : Met 4 m n (a :: ps) gs t "times" := .inl ⟨by decide, a, ps, rfl, .inl ⟨4, .inr (.inr ⟨rfl, rfl, gm, ht⟩), rfl⟩⟩
theorem met_any (hw : way = 9 ∨ way = 10 ∨ way = 11) (h : ∃ y ∈ [a, b, d, x], ¬ GoodPt y) : Met way m n [a, b, d, x] gs t "point" := by
  refine .inr ⟨by omega, .inl ⟨2, ?_, rfl⟩⟩
  obtain ⟨y, hy, g⟩ := h
  rcases hw with rfl | hw
  · exact .inl ⟨rfl, .inl ⟨rfl, y, List.mem_append_left _ hy, g⟩⟩
  · exact .inr (.inl ⟨hw, a, b, d, x, rfl, .inl ⟨rfl, y, hy, g⟩⟩)
theorem met_last (hw : way = 9 ∨ way = 10 ∨ way = 11 ∨ way = 12) (h : ¬ GoodPt x) : Met way m n [a, b, d, x] gs t "point" := by
  by_cases h12 : way = 12
  · exact .inr ⟨by omega, .inl ⟨2, .inr (.inr ⟨h12, a, b, d, x, rfl, rfl, h⟩), rfl⟩⟩
  · exact met_any (by omega) ⟨x, by simp, h⟩
theorem met_goal (h : ∃ y ∈ gs, ¬ GoodPt y) : Met 9 m n ps gs t "point" := by
  obtain ⟨y, hy, g⟩ := h
  exact .inr ⟨by decide, .inl ⟨2, .inl ⟨rfl, .inl ⟨rfl, y, List.mem_append_right _ hy, g⟩⟩, rfl⟩⟩
end
theorem Ltr.at_ref {K : PySem.W.Frag} {H : Hp} {l : Addr} {xs : List (List Int)} (h : Ltr K H (.ref l) xs) : ∃ ws, H l = some (.lst ws) ∧ Tps K H ws xs := by
  obtain ⟨l', ws, e, h1, h2⟩ := h
  cases e
  exact ⟨ws, h1, h2⟩
end Cs

namespace Lw
open PySem PySem.Spec PyProof.Rows L2 L3 L4 Mx Cs Tx
local macro_rules | `(tactic| walk_at "rd") => `(tactic| simp only [tSeq, tNext, tAsg, gName, tVar, tC, tCB, tCons, tNil, tOp, tUn, rI, rI0, rU, tRet, tIfS, tTest, tTup, tLst, tCall, tNot, tAnd, tOr, tIf, tDrop, tAndV, tOrV, tNotV, tNever, rIsB, rAllB, rInT, Bool.not_true, Bool.not_false, tB, tYes, rEq, rNe, scal_int, scal_bl, scal_str, rIxTI, rIxLI, rEqT, rEqLT, rIxL, tLenSet, gTupL, rInI, rIxT, rSort, tRaise, rMulS, tChain, rIn, rIxS, rSlS, rStarts, rSplit, rJoin, V.str.injEq, tSl, tPart, tNoPart, rSlL, cxOf_K, rSetL, gSub, gTup, gCons, gNil, rReverse, rAppend, tBM, tBM0, rCat, List.map_cons, CDiv, cDiv, cMul, CPow, List.getElem?_cons_zero, List.getElem?_cons_succ, List.set_cons_zero, List.set_cons_succ, List.cons_append, List.nil_append, List.append_nil, Option.some.injEq, V.int.injEq, V.ref.injEq, V.bl.injEq, V.ty.injEq, List.cons.injEq, exists_and_left, exists_eq_left', exists_eq_left, and_true, true_and, Option.join_some, capσ, eq_self, if_true, if_false, Bool.false_eq_true, decide_eq_true_eq, Bool.not_eq_true', decide_eq_false_iff_not, L2.start, List.map_cons, List.map_nil, List.length_cons, List.length_nil, List.replicate_succ, List.replicate_zero, Nat.reduceAdd, Nat.reduceSub, Nat.zero_add, List.replicate])
def top (i : Nat) : Stmt := PySem.Challenge.pw_crossline_k02_refused.main.body.getD i (.Pass ⟨0, 0, 0, 0⟩)
abbrev s__law_cell_at : Stmt := top 49
abbrev s__law_next : Stmt := top 50
abbrev s__law_stir : Stmt := top 53
abbrev s__law_common : Stmt := top 51
abbrev s__law_plain : Stmt := top 56
abbrev s__law_turning : Stmt := top 59
abbrev s__law_after : Stmt := top 57
abbrev s__law_back : Stmt := top 60
abbrev s__law_change : Stmt := top 61
abbrev s__law_point : Stmt := top 52
abbrev s__law_drawn_point : Stmt := top 54
abbrev s__law_some_points : Stmt := top 55
abbrev s__law_bad_change : Stmt := top 66
abbrev s__law_bad_point : Stmt := top 67
abbrev s_common_divisor : Stmt := top 9
abbrev s_lowest_change : Stmt := top 18
abbrev s_is_change : Stmt := top 19
abbrev s_check_change : Stmt := top 20
abbrev s_lowest_point : Stmt := top 10
abbrev s_is_point : Stmt := top 11
abbrev s_check_point : Stmt := top 12
abbrev s_moved : Stmt := top 21
abbrev s_joined : Stmt := top 22
abbrev s_after : Stmt := top 23
abbrev s_back : Stmt := top 24
abbrev s_power : Stmt := top 25
abbrev s_turns : Stmt := top 41
abbrev s_kept_with_far : Stmt := top 43
abbrev s_whole_root : Stmt := top 42
abbrev s_kept_without_far : Stmt := top 44
abbrev s_kept : Stmt := top 45
abbrev s_first_turn : Stmt := top 46
abbrev s_two_turns : Stmt := top 47
abbrev s_shown_change : Stmt := top 38
abbrev s__law_first : Stmt := top 63
abbrev s_unlike : Stmt := top 28
abbrev s_check_told : Stmt := top 29
abbrev s_gap : Stmt := top 26
abbrev s_to_base : Stmt := top 27
abbrev s_told_by : Stmt := top 30
abbrev s_check_three : Stmt := top 32
abbrev s_cross : Stmt := top 33
abbrev s_fourth : Stmt := top 34
abbrev s_shown_point : Stmt := top 37
abbrev s__law_second : Stmt := top 64
abbrev s__law_which : Stmt := top 62
abbrev s__law_met : Stmt := top 65
abbrev s__law_threes_right : Stmt := top 68
abbrev s_law : Stmt := top 69
section
variable {P : Program} {w : World} {K : PySem.W.Frag} {mg : Str → Option Value} {base : Heap} {nc nn np nth nt le : Addr}
theorem sc__law_cell_at : FnScope ["script", "k"] ["script", "k"] (defScope s__law_cell_at) := ⟨rfl, rfl, rfl, by decide +kernel, rfl, by decide +kernel, by decide +kernel⟩
set_option maxHeartbeats 4000000 in
theorem cal__law_cell_at (F : Def K mg "_law_cell_at" s__law_cell_at ["script", "k"]) (B : Blt mg) : Cal P w K mg base 1 "_law_cell_at" ["script", "k"] (spCell K) := by
  refine F.cal (k := 0) sc__law_cell_at (fun vs H Q E h => ?_) (fun f cdv A outer s H vs Q E hr h => ?_)
  · obtain ⟨a, ns, k, rfl, hq, hk, q⟩ := h
    rfl
  obtain ⟨a, ns, k, rfl, hq, hk, q⟩ := h
  have hu := hr.units
  have hu8 : (A.deeper (envOfC "_law_cell_at" (defScope s__law_cell_at) s.heap.objs.size f cdv)).units + 80 < cLine := by have := hr.un; omega
  refine ⟨_, (pss_cons (ps_if (pt_cmpR op_lt (pv 1) (pe_callB call_len_seq rfl B.len bt_len (pa_cons (pv 0) pa_nil)) (nomark _)) (pss_one (ps_ret (pe_ix ix_lstI (pv 0) (pv 1) (fun _ _ => rfl)))) pss_nil)
      (pss_one (ps_ret pe_int))), ?_⟩
  walk_at "rd"
  refine ⟨_, .inl hq, ?_⟩
  rw [List.length_map]
  refine ite2 (fun c => ?_) (fun c => ?_)
  · exact ⟨ns, ⟨a, rfl, hq⟩, _, cell_at hk c, q⟩
  · rw [cell_no (by omega)] at q
    exact q
theorem sc__law_next : FnScope ["script", "spot"] ["script", "spot"] (defScope s__law_next) := ⟨rfl, rfl, rfl, by decide +kernel, rfl, by decide +kernel, by decide +kernel⟩
set_option maxHeartbeats 4000000 in
theorem cal__law_next (F : Def K mg "_law_next" s__law_next ["script", "spot"]) (C__law_cell_at : Cal P w K mg base 1 "_law_cell_at" ["script", "k"] (spCell K)) : Cal P w K mg base 2 "_law_next" ["script", "spot"] (spNext K) := by
  refine F.cal (k := 1) sc__law_next (fun vs H Q E h => ?_) (fun f cdv A outer s H vs Q E hr h => ?_)
  · obtain ⟨a, b, ns, k, rfl, hs, hb, hk, q⟩ := h
    rfl
  obtain ⟨a, b, ns, k, rfl, hs, hb, hk, q⟩ := h
  have hu := hr.units
  have hu8 : (A.deeper (envOfC "_law_next" (defScope s__law_next) s.heap.objs.size f cdv)).units + 80 < cLine := by have := hr.un; omega
  refine ⟨_, (pss_cons (ps_asg (pe_op op_add (pe_ix ix_lstI (pv 1) pe_int (fun _ _ => rfl)) pe_int) (pg_sub (pv 1) pe_int set_list))
      (pss_one (ps_ret (pe_callC C__law_cell_at hr (pa_cons (pv 0) (pa_cons (pe_op op_sub (pe_ix ix_lstI (pv 1) pe_int (fun _ _ => rfl)) pe_int) pa_nil)))))), ?_⟩
  walk_at "rd"
  refine ⟨[k], ⟨b, rfl, SqL.of hb⟩, _, at0 _ _, _, hb, 0, rfl, ?_⟩
  refine ⟨[k + 1], ⟨b, rfl, SqL.of upd_same⟩, _, at0 _ _, ?_⟩
  refine ⟨a, ns, k + 1 - 1, rfl, (hs.upd hb).seq, by omega, ?_⟩
  have e : k + 1 - 1 = k := by omega
  rw [e]
  exact q
theorem sc__law_stir : FnScope ["seed"] ["seed"] (defScope s__law_stir) := ⟨rfl, rfl, rfl, by decide +kernel, rfl, by decide +kernel, by decide +kernel⟩
set_option maxHeartbeats 4000000 in
theorem cal__law_stir (F : Def K mg "_law_stir" s__law_stir ["seed"]) : Cal P w K mg base 1 "_law_stir" ["seed"] spStir := by
  refine F.cal (k := 0) sc__law_stir (fun vs H Q E h => ?_) (fun f cdv A outer s H vs Q E hr h => ?_)
  · obtain ⟨c, rfl, q⟩ := h
    rfl
  obtain ⟨c, rfl, q⟩ := h
  have hu := hr.units
  have hu8 : (A.deeper (envOfC "_law_stir" (defScope s__law_stir) s.heap.objs.size f cdv)).units + 80 < cLine := by have := hr.un; omega
  refine ⟨_, (pss_cons (ps_set (i := 0) sc__law_stir.nd rfl (Or.inl rfl) (pe_op op_mod (pe_op op_add (pv 0) pe_int) pe_int))
      (pss_one (ps_ret (pe_op op_mod (pe_op op_add (pe_op op_add (pe_op op_mulB (pv 0) (pv 0)) (pe_op op_mulB pe_int (pv 0))) pe_int) pe_int)))), ?_⟩
  have h0 : 0 ≤ (c + 7919) % 2147483647 := Int.emod_nonneg _ (by decide)
  have h1 : (c + 7919) % 2147483647 < 2147483647 := Int.emod_lt_of_pos _ (by decide)
  have hb : Bd 100000 ((c + 7919) % 2147483647) := Bd.mono (j := 31) (Bd.lit (by omega)) (by decide)
  walk_at "rd"
  exact ⟨by decide, ⟨hb, hb⟩, ⟨Bd.mono (j := 31) (Bd.lit (by decide)) (by decide), hb⟩, by decide, q⟩
theorem sc__law_common : FnScope ["one", "other", "rest"] ["one", "other"] (defScope s__law_common) := ⟨rfl, rfl, rfl, by decide +kernel, rfl, by decide +kernel, by decide +kernel⟩
set_option maxHeartbeats 4000000 in
theorem cal__law_common (F : Def K mg "_law_common" s__law_common ["one", "other"]) (B : Blt mg) : Cal P w K mg base 1 "_law_common" ["one", "other"] spGcd := by
  refine F.cal (k := 0) sc__law_common (fun vs H Q E h => ?_) (fun f cdv A outer s H vs Q E hr h => ?_)
  · obtain ⟨a, b, rfl, q⟩ := h
    rfl
  obtain ⟨a, b, rfl, q⟩ := h
  have hu := hr.units
  have hu8 : (A.deeper (envOfC "_law_common" (defScope s__law_common) s.heap.objs.size f cdv)).units + 80 < cLine := by have := hr.un; omega
  refine ⟨_, (pss_cons (ps_set (i := 0) sc__law_common.nd rfl (Or.inl rfl) (pe_callB call_absN rfl B.abs bt_abs (pa_cons (pv 0) pa_nil)))
      (pss_cons (ps_set (i := 1) sc__law_common.nd rfl (Or.inl rfl) (pe_callB call_absN rfl B.abs bt_abs (pa_cons (pv 1) pa_nil)))
      (pss_cons (ps_while PassesOwn.never (pt_cmpR op_gt (pv 1) pe_int (nomark _)) (pss_cons (ps_set (i := 2) sc__law_common.nd rfl (Or.inl rfl) (pe_op op_modN (pv 0) (pv 1)))
      (pss_cons (ps_set (i := 0) sc__law_common.nd rfl (Or.inl rfl) (pv 1))
      (pss_one (ps_set (i := 1) sc__law_common.nd rfl (Or.inl rfl) (pv 2))))))
      (pss_one (ps_ret (pv 0)))))), ?_⟩
  walk_at "rd"
  refine while_of (fun n σ H' => ∃ (l s : Int) (r : Option V), σ = [some (.int l), some (.int s), r] ∧ 0 ≤ l ∧ 0 ≤ s ∧ Int.gcd l s = Int.gcd a b ∧ H' = H ∧ n = s.toNat) _
    ⟨_, _, _, rfl, by omega, by omega, rfl, rfl, rfl⟩ ?_
  rintro W' hW n σ H' ⟨l, s, r, rfl, hl, hs, hg, rfl, rfl⟩
  walk_at "rd"
  refine ite2 (fun c => ?_) (fun c => ?_)
  · refine ⟨fun σ' H' => ∃ m', m' < s.toNat ∧ W' m' σ' H', fun σ' H' h => h, ?_⟩
    have c' : s ≠ 0 := by omega
    obtain ⟨m0, m1⟩ := fmod_natAbs_lt hl hs c'
    walk_at "rd"
    exact ⟨c', _, (by omega : (l.fmod s).toNat < s.toNat), hW _ _ _ ⟨_, _, _, rfl, hs, m0, by rw [gcd_step c']; exact hg, rfl, rfl⟩⟩
  · have : s = 0 := by omega
    subst this
    have e : ((Int.gcd l 0 : Nat) : Int) = l := by simp; omega
    rw [← hg, e] at q
    exact q
theorem sc__law_plain : FnScope ["numbers", "both", "number"] ["numbers"] (defScope s__law_plain) := ⟨rfl, rfl, rfl, by decide +kernel, rfl, by decide +kernel, by decide +kernel⟩
set_option maxHeartbeats 4000000 in
theorem cal__law_plain (F : Def K mg "_law_plain" s__law_plain ["numbers"]) (C__law_common : Cal P w K mg base 1 "_law_common" ["one", "other"] spGcd) (B : Blt mg) : Cal P w K mg base 2 "_law_plain" ["numbers"] (spPlain K) := by
  refine F.cal (k := 1) sc__law_plain (fun vs H Q E h => ?_) (fun f cdv A outer s H vs Q E hr h => ?_)
  · obtain ⟨a, m, rfl, hq, hd, hb, q⟩ := h
    rfl
  obtain ⟨a, m, rfl, hq, hd, hb, q⟩ := h
  have hu := hr.units
  have hu8 : (A.deeper (envOfC "_law_plain" (defScope s__law_plain) s.heap.objs.size f cdv)).units + 80 < cLine := by have := hr.un; omega
  refine ⟨_, (pss_cons (ps_set (i := 1) sc__law_plain.nd rfl (Or.inr rfl) pe_int)
      (pss_cons (ps_for PassesOwn.never rfl (pi_list (pv 0)) (pg_name (i := 2) sc__law_plain.nd rfl (Or.inl rfl)) (pss_one (ps_set (i := 1) sc__law_plain.nd rfl (Or.inr rfl) (pe_callC C__law_common hr (pa_cons (pv 1) (pa_cons (pv 2) pa_nil))))))
      (pss_cons (ps_if (pt_cmpR op_lt (pe_ix ix_lstI (pe_comp [] (sc := defScope s__law_plain) (cn := []) rfl ⟨rfl, by decide +kernel, rfl, by decide +kernel, by decide +kernel, by decide +kernel, by decide +kernel⟩ rfl rfl (pi_list (pv 0)) (fun _ _ _ _ _ => pq_one (pt_cmpR op_ne (pv 0) pe_int (nomark _))) (fun _ _ _ _ _ => (pv 0))) pe_int (fun _ _ => rfl)) pe_int (nomark _)) (pss_one (ps_set (i := 1) sc__law_plain.nd rfl (Or.inr rfl) (pe_un un_neg (pv 1)))) pss_nil)
      (pss_one (ps_ret (pe_callTy call_tuple_of rfl B.tuple bt_tuple (pa_cons (pe_comp [1] (sc := defScope s__law_plain) (cn := ["both"]) rfl ⟨rfl, by decide +kernel, rfl, by decide +kernel, by decide +kernel, by decide +kernel, by decide +kernel⟩ rfl rfl (pi_list (pv 0)) (fun _ _ _ _ _ => pq_nil) (fun _ _ _ _ _ => (pe_op op_fdivB (pv 0) (pv 1)))) pa_nil))))))), ?_⟩
  obtain ⟨g, hge⟩ : ∃ g, g = if (if m.a ≠ 0 then m.a else m.b) < 0 then -(g4 m) else g4 m := ⟨_, rfl⟩
  have hg : g ≠ 0 := by have := g4_ne hd; rw [hge]; split <;> omega
  have hbg : Bd 8000 g := by
    have h : Bd 8000 (g4 m) := (hb.gcd).mono (by decide)
    rw [hge]
    by_cases c : (if m.a ≠ 0 then m.a else m.b) < 0
    · rw [if_pos c]; exact h.neg
    · rw [if_neg c]; exact h
  have hf : cl (nch m) = (cl m).map (fun n => n.fdiv g) := by rw [hge]; rfl
  apply seq_det
  · intro k hk; walk_at "rd"; exact hk
  refine seq_by (fun σ H' => ∃ r : Option V, σ = [some (.ref a), some (.int (g4 m)), r] ∧ H' = H) (fun k hk => ?_) ?_
  · refine ⟨_, rfl, a, rfl, ⟨_, hq⟩, forL (xs := (cl m).map V.int) (fun i σ H' => ∃ (r : Option V), σ = [some (.ref a), some (.int (gI ((cl m).take i))), r] ∧ H' = H) ⟨_, rfl, rfl⟩ (fun i σ H' _ h => ?_) ?_ ?_⟩
    · obtain ⟨r, rfl, rfl⟩ := h
      exact hq
    · rintro Pv' hP i x σ H' hx ⟨r, rfl, rfl⟩
      obtain ⟨n, hn, rfl⟩ := map_at hx
      walk_at "rd"
      refine ⟨_, _, rfl, hP _ _ _ ⟨some (.int n), ?_, rfl⟩⟩
      rw [gI_step hn]
    · rintro σ H' ⟨r, rfl, rfl⟩
      exact hk _ _ ⟨r, rfl, rfl⟩
  rintro σ H' ⟨r, rfl, rfl⟩
  refine seq_by (fun σ H1 => σ = [some (.ref a), some (.int g), r] ∧ Same H' H1) (fun k hk => ?_) ?_
  · walk_at "rd"
    refine tcompL rfl hq (fun i acc H'' => acc = (((cl m).take i).filter fun n => decide (n ≠ 0)).map V.int ∧ H'' = H') ⟨rfl, rfl⟩ (fun i acc H'' hi h => ?_) ?_ ?_
    · obtain ⟨rfl, rfl⟩ := h
      refine ⟨hq, ?_⟩
      rw [List.length_map]
      exact Nat.le_trans (List.length_filter_le _ _) (by rw [List.length_take]; exact Nat.le_trans (Nat.min_le_right _ _) (by show 4 ≤ sizeLine; decide))
    · rintro i x acc H'' hx ⟨rfl, rfl⟩ R hR
      obtain ⟨n, hn, rfl⟩ := map_at hx
      walk_at "rd"
      refine ite2 (fun c => hR _ _ ⟨?_, rfl⟩) (fun c => hR _ _ ⟨?_, rfl⟩)
      · rw [List.take_add_one, hn]
        simp [c]
      · rw [List.take_add_one, hn]
        have c' : n = 0 := by simpa using c
        simp [c']
    · rintro acc H'' p ⟨rfl, rfl⟩ hp
      try walk_at "rd"
      refine ⟨_, Lp.of, _, first_filter (first_pos hd), ?_⟩
      refine ite2 (fun c => ?_) (fun c => ?_)
      · refine hk _ _ ⟨?_, same_new hp _⟩
        rw [hge, if_pos c]
      · refine hk _ _ ⟨?_, same_new hp _⟩
        rw [hge, if_neg c]
  rintro σ H1 ⟨rfl, g1⟩
  replace hq := g1.seq hq
  replace q := q.from g1

  walk_at "rd"
  refine tcompL rfl hq (fun i acc H'' => acc = ((cl m).take i).map (fun n => V.int (n.fdiv g)) ∧ H'' = H1) ⟨rfl, rfl⟩ (fun i acc H'' hi h => ?_) ?_ ?_
  · obtain ⟨rfl, rfl⟩ := h
    refine ⟨hq, ?_⟩
    rw [List.length_map, List.length_take]
    exact Nat.le_trans (Nat.min_le_right _ _) (by show 4 ≤ sizeLine; decide)
  · rintro i x acc H'' hx ⟨rfl, rfl⟩ R hR
    obtain ⟨n, hn, rfl⟩ := map_at hx
    simp only [capσ]
    walk_at "rd"
    refine ⟨⟨hg, hbg⟩, hR _ _ ⟨?_, rfl⟩⟩
    rw [List.take_add_one, hn]
    simp
  · rintro acc H'' p ⟨rfl, rfl⟩ hp
    walk_at "rd"
    refine ⟨_, .inl ⟨SqL.of upd_same, fun l hl => q _ _ (Same.trans (same_new hp _) (same_new hl _)) ⟨l, rfl, SqT.of ?_⟩⟩⟩
    rw [upd_same, hf, List.map_map]; rfl
theorem sc__law_turning : FnScope ["cell"] ["cell"] (defScope s__law_turning) := ⟨rfl, rfl, rfl, by decide +kernel, rfl, by decide +kernel, by decide +kernel⟩
set_option maxHeartbeats 4000000 in
theorem cal__law_turning (F : Def K mg "_law_turning" s__law_turning ["cell"]) : Cal P w K mg base 1 "_law_turning" ["cell"] (spTurning K) := by
  refine F.cal (k := 0) sc__law_turning (fun vs H Q E h => ?_) (fun f cdv A outer s H vs Q E hr h => ?_)
  · obtain ⟨c, rfl, q⟩ := h
    rfl
  obtain ⟨c, rfl, q⟩ := h
  have hu := hr.units
  have hu8 : (A.deeper (envOfC "_law_turning" (defScope s__law_turning) s.heap.objs.size f cdv)).units + 80 < cLine := by have := hr.un; omega
  refine ⟨_, (pss_one (ps_ret (pe_ix ix_list (pe_lst (pa_cons (pe_tup (pa_cons pe_int (pa_cons pe_int (pa_cons pe_int (pa_cons (pe_un un_neg pe_int) pa_nil))))) (pa_cons (pe_tup (pa_cons pe_int (pa_cons (pe_un un_neg pe_int) (pa_cons pe_int (pa_cons pe_int pa_nil))))) (pa_cons (pe_tup (pa_cons pe_int (pa_cons (pe_un un_neg pe_int) (pa_cons pe_int (pa_cons pe_int pa_nil))))) (pa_cons (pe_tup (pa_cons pe_int (pa_cons (pe_un un_neg pe_int) (pa_cons pe_int (pa_cons pe_int pa_nil))))) (pa_cons (pe_tup (pa_cons pe_int (pa_cons pe_int (pa_cons pe_int (pa_cons pe_int pa_nil))))) (pa_cons (pe_tup (pa_cons pe_int (pa_cons pe_int (pa_cons pe_int (pa_cons pe_int pa_nil))))) pa_nil))))))) (pe_op op_mod (pv 0) pe_int) (fun _ _ => rfl)))), ?_⟩
  have h0 := Int.emod_nonneg c (b := 6) (by decide)
  have h1 := Int.emod_lt_of_pos c (b := 6) (by decide)
  walk_at "rd"
  refine ⟨by show 4 ≤ sizeLine; decide, fun p0 n0 => ⟨by show 4 ≤ sizeLine; decide, fun p1 n1 => ⟨by show 4 ≤ sizeLine; decide, fun p2 n2 => ⟨by show 4 ≤ sizeLine; decide, fun p3 n3 => ⟨by show 4 ≤ sizeLine; decide, fun p4 n4 => ⟨by show 4 ≤ sizeLine; decide, fun p5 n5 =>
    ⟨by show 6 ≤ sizeLine; decide, fun l nl => ⟨by decide, ?_⟩⟩⟩⟩⟩⟩⟩⟩
  have g0 := same_new n0 (.tup [.int 1, .int 0, .int 0, .int (-1)])
  have g1 := same_new n1 (.tup [.int 0, .int (-1), .int 1, .int 1])
  have g2 := same_new n2 (.tup [.int 1, .int (-1), .int 1, .int 1])
  have g3 := same_new n3 (.tup [.int 1, .int (-1), .int 1, .int 2])
  have g4 := same_new n4 (.tup [.int 0, .int 1, .int 1, .int 0])
  have g5 := same_new n5 (.tup [.int 1, .int 1, .int 0, .int 1])
  have g6 := same_new nl (.lst [.ref p0, .ref p1, .ref p2, .ref p3, .ref p4, .ref p5])
  have g : Same H _ := g0.trans (g1.trans (g2.trans (g3.trans (g4.trans (g5.trans g6)))))
  have hc : c % 6 = 0 ∨ c % 6 = 1 ∨ c % 6 = 2 ∨ c % 6 = 3 ∨ c % 6 = 4 ∨ c % 6 = 5 := by omega
  rcases hc with e | e | e | e | e | e <;> rw [e]
  · exact ⟨_, SqL.of upd_same, _, rfl, q _ _ ⟨1, 0, 0, -1⟩ g ⟨p0, rfl, SqT.of (g6 _ _ (g5 _ _ (g4 _ _ (g3 _ _ (g2 _ _ (g1 _ _ upd_same))))))⟩ (by decide) ⟨by decide, by decide, by decide, by decide⟩⟩
  · exact ⟨_, SqL.of upd_same, _, rfl, q _ _ ⟨0, -1, 1, 1⟩ g ⟨p1, rfl, SqT.of (g6 _ _ (g5 _ _ (g4 _ _ (g3 _ _ (g2 _ _ upd_same)))))⟩ (by decide) ⟨by decide, by decide, by decide, by decide⟩⟩
  · exact ⟨_, SqL.of upd_same, _, rfl, q _ _ ⟨1, -1, 1, 1⟩ g ⟨p2, rfl, SqT.of (g6 _ _ (g5 _ _ (g4 _ _ (g3 _ _ upd_same))))⟩ (by decide) ⟨by decide, by decide, by decide, by decide⟩⟩
  · exact ⟨_, SqL.of upd_same, _, rfl, q _ _ ⟨1, -1, 1, 2⟩ g ⟨p3, rfl, SqT.of (g6 _ _ (g5 _ _ (g4 _ _ upd_same)))⟩ (by decide) ⟨by decide, by decide, by decide, by decide⟩⟩
  · exact ⟨_, SqL.of upd_same, _, rfl, q _ _ ⟨0, 1, 1, 0⟩ g ⟨p4, rfl, SqT.of (g6 _ _ (g5 _ _ upd_same))⟩ (by decide) ⟨by decide, by decide, by decide, by decide⟩⟩
  · exact ⟨_, SqL.of upd_same, _, rfl, q _ _ ⟨1, 1, 0, 1⟩ g ⟨p5, rfl, SqT.of (g6 _ _ upd_same)⟩ (by decide) ⟨by decide, by decide, by decide, by decide⟩⟩
theorem sc__law_after : FnScope ["one", "other", "rows"] ["one", "other"] (defScope s__law_after) := ⟨rfl, rfl, rfl, by decide +kernel, rfl, by decide +kernel, by decide +kernel⟩
set_option maxHeartbeats 4000000 in
theorem cal__law_after (F : Def K mg "_law_after" s__law_after ["one", "other"]) (C__law_plain : Cal P w K mg base 2 "_law_plain" ["numbers"] (spPlain K)) : Cal P w K mg base 3 "_law_after" ["one", "other"] (spLawAfter K) := by
  refine F.cal (k := 2) sc__law_after (fun vs H Q E h => ?_) (fun f cdv A outer s H vs Q E hr h => ?_)
  · obtain ⟨v, u, m, n, rfl, hv, hn, dm, dn, bm, bn, q⟩ := h
    rfl
  obtain ⟨v, u, m, n, rfl, hv, hn, dm, dn, bm, bn, q⟩ := h
  have hu := hr.units
  have hu8 : (A.deeper (envOfC "_law_after" (defScope s__law_after) s.heap.objs.size f cdv)).units + 80 < cLine := by have := hr.un; omega
  refine ⟨_, (pss_cons (ps_set (i := 2) sc__law_after.nd rfl (Or.inl rfl) (pe_lst (pa_cons (pe_op op_add (pe_op op_mulB (pe_ix ix_tupI (pv 0) pe_int (fun _ _ => rfl)) (pe_ix ix_tupI (pv 1) pe_int (fun _ _ => rfl))) (pe_op op_mulB (pe_ix ix_tupI (pv 0) pe_int (fun _ _ => rfl)) (pe_ix ix_tupI (pv 1) pe_int (fun _ _ => rfl)))) (pa_cons (pe_op op_add (pe_op op_mulB (pe_ix ix_tupI (pv 0) pe_int (fun _ _ => rfl)) (pe_ix ix_tupI (pv 1) pe_int (fun _ _ => rfl))) (pe_op op_mulB (pe_ix ix_tupI (pv 0) pe_int (fun _ _ => rfl)) (pe_ix ix_tupI (pv 1) pe_int (fun _ _ => rfl)))) pa_nil))))
      (pss_cons (ps_set (i := 2) sc__law_after.nd rfl (Or.inl rfl) (pe_op op_cat (pv 2) (pe_lst (pa_cons (pe_op op_add (pe_op op_mulB (pe_ix ix_tupI (pv 0) pe_int (fun _ _ => rfl)) (pe_ix ix_tupI (pv 1) pe_int (fun _ _ => rfl))) (pe_op op_mulB (pe_ix ix_tupI (pv 0) pe_int (fun _ _ => rfl)) (pe_ix ix_tupI (pv 1) pe_int (fun _ _ => rfl)))) (pa_cons (pe_op op_add (pe_op op_mulB (pe_ix ix_tupI (pv 0) pe_int (fun _ _ => rfl)) (pe_ix ix_tupI (pv 1) pe_int (fun _ _ => rfl))) (pe_op op_mulB (pe_ix ix_tupI (pv 0) pe_int (fun _ _ => rfl)) (pe_ix ix_tupI (pv 1) pe_int (fun _ _ => rfl)))) pa_nil)))))
      (pss_one (ps_ret (pe_callC C__law_plain hr (pa_cons (pv 2) pa_nil)))))), ?_⟩
  obtain ⟨a1, a2, a3, a4⟩ := bm.mono (show 1900 ≤ 100000 by decide)
  obtain ⟨b1, b2, b3, b4⟩ := bn.mono (show 1900 ≤ 100000 by decide)
  refine seq_by (fun σ H1 => ∃ p, σ = [some v, some u, some (.ref p)] ∧ H1 = upd H p (.lst [.int (m.a * n.a + m.c * n.b), .int (m.b * n.a + m.d * n.b)]) ∧ H p = none) (fun k hk => ?_) ?_
  · walk_at "rd"
    refine ⟨_, hv, _, at0 _ _, _, hn, _, at0 _ _, ⟨a1, b1⟩, _, hv, _, at2 _ _ _ _, _, hn, _, at1 _ _ _, ⟨a3, b2⟩, ?_⟩
    refine ⟨_, hv, _, at1 _ _ _, _, hn, _, at0 _ _, ⟨a2, b1⟩, _, hv, _, at3 _ _ _ _ _, _, hn, _, at1 _ _ _, ⟨a4, b2⟩, (by show 2 ≤ sizeLine; decide), fun p hp => hk _ _ ⟨p, rfl, rfl, hp⟩⟩
  rintro σ H1 ⟨p, rfl, rfl, hp⟩
  have g1 : Same H (upd H p (.lst [.int (m.a * n.a + m.c * n.b), .int (m.b * n.a + m.d * n.b)])) := same_new hp _
  refine seq_by (fun σ H2 => ∃ l, σ = [some v, some u, some (.ref l)] ∧ H2 l = some (.lst ((cl (mul m n)).map V.int)) ∧ Same H H2) (fun k hk => ?_) ?_
  · have hv1 := hv.mono g1
    have hn1 := hn.mono g1
    walk_at "rd"
    refine ⟨_, hv1, _, at0 _ _, _, hn1, _, at2 _ _ _ _, ⟨a1, b3⟩, _, hv1, _, at2 _ _ _ _, _, hn1, _, at3 _ _ _ _ _, ⟨a3, b4⟩, ?_⟩
    refine ⟨_, hv1, _, at1 _ _ _, _, hn1, _, at2 _ _ _ _, ⟨a2, b3⟩, _, hv1, _, at3 _ _ _ _ _, _, hn1, _, at3 _ _ _ _ _, ⟨a4, b4⟩, (by show 2 ≤ sizeLine; decide), fun p2 hp2 => ?_⟩
    refine ⟨_, (same_new hp2 _) _ _ upd_same, _, upd_same, (by show 4 ≤ sizeLine; decide), fun l hl => hk _ _ ⟨l, rfl, ?_, g1.trans ((same_new hp2 _).trans (same_new hl _))⟩⟩
    rw [upd_same]
    simp only [cl, mul, List.map_cons, List.map_nil, List.cons_append, List.nil_append, Int.mul_comm]
  rintro σ H2 ⟨l, rfl, hl, g2⟩
  walk_at "rd"
  exact ⟨l, mul m n, rfl, SqL.of hl, mul_ne dm dn, (bm.mul bn).mono (by decide), q.from g2⟩
theorem sc__law_back : FnScope ["change"] ["change"] (defScope s__law_back) := ⟨rfl, rfl, rfl, by decide +kernel, rfl, by decide +kernel, by decide +kernel⟩
set_option maxHeartbeats 4000000 in
theorem cal__law_back (F : Def K mg "_law_back" s__law_back ["change"]) (C__law_plain : Cal P w K mg base 2 "_law_plain" ["numbers"] (spPlain K)) : Cal P w K mg base 3 "_law_back" ["change"] (spLawBack K) := by
  refine F.cal (k := 2) sc__law_back (fun vs H Q E h => ?_) (fun f cdv A outer s H vs Q E hr h => ?_)
  · obtain ⟨v, m, rfl, hv, dm, bm, q⟩ := h
    rfl
  obtain ⟨v, m, rfl, hv, dm, bm, q⟩ := h
  have hu := hr.units
  have hu8 : (A.deeper (envOfC "_law_back" (defScope s__law_back) s.heap.objs.size f cdv)).units + 80 < cLine := by have := hr.un; omega
  refine ⟨_, (pss_one (ps_ret (pe_callC C__law_plain hr (pa_cons (pe_lst (pa_cons (pe_ix ix_tupI (pv 0) pe_int (fun _ _ => rfl)) (pa_cons (pe_un un_neg (pe_ix ix_tupI (pv 0) pe_int (fun _ _ => rfl))) (pa_cons (pe_un un_neg (pe_ix ix_tupI (pv 0) pe_int (fun _ _ => rfl))) (pa_cons (pe_ix ix_tupI (pv 0) pe_int (fun _ _ => rfl)) pa_nil))))) pa_nil)))), ?_⟩
  walk_at "rd"
  refine ⟨_, hv, _, at3 _ _ _ _ _, _, hv, _, at1 _ _ _, _, hv, _, at2 _ _ _ _, _, hv, _, at0 _ _, (by show 4 ≤ sizeLine; decide), fun p hp => ?_⟩
  exact ⟨p, adj m, rfl, SqL.of upd_same, by rw [det_adj]; exact dm, (bm.adj).mono (by decide), q.from (same_new hp _)⟩
theorem sc__law_change : FnScope ["script", "spot", "cell", "wide", "numbers", "k", "seed", "rest", "found", "turning"] ["script", "spot"] (defScope s__law_change) := ⟨rfl, rfl, rfl, by decide +kernel, rfl, by decide +kernel, by decide +kernel⟩
set_option maxHeartbeats 4000000 in
theorem cal__law_change (F : Def K mg "_law_change" s__law_change ["script", "spot"]) (C__law_next : Cal P w K mg base 3 "_law_next" ["script", "spot"] (spNext K)) (C__law_stir : Cal P w K mg base 3 "_law_stir" ["seed"] spStir) (C__law_plain : Cal P w K mg base 3 "_law_plain" ["numbers"] (spPlain K)) (C__law_turning : Cal P w K mg base 3 "_law_turning" ["cell"] (spTurning K)) (C__law_after : Cal P w K mg base 3 "_law_after" ["one", "other"] (spLawAfter K)) (C__law_back : Cal P w K mg base 3 "_law_back" ["change"] (spLawBack K)) (B : Blt mg) : Cal P w K mg base 4 "_law_change" ["script", "spot"] (spLawChange K) := by
  refine F.cal (k := 3) sc__law_change (fun vs H Q E h => ?_) (fun f cdv A outer s H vs Q E hr h => ?_)
  · obtain ⟨a, b, ns, kk, rfl, hs, hb, hk0, q⟩ := h
    rfl
  obtain ⟨a, b, ns, kk, rfl, hs, hb, hk0, q⟩ := h
  have hu := hr.units
  have hu8 : (A.deeper (envOfC "_law_change" (defScope s__law_change) s.heap.objs.size f cdv)).units + 80 < cLine := by have := hr.un; omega
  refine ⟨_, (pss_cons (ps_set (i := 2) sc__law_change.nd rfl (Or.inl rfl) (pe_callC C__law_next hr (pa_cons (pv 0) (pa_cons (pv 1) pa_nil))))
      (pss_cons (ps_set (i := 3) sc__law_change.nd rfl (Or.inl rfl) (pe_ix ix_lstI (pe_lst (pa_cons pe_int (pa_cons pe_int (pa_cons pe_int (pa_cons pe_int pa_nil))))) (pe_op op_mod (pv 2) pe_int) (fun _ _ => rfl)))
      (pss_cons (ps_set (i := 4) sc__law_change.nd rfl (Or.inl rfl) (pe_lst pa_nil))
      (pss_cons (ps_for PassesOwn.never rfl (pi_range1 rfl B.range (pa_cons pe_int pa_nil)) (pg_name (i := 5) sc__law_change.nd rfl (Or.inl rfl)) (pss_cons (ps_set (i := 6) sc__law_change.nd rfl (Or.inl rfl) (pe_callC C__law_stir hr (pa_cons (pe_op op_add (pv 2) (pe_op op_mulB pe_int (pv 5))) pa_nil)))
      (pss_one (ps_expr (pe_bm PySem.F.plainAttrs_list PySem.F.slot_list_append PySem.F.type_list_append mt_append (pv 4) (pa_cons (pe_op op_sub (pe_op op_mod (pe_op op_fdiv (pe_callC C__law_stir hr (pa_cons (pv 6) pa_nil)) pe_int) (pe_op op_add (pe_op op_mulB pe_int (pv 3)) pe_int)) (pv 3)) pa_nil))))))
      (pss_cons (ps_if (pt_cmpR op_eq (pe_op op_mod (pe_op op_fdiv (pv 2) pe_int) pe_int) pe_int (nomark _)) (pss_cons (ps_set (i := 7) sc__law_change.nd rfl (Or.inl rfl) (pe_op op_fdiv (pv 2) pe_int))
      (pss_one (ps_set (i := 4) sc__law_change.nd rfl (Or.inl rfl) (pe_lst (pa_cons (pe_op op_sub (pe_op op_mod (pv 7) pe_int) pe_int) (pa_cons (pe_op op_sub (pe_op op_mod (pe_op op_fdiv (pv 7) pe_int) pe_int) pe_int) (pa_cons (pe_op op_sub (pe_op op_mod (pe_op op_fdiv (pv 7) pe_int) pe_int) pe_int) (pa_cons (pe_op op_sub (pe_op op_mod (pe_op op_fdiv (pv 7) pe_int) pe_int) pe_int) pa_nil)))))))) (pss_one (ps_if (pt_cmpR op_eq (pe_op op_mod (pe_op op_fdiv (pv 2) pe_int) pe_int) pe_int (nomark _)) (pss_one (ps_asg pe_int (pg_sub (pv 4) (pe_op op_mod (pe_op op_fdiv (pv 2) pe_int) pe_int) set_list))) pss_nil)))
      (pss_cons (ps_if (pt_cmpR op_eq (pe_op op_mulB (pe_ix ix_lstI (pv 4) pe_int (fun _ _ => rfl)) (pe_ix ix_lstI (pv 4) pe_int (fun _ _ => rfl))) (pe_op op_mulB (pe_ix ix_lstI (pv 4) pe_int (fun _ _ => rfl)) (pe_ix ix_lstI (pv 4) pe_int (fun _ _ => rfl))) (nomark _)) (pss_one (ps_set (i := 4) sc__law_change.nd rfl (Or.inl rfl) (pe_lst (pa_cons (pe_op op_add pe_int (pe_op op_mod (pe_op op_fdiv (pv 2) pe_int) pe_int)) (pa_cons (pe_op op_sub (pe_op op_mod (pe_op op_fdiv (pv 2) pe_int) pe_int) pe_int) (pa_cons pe_int (pa_cons pe_int pa_nil))))))) pss_nil)
      (pss_cons (ps_set (i := 8) sc__law_change.nd rfl (Or.inl rfl) (pe_callC C__law_plain hr (pa_cons (pv 4) pa_nil)))
      (pss_cons (ps_if (PW.pt (pw_and (pt_cmpR op_eq (pe_op op_mod (pe_op op_fdiv (pv 2) pe_int) pe_int) pe_int (nomark _)) (pw_and1 (pt_cmpR op_eq (pe_op op_mod (pe_op op_fdiv (pv 2) pe_int) pe_int) pe_int (nomark _))))) (pss_cons (ps_set (i := 9) sc__law_change.nd rfl (Or.inl rfl) (pe_callC C__law_turning hr (pa_cons (pe_op op_fdiv (pv 2) pe_int) pa_nil)))
      (pss_one (ps_ret (pe_callC C__law_after hr (pa_cons (pe_callC C__law_after hr (pa_cons (pe_callC C__law_back hr (pa_cons (pv 8) pa_nil)) (pa_cons (pv 9) pa_nil))) (pa_cons (pv 8) pa_nil)))))) pss_nil)
      (pss_one (ps_ret (pv 8))))))))))), ?_⟩
  obtain ⟨B0, hB⟩ : ∃ B0, B0 = upd H b (.lst [.int (kk + 1)]) := ⟨_, rfl⟩
  rw [← hB] at q
  obtain ⟨c, hc⟩ : ∃ c, c = cellN ns kk := ⟨_, rfl⟩
  apply seq_det
  · intro k hk; walk_at "rd"; exact ⟨a, b, ns, kk, rfl, hs, hb, hk0, hk⟩
  rw [← hB, ← hc]
  -- wide
  refine seq_by (fun σ H1 => ∃ w : Int, 2 ≤ w ∧ w ≤ 1000 ∧ σ = [some (.ref a), some (.ref b), some (.int c), some (.int w), none, none, none, none, none, none] ∧ Same B0 H1) (fun k hk => ?_) ?_
  · walk_at "rd"
    obtain ⟨v, hv, hm⟩ := at_any [(2 : Int), 4, 30, 1000] (i := c % 4) (Int.emod_nonneg _ (by decide)) (Int.emod_lt_of_pos _ (by decide))
    refine ⟨by show 4 ≤ sizeLine; decide, fun p hp => ⟨by decide, [2, 4, 30, 1000], ⟨p, rfl, SqL.of upd_same⟩, v, hv, hk _ _ ⟨v, ?_, ?_, rfl, same_new hp _⟩⟩⟩
    · simp only [List.mem_cons, List.not_mem_nil, or_false] at hm; omega
    · simp only [List.mem_cons, List.not_mem_nil, or_false] at hm; omega
  rintro σ H1 ⟨w, w1, w2, rfl, g1⟩
  -- numbers = []
  refine seq_by (fun σ H2 => ∃ l, B0 l = none ∧ Same B0 H2 ∧ H2 l = some (.lst []) ∧ σ = [some (.ref a), some (.ref b), some (.int c), some (.int w), some (.ref l), none, none, none, none, none]) (fun k hk => ?_) ?_
  · walk_at "rd"
    exact ⟨by show 0 ≤ sizeLine; decide, fun p hp => hk _ _ ⟨p, g1.free hp, g1.trans (same_new hp _), upd_same, rfl⟩⟩
  rintro σ H2 ⟨l, nl, g2, hl, rfl⟩
  -- the loop
  refine seq_by (fun σ H3 => ∃ (m : Ch) (x y : Option V), BdC 10 m ∧ Same B0 H3 ∧ H3 l = some (.lst ((cl m).map V.int)) ∧ σ = [some (.ref a), some (.ref b), some (.int c), some (.int w), some (.ref l), x, y, none, none, none]) (fun k hk => ?_) ?_
  · refine ⟨4, rfl, by decide, by decide, forR (n := 4) (fun i σ H3 => ∃ (xs : List Int) (x y : Option V), xs.length = i ∧ (∀ n ∈ xs, Bd 10 n) ∧ Same B0 H3 ∧ H3 l = some (.lst (xs.map V.int)) ∧ σ = [some (.ref a), some (.ref b), some (.int c), some (.int w), some (.ref l), x, y, none, none, none])
      ⟨[], none, none, rfl, by simp, g2, hl, rfl⟩ ?_ ?_⟩
    · rintro Pv' hP i σ H3 hi ⟨xs, x, y, hxl, hxb, g3, hl3, rfl⟩
      have hw : Bd 100000 w := Bd.mono (j := 10) (Bd.lit (by omega)) (by decide)
      have hi' : Bd 100000 (0 + (i : Int)) := Bd.mono (j := 10) (Bd.lit (by omega)) (by decide)
      walk_at "rd"
      refine ⟨⟨Bd.mono (j := 10) (by decide) (by decide), hi'⟩, _, rfl, .inl ⟨rfl, _, SqL.of hl3⟩, _, rfl, _, rfl, ⟨by decide, by decide⟩, ⟨Bd.mono (j := 10) (by decide) (by decide), hw⟩, by omega, _, hl3, ?_,
        hP _ _ _ ⟨xs ++ [stir (stir (c + 31 * (0 + (i : Int)))) / 7 % (2 * w + 1) - w], _, _, by simp [hxl], fun n hn => ?_, same_upd g3 nl, ?_, rfl⟩⟩
      · rw [List.length_map]; exact small1000 (by omega)
      · rcases List.mem_append.mp hn with h | h
        · exact hxb n h
        · have e : n = stir (stir (c + 31 * (0 + (i : Int)))) / 7 % (2 * w + 1) - w := by simpa using h
          have h1 := Int.emod_nonneg (stir (stir (c + 31 * (0 + (i : Int)))) / 7) (b := 2 * w + 1) (by omega)
          have h2 := Int.emod_lt_of_pos (stir (stir (c + 31 * (0 + (i : Int)))) / 7) (b := 2 * w + 1) (by omega)
          exact Bd.lit (by omega)
      · rw [upd_same, List.map_append]; rfl
    · rintro σ H3 ⟨xs, x, y, hxl, hxb, g3, hl3, rfl⟩
      obtain ⟨m, rfl⟩ := list4 hxl
      exact hk _ _ ⟨m, x, y, .of_all hxb, g3, hl3, rfl⟩
  rintro σ H3 ⟨m, x, y, bm, g3, hl3, rfl⟩
  -- small ones, or a nought
  refine seq_by (fun σ H4 => ∃ (l' : Addr) (m' : Ch) (z : Option V), BdC 10 m' ∧ Same B0 H4 ∧ H4 l' = some (.lst ((cl m').map V.int)) ∧ σ = [some (.ref a), some (.ref b), some (.int c), some (.int w), some (.ref l'), x, y, z, none, none]) (fun k hk => ?_) ?_
  · walk_at "rd"
    refine ⟨⟨by decide, by decide⟩, by decide, ?_⟩
    refine ite2 (fun c1 => ?_) (fun c1 => ?_)
    · refine ⟨⟨by decide, by decide⟩, by decide, ⟨by decide, by decide⟩, by decide, ⟨by decide, by decide⟩, by decide, ⟨by decide, by decide⟩, by decide, (by show 4 ≤ sizeLine; decide), fun p hp => ?_⟩
      refine hk _ _ ⟨p, ⟨c / 8 % 41 - 20, c / 8 / 41 % 41 - 20, c / 8 / 1681 % 41 - 20, c / 8 / 68921 % 41 - 20⟩, _, ⟨Bd.lit ?_, Bd.lit ?_, Bd.lit ?_, Bd.lit ?_⟩, g3.trans (same_new hp _), upd_same, rfl⟩ <;> dsimp only <;> omega
    · refine ⟨⟨by decide, by decide⟩, by decide, ?_⟩
      refine ite2 (fun c2 => ?_) (fun c2 => hk _ _ ⟨l, m, _, bm, g3, hl3, rfl⟩)
      have i0 := Int.emod_nonneg (c / 40) (b := 4) (by decide)
      have i1 := Int.emod_lt_of_pos (c / 40) (b := 4) (by decide)
      obtain ⟨m', e, bm'⟩ := set_cl bm (j := (c / 40 % 4).toNat) (by omega) (n := 0) (by decide)
      refine ⟨⟨by decide, by decide⟩, by decide, _, hl3, (c / 40 % 4).toNat, ix_any i0 i1, hk _ _ ⟨l, m', _, bm', same_upd g3 nl, ?_, rfl⟩⟩
      rw [upd_same, e]
  rintro σ H4 ⟨l', m', z, bm', g4, hl4, rfl⟩
  -- none without an end
  refine seq_by (fun σ H5 => ∃ (l' : Addr) (m' : Ch), BdC 10 m' ∧ m'.det ≠ 0 ∧ Same B0 H5 ∧ H5 l' = some (.lst ((cl m').map V.int)) ∧ σ = [some (.ref a), some (.ref b), some (.int c), some (.int w), some (.ref l'), x, y, z, none, none]) (fun k hk => ?_) ?_
  · obtain ⟨d1, d2, d3, d4⟩ := bm'.mono (show 10 ≤ 100000 by decide)
    have hv : Lp K H4 (.ref l') (cl m') := ⟨l', rfl, SqL.of hl4⟩
    walk_at "rd"
    refine ⟨_, hv, _, at0 _ _, _, hv, _, at3 _ _ _ _ _, ⟨d1, d4⟩, _, hv, _, at1 _ _ _, _, hv, _, at2 _ _ _ _, ⟨d2, d3⟩, ?_⟩
    refine ite2 (fun c1 => ?_) (fun c1 => hk _ _ ⟨l', m', bm', by unfold Ch.det; omega, g4, hl4, rfl⟩)
    refine ⟨⟨by decide, by decide⟩, by decide, ⟨by decide, by decide⟩, by decide, (by show 4 ≤ sizeLine; decide), fun p hp => ?_⟩
    refine hk _ _ ⟨p, ⟨1 + c / 80 % 5, c / 400 % 7 - 3, 0, 1⟩, ⟨Bd.lit ?_, Bd.lit ?_, (show Bd 10 0 by decide), (show Bd 10 1 by decide)⟩, ?_, g4.trans (same_new hp _), upd_same, rfl⟩
    · dsimp only; omega
    · dsimp only; omega
    · unfold Ch.det; dsimp only; omega
  rintro σ H5 ⟨l5, m5, bm5, dm5, g5, hl5, rfl⟩
  refine seq_by (fun σ H6 => ∃ v, Same B0 H6 ∧ Tp K H6 v (cl (nch m5)) ∧ σ = [some (.ref a), some (.ref b), some (.int c), some (.int w), some (.ref l5), x, y, z, some v, none]) (fun k hk => ?_) ?_
  · walk_at "rd"
    exact ⟨l5, m5, rfl, SqL.of hl5, dm5, bm5.mono (by decide), fun v H6 g6 t6 => hk _ _ ⟨v, g5.trans g6, t6, rfl⟩⟩
  rintro σ H6 ⟨v, g6, t6, rfl⟩
  have gm := nch_goodC dm5
  have bm6 := bm5.nch dm5
  generalize nch m5 = m6 at t6 gm bm6
  refine seq_by (fun σ H7 => σ = [some (.ref a), some (.ref b), some (.int c), some (.int w), some (.ref l5), x, y, z, some v, none] ∧ H7 = H6) (fun k hk => ?_) ?_
  · have fin : spTurning K [.int (c / 4000)] H6 (fun u H7 => spLawBack K [v] H7 (fun u2 H8 => spLawAfter K [u2, u] H8 (fun u3 H9 => spLawAfter K [u3, v] H9 Q E0) E0) E0) E0 := by
      refine ⟨_, rfl, fun u H7 mt g7 t7 dt bt => ?_⟩
      refine ⟨v, m6, rfl, t6.mono g7, gm.det, bm6.mono (by decide), fun u2 H8 g8 t8 => ?_⟩
      have da : (adj m6).det ≠ 0 := by rw [det_adj]; exact gm.det
      have d8 := (nch_goodC da).det
      have b8 := (bm6.adj).nch da
      refine ⟨u2, u, _, mt, rfl, t8, t7.mono g8, d8, dt, b8.mono (by decide), bt.mono (by decide), fun u3 H9 g9 t9 => ?_⟩
      have d9 := mul_ne d8 dt
      have b9 := (b8.mul bt).nch d9
      have d9' := (nch_goodC d9).det
      refine ⟨u3, v, _, m6, rfl, t9, t6.mono (g7.trans (g8.trans g9)), d9', gm.det, b9.mono (by decide), bm6.mono (by decide), fun u4 H10 g10 t10 => ?_⟩
      have d10 := mul_ne d9' gm.det
      exact q u4 H10 _ (g6.trans (g7.trans (g8.trans (g9.trans g10)))) t10 (nch_goodC d10) (((b9.mul bm6).nch d10).mono (by decide))
    walk_at "rd"
    refine ⟨⟨by decide, by decide⟩, by decide, ?_⟩
    refine ite2 (fun c1 => ?_) (fun c1 => hk _ _ ⟨rfl, rfl⟩)
    refine ⟨⟨by decide, by decide⟩, by decide, ?_⟩
    refine ite2 (fun c1 => ?_) (fun c1 => hk _ _ ⟨rfl, rfl⟩)
    exact ⟨⟨by decide, by decide⟩, fin⟩
  rintro σ H7 ⟨rfl, rfl⟩
  walk_at "rd"
  exact q v H7 m6 g6 t6 gm (bm6.mono (by decide))
theorem sc__law_point : FnScope ["top", "bottom", "both"] ["top", "bottom"] (defScope s__law_point) := ⟨rfl, rfl, rfl, by decide +kernel, rfl, by decide +kernel, by decide +kernel⟩
set_option maxHeartbeats 4000000 in
theorem cal__law_point (F : Def K mg "_law_point" s__law_point ["top", "bottom"]) (C__law_common : Cal P w K mg base 1 "_law_common" ["one", "other"] spGcd) : Cal P w K mg base 2 "_law_point" ["top", "bottom"] (spLawP K) := by
  refine F.cal (k := 1) sc__law_point (fun vs H Q E h => ?_) (fun f cdv A outer s H vs Q E hr h => ?_)
  · obtain ⟨x, y, rfl, hn, bx, by_, q⟩ := h
    rfl
  obtain ⟨x, y, rfl, hn, bx, by_, q⟩ := h
  have hu := hr.units
  have hu8 : (A.deeper (envOfC "_law_point" (defScope s__law_point) s.heap.objs.size f cdv)).units + 80 < cLine := by have := hr.un; omega
  refine ⟨_, (pss_cons (ps_set (i := 2) sc__law_point.nd rfl (Or.inl rfl) (pe_callC C__law_common hr (pa_cons (pv 0) (pa_cons (pv 1) pa_nil))))
      (pss_cons (ps_if (PW.pt (pw_or (pt_cmpR op_lt (pv 1) pe_int (nomark _)) (pw_or1 (PW.pt (pw_and (pt_cmpR op_eq (pv 1) pe_int (nomark _)) (pw_and1 (pt_cmpR op_lt (pv 0) pe_int (nomark _)))))))) (pss_one (ps_set (i := 2) sc__law_point.nd rfl (Or.inl rfl) (pe_un un_neg (pv 2)))) pss_nil)
      (pss_one (ps_ret (pe_tup (pa_cons (pe_op op_fdivB (pv 0) (pv 2)) (pa_cons (pe_op op_fdivB (pv 1) (pv 2)) pa_nil))))))), ?_⟩
  have hg : (Int.gcd x y : Int) ≠ 0 := fun e => by
    have := gcd_zero_iff.mp (show Int.gcd x y = 0 by omega)
    omega
  have hb : Bd 8000 (Int.gcd x y : Int) := (Bd.gcd bx by_).mono (by decide)
  rw [← lpt_eq hn] at q
  apply seq_det
  · intro k hk; walk_at "rd"; exact ⟨_, _, rfl, hk⟩
  refine seq_det (σ1 := [some (.int x), some (.int y), some (.int (if y < 0 ∨ (y = 0 ∧ x < 0) then -(Int.gcd x y : Int) else (Int.gcd x y : Int)))]) (H1 := H) (fun k hk => ?_) ?_
  · walk_at "rd"
    by_cases c1 : y < 0
    · rw [if_pos (Or.inl c1)] at hk
      simp only [c1, if_true]
      exact hk
    · by_cases c2 : y = 0
      · by_cases c3 : x < 0
        · rw [if_pos (Or.inr ⟨c2, c3⟩)] at hk
          simpa [c1, c2, c3] using hk
        · rw [if_neg (by omega)] at hk
          simpa [c1, c2, c3] using hk
      · rw [if_neg (by omega)] at hk
        simpa [c1, c2] using hk
  have hgg : (if y < 0 ∨ (y = 0 ∧ x < 0) then -(Int.gcd x y : Int) else (Int.gcd x y : Int)) ≠ 0 := by split <;> omega
  have hbb : Bd 8000 (if y < 0 ∨ (y = 0 ∧ x < 0) then -(Int.gcd x y : Int) else (Int.gcd x y : Int)) := by
    split
    · exact hb.neg
    · exact hb
  walk_at "rd"
  refine ⟨⟨hgg, hbb⟩, ⟨hgg, hbb⟩, (by show 2 ≤ sizeLine; decide), fun p hp => q _ _ (same_new hp _) ⟨p, rfl, SqT.of ?_⟩⟩
  rw [upd_same]; rfl
theorem sc__law_drawn_point : FnScope ["cell", "seed", "wide", "far"] ["cell"] (defScope s__law_drawn_point) := ⟨rfl, rfl, rfl, by decide +kernel, rfl, by decide +kernel, by decide +kernel⟩
set_option maxHeartbeats 4000000 in
theorem cal__law_drawn_point (F : Def K mg "_law_drawn_point" s__law_drawn_point ["cell"]) (C__law_point : Cal P w K mg base 2 "_law_point" ["top", "bottom"] (spLawP K)) (C__law_stir : Cal P w K mg base 2 "_law_stir" ["seed"] spStir) : Cal P w K mg base 3 "_law_drawn_point" ["cell"] (spDrawn K) := by
  refine F.cal (k := 2) sc__law_drawn_point (fun vs H Q E h => ?_) (fun f cdv A outer s H vs Q E hr h => ?_)
  · obtain ⟨c, rfl, q⟩ := h
    rfl
  obtain ⟨c, rfl, q⟩ := h
  have hu := hr.units
  have hu8 : (A.deeper (envOfC "_law_drawn_point" (defScope s__law_drawn_point) s.heap.objs.size f cdv)).units + 80 < cLine := by have := hr.un; omega
  refine ⟨_, (pss_cons (ps_if (pt_cmpR op_eq (pe_op op_mod (pv 0) pe_int) pe_int (nomark _)) (pss_cons (ps_if (pt_cmpR op_eq (pe_op op_mod (pe_op op_fdiv (pv 0) pe_int) pe_int) pe_int (nomark _)) (pss_one (ps_ret (pe_tup (pa_cons pe_int (pa_cons pe_int pa_nil))))) pss_nil)
      (pss_one (ps_ret (pe_callC C__law_point hr (pa_cons (pe_op op_sub (pe_op op_mod (pe_op op_fdiv (pv 0) pe_int) pe_int) pe_int) (pa_cons (pe_op op_add pe_int (pe_op op_mod (pe_op op_fdiv (pv 0) pe_int) pe_int)) pa_nil)))))) pss_nil)
      (pss_cons (ps_set (i := 1) sc__law_drawn_point.nd rfl (Or.inl rfl) (pe_callC C__law_stir hr (pa_cons (pv 0) pa_nil)))
      (pss_cons (ps_if (pt_cmpR op_eq (pe_op op_mod (pe_op op_fdiv (pv 1) pe_int) pe_int) pe_int (nomark _)) (pss_one (ps_ret (pe_tup (pa_cons pe_int (pa_cons pe_int pa_nil))))) pss_nil)
      (pss_cons (ps_set (i := 2) sc__law_drawn_point.nd rfl (Or.inl rfl) (pe_ix ix_lstI (pe_lst (pa_cons pe_int (pa_cons pe_int (pa_cons pe_int (pa_cons pe_int pa_nil))))) (pe_op op_mod (pe_op op_fdiv (pv 1) pe_int) pe_int) (fun _ _ => rfl)))
      (pss_cons (ps_set (i := 3) sc__law_drawn_point.nd rfl (Or.inl rfl) (pe_callC C__law_stir hr (pa_cons (pv 1) pa_nil)))
      (pss_one (ps_ret (pe_callC C__law_point hr (pa_cons (pe_op op_sub (pe_op op_mod (pe_op op_fdiv (pv 3) pe_int) (pe_op op_add (pe_op op_mulB pe_int (pv 2)) pe_int)) (pv 2)) (pa_cons (pe_op op_add pe_int (pe_op op_mod (pe_op op_fdiv (pe_callC C__law_stir hr (pa_cons (pv 3) pa_nil)) pe_int) (pv 2))) pa_nil)))))))))), ?_⟩
  obtain ⟨hne, b1, b2⟩ := rawp_ok c
  have bd1 : Bd 4000 (rawp c).1 := Bd.mono (j := 10) (Bd.lit (Nat.lt_of_le_of_lt b1 (by decide))) (by decide)
  have bd2 : Bd 4000 (rawp c).2 := Bd.mono (j := 10) (Bd.lit (Nat.lt_of_le_of_lt b2 (by decide))) (by decide)
  have far : rawp c = (1, 0) → Out K H [1, 0] Q := fun e => by
    have h := q.npt e
    have e2 : pl (npt 1 0) = [1, 0] := by simp [pl, npt]
    rw [e2] at h; exact h
  refine seq_by (fun σ H' => σ = [some (.int c), none, none, none] ∧ H' = H ∧ c % 2 ≠ 0) (fun k hk => ?_) ?_
  · walk_at "rd"
    refine ⟨by decide, ?_⟩
    refine ite2 (fun c1 => ?_) (fun c1 => hk _ _ ⟨rfl, rfl, c1⟩)
    refine ⟨⟨by decide, by decide⟩, by decide, ?_⟩
    refine ite2 (fun c2 => ?_) (fun c2 => ?_)
    · exact ⟨by show 2 ≤ sizeLine; decide, fun p hp => far (by simp [rawp, c1, c2]) _ _ (same_new hp _) ⟨p, rfl, SqT.of upd_same⟩⟩
    · have e : rawp c = (c / 80 % 201 - 100, 1 + c / 16080 % 60) := by simp [rawp, c1, c2]
      rw [e] at hne bd1 bd2
      exact ⟨⟨by decide, by decide⟩, by decide, ⟨by decide, by decide⟩, by decide, _, _, rfl, hne, bd1, bd2, q.npt e⟩
  rintro σ H' ⟨rfl, rfl, c1⟩
  apply seq_det
  · intro k hk; walk_at "rd"; exact ⟨_, rfl, hk⟩
  refine seq_by (fun σ H'' => σ = [some (.int c), some (.int (stir c)), none, none] ∧ H'' = H' ∧ stir c / 7 % 9 ≠ 1) (fun k hk => ?_) ?_
  · walk_at "rd"
    refine ⟨⟨by decide, by decide⟩, by decide, ?_⟩
    refine ite2 (fun c2 => ?_) (fun c2 => hk _ _ ⟨rfl, rfl, c2⟩)
    exact ⟨by show 2 ≤ sizeLine; decide, fun p hp => far (by simp [rawp, c1, c2]) _ _ (same_new hp _) ⟨p, rfl, SqT.of upd_same⟩⟩
  rintro σ H'' ⟨rfl, rfl, c2⟩
  have e : rawp c = (stir (stir c) / 7 % (2 * wideOf (stir c / 63 % 4) + 1) - wideOf (stir c / 63 % 4), 1 + stir (stir (stir c)) / 7 % wideOf (stir c / 63 % 4)) := by simp [rawp, c1, c2]
  obtain ⟨w1, w2⟩ := wide_pos (stir c / 63 % 4)
  have hw : Bd 100000 (wideOf (stir c / 63 % 4)) := Bd.mono (j := 10) (Bd.lit (by omega)) (by decide)
  rw [e] at hne bd1 bd2
  refine seq_by (fun σ H1 => σ = [some (.int c), some (.int (stir c)), some (.int (wideOf (stir c / 63 % 4))), none] ∧ Same H'' H1) (fun k hk => ?_) ?_
  · walk_at "rd"
    refine ⟨by show 4 ≤ sizeLine; decide, fun p hp => ⟨⟨by decide, by decide⟩, by decide, [4, 9, 100, 1000], ⟨p, rfl, SqL.of upd_same⟩, _, wide_at (Int.emod_nonneg _ (by decide)) (Int.emod_lt_of_pos _ (by decide)), hk _ _ ⟨rfl, same_new hp _⟩⟩⟩
  rintro σ H1 ⟨rfl, g1⟩
  apply seq_det
  · intro k hk; walk_at "rd"; exact ⟨_, rfl, hk⟩
  walk_at "rd"
  refine ⟨⟨by decide, by decide⟩, ⟨Bd.mono (j := 2) (Bd.lit (by decide)) (by decide), hw⟩, by omega, _, rfl, ?_⟩
  walk_at "rd"
  exact ⟨⟨by decide, by decide⟩, by omega, _, _, rfl, hne, bd1, bd2, (q.npt e).from g1⟩
theorem sc__law_some_points : FnScope ["script", "spot", "many", "found", "k", "cell", "here"] ["script", "spot", "many"] (defScope s__law_some_points) := ⟨rfl, rfl, rfl, by decide +kernel, rfl, by decide +kernel, by decide +kernel⟩
set_option maxHeartbeats 4000000 in
theorem cal__law_some_points (F : Def K mg "_law_some_points" s__law_some_points ["script", "spot", "many"]) (C__law_next : Cal P w K mg base 3 "_law_next" ["script", "spot"] (spNext K)) (C__law_drawn_point : Cal P w K mg base 3 "_law_drawn_point" ["cell"] (spDrawn K)) (B : Blt mg) : Cal P w K mg base 4 "_law_some_points" ["script", "spot", "many"] (spSome K) := by
  refine F.cal (k := 3) sc__law_some_points (fun vs H Q E h => ?_) (fun f cdv A outer s H vs Q E hr h => ?_)
  · obtain ⟨a, b, ns, k0, n, rfl, hs, hb, hk0, hn0, hn1, q⟩ := h
    rfl
  obtain ⟨a, b, ns, k0, n, rfl, hs, hb, hk0, hn0, hn1, q⟩ := h
  have hu := hr.units
  have hu8 : (A.deeper (envOfC "_law_some_points" (defScope s__law_some_points) s.heap.objs.size f cdv)).units + 80 < cLine := by have := hr.un; omega
  refine ⟨_, (pss_cons (ps_set (i := 3) sc__law_some_points.nd rfl (Or.inl rfl) (pe_lst pa_nil))
      (pss_cons (ps_for PassesOwn.never rfl (pi_range1 rfl B.range (pa_cons (pv 2) pa_nil)) (pg_name (i := 4) sc__law_some_points.nd rfl (Or.inl rfl)) (pss_cons (ps_set (i := 5) sc__law_some_points.nd rfl (Or.inl rfl) (pe_op op_add (pe_callC C__law_next hr (pa_cons (pv 0) (pa_cons (pv 1) pa_nil))) (pe_op op_mulB pe_int (pv 4))))
      (pss_cons (ps_set (i := 6) sc__law_some_points.nd rfl (Or.inl rfl) (pe_callC C__law_drawn_point hr (pa_cons (pv 5) pa_nil)))
      (pss_cons (ps_while PassesOwn.never (pt_cmpR (op_inT hu8) (pv 6) (pv 3) rfl) (pss_cons (ps_set (i := 5) sc__law_some_points.nd rfl (Or.inl rfl) (pe_op op_add (pv 5) pe_int))
      (pss_one (ps_set (i := 6) sc__law_some_points.nd rfl (Or.inl rfl) (pe_callC C__law_drawn_point hr (pa_cons (pv 5) pa_nil))))))
      (pss_one (ps_expr (pe_bm PySem.F.plainAttrs_list PySem.F.slot_list_append PySem.F.type_list_append mt_append (pv 3) (pa_cons (pv 6) pa_nil))))))))
      (pss_one (ps_ret (pv 3))))), ?_⟩
  refine seq_by (fun σ H1 => ∃ l, H l = none ∧ Same H H1 ∧ H1 l = some (.lst []) ∧ σ = [some (.ref a), some (.ref b), some (.int n), some (.ref l), none, none, none]) (fun k hk => ?_) ?_
  · walk_at "rd"
    exact ⟨by show 0 ≤ sizeLine; decide, fun p hp => hk _ _ ⟨p, hp, same_new hp _, upd_same, rfl⟩⟩
  rintro σ H1 ⟨l, nl, g1, hl, rfl⟩
  refine seq_by (fun σ H2 => ∃ (ws : List V) (ps : List (Int × Int)) (x y z : Option V), Same (upd H b (.lst [.int (k0 + n)])) H2 ∧ H2 l = some (.lst ws) ∧ Tps K H2 ws (ps.map pl) ∧ ps.Nodup ∧ (ps.length : Int) = n ∧ (∀ p ∈ ps, GoodPt p ∧ BdPt 10 p) ∧ σ = [some (.ref a), some (.ref b), some (.int n), some (.ref l), x, y, z]) (fun k hk => ?_) ?_
  · refine ⟨_, rfl, _, rfl, by omega, by omega, forR (n := n.toNat) (fun i σ H2 => ∃ (ws : List V) (ps : List (Int × Int)) (x y z : Option V), Same (upd H b (.lst [.int (k0 + i)])) H2 ∧ H2 l = some (.lst ws) ∧ Tps K H2 ws (ps.map pl) ∧ ps.Nodup ∧ ps.length = i ∧ (∀ p ∈ ps, GoodPt p ∧ BdPt 10 p) ∧ σ = [some (.ref a), some (.ref b), some (.int n), some (.ref l), x, y, z])
      ⟨[], [], none, none, none, ?_, hl, .nil, List.nodup_nil, rfl, by simp, rfl⟩ ?_ ?_⟩
    · intro c o e
      by_cases h : c = b
      · subst h
        rw [upd_same] at e; cases e
        have := g1 _ _ hb
        simpa using this
      · rw [upd_ne h] at e; exact g1 _ _ e
    · rintro Pv' hP i σ H2 hi ⟨ws, ps, x, y, z, g2, hl2, ht2, nd, hlen, hgood, rfl⟩
      have hlb : l ≠ b := (ne_of_none hb nl).symm
      have hb2 : H2 b = some (.lst [.int (k0 + i)]) := g2 _ _ upd_same
      obtain ⟨H3, hH3⟩ : ∃ H3, H3 = upd H2 b (.lst [.int (k0 + i + 1)]) := ⟨_, rfl⟩
      have g3 : Same (upd H b (.lst [.int (k0 + ((i + 1 : Nat) : Int))])) H3 := by
        have e : k0 + ((i + 1 : Nat) : Int) = k0 + i + 1 := by omega
        rw [hH3, e]
        exact same_swap g2
      have hl3 : H3 l = some (.lst ws) := by rw [hH3, upd_ne hlb]; exact hl2
      have ht3 : Tps K H3 ws (ps.map pl) := by rw [hH3]; exact Tps.upd hb2 ht2
      obtain ⟨c, hc⟩ : ∃ c, c = cellN ns (k0 + i) + 101 * (0 + (i : Int)) := ⟨_, rfl⟩
      obtain ⟨j, hj⟩ := drawn_on ps (by omega) c
      show tSeq _ _ _ _ _
      refine seq_det (σ1 := [some (.ref a), some (.ref b), some (.int n), some (.ref l), some (.int (0 + (i : Int))), some (.int c), z]) (H1 := H3) (fun k hk => ?_) ?_
      · walk_at "rd"
        refine ⟨a, b, ns, k0 + i, rfl, (hs.upd hb).mono g2, hb2, by omega, ?_⟩
        walk_at "rd"
        rw [← hH3, ← hc]
        exact ⟨⟨Bd.mono (j := 10) (by decide) (by decide), Bd.mono (j := 10) (Bd.lit (by omega)) (by decide)⟩, hk⟩
      refine seq_by (fun σ H4 => ∃ v, Same H3 H4 ∧ Tp K H4 v (pl (dp c)) ∧ σ = [some (.ref a), some (.ref b), some (.int n), some (.ref l), some (.int (0 + (i : Int))), some (.int c), some v]) (fun k hk => ?_) ?_
      · walk_at "rd"
        exact ⟨c, rfl, fun v H4 g4 t4 => hk _ _ ⟨v, g4, t4, rfl⟩⟩
      rintro σ H4 ⟨v, g4, t4, rfl⟩
      refine seq_by (fun σ H5 => ∃ (v : V) (c' : Int), Same H3 H5 ∧ Tp K H5 v (pl (dp c')) ∧ dp c' ∉ ps ∧ σ = [some (.ref a), some (.ref b), some (.int n), some (.ref l), some (.int (0 + (i : Int))), some (.int c'), some v]) (fun k hk => ?_) ?_
      · refine while_of (fun m σ H5 => ∃ (v : V) (c' : Int), Same H3 H5 ∧ Tp K H5 v (pl (dp c')) ∧ c' ≤ c + j ∧ m = (c + j - c').toNat ∧ σ = [some (.ref a), some (.ref b), some (.int n), some (.ref l), some (.int (0 + (i : Int))), some (.int c'), some v]) _
          ⟨v, c, g4, t4, by omega, rfl, rfl⟩ ?_
        rintro W' hW m σ H5 ⟨v, c', g5, t5, hc', rfl, rfl⟩
        walk_at "rd"
        refine ⟨_, t5, _, SqL.of (g5 _ _ hl3), _, ht3.mono g5, ?_⟩
        refine ite2 (fun h => ?_) (fun h => ?_)
        · have h' : dp c' ∈ ps := pl_mem.mp (by simpa using h)
          have hne : c' ≠ c + j := fun e => hj (by rw [← e]; exact h')
          refine ⟨fun σ' H' => ∃ m', m' < (c + j - c').toNat ∧ W' m' σ' H', fun _ _ h => h, ?_⟩
          walk_at "rd"
          exact ⟨_, rfl, fun v' H6 g6 t6 => ⟨(c + j - (c' + 1)).toNat, by omega, hW _ _ _ ⟨v', c' + 1, g5.trans g6, t6, by omega, rfl, rfl⟩⟩⟩
        · exact hk _ _ ⟨v, c', g5, t5, fun h' => h (by simpa using pl_mem.mpr h'), rfl⟩
      rintro σ H5 ⟨v, c', g5, t5, hnew, rfl⟩
      walk_at "rd"
      have hb3 : H b = some (.lst [.int k0]) := hb
      have nlB : upd H b (.lst [.int (k0 + ((i + 1 : Nat) : Int))]) l = none := by rw [upd_ne hlb]; exact nl
      refine ⟨.inl ⟨rfl, _, SqL.of (g5 _ _ hl3)⟩, _, g5 _ _ hl3, ?_, hP _ _ _ ⟨ws ++ [v], ps ++ [dp c'], _, _, _, same_upd (g3.trans g5) nlB, upd_same, ?_, ?_, ?_, ?_, rfl⟩⟩
      · rw [ht3.length, List.length_map]; exact small1000 (by omega)
      · rw [List.map_append]
        exact Tps.upd (g5 _ _ hl3) ((ht3.mono g5).snoc t5)
      · rw [List.nodup_append]
        refine ⟨nd, by simp, fun p hp q hq => ?_⟩
        have e : q = dp c' := by simpa using hq
        rw [e]
        intro z
        exact hnew (by rw [← z]; exact hp)
      · rw [List.length_append, hlen]; rfl
      · intro p hp
        rcases List.mem_append.mp hp with h | h
        · exact hgood p h
        · have e : p = dp c' := by simpa using h
          rw [e]
          exact ⟨dp_good c', dp_bd c'⟩
    · rintro σ H2 ⟨ws, ps, x, y, z, g2, hl2, ht2, nd, hlen, hgood, rfl⟩
      have e : ((n.toNat : Nat) : Int) = n := by omega
      rw [e] at g2
      exact hk _ _ ⟨ws, ps, x, y, z, g2, hl2, ht2, nd, by omega, hgood, rfl⟩
  rintro σ H2 ⟨ws, ps, x, y, z, g2, hl2, ht2, nd, hlen, hgood, rfl⟩
  walk_at "rd"
  exact q l ws ps H2 g2 nl hl2 ht2 nd hlen hgood
theorem sc__law_bad_change : FnScope ["change", "cell", "some"] ["change", "cell"] (defScope s__law_bad_change) := ⟨rfl, rfl, rfl, by decide +kernel, rfl, by decide +kernel, by decide +kernel⟩
set_option maxHeartbeats 4000000 in
theorem cal__law_bad_change (F : Def K mg "_law_bad_change" s__law_bad_change ["change", "cell"]) (B : Blt mg) : Cal P w K mg base 1 "_law_bad_change" ["change", "cell"] (spBadC K) := by
  refine F.cal (k := 0) sc__law_bad_change (fun vs H Q E h => ?_) (fun f cdv A outer s H vs Q E hr h => ?_)
  · obtain ⟨v, m, c, rfl, hv, gm, bm, q⟩ := h
    rfl
  obtain ⟨v, m, c, rfl, hv, gm, bm, q⟩ := h
  have hu := hr.units
  have hu8 : (A.deeper (envOfC "_law_bad_change" (defScope s__law_bad_change) s.heap.objs.size f cdv)).units + 80 < cLine := by have := hr.un; omega
  refine ⟨_, (pss_cons (ps_set (i := 2) sc__law_bad_change.nd rfl (Or.inl rfl) (pe_lst (pa_cons (pe_tup (pa_cons pe_int (pa_cons pe_int (pa_cons pe_int (pa_cons pe_int pa_nil))))) (pa_cons (pe_callTy call_tuple_of rfl B.tuple bt_tuple (pa_cons (pe_comp [] (sc := defScope s__law_bad_change) (cn := []) rfl ⟨rfl, by decide +kernel, rfl, by decide +kernel, by decide +kernel, by decide +kernel, by decide +kernel⟩ rfl rfl (pi_tup (pv 0)) (fun _ _ _ _ _ => pq_nil) (fun _ _ _ _ _ => (pe_op op_mulB pe_int (pv 0)))) pa_nil)) (pa_cons (pe_callTy call_tuple_of rfl B.tuple bt_tuple (pa_cons (pe_comp [] (sc := defScope s__law_bad_change) (cn := []) rfl ⟨rfl, by decide +kernel, rfl, by decide +kernel, by decide +kernel, by decide +kernel, by decide +kernel⟩ rfl rfl (pi_tup (pv 0)) (fun _ _ _ _ _ => pq_nil) (fun _ _ _ _ _ => (pe_un un_neg (pv 0)))) pa_nil)) pa_nil)))))
      (pss_cons (ps_set (i := 2) sc__law_bad_change.nd rfl (Or.inl rfl) (pe_op op_cat (pv 2) (pe_lst (pa_cons (pe_tup (pa_cons (pe_ix ix_tupI (pv 0) pe_int (fun _ _ => rfl)) (pa_cons (pe_ix ix_tupI (pv 0) pe_int (fun _ _ => rfl)) (pa_cons (pe_ix ix_tupI (pv 0) pe_int (fun _ _ => rfl)) (pa_cons (pe_ix ix_tupI (pv 0) pe_int (fun _ _ => rfl)) pa_nil))))) (pa_cons (pe_tup (pa_cons pe_int (pa_cons pe_int (pa_cons pe_int (pa_cons pe_int pa_nil))))) (pa_cons (pe_tup (pa_cons pe_int (pa_cons (pe_un un_neg pe_int) (pa_cons pe_int (pa_cons pe_int pa_nil))))) pa_nil))))))
      (pss_one (ps_ret (pe_ix ix_list (pv 2) (pe_op op_mod (pv 1) pe_int) (fun _ _ => rfl)))))), ?_⟩
  obtain ⟨a, rfl, hq⟩ := id hv
  have bm1 := bm.mono (show 24 ≤ 30 by decide)
  refine seq_by (fun σ H1 => ∃ l t0 t1 t2, Same H H1 ∧ H1 l = some (.lst [t0, t1, t2]) ∧ (∀ x ∈ [t0, t1, t2], NotC K H1 x) ∧ σ = [some (.ref a), some (.int c), some (.ref l)]) (fun k hk => ?_) ?_
  · walk_at "rd"
    refine ⟨by show 4 ≤ sizeLine; decide, fun p0 n0 => ?_⟩
    have g0 := same_new n0 (.tup [.int 0, .int 0, .int 0, .int 0])
    have hq0 := Same.tup g0 hq
    refine tcompT rfl hq0 (fun i acc H' => acc = ((cl m).take i).map (fun n => V.int (2 * n)) ∧ H' = upd H p0 (.tup [.int 0, .int 0, .int 0, .int 0])) ⟨rfl, rfl⟩ (fun i acc H' hi h => ?_) ?_ ?_
    · obtain ⟨rfl, rfl⟩ := h
      refine ⟨hq0, ?_⟩
      rw [List.length_map, List.length_take]
      exact Nat.le_trans (Nat.min_le_right _ _) (by show 4 ≤ sizeLine; decide)
    · rintro i x acc H' hx ⟨rfl, rfl⟩ R hR
      obtain ⟨n, hn, rfl⟩ := map_at hx
      simp only [capσ]
      walk_at "rd"
      have bn : Bd 24 n := bm.all n (List.mem_of_getElem? hn)
      refine ⟨⟨Bd.mono (j := 2) (by decide) (by decide), bn.mono (by decide)⟩, hR _ _ ⟨?_, rfl⟩⟩
      rw [List.take_add_one, hn]
      simp
    · rintro acc H' p1 ⟨rfl, rfl⟩ n1
      walk_at "rd"
      have g1 := same_new n1 (.lst (((cl m).take (List.map V.int (cl m)).length).map (fun n => V.int (2 * n))))
      refine ⟨_, .inl ⟨SqL.of upd_same, fun p2 n2 => ?_⟩⟩
      have g2 := same_new n2 (.tup (((cl m).take (List.map V.int (cl m)).length).map (fun n => V.int (2 * n))))
      have g02 := g0.trans (g1.trans g2)
      generalize hG2 : upd _ p2 _ = G2 at g2 g02 ⊢
      have hq2 := Same.tup g02 hq
      have T0 : NotC K G2 (.ref p0) := ⟨⟨0, 0, 0, 0⟩, ⟨p0, rfl, SqT.of ((g1.trans g2) _ _ upd_same)⟩, by decide, ⟨by decide, by decide, by decide, by decide⟩⟩
      have T1 : NotC K G2 (.ref p2) := ⟨⟨2 * m.a, 2 * m.b, 2 * m.c, 2 * m.d⟩, ⟨p2, rfl, SqT.of (by rw [← hG2, upd_same]; rfl)⟩, bad_two gm, ⟨(Bd.two bm.1).mono (by decide), (Bd.two bm.2.1).mono (by decide), (Bd.two bm.2.2.1).mono (by decide), (Bd.two bm.2.2.2).mono (by decide)⟩⟩
      refine tcompT rfl hq2 (fun i acc H' => acc = ((cl m).take i).map (fun n => V.int (-n)) ∧ H' = G2) ⟨rfl, rfl⟩ (fun i acc H' hi h => ?_) ?_ ?_
      · obtain ⟨rfl, rfl⟩ := h
        refine ⟨hq2, ?_⟩
        rw [List.length_map, List.length_take]
        exact Nat.le_trans (Nat.min_le_right _ _) (by show 4 ≤ sizeLine; decide)
      · rintro i x acc H' hx ⟨rfl, rfl⟩ R hR
        obtain ⟨n, hn, rfl⟩ := map_at hx
        simp only [capσ]
        walk_at "rd"
        refine hR _ _ ⟨?_, rfl⟩
        rw [List.take_add_one, hn]
        simp
      · rintro acc H' p3 ⟨rfl, rfl⟩ n3
        walk_at "rd"
        refine ⟨_, .inl ⟨SqL.of upd_same, fun p4 n4 => ⟨by show 3 ≤ sizeLine; decide, fun p5 n5 => ?_⟩⟩⟩
        refine hk _ _ ⟨p5, .ref p0, .ref p2, .ref p4, g02.trans ((same_new n3 _).trans ((same_new n4 _).trans (same_new n5 _))), upd_same, fun x hx => ?_, rfl⟩
        simp only [List.mem_cons, List.not_mem_nil, or_false] at hx
        rcases hx with rfl | rfl | rfl
        · exact T0.mono ((same_new n3 _).trans ((same_new n4 _).trans (same_new n5 _)))
        · exact T1.mono ((same_new n3 _).trans ((same_new n4 _).trans (same_new n5 _)))
        · exact ⟨⟨-m.a, -m.b, -m.c, -m.d⟩, ⟨p4, rfl, SqT.of (same_new n5 _ _ _ (by rw [upd_same]; rfl))⟩, bad_neg gm, ⟨bm1.1.neg, bm1.2.1.neg, bm1.2.2.1.neg, bm1.2.2.2.neg⟩⟩
  rintro σ H1 ⟨l, t0, t1, t2, g1, hl, ha, rfl⟩
  have hv1 := hv.mono g1
  refine seq_by (fun σ H2 => ∃ l ts, Same H H2 ∧ H2 l = some (.lst ts) ∧ ts.length = 6 ∧ (∀ x ∈ ts, NotC K H2 x) ∧ σ = [some (.ref a), some (.int c), some (.ref l)]) (fun k hk => ?_) ?_
  · walk_at "rd"
    refine ⟨_, hv1, _, at0 _ _, _, hv1, _, at1 _ _ _, _, hv1, _, at0 _ _, _, hv1, _, at1 _ _ _, by show 4 ≤ sizeLine; decide, fun p0 n0 => ⟨by show 4 ≤ sizeLine; decide, fun p1 n1 => ⟨by show 4 ≤ sizeLine; decide, fun p2 n2 => ⟨by show 3 ≤ sizeLine; decide, fun p3 n3 => ?_⟩⟩⟩⟩
    have g4 := (same_new n0 _).trans ((same_new n1 _).trans ((same_new n2 _).trans (same_new n3 (.lst [.ref p0, .ref p1, .ref p2]))))
    refine ⟨_, g4 _ _ hl, _, upd_same, by show 6 ≤ sizeLine; decide, fun p4 n4 => ?_⟩
    have g5 := fun o => g4.trans (same_new n4 o)
    refine hk _ _ ⟨p4, _, g1.trans (g5 _), upd_same, rfl, fun x hx => ?_, rfl⟩
    rcases List.mem_append.mp hx with hx | hx
    · exact (ha x hx).mono (g5 _)
    · simp only [List.mem_cons, List.not_mem_nil, or_false] at hx
      rcases hx with rfl | rfl | rfl
      · exact ⟨⟨m.a, m.b, m.a, m.b⟩, ⟨p0, rfl, SqT.of (((same_new n1 _).trans ((same_new n2 _).trans ((same_new n3 _).trans (same_new n4 _)))) _ _ upd_same)⟩, bad_row _ _, ⟨bm1.1, bm1.2.1, bm1.1, bm1.2.1⟩⟩
      · exact ⟨⟨1, 2, 2, 4⟩, ⟨p1, rfl, SqT.of (((same_new n2 _).trans ((same_new n3 _).trans (same_new n4 _))) _ _ upd_same)⟩, by decide, ⟨by decide, by decide, by decide, by decide⟩⟩
      · exact ⟨⟨0, -1, 1, 0⟩, ⟨p2, rfl, SqT.of (((same_new n3 _).trans (same_new n4 _)) _ _ upd_same)⟩, by decide, ⟨by decide, by decide, by decide, by decide⟩⟩
  rintro σ H2 ⟨l2, ts, g2, hl2, h6, ha2, rfl⟩
  walk_at "rd"
  obtain ⟨x, hx, m', t', ng, b'⟩ := pick (xs := ts) (i := c % 6) (Int.emod_nonneg _ (by decide)) (by rw [h6]; exact Int.emod_lt_of_pos _ (by decide)) ha2
  exact ⟨by decide, _, SqL.of hl2, x, hx, q _ _ _ g2 t' ng b'⟩
theorem sc__law_bad_point : FnScope ["point", "cell", "some"] ["point", "cell"] (defScope s__law_bad_point) := ⟨rfl, rfl, rfl, by decide +kernel, rfl, by decide +kernel, by decide +kernel⟩
set_option maxHeartbeats 4000000 in
theorem cal__law_bad_point (F : Def K mg "_law_bad_point" s__law_bad_point ["point", "cell"]) : Cal P w K mg base 1 "_law_bad_point" ["point", "cell"] (spBadP K) := by
  refine F.cal (k := 0) sc__law_bad_point (fun vs H Q E h => ?_) (fun f cdv A outer s H vs Q E hr h => ?_)
  · obtain ⟨v, p, c, rfl, hv, gp, bp, q⟩ := h
    rfl
  obtain ⟨v, p, c, rfl, hv, gp, bp, q⟩ := h
  have hu := hr.units
  have hu8 : (A.deeper (envOfC "_law_bad_point" (defScope s__law_bad_point) s.heap.objs.size f cdv)).units + 80 < cLine := by have := hr.un; omega
  refine ⟨_, (pss_cons (ps_set (i := 2) sc__law_bad_point.nd rfl (Or.inl rfl) (pe_lst (pa_cons (pe_tup (pa_cons pe_int (pa_cons pe_int pa_nil))) (pa_cons (pe_tup (pa_cons (pe_un un_neg pe_int) (pa_cons pe_int pa_nil))) (pa_cons (pe_tup (pa_cons pe_int (pa_cons pe_int pa_nil))) (pa_cons (pe_tup (pa_cons (pe_op op_mulB pe_int (pe_ix ix_tupI (pv 0) pe_int (fun _ _ => rfl))) (pa_cons (pe_op op_mulB pe_int (pe_ix ix_tupI (pv 0) pe_int (fun _ _ => rfl))) pa_nil))) (pa_cons (pe_tup (pa_cons (pe_ix ix_tupI (pv 0) pe_int (fun _ _ => rfl)) (pa_cons (pe_un un_neg pe_int) pa_nil))) pa_nil)))))))
      (pss_cons (ps_set (i := 2) sc__law_bad_point.nd rfl (Or.inl rfl) (pe_op op_cat (pv 2) (pe_lst (pa_cons (pe_tup (pa_cons (pe_un un_neg (pe_ix ix_tupI (pv 0) pe_int (fun _ _ => rfl))) (pa_cons (pe_un un_neg (pe_ix ix_tupI (pv 0) pe_int (fun _ _ => rfl))) pa_nil))) (pa_cons (pe_tup (pa_cons pe_int (pa_cons pe_int pa_nil))) pa_nil)))))
      (pss_one (ps_ret (pe_ix ix_list (pv 2) (pe_op op_mod (pv 1) pe_int) (fun _ _ => rfl)))))), ?_⟩
  refine seq_by (fun σ H1 => ∃ l ts, Same H H1 ∧ H1 l = some (.lst ts) ∧ ts.length = 5 ∧ (∀ x ∈ ts, NotP K H1 x) ∧ σ = [some v, some (.int c), some (.ref l)]) (fun k hk => ?_) ?_
  · walk_at "rd"
    have b2 : Bd 100000 2 := Bd.mono (j := 2) (by decide) (by decide)
    refine ⟨by show 2 ≤ sizeLine; decide, fun p0 n0 => ⟨by show 2 ≤ sizeLine; decide, fun p1 n1 => ⟨by show 2 ≤ sizeLine; decide, fun p2 n2 => ?_⟩⟩⟩
    have hv1 := hv.mono ((same_new n0 _).trans ((same_new n1 _).trans (same_new n2 (.tup [.int 2, .int 0]))))
    refine ⟨_, hv1, _, at0 _ _, ⟨b2, bp.1.mono (by decide)⟩, _, hv1, _, at1 _ _ _, ⟨b2, bp.2.mono (by decide)⟩, by show 2 ≤ sizeLine; decide, fun p3 n3 => ?_⟩
    have hv2 := hv1.mono (same_new n3 (.tup [.int (2 * p.1), .int (2 * p.2)]))
    refine ⟨_, hv2, _, at0 _ _, by show 2 ≤ sizeLine; decide, fun p4 n4 => ⟨by show 5 ≤ sizeLine; decide, fun p5 n5 => ?_⟩⟩
    refine hk _ _ ⟨p5, _, (same_new n0 _).trans ((same_new n1 _).trans ((same_new n2 _).trans ((same_new n3 _).trans ((same_new n4 _).trans (same_new n5 _))))), upd_same, rfl, fun x hx => ?_, rfl⟩
    simp only [List.mem_cons, List.not_mem_nil, or_false] at hx
    rcases hx with rfl | rfl | rfl | rfl | rfl
    · exact ⟨(0, 0), ⟨p0, rfl, SqT.of (((same_new n1 _).trans ((same_new n2 _).trans ((same_new n3 _).trans ((same_new n4 _).trans (same_new n5 _))))) _ _ upd_same)⟩, (by show ¬ GoodP 0 0; decide), ⟨by decide, by decide⟩⟩
    · exact ⟨(-1, 0), ⟨p1, rfl, SqT.of (((same_new n2 _).trans ((same_new n3 _).trans ((same_new n4 _).trans (same_new n5 _)))) _ _ upd_same)⟩, (by show ¬ GoodP (-1) 0; decide), ⟨by decide, by decide⟩⟩
    · exact ⟨(2, 0), ⟨p2, rfl, SqT.of (((same_new n3 _).trans ((same_new n4 _).trans (same_new n5 _))) _ _ upd_same)⟩, (by show ¬ GoodP 2 0; decide), ⟨by decide, by decide⟩⟩
    · exact ⟨(2 * p.1, 2 * p.2), ⟨p3, rfl, SqT.of (((same_new n4 _).trans (same_new n5 _)) _ _ upd_same)⟩, badp_two gp, ⟨Bd.two bp.1, Bd.two bp.2⟩⟩
    · exact ⟨(p.1, -1), ⟨p4, rfl, SqT.of ((same_new n5 _) _ _ upd_same)⟩, badp_low _, ⟨bp.1.mono (by decide), by show Bd 12 (-1); decide⟩⟩
  rintro σ H1 ⟨l, ts, g1, hl, h5, ha, rfl⟩
  have hv1 := hv.mono g1
  refine seq_by (fun σ H2 => ∃ l ts, Same H H2 ∧ H2 l = some (.lst ts) ∧ ts.length = 7 ∧ (∀ x ∈ ts, NotP K H2 x) ∧ σ = [some v, some (.int c), some (.ref l)]) (fun k hk => ?_) ?_
  · walk_at "rd"
    refine ⟨_, hv1, _, at0 _ _, _, hv1, _, at1 _ _ _, by show 2 ≤ sizeLine; decide, fun p0 n0 => ⟨by show 2 ≤ sizeLine; decide, fun p1 n1 => ⟨by show 2 ≤ sizeLine; decide, fun p2 n2 => ?_⟩⟩⟩
    have g4 := (same_new n0 _).trans ((same_new n1 _).trans (same_new n2 (.lst [.ref p0, .ref p1])))
    refine ⟨_, g4 _ _ hl, _, upd_same, by rw [h5]; show 7 ≤ sizeLine; decide, fun p4 n4 => ?_⟩
    have g5 := fun o => g4.trans (same_new n4 o)
    refine hk _ _ ⟨p4, _, g1.trans (g5 _), upd_same, by rw [List.length_append, h5]; rfl, fun x hx => ?_, rfl⟩
    rcases List.mem_append.mp hx with hx | hx
    · exact (ha x hx).mono (g5 _)
    · simp only [List.mem_cons, List.not_mem_nil, or_false] at hx
      rcases hx with rfl | rfl
      · exact ⟨(-p.1, -p.2), ⟨p0, rfl, SqT.of (((same_new n1 _).trans ((same_new n2 _).trans (same_new n4 _))) _ _ upd_same)⟩, badp_neg gp, ⟨bp.1.neg.mono (by decide), bp.2.neg.mono (by decide)⟩⟩
      · exact ⟨(0, 7), ⟨p1, rfl, SqT.of (((same_new n2 _).trans (same_new n4 _)) _ _ upd_same)⟩, (by show ¬ GoodP 0 7; decide), ⟨by decide, by decide⟩⟩
  rintro σ H2 ⟨l2, ts, g2, hl2, h6, ha2, rfl⟩
  walk_at "rd"
  obtain ⟨x, hx, m', t', ng, b'⟩ := pick (xs := ts) (i := c % 7) (Int.emod_nonneg _ (by decide)) (by rw [h6]; exact Int.emod_lt_of_pos _ (by decide)) ha2
  exact ⟨by decide, _, SqL.of hl2, x, hx, q _ _ _ g2 t' ng b'⟩
theorem sc_common_divisor : FnScope ["one", "other", "larger", "smaller", "rest"] ["one", "other"] (defScope s_common_divisor) := ⟨rfl, rfl, rfl, by decide +kernel, rfl, by decide +kernel, by decide +kernel⟩
set_option maxHeartbeats 4000000 in
theorem cal_common_divisor (F : Def K mg "common_divisor" s_common_divisor ["one", "other"]) (B : Blt mg) : Cal P w K mg base 1 "common_divisor" ["one", "other"] spGcd := by
  refine F.cal (k := 0) sc_common_divisor (fun vs H Q E h => ?_) (fun f cdv A outer s H vs Q E hr h => ?_)
  · obtain ⟨a, b, rfl, q⟩ := h
    rfl
  obtain ⟨a, b, rfl, q⟩ := h
  have hu := hr.units
  have hu8 : (A.deeper (envOfC "common_divisor" (defScope s_common_divisor) s.heap.objs.size f cdv)).units + 80 < cLine := by have := hr.un; omega
  refine ⟨_, (pss_cons (ps_set (i := 2) sc_common_divisor.nd rfl (Or.inl rfl) (pe_callB call_absN rfl B.abs bt_abs (pa_cons (pv 0) pa_nil)))
      (pss_cons (ps_set (i := 3) sc_common_divisor.nd rfl (Or.inl rfl) (pe_callB call_absN rfl B.abs bt_abs (pa_cons (pv 1) pa_nil)))
      (pss_cons (ps_while PassesOwn.never (pt_cmpR op_ne (pv 3) pe_int (nomark _)) (pss_cons (ps_set (i := 4) sc_common_divisor.nd rfl (Or.inl rfl) (pe_op op_modN (pv 2) (pv 3)))
      (pss_cons (ps_set (i := 2) sc_common_divisor.nd rfl (Or.inl rfl) (pv 3))
      (pss_one (ps_set (i := 3) sc_common_divisor.nd rfl (Or.inl rfl) (pv 4))))))
      (pss_one (ps_ret (pv 2)))))), ?_⟩
  walk_at "rd"
  refine while_of (fun n σ H' => ∃ (l s : Int) (r : Option V), σ = [some (.int a), some (.int b), some (.int l), some (.int s), r] ∧ 0 ≤ l ∧ 0 ≤ s ∧ Int.gcd l s = Int.gcd a b ∧ H' = H ∧ n = s.toNat) _
    ⟨_, _, _, rfl, by omega, by omega, rfl, rfl, rfl⟩ ?_
  rintro W' hW n σ H' ⟨l, s, r, rfl, hl, hs, hg, rfl, rfl⟩
  walk_at "rd"
  refine ite2 (fun c => ?_) (fun c => ?_)
  · refine ⟨fun σ' H' => ∃ m', m' < s.toNat ∧ W' m' σ' H', fun σ' H' h => h, ?_⟩
    have c' : s ≠ 0 := by omega
    obtain ⟨m0, m1⟩ := fmod_natAbs_lt hl hs c'
    walk_at "rd"
    exact ⟨c', _, (by omega : (l.fmod s).toNat < s.toNat), hW _ _ _ ⟨_, _, _, rfl, hs, m0, by rw [gcd_step c']; exact hg, rfl, rfl⟩⟩
  · have : s = 0 := by omega
    subst this
    have e : ((Int.gcd l 0 : Nat) : Int) = l := by simp; omega
    rw [← hg, e] at q
    exact q
theorem sc_lowest_change : FnScope ["numbers", "divisor", "number", "first"] ["numbers"] (defScope s_lowest_change) := ⟨rfl, rfl, rfl, by decide +kernel, rfl, by decide +kernel, by decide +kernel⟩
set_option maxHeartbeats 4000000 in
theorem cal_lowest_change (F : Def K mg "lowest_change" s_lowest_change ["numbers"]) (C_common_divisor : Cal P w K mg base 1 "common_divisor" ["one", "other"] spGcd) (B : Blt mg) : Cal P w K mg base 2 "lowest_change" ["numbers"] (spLowC K) := by
  refine F.cal (k := 1) sc_lowest_change (fun vs H Q E h => ?_) (fun f cdv A outer s H vs Q E hr h => ?_)
  · obtain ⟨v, m, rfl, ⟨a, rfl, hq⟩, hd, hb, q⟩ := h
    rfl
  obtain ⟨v, m, rfl, ⟨a, rfl, hq⟩, hd, hb, q⟩ := h
  have hu := hr.units
  have hu8 : (A.deeper (envOfC "lowest_change" (defScope s_lowest_change) s.heap.objs.size f cdv)).units + 80 < cLine := by have := hr.un; omega
  refine ⟨_, (pss_cons (ps_set (i := 1) sc_lowest_change.nd rfl (Or.inr rfl) pe_int)
      (pss_cons (ps_for PassesOwn.never rfl (pi_tup (pv 0)) (pg_name (i := 2) sc_lowest_change.nd rfl (Or.inl rfl)) (pss_one (ps_set (i := 1) sc_lowest_change.nd rfl (Or.inr rfl) (pe_callC C_common_divisor hr (pa_cons (pv 1) (pa_cons (pv 2) pa_nil))))))
      (pss_cons (ps_set (i := 3) sc_lowest_change.nd rfl (Or.inl rfl) (pe_ifExp (pt_cmpR op_ne (pe_ix ix_tupI (pv 0) pe_int (fun _ _ => rfl)) pe_int (nomark _)) (pe_ix ix_tupI (pv 0) pe_int (fun _ _ => rfl)) (pe_ix ix_tupI (pv 0) pe_int (fun _ _ => rfl))))
      (pss_cons (ps_if (pt_cmpR op_lt (pv 3) pe_int (nomark _)) (pss_one (ps_set (i := 1) sc_lowest_change.nd rfl (Or.inr rfl) (pe_un un_neg (pv 1)))) pss_nil)
      (pss_one (ps_ret (pe_callTy call_tuple_of rfl B.tuple bt_tuple (pa_cons (pe_comp [1] (sc := defScope s_lowest_change) (cn := ["divisor"]) rfl ⟨rfl, by decide +kernel, rfl, by decide +kernel, by decide +kernel, by decide +kernel, by decide +kernel⟩ rfl rfl (pi_tup (pv 0)) (fun _ _ _ _ _ => pq_nil) (fun _ _ _ _ _ => (pe_op op_fdivB (pv 0) (pv 1)))) pa_nil)))))))), ?_⟩
  have hv : Tp K H (.ref a) (cl m) := ⟨a, rfl, hq⟩
  obtain ⟨g, hge⟩ : ∃ g, g = if (if m.a ≠ 0 then m.a else m.b) < 0 then -(g4 m) else g4 m := ⟨_, rfl⟩
  have hg : g ≠ 0 := by have := g4_ne hd; rw [hge]; split <;> omega
  have hbg : Bd 8000 g := by
    have h : Bd 8000 (g4 m) := (hb.gcd).mono (by decide)
    rw [hge]
    by_cases c : (if m.a ≠ 0 then m.a else m.b) < 0
    · rw [if_pos c]; exact h.neg
    · rw [if_neg c]; exact h
  have hf : cl (nch m) = (cl m).map (fun n => n.fdiv g) := by rw [hge]; rfl
  apply seq_det
  · intro k hk; walk_at "rd"; exact hk
  refine seq_by (fun σ H' => ∃ r : Option V, σ = [some (.ref a), some (.int (g4 m)), r, none] ∧ H' = H) (fun k hk => ?_) ?_
  · refine ⟨_, rfl, a, rfl, ⟨_, hq⟩, forT (xs := (cl m).map V.int) (fun i σ H' => ∃ (r : Option V), σ = [some (.ref a), some (.int (gI ((cl m).take i))), r, none] ∧ H' = H) ⟨_, rfl, rfl⟩ (fun i σ H' _ h => ?_) ?_ ?_⟩
    · obtain ⟨r, rfl, rfl⟩ := h
      exact hq
    · rintro Pv' hP i x σ H' hx ⟨r, rfl, rfl⟩
      obtain ⟨n, hn, rfl⟩ := map_at hx
      walk_at "rd"
      refine ⟨_, _, rfl, hP _ _ _ ⟨some (.int n), ?_, rfl⟩⟩
      rw [gI_step hn]
    · rintro σ H' ⟨r, rfl, rfl⟩
      exact hk _ _ ⟨r, rfl, rfl⟩
  rintro σ H' ⟨r, rfl, rfl⟩
  refine seq_det (σ1 := [some (.ref a), some (.int (g4 m)), r, some (.int (if m.a ≠ 0 then m.a else m.b))]) (H1 := H') (fun k hk => ?_) ?_
  · walk_at "rd"
    refine ⟨_, hv, _, at0 _ _, ?_⟩
    refine ite2 (fun c => ?_) (fun c => ?_)
    · refine ⟨_, hv, _, at0 _ _, ?_⟩
      rw [if_pos (by simpa using c)] at hk; exact hk
    · refine ⟨_, hv, _, at1 _ _ _, ?_⟩
      rw [if_neg (by simpa using c)] at hk; exact hk
  refine seq_det (σ1 := [some (.ref a), some (.int g), r, some (.int (if m.a ≠ 0 then m.a else m.b))]) (H1 := H') (fun k hk => ?_) ?_
  · walk_at "rd"
    refine ite2 (fun c => ?_) (fun c => ?_)
    · rw [hge, if_pos c] at hk; exact hk
    · rw [hge, if_neg c] at hk; exact hk

  walk_at "rd"
  refine tcompT rfl hq (fun i acc H'' => acc = ((cl m).take i).map (fun n => V.int (n.fdiv g)) ∧ H'' = H') ⟨rfl, rfl⟩ (fun i acc H'' hi h => ?_) ?_ ?_
  · obtain ⟨rfl, rfl⟩ := h
    refine ⟨hq, ?_⟩
    rw [List.length_map, List.length_take]
    exact Nat.le_trans (Nat.min_le_right _ _) (by show 4 ≤ sizeLine; decide)
  · rintro i x acc H'' hx ⟨rfl, rfl⟩ R hR
    obtain ⟨n, hn, rfl⟩ := map_at hx
    simp only [capσ]
    walk_at "rd"
    refine ⟨⟨hg, hbg⟩, hR _ _ ⟨?_, rfl⟩⟩
    rw [List.take_add_one, hn]
    simp
  · rintro acc H'' p ⟨rfl, rfl⟩ hp
    walk_at "rd"
    refine ⟨_, .inl ⟨SqL.of upd_same, fun l hl => q _ _ (Same.trans (same_new hp _) (same_new hl _)) ⟨l, rfl, SqT.of ?_⟩⟩⟩
    rw [upd_same, hf, List.map_map]; rfl
theorem sc_is_change : FnScope ["change"] ["change"] (defScope s_is_change) := ⟨rfl, rfl, rfl, by decide +kernel, rfl, by decide +kernel, by decide +kernel⟩
set_option maxHeartbeats 4000000 in
theorem cal_is_change (F : Def K mg "is_change" s_is_change ["change"]) (C_lowest_change : Cal P w K mg base 2 "lowest_change" ["numbers"] (spLowC K)) : Cal P w K mg base 3 "is_change" ["change"] (spIsC K) := by
  refine F.cal (k := 2) sc_is_change (fun vs H Q E h => ?_) (fun f cdv A outer s H vs Q E hr h => ?_)
  · obtain ⟨v, m, rfl, hv, hb, q⟩ := h
    rfl
  obtain ⟨v, m, rfl, hv, hb, q⟩ := h
  have hu := hr.units
  have hu8 : (A.deeper (envOfC "is_change" (defScope s_is_change) s.heap.objs.size f cdv)).units + 80 < cLine := by have := hr.un; omega
  refine ⟨_, (pss_cons (ps_if (pt_cmpR op_eq (pe_op op_mulB (pe_ix ix_tupI (pv 0) pe_int (fun _ _ => rfl)) (pe_ix ix_tupI (pv 0) pe_int (fun _ _ => rfl))) (pe_op op_mulB (pe_ix ix_tupI (pv 0) pe_int (fun _ _ => rfl)) (pe_ix ix_tupI (pv 0) pe_int (fun _ _ => rfl))) (nomark _)) (pss_one (ps_ret pe_bl)) pss_nil)
      (pss_one (ps_ret (pe_cmpR (op_eqT hu) (pe_callC C_lowest_change hr (pa_cons (pv 0) pa_nil)) (pv 0) (nomark _))))), ?_⟩
  obtain ⟨b1, b2, b3, b4⟩ := id hb
  walk_at "rd"
  refine ⟨_, hv, _, at0 _ _, _, hv, _, at3 _ _ _ _ _, ⟨b1.mono (by decide), b4.mono (by decide)⟩, _, hv, _, at1 _ _ _, _, hv, _, at2 _ _ _ _, ⟨b2.mono (by decide), b3.mono (by decide)⟩, ?_⟩
  refine ite2 (fun c => ?_) (fun c => ?_)
  · have e : decide (GoodC m) = false := decide_eq_false fun h => h.1 c
    rw [e] at q
    exact q H (Same.refl H)
  · have hd : m.det ≠ 0 := by unfold Ch.det; omega
    refine ⟨v, m, rfl, hv, hd, hb, fun v' H' g t => ⟨_, t, _, hv.mono g, ?_⟩⟩
    have e : decide (cl (nch m) = cl m) = decide (GoodC m) := by
      rw [decide_eq_decide, ← nch_self_iff hd]
      exact cl_inj
    have h := q H' g
    rw [← e] at h
    exact h
theorem sc_check_change : FnScope ["change"] ["change"] (defScope s_check_change) := ⟨rfl, rfl, rfl, by decide +kernel, rfl, by decide +kernel, by decide +kernel⟩
set_option maxHeartbeats 4000000 in
theorem cal_check_change (F : Def K mg "check_change" s_check_change ["change"]) (C_is_change : Cal P w K mg base 3 "is_change" ["change"] (spIsC K)) : Cal P w K mg base 4 "check_change" ["change"] (spCheckC K) := by
  refine F.cal (k := 3) sc_check_change (fun vs H Q E h => ?_) (fun f cdv A outer s H vs Q E hr h => ?_)
  · obtain ⟨v, m, rfl, hv, hb, hg, q⟩ := h
    rfl
  obtain ⟨v, m, rfl, hv, hb, hg, q⟩ := h
  have hu := hr.units
  have hu8 : (A.deeper (envOfC "check_change" (defScope s_check_change) s.heap.objs.size f cdv)).units + 80 < cLine := by have := hr.un; omega
  refine ⟨_, (pss_one (ps_if (pt_not (pt_val (pe_callC C_is_change hr (pa_cons (pv 0) pa_nil)))) (pss_one ps_never) pss_nil)), ?_⟩
  walk_at "rd"
  refine ⟨v, m, rfl, hv, hb, fun H' g => ?_⟩
  have e : decide (GoodC m) = true := decide_eq_true hg
  rw [e]
  walk_at "rd"
  exact q H' g
theorem sc_lowest_point : FnScope ["top", "bottom", "divisor"] ["top", "bottom"] (defScope s_lowest_point) := ⟨rfl, rfl, rfl, by decide +kernel, rfl, by decide +kernel, by decide +kernel⟩
set_option maxHeartbeats 4000000 in
theorem cal_lowest_point (F : Def K mg "lowest_point" s_lowest_point ["top", "bottom"]) (C_common_divisor : Cal P w K mg base 1 "common_divisor" ["one", "other"] spGcd) {aF : Addr} (c_FAR : mg "FAR" = some (.ref aF) ∧ RelV (.ref aF) (Value.ref aF)) (kF : ∀ H, SqT K H aF [.int 1, .int 0]) : Cal P w K mg base 2 "lowest_point" ["top", "bottom"] (spLowP K) := by
  refine F.cal (k := 1) sc_lowest_point (fun vs H Q E h => ?_) (fun f cdv A outer s H vs Q E hr h => ?_)
  · obtain ⟨x, y, rfl, bx, by_, q⟩ := h
    rfl
  obtain ⟨x, y, rfl, bx, by_, q⟩ := h
  have hu := hr.units
  have hu8 : (A.deeper (envOfC "lowest_point" (defScope s_lowest_point) s.heap.objs.size f cdv)).units + 80 < cLine := by have := hr.un; omega
  refine ⟨_, (pss_cons (ps_if (pt_cmpR op_eq (pv 1) pe_int (nomark _)) (pss_one (ps_ret (pe_glob rfl c_FAR.1 c_FAR.2))) pss_nil)
      (pss_cons (ps_set (i := 2) sc_lowest_point.nd rfl (Or.inl rfl) (pe_callC C_common_divisor hr (pa_cons (pv 0) (pa_cons (pv 1) pa_nil))))
      (pss_cons (ps_if (pt_cmpR op_lt (pv 1) pe_int (nomark _)) (pss_one (ps_set (i := 2) sc_lowest_point.nd rfl (Or.inl rfl) (pe_un un_neg (pv 2)))) pss_nil)
      (pss_one (ps_ret (pe_tup (pa_cons (pe_op op_fdivB (pv 0) (pv 2)) (pa_cons (pe_op op_fdivB (pv 1) (pv 2)) pa_nil)))))))), ?_⟩
  walk_at "rd"
  refine ite2 (fun c => ?_) (fun c => ?_)
  · subst c
    have e : pl (npt x 0) = [1, 0] := by simp [pl, npt]
    refine q _ H (Same.refl H) ?_
    rw [e]
    exact ⟨aF, rfl, kF H⟩
  · have hg : (Int.gcd x y : Int) ≠ 0 := fun e => c (gcd_zero_iff.mp (show Int.gcd x y = 0 by omega)).2
    have hb : Bd 8000 (Int.gcd x y : Int) := (Bd.gcd bx by_).mono (by decide)
    refine ⟨x, y, rfl, ?_⟩
    refine ite2 (fun n => ?_) (fun n => ?_)
    · have e : npt x y = (x.fdiv (-(Int.gcd x y : Int)), y.fdiv (-(Int.gcd x y : Int))) := by simp [npt, c, n]
      refine ⟨_, rfl, ⟨by omega, hb.neg⟩, ⟨by omega, hb.neg⟩, (by show 2 ≤ sizeLine; decide), fun p hp => q _ _ (same_new hp _) ⟨p, rfl, SqT.of ?_⟩⟩
      rw [upd_same, e]; rfl
    · have e : npt x y = (x.fdiv (Int.gcd x y : Int), y.fdiv (Int.gcd x y : Int)) := by simp [npt, c, n]
      refine ⟨_, rfl, ⟨hg, hb⟩, _, rfl, ⟨hg, hb⟩, (by show 2 ≤ sizeLine; decide), fun p hp => q _ _ (same_new hp _) ⟨p, rfl, SqT.of ?_⟩⟩
      rw [upd_same, e]; rfl
theorem sc_is_point : FnScope ["point"] ["point"] (defScope s_is_point) := ⟨rfl, rfl, rfl, by decide +kernel, rfl, by decide +kernel, by decide +kernel⟩
set_option maxHeartbeats 4000000 in
theorem cal_is_point (F : Def K mg "is_point" s_is_point ["point"]) (C_lowest_point : Cal P w K mg base 2 "lowest_point" ["top", "bottom"] (spLowP K)) : Cal P w K mg base 3 "is_point" ["point"] (spIsP K) := by
  refine F.cal (k := 2) sc_is_point (fun vs H Q E h => ?_) (fun f cdv A outer s H vs Q E hr h => ?_)
  · obtain ⟨v, x, y, rfl, hv, bx, by_, q⟩ := h
    rfl
  obtain ⟨v, x, y, rfl, hv, bx, by_, q⟩ := h
  have hu := hr.units
  have hu8 : (A.deeper (envOfC "is_point" (defScope s_is_point) s.heap.objs.size f cdv)).units + 80 < cLine := by have := hr.un; omega
  refine ⟨_, (pss_one (ps_ret (pe_cmpR (op_eqT hu) (pe_callC C_lowest_point hr (pa_cons (pe_ix ix_tupI (pv 0) pe_int (fun _ _ => rfl)) (pa_cons (pe_ix ix_tupI (pv 0) pe_int (fun _ _ => rfl)) pa_nil))) (pv 0) (nomark _)))), ?_⟩
  walk_at "rd"
  refine ⟨_, hv, _, at0 _ _, _, hv, _, at1 _ _ _, ?_⟩
  refine ⟨x, y, rfl, bx, by_, fun v H' g t => ?_⟩
  refine ⟨_, t, _, hv.mono g, ?_⟩
  have e : decide (pl (npt x y) = [x, y]) = decide (GoodP x y) := by
    rw [decide_eq_decide, ← npt_self_iff]
    unfold pl
    generalize npt x y = z
    obtain ⟨z1, z2⟩ := z
    simp
  simp only [Bool.false_eq_true, if_false, e]
  exact q H' g
theorem sc_check_point : FnScope ["point"] ["point"] (defScope s_check_point) := ⟨rfl, rfl, rfl, by decide +kernel, rfl, by decide +kernel, by decide +kernel⟩
set_option maxHeartbeats 4000000 in
theorem cal_check_point (F : Def K mg "check_point" s_check_point ["point"]) (C_is_point : Cal P w K mg base 3 "is_point" ["point"] (spIsP K)) : Cal P w K mg base 4 "check_point" ["point"] (spCheckP K) := by
  refine F.cal (k := 3) sc_check_point (fun vs H Q E h => ?_) (fun f cdv A outer s H vs Q E hr h => ?_)
  · obtain ⟨v, p, rfl, hv, hb, hg, q⟩ := h
    rfl
  obtain ⟨v, p, rfl, hv, hb, hg, q⟩ := h
  have hu := hr.units
  have hu8 : (A.deeper (envOfC "check_point" (defScope s_check_point) s.heap.objs.size f cdv)).units + 80 < cLine := by have := hr.un; omega
  refine ⟨_, (pss_one (ps_if (pt_not (pt_val (pe_callC C_is_point hr (pa_cons (pv 0) pa_nil)))) (pss_one ps_never) pss_nil)), ?_⟩
  walk_at "rd"
  refine ⟨v, p.1, p.2, rfl, hv, hb.1, hb.2, fun H' g => ?_⟩
  have e : decide (GoodP p.1 p.2) = true := decide_eq_true hg
  rw [e]
  walk_at "rd"
  exact q H' g
theorem sc_moved : FnScope ["change", "point", "top", "bottom"] ["change", "point"] (defScope s_moved) := ⟨rfl, rfl, rfl, by decide +kernel, rfl, by decide +kernel, by decide +kernel⟩
set_option maxHeartbeats 4000000 in
theorem cal_moved (F : Def K mg "moved" s_moved ["change", "point"]) (C_check_change : Cal P w K mg base 4 "check_change" ["change"] (spCheckC K)) (C_check_point : Cal P w K mg base 4 "check_point" ["point"] (spCheckP K)) (C_lowest_point : Cal P w K mg base 4 "lowest_point" ["top", "bottom"] (spLowP K)) : Cal P w K mg base 5 "moved" ["change", "point"] (spMoved K) := by
  refine F.cal (k := 4) sc_moved (fun vs H Q E h => ?_) (fun f cdv A outer s H vs Q E hr h => ?_)
  · obtain ⟨v, u, m, p, rfl, hv, hp, gm, gp, bm, bp, q⟩ := h
    rfl
  obtain ⟨v, u, m, p, rfl, hv, hp, gm, gp, bm, bp, q⟩ := h
  have hu := hr.units
  have hu8 : (A.deeper (envOfC "moved" (defScope s_moved) s.heap.objs.size f cdv)).units + 80 < cLine := by have := hr.un; omega
  refine ⟨_, (pss_cons (ps_expr (pe_callC C_check_change hr (pa_cons (pv 0) pa_nil)))
      (pss_cons (ps_expr (pe_callC C_check_point hr (pa_cons (pv 1) pa_nil)))
      (pss_cons (ps_set (i := 2) sc_moved.nd rfl (Or.inl rfl) (pe_op op_add (pe_op op_mulB (pe_ix ix_tupI (pv 0) pe_int (fun _ _ => rfl)) (pe_ix ix_tupI (pv 1) pe_int (fun _ _ => rfl))) (pe_op op_mulB (pe_ix ix_tupI (pv 0) pe_int (fun _ _ => rfl)) (pe_ix ix_tupI (pv 1) pe_int (fun _ _ => rfl)))))
      (pss_cons (ps_set (i := 3) sc_moved.nd rfl (Or.inl rfl) (pe_op op_add (pe_op op_mulB (pe_ix ix_tupI (pv 0) pe_int (fun _ _ => rfl)) (pe_ix ix_tupI (pv 1) pe_int (fun _ _ => rfl))) (pe_op op_mulB (pe_ix ix_tupI (pv 0) pe_int (fun _ _ => rfl)) (pe_ix ix_tupI (pv 1) pe_int (fun _ _ => rfl)))))
      (pss_one (ps_ret (pe_callC C_lowest_point hr (pa_cons (pv 2) (pa_cons (pv 3) pa_nil))))))))), ?_⟩
  obtain ⟨a1, a2, a3, a4⟩ := bm.mono (show 1900 ≤ 100000 by decide)
  obtain ⟨b1, b2⟩ := bp.mono (show 1900 ≤ 100000 by decide)
  refine seq_by (fun σ H' => σ = [some v, some u, none, none] ∧ Same H H') (fun k hk => ?_) ?_
  · walk_at "rd"
    exact ⟨v, m, rfl, hv, bm.mono (by decide), gm, fun H' g => hk _ _ ⟨rfl, g⟩⟩
  rintro σ H1 ⟨rfl, g1⟩
  refine seq_by (fun σ H' => σ = [some v, some u, none, none] ∧ Same H H') (fun k hk => ?_) ?_
  · walk_at "rd"
    exact ⟨u, p, rfl, hp.mono g1, bp.mono (by decide), gp, fun H' g => hk _ _ ⟨rfl, g1.trans g⟩⟩
  rintro σ H2 ⟨rfl, g2⟩
  have hv := hv.mono g2
  have hp := hp.mono g2
  apply seq_det
  · intro k hk; walk_at "rd"
    exact ⟨_, hv, _, at0 _ _, _, hp, _, at0 _ _, ⟨a1, b1⟩, _, hv, _, at1 _ _ _, _, hp, _, at1 _ _ _, ⟨a2, b2⟩, hk⟩
  apply seq_det
  · intro k hk; walk_at "rd"
    exact ⟨_, hv, _, at2 _ _ _ _, _, hp, _, at0 _ _, ⟨a3, b1⟩, _, hv, _, at3 _ _ _ _ _, _, hp, _, at1 _ _ _, ⟨a4, b2⟩, hk⟩
  walk_at "rd"
  exact ⟨_, _, rfl, ((bm.1.mul bp.1).add (bm.2.1.mul bp.2)).mono (by decide), ((bm.2.2.1.mul bp.1).add (bm.2.2.2.mul bp.2)).mono (by decide), q.from g2⟩
theorem sc_joined : FnScope ["one", "other"] ["one", "other"] (defScope s_joined) := ⟨rfl, rfl, rfl, by decide +kernel, rfl, by decide +kernel, by decide +kernel⟩
set_option maxHeartbeats 4000000 in
theorem cal_joined (F : Def K mg "joined" s_joined ["one", "other"]) : Cal P w K mg base 1 "joined" ["one", "other"] (spJoined K) := by
  refine F.cal (k := 0) sc_joined (fun vs H Q E h => ?_) (fun f cdv A outer s H vs Q E hr h => ?_)
  · obtain ⟨v, u, m, n, rfl, hv, hn, bm, bn, q⟩ := h
    rfl
  obtain ⟨v, u, m, n, rfl, hv, hn, bm, bn, q⟩ := h
  have hu := hr.units
  have hu8 : (A.deeper (envOfC "joined" (defScope s_joined) s.heap.objs.size f cdv)).units + 80 < cLine := by have := hr.un; omega
  refine ⟨_, (pss_one (ps_ret (pe_tup (pa_cons (pe_op op_add (pe_op op_mulB (pe_ix ix_tupI (pv 1) pe_int (fun _ _ => rfl)) (pe_ix ix_tupI (pv 0) pe_int (fun _ _ => rfl))) (pe_op op_mulB (pe_ix ix_tupI (pv 1) pe_int (fun _ _ => rfl)) (pe_ix ix_tupI (pv 0) pe_int (fun _ _ => rfl)))) (pa_cons (pe_op op_add (pe_op op_mulB (pe_ix ix_tupI (pv 1) pe_int (fun _ _ => rfl)) (pe_ix ix_tupI (pv 0) pe_int (fun _ _ => rfl))) (pe_op op_mulB (pe_ix ix_tupI (pv 1) pe_int (fun _ _ => rfl)) (pe_ix ix_tupI (pv 0) pe_int (fun _ _ => rfl)))) (pa_cons (pe_op op_add (pe_op op_mulB (pe_ix ix_tupI (pv 1) pe_int (fun _ _ => rfl)) (pe_ix ix_tupI (pv 0) pe_int (fun _ _ => rfl))) (pe_op op_mulB (pe_ix ix_tupI (pv 1) pe_int (fun _ _ => rfl)) (pe_ix ix_tupI (pv 0) pe_int (fun _ _ => rfl)))) (pa_cons (pe_op op_add (pe_op op_mulB (pe_ix ix_tupI (pv 1) pe_int (fun _ _ => rfl)) (pe_ix ix_tupI (pv 0) pe_int (fun _ _ => rfl))) (pe_op op_mulB (pe_ix ix_tupI (pv 1) pe_int (fun _ _ => rfl)) (pe_ix ix_tupI (pv 0) pe_int (fun _ _ => rfl)))) pa_nil))))))), ?_⟩
  obtain ⟨a1, a2, a3, a4⟩ := bm.mono (show 50000 ≤ 100000 by decide)
  obtain ⟨b1, b2, b3, b4⟩ := bn.mono (show 50000 ≤ 100000 by decide)
  walk_at "rd"
  refine ⟨_, hn, _, at0 _ _, _, hv, _, at0 _ _, ⟨b1, a1⟩, _, hn, _, at1 _ _ _, _, hv, _, at2 _ _ _ _, ⟨b2, a3⟩, ?_⟩
  refine ⟨_, hn, _, at0 _ _, _, hv, _, at1 _ _ _, ⟨b1, a2⟩, _, hn, _, at1 _ _ _, _, hv, _, at3 _ _ _ _ _, ⟨b2, a4⟩, ?_⟩
  refine ⟨_, hn, _, at2 _ _ _ _, _, hv, _, at0 _ _, ⟨b3, a1⟩, _, hn, _, at3 _ _ _ _ _, _, hv, _, at2 _ _ _ _, ⟨b4, a3⟩, ?_⟩
  refine ⟨_, hn, _, at2 _ _ _ _, _, hv, _, at1 _ _ _, ⟨b3, a2⟩, _, hn, _, at3 _ _ _ _ _, _, hv, _, at3 _ _ _ _ _, ⟨b4, a4⟩, (by show 4 ≤ sizeLine; decide), fun p hp => ?_⟩
  exact q _ _ (same_new hp _) ⟨p, rfl, SqT.of upd_same⟩
theorem sc_after : FnScope ["one", "other"] ["one", "other"] (defScope s_after) := ⟨rfl, rfl, rfl, by decide +kernel, rfl, by decide +kernel, by decide +kernel⟩
set_option maxHeartbeats 4000000 in
theorem cal_after (F : Def K mg "after" s_after ["one", "other"]) (C_check_change : Cal P w K mg base 4 "check_change" ["change"] (spCheckC K)) (C_joined : Cal P w K mg base 4 "joined" ["one", "other"] (spJoined K)) (C_lowest_change : Cal P w K mg base 4 "lowest_change" ["numbers"] (spLowC K)) : Cal P w K mg base 5 "after" ["one", "other"] (spAfter K) := by
  refine F.cal (k := 4) sc_after (fun vs H Q E h => ?_) (fun f cdv A outer s H vs Q E hr h => ?_)
  · obtain ⟨v, u, m, n, rfl, hv, hn, gm, gn, bm, bn, q⟩ := h
    rfl
  obtain ⟨v, u, m, n, rfl, hv, hn, gm, gn, bm, bn, q⟩ := h
  have hu := hr.units
  have hu8 : (A.deeper (envOfC "after" (defScope s_after) s.heap.objs.size f cdv)).units + 80 < cLine := by have := hr.un; omega
  refine ⟨_, (pss_cons (ps_expr (pe_callC C_check_change hr (pa_cons (pv 0) pa_nil)))
      (pss_cons (ps_expr (pe_callC C_check_change hr (pa_cons (pv 1) pa_nil)))
      (pss_one (ps_ret (pe_callC C_lowest_change hr (pa_cons (pe_callC C_joined hr (pa_cons (pv 0) (pa_cons (pv 1) pa_nil))) pa_nil)))))), ?_⟩
  refine seq_by (fun σ H' => σ = [some v, some u] ∧ Same H H') (fun k hk => ?_) ?_
  · walk_at "rd"
    exact ⟨v, m, rfl, hv, bm.mono (by decide), gm, fun H' g => hk _ _ ⟨rfl, g⟩⟩
  rintro σ H1 ⟨rfl, g1⟩
  refine seq_by (fun σ H' => σ = [some v, some u] ∧ Same H H') (fun k hk => ?_) ?_
  · walk_at "rd"
    exact ⟨u, n, rfl, hn.mono g1, bn.mono (by decide), gn, fun H' g => hk _ _ ⟨rfl, g1.trans g⟩⟩
  rintro σ H2 ⟨rfl, g2⟩
  walk_at "rd"
  refine ⟨v, u, m, n, rfl, hv.mono g2, hn.mono g2, bm.mono (by decide), bn.mono (by decide), fun w H3 g3 t3 => ?_⟩
  exact ⟨w, _, rfl, t3, mul_ne gm.det gn.det, (bm.mul bn).mono (by decide), q.from (g2.trans g3)⟩
theorem sc_back : FnScope ["change"] ["change"] (defScope s_back) := ⟨rfl, rfl, rfl, by decide +kernel, rfl, by decide +kernel, by decide +kernel⟩
set_option maxHeartbeats 4000000 in
theorem cal_back (F : Def K mg "back" s_back ["change"]) (C_check_change : Cal P w K mg base 4 "check_change" ["change"] (spCheckC K)) (C_lowest_change : Cal P w K mg base 4 "lowest_change" ["numbers"] (spLowC K)) : Cal P w K mg base 5 "back" ["change"] (spBack K) := by
  refine F.cal (k := 4) sc_back (fun vs H Q E h => ?_) (fun f cdv A outer s H vs Q E hr h => ?_)
  · obtain ⟨v, m, rfl, hv, gm, bm, q⟩ := h
    rfl
  obtain ⟨v, m, rfl, hv, gm, bm, q⟩ := h
  have hu := hr.units
  have hu8 : (A.deeper (envOfC "back" (defScope s_back) s.heap.objs.size f cdv)).units + 80 < cLine := by have := hr.un; omega
  refine ⟨_, (pss_cons (ps_expr (pe_callC C_check_change hr (pa_cons (pv 0) pa_nil)))
      (pss_one (ps_ret (pe_callC C_lowest_change hr (pa_cons (pe_tup (pa_cons (pe_ix ix_tupI (pv 0) pe_int (fun _ _ => rfl)) (pa_cons (pe_un un_neg (pe_ix ix_tupI (pv 0) pe_int (fun _ _ => rfl))) (pa_cons (pe_un un_neg (pe_ix ix_tupI (pv 0) pe_int (fun _ _ => rfl))) (pa_cons (pe_ix ix_tupI (pv 0) pe_int (fun _ _ => rfl)) pa_nil))))) pa_nil))))), ?_⟩
  refine seq_by (fun σ H' => σ = [some v] ∧ Same H H') (fun k hk => ?_) ?_
  · walk_at "rd"
    exact ⟨v, m, rfl, hv, bm.mono (by decide), gm, fun H' g => hk _ _ ⟨rfl, g⟩⟩
  rintro σ H1 ⟨rfl, g1⟩
  have hv := hv.mono g1
  walk_at "rd"
  refine ⟨_, hv, _, at3 _ _ _ _ _, _, hv, _, at1 _ _ _, _, hv, _, at2 _ _ _ _, _, hv, _, at0 _ _, (by show 4 ≤ sizeLine; decide), fun p hp => ?_⟩
  exact ⟨.ref p, adj m, rfl, ⟨p, rfl, SqT.of upd_same⟩, by rw [det_adj]; exact gm.det, (bm.adj).mono (by decide), q.from (g1.trans (same_new hp _))⟩
theorem sc_power : FnScope ["change", "times", "step", "numbers", "done"] ["change", "times"] (defScope s_power) := ⟨rfl, rfl, rfl, by decide +kernel, rfl, by decide +kernel, by decide +kernel⟩
set_option maxHeartbeats 4000000 in
theorem cal_power (F : Def K mg "power" s_power ["change", "times"]) (C_check_change : Cal P w K mg base 5 "check_change" ["change"] (spCheckC K)) (C_back : Cal P w K mg base 5 "back" ["change"] (spBack K)) (C_joined : Cal P w K mg base 5 "joined" ["one", "other"] (spJoined K)) (C_lowest_change : Cal P w K mg base 5 "lowest_change" ["numbers"] (spLowC K)) (B : Blt mg) {uM : Value} (c_MOST_TIMES : mg "MOST_TIMES" = some uM ∧ RelV (.int 60) uM) {aS : Addr} (c_STILL : mg "STILL" = some (.ref aS) ∧ RelV (.ref aS) (Value.ref aS)) (kS : ∀ H, SqT K H aS [.int 1, .int 0, .int 0, .int 1]) : Cal P w K mg base 6 "power" ["change", "times"] (spPower K) := by
  refine F.cal (k := 5) sc_power (fun vs H Q E h => ?_) (fun f cdv A outer s H vs Q E hr h => ?_)
  · obtain ⟨v, m, t, kb, rfl, hv, gm, bm, hkb, hsz, t0, t1, q⟩ := h
    rfl
  obtain ⟨v, m, t, kb, rfl, hv, gm, bm, hkb, hsz, t0, t1, q⟩ := h
  have hu := hr.units
  have hu8 : (A.deeper (envOfC "power" (defScope s_power) s.heap.objs.size f cdv)).units + 80 < cLine := by have := hr.un; omega
  refine ⟨_, (pss_cons (ps_expr (pe_callC C_check_change hr (pa_cons (pv 0) pa_nil)))
      (pss_cons (ps_if (pt_cmpR op_gt (pe_callB call_absN rfl B.abs bt_abs (pa_cons (pv 1) pa_nil)) (pe_glob rfl c_MOST_TIMES.1 c_MOST_TIMES.2) (nomark _)) (pss_one ps_never) pss_nil)
      (pss_cons (ps_set (i := 2) sc_power.nd rfl (Or.inl rfl) (pe_ifExp (pt_cmpR op_lt (pv 1) pe_int (nomark _)) (pe_callC C_back hr (pa_cons (pv 0) pa_nil)) (pv 0)))
      (pss_cons (ps_set (i := 3) sc_power.nd rfl (Or.inl rfl) (pe_glob rfl c_STILL.1 c_STILL.2))
      (pss_cons (ps_for PassesOwn.never rfl (pi_range1 rfl B.range (pa_cons (pe_callB call_absN rfl B.abs bt_abs (pa_cons (pv 1) pa_nil)) pa_nil)) (pg_name (i := 4) sc_power.nd rfl (Or.inl rfl)) (pss_one (ps_set (i := 3) sc_power.nd rfl (Or.inl rfl) (pe_callC C_joined hr (pa_cons (pv 3) (pa_cons (pv 2) pa_nil))))))
      (pss_one (ps_ret (pe_callC C_lowest_change hr (pa_cons (pv 3) pa_nil))))))))), ?_⟩
  refine seq_by (fun σ H' => σ = [some v, some (.int t), none, none, none] ∧ Same H H') (fun k hk => ?_) ?_
  · walk_at "rd"
    exact ⟨v, m, rfl, hv, bm.mono (by omega), gm, fun H' g => hk _ _ ⟨rfl, g⟩⟩
  rintro σ H1 ⟨rfl, g1⟩
  apply seq_det
  · intro k hk; walk_at "rd"
    rw [if_neg (by omega)]
    exact hk
  have da : (adj m).det ≠ 0 := by rw [det_adj]; exact gm.det
  obtain ⟨s, hs⟩ : ∃ s, s = if t < 0 then nch (adj m) else m := ⟨_, rfl⟩
  have ds : s.det ≠ 0 := by
    rw [hs]; split
    · exact (nch_goodC da).det
    · exact gm.det
  have bs : BdC kb s := by
    rw [hs]; split
    · exact (bm.adj).nch da
    · exact bm
  have hq : pw m t = nch (mpow s t.natAbs) := by unfold pw; rw [hs]
  rw [hq] at q
  refine seq_by (fun σ H2 => ∃ w, Same H H2 ∧ Tp K H2 w (cl s) ∧ σ = [some v, some (.int t), some w, none, none]) (fun k hk => ?_) ?_
  · walk_at "rd"
    refine ite2 (fun c => ?_) (fun c => ?_)
    · refine ⟨v, m, rfl, hv.mono g1, gm, bm.mono hkb, fun w H2 g2 t2 => hk _ _ ⟨w, g1.trans g2, ?_, rfl⟩⟩
      rw [hs, if_pos c]; exact t2
    · refine hk _ _ ⟨v, g1, ?_, rfl⟩
      rw [hs, if_neg c]; exact hv.mono g1
  rintro σ H2 ⟨w, g2, tw, rfl⟩
  apply seq_det
  · intro k hk; walk_at "rd"; exact hk
  refine seq_by (fun σ H3 => ∃ (x : V) (y : Option V), Same H H3 ∧ Tp K H3 x (cl (mpow s t.natAbs)) ∧ σ = [some v, some (.int t), some w, some x, y]) (fun k hk => ?_) ?_
  · refine ⟨_, rfl, _, rfl, _, rfl, by omega, by omega, forR (n := ((t.natAbs : Nat) : Int).toNat) (fun i σ H3 => ∃ (x : V) (y : Option V), Same H2 H3 ∧ Tp K H3 x (cl (mpow s i)) ∧ σ = [some v, some (.int t), some w, some x, y])
      ⟨_, _, Same.refl _, ⟨aS, rfl, kS H2⟩, rfl⟩ ?_ ?_⟩
    · rintro Pv' hP i σ H3 hi ⟨x, y, g3, t3, rfl⟩
      walk_at "rd"
      have hi' : i ≤ t.natAbs := by omega
      have hm : (kb + 1) * i ≤ (kb + 1) * t.natAbs := Nat.mul_le_mul_left _ hi'
      refine ⟨x, w, mpow s i, s, rfl, t3, tw.mono g3, (bs.mpow i).mono (by omega), bs.mono (by omega), fun z H4 g4 t4 => hP _ _ _ ⟨z, _, g3.trans g4, t4, rfl⟩⟩
    · rintro σ H3 ⟨x, y, g3, t3, rfl⟩
      have e : ((t.natAbs : Nat) : Int).toNat = t.natAbs := by omega
      rw [e] at t3
      exact hk _ _ ⟨x, y, g2.trans g3, t3, rfl⟩
  rintro σ H3 ⟨x, y, g3, t3, rfl⟩
  walk_at "rd"
  exact ⟨x, _, rfl, t3, mpow_det ds _, (bs.mpow _).mono hsz, q.from g3⟩
theorem sc_turns : FnScope ["change", "times"] ["change"] (defScope s_turns) := ⟨rfl, rfl, rfl, by decide +kernel, rfl, by decide +kernel, by decide +kernel⟩
set_option maxHeartbeats 4000000 in
theorem cal_turns (F : Def K mg "turns" s_turns ["change"]) (C_check_change : Cal P w K mg base 6 "check_change" ["change"] (spCheckC K)) (C_power : Cal P w K mg base 6 "power" ["change", "times"] (spPower K)) {aS : Addr} (c_STILL : mg "STILL" = some (.ref aS) ∧ RelV (.ref aS) (Value.ref aS)) (kS : ∀ H, SqT K H aS [.int 1, .int 0, .int 0, .int 1]) {aT : Addr} (c_TURN_NUMBERS : mg "TURN_NUMBERS" = some (.ref aT) ∧ RelV (.ref aT) (Value.ref aT)) (kT : ∀ H, SqT K H aT (tn.map fun k : Nat => V.int (k : Int))) : Cal P w K mg base 7 "turns" ["change"] (spTurns K) := by
  refine F.cal (k := 6) sc_turns (fun vs H Q E h => ?_) (fun f cdv A outer s H vs Q E hr h => ?_)
  · obtain ⟨v, m, rfl, hv, gm, bm, q⟩ := h
    rfl
  obtain ⟨v, m, rfl, hv, gm, bm, q⟩ := h
  have hu := hr.units
  have hu8 : (A.deeper (envOfC "turns" (defScope s_turns) s.heap.objs.size f cdv)).units + 80 < cLine := by have := hr.un; omega
  refine ⟨_, (pss_cons (ps_expr (pe_callC C_check_change hr (pa_cons (pv 0) pa_nil)))
      (pss_cons (ps_for PassesOwn.never rfl (pi_tup (pe_glob rfl c_TURN_NUMBERS.1 c_TURN_NUMBERS.2)) (pg_name (i := 1) sc_turns.nd rfl (Or.inl rfl)) (pss_one (ps_if (pt_cmpR (op_eqT hu) (pe_callC C_power hr (pa_cons (pv 0) (pa_cons (pv 1) pa_nil))) (pe_glob rfl c_STILL.1 c_STILL.2) (nomark _)) (pss_one (ps_ret (pv 1))) pss_nil)))
      (pss_one (ps_ret pe_non)))), ?_⟩
  refine seq_by (fun σ H1 => Same H H1 ∧ σ = [some v, none]) (fun k hk => ?_) ?_
  · walk_at "rd"
    exact ⟨v, m, rfl, hv, bm.mono (by decide), gm, fun H1 g1 => hk _ _ ⟨g1, rfl⟩⟩
  rintro σ H1 ⟨g1, rfl⟩
  refine seq_by (fun σ H2 => Same H H2 ∧ ord m = none ∧ ∃ z, σ = [some v, z]) (fun k hk => ?_) ?_
  · refine ⟨aT, rfl, ⟨_, kT _⟩, forT (xs := tn.map fun k : Nat => V.int (k : Int)) (fun i σ H2 => Same H H2 ∧ (∀ j n' : Nat, j < i → tn[j]? = some n' → pw m (n' : Int) ≠ one4) ∧ ∃ z, σ = [some v, z]) ⟨g1, fun j _ hj => absurd hj (Nat.not_lt_zero _), none, rfl⟩ (fun i σ H2 _ h => kT _) ?_ ?_⟩
    · rintro Pv' hP i x σ H2 hx ⟨g2, hall, z, rfl⟩
      obtain ⟨n, hn, rfl⟩ := map_at hx
      have hn5 := tn_at hn
      walk_at "rd"
      refine ⟨v, m, (n : Int), 600, rfl, hv.mono g2, gm, bm, by decide, ?_, by omega, by omega, fun w H3 g3 tw => ?_⟩
      · have : ((n : Int)).natAbs = n := by simp
        rw [this]; omega
      refine ⟨_, tw, cl one4, ⟨aS, rfl, kS _⟩, ?_⟩
      refine ite2 (fun e => ?_) (fun e => ?_)
      · have := turn_here gm hn hall (cl_inj.mp e)
        rw [this] at q
        exact q _ (g2.trans g3)
      · refine hP _ _ _ ⟨g2.trans g3, fun j n' hj ej => ?_, _, rfl⟩
        by_cases h : j < i
        · exact hall j n' h ej
        · have : j = i := by omega
          subst this
          rw [hn] at ej; cases ej
          exact fun z => e (cl_inj.mpr z)
    · rintro σ H2 ⟨g2, hall, z, rfl⟩
      exact hk _ _ ⟨g2, turn_none gm hall, z, rfl⟩
  rintro σ H2 ⟨g2, ho, z, rfl⟩
  walk_at "rd"
  rw [ho] at q
  exact q _ g2
theorem sc_kept_with_far : FnScope ["change", "slope"] ["change"] (defScope s_kept_with_far) := ⟨rfl, rfl, rfl, by decide +kernel, rfl, by decide +kernel, by decide +kernel⟩
set_option maxHeartbeats 4000000 in
theorem cal_kept_with_far (F : Def K mg "kept_with_far" s_kept_with_far ["change"]) (C_lowest_point : Cal P w K mg base 2 "lowest_point" ["top", "bottom"] (spLowP K)) {aF : Addr} (c_FAR : mg "FAR" = some (.ref aF) ∧ RelV (.ref aF) (Value.ref aF)) (kF : ∀ H, SqT K H aF [.int 1, .int 0]) : Cal P w K mg base 3 "kept_with_far" ["change"] (spKeptFar K) := by
  refine F.cal (k := 2) sc_kept_with_far (fun vs H Q E h => ?_) (fun f cdv A outer s H vs Q E hr h => ?_)
  · obtain ⟨v, m, rfl, hv, hc, bm, q⟩ := h
    rfl
  obtain ⟨v, m, rfl, hv, hc, bm, q⟩ := h
  have hu := hr.units
  have hu8 : (A.deeper (envOfC "kept_with_far" (defScope s_kept_with_far) s.heap.objs.size f cdv)).units + 80 < cLine := by have := hr.un; omega
  refine ⟨_, (pss_cons (ps_set (i := 1) sc_kept_with_far.nd rfl (Or.inl rfl) (pe_op op_sub (pe_ix ix_tupI (pv 0) pe_int (fun _ _ => rfl)) (pe_ix ix_tupI (pv 0) pe_int (fun _ _ => rfl))))
      (pss_cons (ps_if (pt_cmpR op_eq (pv 1) pe_int (nomark _)) (pss_one (ps_ret (pe_lst (pa_cons (pe_glob rfl c_FAR.1 c_FAR.2) pa_nil)))) pss_nil)
      (pss_one (ps_ret (pe_lst (pa_cons (pe_glob rfl c_FAR.1 c_FAR.2) (pa_cons (pe_callC C_lowest_point hr (pa_cons (pe_ix ix_tupI (pv 0) pe_int (fun _ _ => rfl)) (pa_cons (pv 1) pa_nil))) pa_nil))))))), ?_⟩
  apply seq_det
  · intro k hk; walk_at "rd"
    exact ⟨_, hv, _, at3 _ _ _ _ _, _, hv, _, at0 _ _, hk⟩
  have tF : ∀ H, Tp K H (.ref aF) (pl (1, 0)) := fun H => ⟨aF, rfl, kF H⟩
  by_cases hs : m.d - m.a = 0
  · refine seq_by (fun _ _ => False) (fun k hk => ?_) (fun _ _ h => h.elim)
    walk_at "rd"
    rw [if_pos hs]
    refine ⟨by show 1 ≤ sizeLine; decide, fun p hp => ?_⟩
    have e : keptL m = [(1, 0)] := by unfold keptL; rw [if_pos hc, if_pos hs]
    rw [e] at q
    exact q p _ _ (same_new hp _) hp upd_same (.cons (tF _) .nil)
  · apply seq_det
    · intro k hk; walk_at "rd"
      rw [if_neg hs]
      exact hk
    walk_at "rd"
    refine ⟨_, hv, _, at1 _ _ _, ?_⟩
    refine ⟨m.b, m.d - m.a, rfl, bm.2.1.mono (by decide), (bm.2.2.2.sub bm.1).mono (by decide), fun y H1 g1 ty => ?_⟩
    refine ⟨by show 2 ≤ sizeLine; decide, fun p hp => ?_⟩
    have e : keptL m = [(1, 0), npt m.b (m.d - m.a)] := by unfold keptL; rw [if_pos hc, if_neg hs]
    rw [e] at q
    have s1 := same_new hp (.lst [.ref aF, y])
    exact (q.from g1) p _ _ s1 hp upd_same (.cons (tF _) (.cons (ty.mono s1) .nil))
theorem sc_whole_root : FnScope ["number", "root", "nearer"] ["number"] (defScope s_whole_root) := ⟨rfl, rfl, rfl, by decide +kernel, rfl, by decide +kernel, by decide +kernel⟩
set_option maxHeartbeats 4000000 in
theorem cal_whole_root (F : Def K mg "whole_root" s_whole_root ["number"]) : Cal P w K mg base 1 "whole_root" ["number"] (spRoot K) := by
  refine F.cal (k := 0) sc_whole_root (fun vs H Q E h => ?_) (fun f cdv A outer s H vs Q E hr h => ?_)
  · obtain ⟨n, rfl, h0, bn, q⟩ := h
    rfl
  obtain ⟨n, rfl, h0, bn, q⟩ := h
  have hu := hr.units
  have hu8 : (A.deeper (envOfC "whole_root" (defScope s_whole_root) s.heap.objs.size f cdv)).units + 80 < cLine := by have := hr.un; omega
  refine ⟨_, (pss_cons (ps_set (i := 1) sc_whole_root.nd rfl (Or.inl rfl) (pv 0))
      (pss_cons (ps_set (i := 2) sc_whole_root.nd rfl (Or.inl rfl) (pe_op op_fdiv (pe_op op_add (pv 1) pe_int) pe_int))
      (pss_cons (ps_while PassesOwn.never (pt_cmpR op_lt (pv 2) (pv 1) (nomark _)) (pss_cons (ps_set (i := 1) sc_whole_root.nd rfl (Or.inl rfl) (pv 2))
      (pss_one (ps_set (i := 2) sc_whole_root.nd rfl (Or.inl rfl) (pe_op op_fdiv (pe_op op_add (pv 1) (pe_op op_fdivB (pv 0) (pv 1))) pe_int)))))
      (pss_one (ps_ret (pv 1)))))), ?_⟩
  apply seq_det
  · intro k hk; walk_at "rd"; exact hk
  apply seq_det
  · intro k hk; walk_at "rd"; exact ⟨⟨by decide, by decide⟩, hk⟩
  refine seq_by (fun σ H' => ∃ x : V, σ = [some (.int n), some (.int (rt n)), some x] ∧ H' = H) (fun k hk => ?_) ?_
  · refine while_of (fun j σ H' => ∃ r x : Int, σ = [some (.int n), some (.int r), some (.int x)] ∧ H' = H ∧ j = r.toNat ∧ 0 ≤ r ∧ r ≤ n ∧ ((n = 0 ∧ r = 0 ∧ x = 0) ∨ (0 < n ∧ 0 < r ∧ x = (r + n / r) / 2 ∧ n < (r + 1) * (r + 1)))) _
      ⟨n, (n + 1) / 2, rfl, rfl, rfl, h0, Int.le_refl _, ?_⟩ ?_
    · by_cases hn : n = 0
      · subst hn; exact .inl ⟨rfl, rfl, rfl⟩
      · refine .inr ⟨by omega, by omega, ?_, ?_⟩
        · rw [Int.ediv_self hn]
        · have e : (n + 1) * (n + 1) = n * n + 2 * n + 1 := by grind
          have := self_nonneg n
          omega
    rintro W' hW j σ H' ⟨r, x, rfl, rfl, rfl, r0, rn, hc⟩
    walk_at "rd"
    refine ite2 (fun c => ?_) (fun c => ?_)
    · refine ⟨fun σ' H' => ∃ m', m' < r.toNat ∧ W' m' σ' H', fun σ' H' h => h, ?_⟩
      rcases hc with ⟨_, z1, z2⟩ | ⟨n1, r1, hx, _⟩
      · omega
      have hq0 : 0 ≤ n / r := Int.ediv_nonneg h0 (by omega)
      have x0 : 0 < x := by
        refine Classical.byContradiction fun hn => ?_
        have hr1 : r = 1 := by omega
        rw [hr1, Int.ediv_one] at hx
        omega
      have hxn := newton (n := n) r1 h0
      rw [← hx] at hxn
      have ef : n.fdiv x = n / x := Int.fdiv_eq_ediv_of_nonneg n (by omega)
      walk_at "rd"
      refine ⟨⟨by omega, (bn.of_le (by omega)).mono (by decide)⟩, ⟨by decide, by decide⟩, _, (by omega : x.toNat < r.toNat), hW _ _ _ ⟨x, _, rfl, rfl, rfl, by omega, by omega, .inr ⟨n1, x0, ?_, hxn⟩⟩⟩
      rw [ef]
    · have hr : r = rt n := by
        rcases hc with ⟨z0, z1, z2⟩ | ⟨n1, r1, hx, hb⟩
        · subst z0 z1; rfl
        · refine rt_only h0 r0 (newton_end r1 ?_) hb
          rw [← hx]; omega
      rw [← hr] at hk
      exact hk _ _ ⟨_, rfl, rfl⟩
  rintro σ H' ⟨x, rfl, rfl⟩
  walk_at "rd"
  exact q
theorem sc_kept_without_far : FnScope ["change", "middle", "square", "root", "bottom"] ["change"] (defScope s_kept_without_far) := ⟨rfl, rfl, rfl, by decide +kernel, rfl, by decide +kernel, by decide +kernel⟩
set_option maxHeartbeats 4000000 in
theorem cal_kept_without_far (F : Def K mg "kept_without_far" s_kept_without_far ["change"]) (C_lowest_point : Cal P w K mg base 2 "lowest_point" ["top", "bottom"] (spLowP K)) (C_whole_root : Cal P w K mg base 2 "whole_root" ["number"] (spRoot K)) : Cal P w K mg base 3 "kept_without_far" ["change"] (spKeptNoFar K) := by
  refine F.cal (k := 2) sc_kept_without_far (fun vs H Q E h => ?_) (fun f cdv A outer s H vs Q E hr h => ?_)
  · obtain ⟨v, m, rfl, hv, hc, bm, q⟩ := h
    rfl
  obtain ⟨v, m, rfl, hv, hc, bm, q⟩ := h
  have hu := hr.units
  have hu8 : (A.deeper (envOfC "kept_without_far" (defScope s_kept_without_far) s.heap.objs.size f cdv)).units + 80 < cLine := by have := hr.un; omega
  refine ⟨_, (pss_cons (ps_set (i := 1) sc_kept_without_far.nd rfl (Or.inl rfl) (pe_op op_sub (pe_ix ix_tupI (pv 0) pe_int (fun _ _ => rfl)) (pe_ix ix_tupI (pv 0) pe_int (fun _ _ => rfl))))
      (pss_cons (ps_set (i := 2) sc_kept_without_far.nd rfl (Or.inl rfl) (pe_op op_add (pe_op op_mulB (pv 1) (pv 1)) (pe_op op_mulB (pe_op op_mulB pe_int (pe_ix ix_tupI (pv 0) pe_int (fun _ _ => rfl))) (pe_ix ix_tupI (pv 0) pe_int (fun _ _ => rfl)))))
      (pss_cons (ps_if (pt_cmpR op_lt (pv 2) pe_int (nomark _)) (pss_one (ps_ret (pe_lst pa_nil))) pss_nil)
      (pss_cons (ps_set (i := 3) sc_kept_without_far.nd rfl (Or.inl rfl) (pe_callC C_whole_root hr (pa_cons (pv 2) pa_nil)))
      (pss_cons (ps_if (pt_cmpR op_ne (pe_op op_mulB (pv 3) (pv 3)) (pv 2) (nomark _)) (pss_one (ps_ret (pe_lst pa_nil))) pss_nil)
      (pss_cons (ps_set (i := 4) sc_kept_without_far.nd rfl (Or.inl rfl) (pe_op op_mulB pe_int (pe_ix ix_tupI (pv 0) pe_int (fun _ _ => rfl))))
      (pss_cons (ps_if (pt_cmpR op_eq (pv 3) pe_int (nomark _)) (pss_one (ps_ret (pe_lst (pa_cons (pe_callC C_lowest_point hr (pa_cons (pv 1) (pa_cons (pv 4) pa_nil))) pa_nil)))) pss_nil)
      (pss_one (ps_ret (pe_lst (pa_cons (pe_callC C_lowest_point hr (pa_cons (pe_op op_sub (pv 1) (pv 3)) (pa_cons (pv 4) pa_nil))) (pa_cons (pe_callC C_lowest_point hr (pa_cons (pe_op op_add (pv 1) (pv 3)) (pa_cons (pv 4) pa_nil))) pa_nil)))))))))))), ?_⟩
  have bd := bd_disc bm
  obtain ⟨b1, b2, b3, b4⟩ := bm
  have bmid : Bd 401 (m.a - m.d) := b1.sub b4
  have b2c := Bd.two b3
  have hbt : Bd 100000 (m.a - m.d) := bmid.mono (by decide)
  apply seq_det
  · intro k hk; walk_at "rd"
    exact ⟨_, hv, _, at0 _ _, _, hv, _, at3 _ _ _ _ _, hk⟩
  refine seq_det (σ1 := [some v, some (.int (m.a - m.d)), some (.int (disc m)), none, none]) (H1 := H) (fun k hk => ?_) ?_
  · walk_at "rd"
    refine ⟨⟨hbt, hbt⟩, ?_⟩
    exact ⟨_, hv, _, at1 _ _ _, ⟨Bd.mono (j := 3) (by decide) (by decide), b2.mono (by decide)⟩, _, hv, _, at2 _ _ _ _, ⟨(Bd.mul (j := 3) (by decide) b2).mono (by decide), b3.mono (by decide)⟩, hk⟩
  by_cases h0 : disc m < 0
  · refine seq_by (fun _ _ => False) (fun k hk => ?_) (fun _ _ h => h.elim)
    walk_at "rd"
    rw [if_pos h0]
    refine ⟨by show 0 ≤ sizeLine; decide, fun p hp => ?_⟩
    have e : keptL m = [] := by unfold keptL; rw [if_neg hc, if_pos h0]
    rw [e] at q
    exact q p _ _ (same_new hp _) hp upd_same .nil
  apply seq_det
  · intro k hk; walk_at "rd"
    rw [if_neg h0]
    exact hk
  have hd0 : 0 ≤ disc m := by omega
  have brt := bd_rt hd0 bd
  apply seq_det
  · intro k hk; walk_at "rd"
    exact ⟨disc m, rfl, hd0, bd.mono (by decide), hk⟩
  by_cases h1 : rt (disc m) * rt (disc m) ≠ disc m
  · refine seq_by (fun _ _ => False) (fun k hk => ?_) (fun _ _ h => h.elim)
    walk_at "rd"
    refine ⟨⟨brt.mono (by decide), brt.mono (by decide)⟩, ?_⟩
    rw [if_pos h1]
    refine ⟨by show 0 ≤ sizeLine; decide, fun p hp => ?_⟩
    have e : keptL m = [] := by unfold keptL; rw [if_neg hc, if_neg h0, if_pos h1]
    rw [e] at q
    exact q p _ _ (same_new hp _) hp upd_same .nil
  apply seq_det
  · intro k hk; walk_at "rd"
    refine ⟨⟨brt.mono (by decide), brt.mono (by decide)⟩, ?_⟩
    rw [if_neg h1]
    exact hk
  apply seq_det
  · intro k hk; walk_at "rd"
    exact ⟨_, hv, _, at2 _ _ _ _, ⟨Bd.mono (j := 2) (by decide) (by decide), b3.mono (by decide)⟩, hk⟩
  by_cases h2 : rt (disc m) = 0
  · refine seq_by (fun _ _ => False) (fun k hk => ?_) (fun _ _ h => h.elim)
    walk_at "rd"
    rw [if_pos h2]
    refine ⟨m.a - m.d, 2 * m.c, rfl, bmid.mono (by decide), b2c.mono (by decide), fun y H1 g1 ty => ?_⟩
    refine ⟨by show 1 ≤ sizeLine; decide, fun p hp => ?_⟩
    have e : keptL m = [npt (m.a - m.d) (2 * m.c)] := by unfold keptL; rw [if_neg hc, if_neg h0, if_neg h1, if_pos h2]
    rw [e] at q
    have s1 := same_new hp (.lst [y])
    exact (q.from g1) p _ _ s1 hp upd_same (.cons (ty.mono s1) .nil)
  apply seq_det
  · intro k hk; walk_at "rd"
    rw [if_neg h2]
    exact hk
  have bs := (bmid.mono (show 401 ≤ 1000 by decide)).sub (brt.mono (show 400 + 1 + (400 + 1) + 5 ≤ 1000 by decide))
  have bS := (bmid.mono (show 401 ≤ 1000 by decide)).add (brt.mono (show 400 + 1 + (400 + 1) + 5 ≤ 1000 by decide))
  walk_at "rd"
  refine ⟨m.a - m.d - rt (disc m), 2 * m.c, rfl, bs.mono (by decide), b2c.mono (by decide), fun y H1 g1 ty => ?_⟩
  refine ⟨m.a - m.d + rt (disc m), 2 * m.c, rfl, bS.mono (by decide), b2c.mono (by decide), fun y2 H2 g2 ty2 => ?_⟩
  refine ⟨by show 2 ≤ sizeLine; decide, fun p hp => ?_⟩
  have e : keptL m = [npt (m.a - m.d - rt (disc m)) (2 * m.c), npt (m.a - m.d + rt (disc m)) (2 * m.c)] := by unfold keptL; rw [if_neg hc, if_neg h0, if_neg h1, if_neg h2]
  rw [e] at q
  have s1 := same_new hp (.lst [y, y2])
  exact ((q.from g1).from g2) p _ _ s1 hp upd_same (.cons ((ty.mono g2).mono s1) (.cons (ty2.mono s1) .nil))
theorem sc_kept : FnScope ["change"] ["change"] (defScope s_kept) := ⟨rfl, rfl, rfl, by decide +kernel, rfl, by decide +kernel, by decide +kernel⟩
set_option maxHeartbeats 4000000 in
theorem cal_kept (F : Def K mg "kept" s_kept ["change"]) (C_check_change : Cal P w K mg base 4 "check_change" ["change"] (spCheckC K)) (C_kept_with_far : Cal P w K mg base 4 "kept_with_far" ["change"] (spKeptFar K)) (C_kept_without_far : Cal P w K mg base 4 "kept_without_far" ["change"] (spKeptNoFar K)) (B : Blt mg) {aS : Addr} (c_STILL : mg "STILL" = some (.ref aS) ∧ RelV (.ref aS) (Value.ref aS)) (kS : ∀ H, SqT K H aS [.int 1, .int 0, .int 0, .int 1]) : Cal P w K mg base 5 "kept" ["change"] (spKept K) := by
  refine F.cal (k := 4) sc_kept (fun vs H Q E h => ?_) (fun f cdv A outer s H vs Q E hr h => ?_)
  · obtain ⟨v, m, rfl, hv, gm, bm, q1, q2⟩ := h
    rfl
  obtain ⟨v, m, rfl, hv, gm, bm, q1, q2⟩ := h
  have hu := hr.units
  have hu8 : (A.deeper (envOfC "kept" (defScope s_kept) s.heap.objs.size f cdv)).units + 80 < cLine := by have := hr.un; omega
  refine ⟨_, (pss_cons (ps_expr (pe_callC C_check_change hr (pa_cons (pv 0) pa_nil)))
      (pss_cons (ps_if (pt_cmpR (op_eqT hu) (pv 0) (pe_glob rfl c_STILL.1 c_STILL.2) (nomark _)) (pss_one (ps_ret pe_non)) pss_nil)
      (pss_cons (ps_if (pt_cmpR op_eq (pe_ix ix_tupI (pv 0) pe_int (fun _ _ => rfl)) pe_int (nomark _)) (pss_one (ps_ret (pe_callB call_sort2 rfl B.sorted bt_sorted (pa_cons (pe_callC C_kept_with_far hr (pa_cons (pv 0) pa_nil)) pa_nil)))) pss_nil)
      (pss_one (ps_ret (pe_callB call_sort2 rfl B.sorted bt_sorted (pa_cons (pe_callC C_kept_without_far hr (pa_cons (pv 0) pa_nil)) pa_nil))))))), ?_⟩
  refine seq_by (fun σ H1 => Same H H1 ∧ σ = [some v]) (fun k hk => ?_) ?_
  · walk_at "rd"
    exact ⟨v, m, rfl, hv, bm.mono (by decide), gm, fun H1 g1 => hk _ _ ⟨g1, rfl⟩⟩
  rintro σ H1 ⟨g1, rfl⟩
  have hv1 := hv.mono g1
  have tS : Tp K H1 (.ref aS) (cl one4) := ⟨aS, rfl, (kS _ : SqT K H1 aS ((cl one4).map V.int))⟩
  by_cases ho : m = one4
  · refine seq_by (fun _ _ => False) (fun k hk => ?_) (fun _ _ h => h.elim)
    walk_at "rd"
    refine ⟨_, hv1, _, tS, ?_⟩
    rw [if_pos (by rw [ho])]
    exact q1 ho _ g1
  have q := q2 ho
  have few : (keptL m).length ≤ 2 := by rw [keptL_len]; exact due_le m
  apply seq_det
  · intro k hk; walk_at "rd"
    refine ⟨_, hv1, _, tS, ?_⟩
    rw [if_neg fun z => ho (cl_inj.mp z)]
    exact hk
  have fin : ∀ l ws H2, Same H1 H2 → H1 l = none → H2 l = some (.lst ws) → Tps K H2 ws ((keptL m).map pl) → ∃ ws', SqL K H2 l ws' ∧ ∃ ps, Tps K H2 ws' (ps.map pl) ∧ ps.length ≤ 2 ∧ ∀ p, H2 p = none → Q (.ref p) (upd H2 p (.lst (sortG ws' ps))) := fun l ws H2 g2 nl hl ht =>
    ⟨ws, SqL.of hl, keptL m, ht, few, fun p hp => (q.from (g1.trans g2)) p _ _ (same_new hp _) hp upd_same (tps_sort (ht.mono (same_new hp _)))⟩
  by_cases hc : m.c = 0
  · refine seq_by (fun _ _ => False) (fun k hk => ?_) (fun _ _ h => h.elim)
    walk_at "rd"
    refine ⟨_, hv1, _, at2 _ _ _ _, ?_⟩
    rw [if_pos hc]
    exact ⟨v, m, rfl, hv1, hc, bm, fun l ws H2 g2 nl hl ht => ⟨l, rfl, fin l ws H2 g2 nl hl ht⟩⟩
  apply seq_det
  · intro k hk; walk_at "rd"
    refine ⟨_, hv1, _, at2 _ _ _ _, ?_⟩
    rw [if_neg hc]
    exact hk
  walk_at "rd"
  exact ⟨v, m, rfl, hv1, hc, bm, fun l ws H2 g2 nl hl ht => ⟨l, rfl, fin l ws H2 g2 nl hl ht⟩⟩
theorem sc_first_turn : FnScope ["change", "slope"] ["change"] (defScope s_first_turn) := ⟨rfl, rfl, rfl, by decide +kernel, rfl, by decide +kernel, by decide +kernel⟩
set_option maxHeartbeats 4000000 in
theorem cal_first_turn (F : Def K mg "first_turn" s_first_turn ["change"]) (C_lowest_change : Cal P w K mg base 2 "lowest_change" ["numbers"] (spLowC K)) : Cal P w K mg base 3 "first_turn" ["change"] (spFirst K) := by
  refine F.cal (k := 2) sc_first_turn (fun vs H Q E h => ?_) (fun f cdv A outer s H vs Q E hr h => ?_)
  · obtain ⟨v, m, rfl, hv, gm, bm, q⟩ := h
    rfl
  obtain ⟨v, m, rfl, hv, gm, bm, q⟩ := h
  have hu := hr.units
  have hu8 : (A.deeper (envOfC "first_turn" (defScope s_first_turn) s.heap.objs.size f cdv)).units + 80 < cLine := by have := hr.un; omega
  refine ⟨_, (pss_cons (ps_set (i := 1) sc_first_turn.nd rfl (Or.inl rfl) (pe_op op_sub (pe_ix ix_tupI (pv 0) pe_int (fun _ _ => rfl)) (pe_ix ix_tupI (pv 0) pe_int (fun _ _ => rfl))))
      (pss_cons (ps_if (pt_cmpR op_ne (pe_ix ix_tupI (pv 0) pe_int (fun _ _ => rfl)) pe_int (nomark _)) (pss_one (ps_ret (pe_callC C_lowest_change hr (pa_cons (pe_tup (pa_cons (pe_ix ix_tupI (pv 0) pe_int (fun _ _ => rfl)) (pa_cons pe_int (pa_cons (pv 1) (pa_cons (pe_un un_neg (pe_ix ix_tupI (pv 0) pe_int (fun _ _ => rfl))) pa_nil))))) pa_nil)))) pss_nil)
      (pss_cons (ps_if (pt_cmpR op_ne (pe_ix ix_tupI (pv 0) pe_int (fun _ _ => rfl)) pe_int (nomark _)) (pss_one (ps_ret (pe_callC C_lowest_change hr (pa_cons (pe_tup (pa_cons (pe_ix ix_tupI (pv 0) pe_int (fun _ _ => rfl)) (pa_cons (pv 1) (pa_cons pe_int (pa_cons (pe_un un_neg (pe_ix ix_tupI (pv 0) pe_int (fun _ _ => rfl))) pa_nil))))) pa_nil)))) pss_nil)
      (pss_one (ps_ret (pe_tup (pa_cons pe_int (pa_cons pe_int (pa_cons pe_int (pa_cons pe_int pa_nil)))))))))), ?_⟩
  obtain ⟨b1, b2, b3, b4⟩ := bm
  have z0 : Bd 4000 0 := Bd.mono (j := 2) (by decide) (by decide)
  apply seq_det
  · intro k hk; walk_at "rd"
    exact ⟨_, hv, _, at3 _ _ _ _ _, _, hv, _, at0 _ _, hk⟩
  by_cases hb : m.b ≠ 0
  · refine seq_by (fun _ _ => False) (fun k hk => ?_) (fun _ _ h => h.elim)
    walk_at "rd"
    refine ⟨_, hv, _, at1 _ _ _, ?_⟩
    rw [if_pos hb]
    refine ⟨_, hv, _, at1 _ _ _, _, hv, _, at1 _ _ _, (by show 4 ≤ sizeLine; decide), fun p hp => ?_⟩
    have e : ft m = nch ⟨m.b, 0, m.d - m.a, -m.b⟩ := by unfold ft; rw [if_pos hb]
    rw [e] at q
    refine ⟨.ref p, ⟨m.b, 0, m.d - m.a, -m.b⟩, rfl, ⟨p, rfl, SqT.of upd_same⟩, ?_, ⟨b2.mono (by decide), z0, (b4.sub b1).mono (by decide), b2.neg.mono (by decide)⟩, q.from (same_new hp _)⟩
    have := Int.mul_ne_zero hb hb
    simp only [Ch.det]; grind
  · apply seq_det
    · intro k hk; walk_at "rd"
      refine ⟨_, hv, _, at1 _ _ _, ?_⟩
      rw [if_neg hb]
      exact hk
    by_cases hc : m.c ≠ 0
    · refine seq_by (fun _ _ => False) (fun k hk => ?_) (fun _ _ h => h.elim)
      walk_at "rd"
      refine ⟨_, hv, _, at2 _ _ _ _, ?_⟩
      rw [if_pos hc]
      refine ⟨_, hv, _, at2 _ _ _ _, _, hv, _, at2 _ _ _ _, (by show 4 ≤ sizeLine; decide), fun p hp => ?_⟩
      have e : ft m = nch ⟨m.c, m.d - m.a, 0, -m.c⟩ := by unfold ft; rw [if_neg hb, if_pos hc]
      rw [e] at q
      refine ⟨.ref p, ⟨m.c, m.d - m.a, 0, -m.c⟩, rfl, ⟨p, rfl, SqT.of upd_same⟩, ?_, ⟨b3.mono (by decide), (b4.sub b1).mono (by decide), z0, b3.neg.mono (by decide)⟩, q.from (same_new hp _)⟩
      have := Int.mul_ne_zero hc hc
      simp only [Ch.det]; grind
    · apply seq_det
      · intro k hk; walk_at "rd"
        refine ⟨_, hv, _, at2 _ _ _ _, ?_⟩
        rw [if_neg hc]
        exact hk
      walk_at "rd"
      have e : ft m = ⟨0, 1, 1, 0⟩ := by unfold ft; rw [if_neg hb, if_neg hc]
      rw [e] at q
      exact ⟨by show 4 ≤ sizeLine; decide, fun p hp => q _ _ (same_new hp _) ⟨p, rfl, SqT.of upd_same⟩⟩
theorem sc_two_turns : FnScope ["change", "one"] ["change"] (defScope s_two_turns) := ⟨rfl, rfl, rfl, by decide +kernel, rfl, by decide +kernel, by decide +kernel⟩
set_option maxHeartbeats 4000000 in
theorem cal_two_turns (F : Def K mg "two_turns" s_two_turns ["change"]) (C_check_change : Cal P w K mg base 5 "check_change" ["change"] (spCheckC K)) (C_first_turn : Cal P w K mg base 5 "first_turn" ["change"] (spFirst K)) (C_after : Cal P w K mg base 5 "after" ["one", "other"] (spAfter K)) : Cal P w K mg base 6 "two_turns" ["change"] (spTwo K) := by
  refine F.cal (k := 5) sc_two_turns (fun vs H Q E h => ?_) (fun f cdv A outer s H vs Q E hr h => ?_)
  · obtain ⟨v, m, rfl, hv, gm, bm, q⟩ := h
    rfl
  obtain ⟨v, m, rfl, hv, gm, bm, q⟩ := h
  have hu := hr.units
  have hu8 : (A.deeper (envOfC "two_turns" (defScope s_two_turns) s.heap.objs.size f cdv)).units + 80 < cLine := by have := hr.un; omega
  refine ⟨_, (pss_cons (ps_expr (pe_callC C_check_change hr (pa_cons (pv 0) pa_nil)))
      (pss_cons (ps_set (i := 1) sc_two_turns.nd rfl (Or.inl rfl) (pe_callC C_first_turn hr (pa_cons (pv 0) pa_nil)))
      (pss_one (ps_ret (pe_tup (pa_cons (pv 1) (pa_cons (pe_callC C_after hr (pa_cons (pv 1) (pa_cons (pv 0) pa_nil))) pa_nil))))))), ?_⟩
  refine seq_by (fun σ H1 => Same H H1 ∧ σ = [some v, none]) (fun k hk => ?_) ?_
  · walk_at "rd"
    exact ⟨v, m, rfl, hv, bm.mono (by decide), gm, fun H1 g1 => hk _ _ ⟨g1, rfl⟩⟩
  rintro σ H1 ⟨g1, rfl⟩
  have hv := hv.mono g1
  refine seq_by (fun σ H2 => ∃ y, Same H1 H2 ∧ Tp K H2 y (cl (ft m)) ∧ σ = [some v, some y]) (fun k hk => ?_) ?_
  · walk_at "rd"
    exact ⟨v, m, rfl, hv, gm, bm.mono (by decide), fun y H2 g2 ty => hk _ _ ⟨y, g2, ty, rfl⟩⟩
  rintro σ H2 ⟨y, g2, ty, rfl⟩
  walk_at "rd"
  refine ⟨y, v, _, m, rfl, ty, hv.mono g2, (ft_ok gm).1, gm, (bd_ft gm bm).mono (by decide), bm.mono (by decide), fun y2 H3 g3 ty2 => ?_⟩
  refine ⟨by show 2 ≤ sizeLine; decide, fun p hp => ?_⟩
  have s1 := same_new hp (.tup [y, y2])
  exact q p y y2 _ (g1.trans (g2.trans (g3.trans s1))) (SqT.of upd_same) ((ty.mono g3).mono s1) (ty2.mono s1)
theorem sc_shown_change : FnScope ["change"] ["change"] (defScope s_shown_change) := ⟨rfl, rfl, rfl, by decide +kernel, rfl, by decide +kernel, by decide +kernel⟩
set_option maxHeartbeats 4000000 in
theorem cal_shown_change (F : Def K mg "shown_change" s_shown_change ["change"]) (C_check_change : Cal P w K mg base 4 "check_change" ["change"] (spCheckC K)) (B : Blt mg) : Cal P w K mg base 5 "shown_change" ["change"] (spShownC K) := by
  refine F.cal (k := 4) sc_shown_change (fun vs H Q E h => ?_) (fun f cdv A outer s H vs Q E hr h => ?_)
  · obtain ⟨v, m, rfl, hv, gm, bm, q⟩ := h
    rfl
  obtain ⟨v, m, rfl, hv, gm, bm, q⟩ := h
  have hu := hr.units
  have hu8 : (A.deeper (envOfC "shown_change" (defScope s_shown_change) s.heap.objs.size f cdv)).units + 80 < cLine := by have := hr.un; omega
  refine ⟨_, (pss_cons (ps_expr (pe_callC C_check_change hr (pa_cons (pv 0) pa_nil)))
      (pss_one (ps_ret (pe_bm PySem.F.plainAttrs_str PySem.F.slot_str_join PySem.F.type_str_join mt_join pe_str (pa_cons (pe_comp [] (sc := defScope s_shown_change) (cn := []) rfl ⟨rfl, by decide +kernel, rfl, by decide +kernel, by decide +kernel, by decide +kernel, by decide +kernel⟩ rfl rfl (pi_tup (pv 0)) (fun _ _ _ _ _ => pq_nil) (fun _ _ _ _ _ => (pe_callTy call_str_int rfl B.str bt_str (pa_cons (pv 0) pa_nil)))) pa_nil))))), ?_⟩
  refine seq_by (fun σ H1 => Same H H1 ∧ σ = [some v]) (fun k hk => ?_) ?_
  · walk_at "rd"
    exact ⟨v, m, rfl, hv, bm.mono (by decide), gm, fun H1 g1 => hk _ _ ⟨g1, rfl⟩⟩
  rintro σ H1 ⟨g1, rfl⟩
  obtain ⟨a, rfl, hq⟩ := hv.mono g1
  have ball := (bm.mono (show 1000 ≤ 1900 by decide)).all
  walk_at "rd"
  refine ⟨rfl, ?_⟩
  refine tcompT rfl hq (fun i acc H2 => acc = ((cl m).take i).map (fun n => V.str (T n)) ∧ H2 = H1) ⟨rfl, rfl⟩ (fun i acc H2 hi h => ?_) ?_ ?_
  · obtain ⟨rfl, rfl⟩ := h
    refine ⟨hq, ?_⟩
    rw [List.length_map]
    exact Nat.le_trans (by rw [List.length_take]; exact Nat.min_le_right _ _) (by show 4 ≤ sizeLine; decide)
  · rintro i x acc H2 hx ⟨rfl, rfl⟩ R hR
    obtain ⟨n, hn, rfl⟩ := map_at hx
    walk_at "rd"
    refine ⟨Bd.log (ball n (List.mem_of_getElem? hn)), hR _ _ ⟨?_, rfl⟩⟩
    rw [List.take_add_one, hn, List.map_append]; rfl
  · rintro acc H2 p ⟨rfl, rfl⟩ hp
    try walk_at "rd"
    have e : ((cl m).take ((cl m).map V.int).length).map (fun n => V.str (T n)) = ((cl m).map T).map V.str := by
      rw [List.length_map, List.take_length, List.map_map]; rfl
    refine ⟨(cl m).map T, ?_, ?_, ?_⟩
    · rw [e]; exact SqL.of upd_same
    · have := StrLaws.joinFits (sep := " ") (texts := (cl m).map T) (B := 1921) (fun y hy => by
        obtain ⟨n, hn, rfl⟩ := List.mem_map.mp hy
        exact T_len (ball n hn)) (by simp [cl]; decide)
      unfold JoinOk
      rw [this]; rfl
    · refine q _ _ (g1.trans (same_new hp _)) ?_
      show (Builtin.Str.glued ⟨#[32]⟩ ((cl m).map T)).cps.toList = _
      rw [StrLaws.glued_eq_join, Tx.join_list]
      simp only [cl, List.map_cons, List.map_nil, T_list]
      rfl
theorem sc__law_first : FnScope ["way", "change", "other", "point", "times"] ["way", "change", "other", "point", "times"] (defScope s__law_first) := ⟨rfl, rfl, rfl, by decide +kernel, rfl, by decide +kernel, by decide +kernel⟩
set_option maxHeartbeats 4000000 in
theorem cal__law_first (F : Def K mg "_law_first" s__law_first ["way", "change", "other", "point", "times"]) (C_moved : Cal P w K mg base 8 "moved" ["change", "point"] (spMoved K)) (C_after : Cal P w K mg base 8 "after" ["one", "other"] (spAfter K)) (C_back : Cal P w K mg base 8 "back" ["change"] (spBack K)) (C_power : Cal P w K mg base 8 "power" ["change", "times"] (spPower K)) (C_turns : Cal P w K mg base 8 "turns" ["change"] (spTurns K)) (C_kept : Cal P w K mg base 8 "kept" ["change"] (spKept K)) (C_two_turns : Cal P w K mg base 8 "two_turns" ["change"] (spTwo K)) (C_shown_change : Cal P w K mg base 8 "shown_change" ["change"] (spShownC K)) : Cal P w K mg base 9 "_law_first" ["way", "change", "other", "point", "times"] (spMet1 K) := by
  refine F.cal (k := 8) sc__law_first (fun vs H Q E h => ?_) (fun f cdv A outer s H vs Q E hr h => ?_)
  · obtain ⟨way, t, v, u, w, m, n, p, rfl, hv, hu_, hw, bm, bn, bp, gm, gn, gp, ht, q⟩ := h
    rfl
  obtain ⟨way, t, v, u, w, m, n, p, rfl, hv, hu_, hw, bm, bn, bp, gm, gn, gp, ht, q⟩ := h
  have hu := hr.units
  have hu8 : (A.deeper (envOfC "_law_first" (defScope s__law_first) s.heap.objs.size f cdv)).units + 80 < cLine := by have := hr.un; omega
  refine ⟨_, (pss_cons (ps_if (pt_cmpR op_eq (pv 0) pe_int (nomark _)) (pss_one (ps_ret (pe_callC C_moved hr (pa_cons (pv 1) (pa_cons (pv 3) pa_nil))))) pss_nil)
      (pss_cons (ps_if (pt_cmpR op_eq (pv 0) pe_int (nomark _)) (pss_one (ps_ret (pe_callC C_after hr (pa_cons (pv 1) (pa_cons (pv 2) pa_nil))))) pss_nil)
      (pss_cons (ps_if (pt_cmpR op_eq (pv 0) pe_int (nomark _)) (pss_one (ps_ret (pe_callC C_after hr (pa_cons (pv 2) (pa_cons (pv 1) pa_nil))))) pss_nil)
      (pss_cons (ps_if (pt_cmpR op_eq (pv 0) pe_int (nomark _)) (pss_one (ps_ret (pe_callC C_back hr (pa_cons (pv 1) pa_nil)))) pss_nil)
      (pss_cons (ps_if (pt_cmpR op_eq (pv 0) pe_int (nomark _)) (pss_one (ps_ret (pe_callC C_power hr (pa_cons (pv 1) (pa_cons (pv 4) pa_nil))))) pss_nil)
      (pss_cons (ps_if (pt_cmpR op_eq (pv 0) pe_int (nomark _)) (pss_one (ps_ret (pe_callC C_turns hr (pa_cons (pv 1) pa_nil)))) pss_nil)
      (pss_cons (ps_if (pt_cmpR op_eq (pv 0) pe_int (nomark _)) (pss_one (ps_ret (pe_callC C_kept hr (pa_cons (pv 1) pa_nil)))) pss_nil)
      (pss_cons (ps_if (pt_cmpR op_eq (pv 0) pe_int (nomark _)) (pss_one (ps_ret (pe_callC C_two_turns hr (pa_cons (pv 1) pa_nil)))) pss_nil)
      (pss_one (ps_ret (pe_callC C_shown_change hr (pa_cons (pv 1) pa_nil)))))))))))), ?_⟩
  walk_at "rd"
  refine ite2 (fun c => ?_) (fun c => ?_)
  · exact ⟨v, w, m, p, rfl, hv, hw, gm, gp, bm.mono (by decide), bp.mono (by decide), fun x H' g _ => q x H' g⟩
  refine ite2 (fun c => ?_) (fun c => ?_)
  · exact ⟨v, u, m, n, rfl, hv, hu_, gm, gn, bm.mono (by decide), bn.mono (by decide), fun x H' g _ => q x H' g⟩
  refine ite2 (fun c => ?_) (fun c => ?_)
  · exact ⟨u, v, n, m, rfl, hu_, hv, gn, gm, bn.mono (by decide), bm.mono (by decide), fun x H' g _ => q x H' g⟩
  refine ite2 (fun c => ?_) (fun c => ?_)
  · exact ⟨v, m, rfl, hv, gm, bm.mono (by decide), fun x H' g _ => q x H' g⟩
  refine ite2 (fun c => ?_) (fun c => ?_)
  · exact ⟨v, m, t, 30, rfl, hv, gm, bm, by decide, by omega, by omega, by omega, fun x H' g _ => q x H' g⟩
  refine ite2 (fun c => ?_) (fun c => ?_)
  · exact ⟨v, m, rfl, hv, gm, bm.mono (by decide), fun H' g => q _ H' g⟩
  refine ite2 (fun c => ?_) (fun c => ?_)
  · exact ⟨v, m, rfl, hv, gm, bm.mono (by decide), fun _ H' g => q _ H' g, fun _ l ws H' g _ _ _ => q _ H' g⟩
  refine ite2 (fun c => ?_) (fun c => ?_)
  · exact ⟨v, m, rfl, hv, gm, bm.mono (by decide), fun l y1 y2 H' g _ _ _ => q _ H' g⟩
  · exact ⟨v, m, rfl, hv, gm, bm.mono (by decide), fun x H' g _ => q _ H' g⟩
set_option maxHeartbeats 4000000 in
theorem calx_check_change (F : Def K mg "check_change" s_check_change ["change"]) (C_check_change : Cal P w K mg base 4 "check_change" ["change"] (spCheckC K)) (C_is_change : Cal P w K mg base 4 "is_change" ["change"] (spIsC K)) (cls : ClsOk K mg nc nn np nth nt le) : CalX P w K mg base 5 "check_change" ["change"] (fun vs H Q E => (spCheckC K) vs H Q E ∨ (spCheckCX K nc) vs H Q E) := by
  refine CalX.or (CalX.of (C_check_change.mono (by decide))) ?_
  refine F.calX (k := 4) sc_check_change (fun vs H Q E h => ?_) (fun f cdv A outer s H vs Q E hr h => ?_)
  · obtain ⟨v, m, rfl, hv, hb, hg, q⟩ := h
    rfl
  obtain ⟨v, m, rfl, hv, hb, hg, q⟩ := h
  have hu := hr.units
  have hu8 : (A.deeper (envOfC "check_change" (defScope s_check_change) s.heap.objs.size f cdv)).units + 80 < cLine := by have := hr.un; omega
  refine ⟨_, (pss_one (ps_if (pt_not (pt_val (pe_callC C_is_change hr (pa_cons (pv 0) pa_nil)))) (pss_one (ps_raise rfl made_ok (cls.own cls.b_NoChange (j := 0) rfl) rfl (pa_cons pe_str pa_nil))) pss_nil)), ?_⟩
  walk_at "rd"
  refine ⟨v, m, rfl, hv, hb, fun H' g => ?_⟩
  rw [decide_eq_false hg]
  walk_at "rd"
  exact q _ g
set_option maxHeartbeats 4000000 in
theorem calx_check_point (F : Def K mg "check_point" s_check_point ["point"]) (C_check_point : Cal P w K mg base 4 "check_point" ["point"] (spCheckP K)) (C_is_point : Cal P w K mg base 4 "is_point" ["point"] (spIsP K)) (cls : ClsOk K mg nc nn np nth nt le) : CalX P w K mg base 5 "check_point" ["point"] (fun vs H Q E => (spCheckP K) vs H Q E ∨ (spCheckPX K np) vs H Q E) := by
  refine CalX.or (CalX.of (C_check_point.mono (by decide))) ?_
  refine F.calX (k := 4) sc_check_point (fun vs H Q E h => ?_) (fun f cdv A outer s H vs Q E hr h => ?_)
  · obtain ⟨v, p, rfl, hv, hb, hg, q⟩ := h
    rfl
  obtain ⟨v, p, rfl, hv, hb, hg, q⟩ := h
  have hu := hr.units
  have hu8 : (A.deeper (envOfC "check_point" (defScope s_check_point) s.heap.objs.size f cdv)).units + 80 < cLine := by have := hr.un; omega
  refine ⟨_, (pss_one (ps_if (pt_not (pt_val (pe_callC C_is_point hr (pa_cons (pv 0) pa_nil)))) (pss_one (ps_raise rfl made_ok (cls.own cls.b_NoPoint (j := 2) rfl) rfl (pa_cons pe_str pa_nil))) pss_nil)), ?_⟩
  walk_at "rd"
  refine ⟨v, p.1, p.2, rfl, hv, hb.1, hb.2, fun H' g => ?_⟩
  rw [decide_eq_false (show ¬ GoodP p.1 p.2 from hg)]
  walk_at "rd"
  exact q _ g
set_option maxHeartbeats 4000000 in
theorem calx_moved (F : Def K mg "moved" s_moved ["change", "point"]) (C_moved : Cal P w K mg base 5 "moved" ["change", "point"] (spMoved K)) (X_check_change : CalX P w K mg base 5 "check_change" ["change"] (fun vs H Q E => (spCheckC K) vs H Q E ∨ (spCheckCX K nc) vs H Q E)) (X_check_point : CalX P w K mg base 5 "check_point" ["point"] (fun vs H Q E => (spCheckP K) vs H Q E ∨ (spCheckPX K np) vs H Q E)) : CalX P w K mg base 6 "moved" ["change", "point"] (fun vs H Q E => (spMoved K) vs H Q E ∨ (spMovedX K nc np) vs H Q E) := by
  refine CalX.or (CalX.of (C_moved.mono (by decide))) ?_
  refine F.calX (k := 5) sc_moved (fun vs H Q E h => ?_) (fun f cdv A outer s H vs Q E hr h => ?_)
  · obtain ⟨v, u, m, p, rfl, hv, hp, bm, bp, q⟩ := h
    rfl
  obtain ⟨v, u, m, p, rfl, hv, hp, bm, bp, q⟩ := h
  have hu := hr.units
  have hu8 : (A.deeper (envOfC "moved" (defScope s_moved) s.heap.objs.size f cdv)).units + 80 < cLine := by have := hr.un; omega
  refine ⟨_, (pss_cons (ps_expr (pe_callX X_check_change hr passes_cx (pa_cons (pv 0) pa_nil)))
      (pss_cons (ps_expr (pe_callX X_check_point hr passes_cx (pa_cons (pv 1) pa_nil)))
      pss_never)), ?_⟩
  walk_at "rd"
  rcases q with ⟨hg, q⟩ | ⟨gm, hg, q⟩
  · exact .inr ⟨v, m, rfl, hv, bm.mono (by decide), hg, q⟩
  · exact .inl ⟨v, m, rfl, hv, bm.mono (by decide), gm, fun H1 g1 => .inr ⟨u, p, rfl, hp.mono g1, bp.mono (by decide), hg, fun H2 g2 => q _ (g1.trans g2)⟩⟩
set_option maxHeartbeats 4000000 in
theorem calx_after (F : Def K mg "after" s_after ["one", "other"]) (C_after : Cal P w K mg base 5 "after" ["one", "other"] (spAfter K)) (X_check_change : CalX P w K mg base 5 "check_change" ["change"] (fun vs H Q E => (spCheckC K) vs H Q E ∨ (spCheckCX K nc) vs H Q E)) : CalX P w K mg base 6 "after" ["one", "other"] (fun vs H Q E => (spAfter K) vs H Q E ∨ (spAfterX K nc) vs H Q E) := by
  refine CalX.or (CalX.of (C_after.mono (by decide))) ?_
  refine F.calX (k := 5) sc_after (fun vs H Q E h => ?_) (fun f cdv A outer s H vs Q E hr h => ?_)
  · obtain ⟨v, u, m, n, rfl, hv, hn, bm, bn, hg, q⟩ := h
    rfl
  obtain ⟨v, u, m, n, rfl, hv, hn, bm, bn, hg, q⟩ := h
  have hu := hr.units
  have hu8 : (A.deeper (envOfC "after" (defScope s_after) s.heap.objs.size f cdv)).units + 80 < cLine := by have := hr.un; omega
  refine ⟨_, (pss_cons (ps_expr (pe_callX X_check_change hr passes_cx (pa_cons (pv 0) pa_nil)))
      (pss_cons (ps_expr (pe_callX X_check_change hr passes_cx (pa_cons (pv 1) pa_nil)))
      pss_never)), ?_⟩
  walk_at "rd"
  by_cases gm : GoodC m
  · have gn : ¬ GoodC n := by
      rcases hg with h | h
      · exact absurd gm h
      · exact h
    exact .inl ⟨v, m, rfl, hv, bm.mono (by decide), gm, fun H1 g1 => .inr ⟨u, n, rfl, hn.mono g1, bn.mono (by decide), gn, fun H2 g2 => q _ (g1.trans g2)⟩⟩
  · exact .inr ⟨v, m, rfl, hv, bm.mono (by decide), gm, q⟩
set_option maxHeartbeats 4000000 in
theorem calx_back (F : Def K mg "back" s_back ["change"]) (C_back : Cal P w K mg base 5 "back" ["change"] (spBack K)) (X_check_change : CalX P w K mg base 5 "check_change" ["change"] (fun vs H Q E => (spCheckC K) vs H Q E ∨ (spCheckCX K nc) vs H Q E)) : CalX P w K mg base 6 "back" ["change"] (fun vs H Q E => (spBack K) vs H Q E ∨ (spCheckCX K nc) vs H Q E) := by
  refine CalX.or (CalX.of (C_back.mono (by decide))) ?_
  refine F.calX (k := 5) sc_back (fun vs H Q E h => ?_) (fun f cdv A outer s H vs Q E hr h => ?_)
  · obtain ⟨v, m, rfl, hv, hb, hg, q⟩ := h
    rfl
  obtain ⟨v, m, rfl, hv, hb, hg, q⟩ := h
  have hu := hr.units
  have hu8 : (A.deeper (envOfC "back" (defScope s_back) s.heap.objs.size f cdv)).units + 80 < cLine := by have := hr.un; omega
  refine ⟨_, (pss_cons (ps_expr (pe_callX X_check_change hr passes_cx (pa_cons (pv 0) pa_nil)))
      pss_never), ?_⟩
  walk_at "rd"
  exact .inr ⟨v, m, rfl, hv, hb, hg, q⟩
set_option maxHeartbeats 4000000 in
theorem calx_power (F : Def K mg "power" s_power ["change", "times"]) (C_power : Cal P w K mg base 6 "power" ["change", "times"] (spPower K)) (X_check_change : CalX P w K mg base 6 "check_change" ["change"] (fun vs H Q E => (spCheckC K) vs H Q E ∨ (spCheckCX K nc) vs H Q E)) (B : Blt mg) (cls : ClsOk K mg nc nn np nth nt le) {uM : Value} (c_MOST_TIMES : mg "MOST_TIMES" = some uM ∧ RelV (.int 60) uM) : CalX P w K mg base 7 "power" ["change", "times"] (fun vs H Q E => (spPower K) vs H Q E ∨ (spPowerX K nc nt) vs H Q E) := by
  refine CalX.or (CalX.of (C_power.mono (by decide))) ?_
  refine F.calX (k := 6) sc_power (fun vs H Q E h => ?_) (fun f cdv A outer s H vs Q E hr h => ?_)
  · obtain ⟨v, m, t, rfl, hv, bm, q⟩ := h
    rfl
  obtain ⟨v, m, t, rfl, hv, bm, q⟩ := h
  have hu := hr.units
  have hu8 : (A.deeper (envOfC "power" (defScope s_power) s.heap.objs.size f cdv)).units + 80 < cLine := by have := hr.un; omega
  refine ⟨_, (pss_cons (ps_expr (pe_callX X_check_change hr passes_cx (pa_cons (pv 0) pa_nil)))
      (pss_cons (ps_if (pt_cmpR op_gt (pe_callB call_absN rfl B.abs bt_abs (pa_cons (pv 1) pa_nil)) (pe_glob rfl c_MOST_TIMES.1 c_MOST_TIMES.2) (nomark _)) (pss_one (ps_raise rfl made_ok (cls.own cls.b_NoTimes (j := 4) rfl) rfl (pa_cons pe_str pa_nil))) pss_nil)
      pss_never)), ?_⟩
  walk_at "rd"
  rcases q with ⟨hg, q⟩ | ⟨gm, ht, q⟩
  · exact .inr ⟨v, m, rfl, hv, bm.mono (by decide), hg, q⟩
  · refine .inl ⟨v, m, rfl, hv, bm.mono (by decide), gm, fun H1 g1 => ?_⟩
    show (if (60 : Int) < (t.natAbs : Int) then _ else _)
    rw [if_pos (by omega)]
    exact q _ g1
set_option maxHeartbeats 4000000 in
theorem calx_turns (F : Def K mg "turns" s_turns ["change"]) (C_turns : Cal P w K mg base 7 "turns" ["change"] (spTurns K)) (X_check_change : CalX P w K mg base 7 "check_change" ["change"] (fun vs H Q E => (spCheckC K) vs H Q E ∨ (spCheckCX K nc) vs H Q E)) : CalX P w K mg base 8 "turns" ["change"] (fun vs H Q E => (spTurns K) vs H Q E ∨ (spCheckCX K nc) vs H Q E) := by
  refine CalX.or (CalX.of (C_turns.mono (by decide))) ?_
  refine F.calX (k := 7) sc_turns (fun vs H Q E h => ?_) (fun f cdv A outer s H vs Q E hr h => ?_)
  · obtain ⟨v, m, rfl, hv, hb, hg, q⟩ := h
    rfl
  obtain ⟨v, m, rfl, hv, hb, hg, q⟩ := h
  have hu := hr.units
  have hu8 : (A.deeper (envOfC "turns" (defScope s_turns) s.heap.objs.size f cdv)).units + 80 < cLine := by have := hr.un; omega
  refine ⟨_, (pss_cons (ps_expr (pe_callX X_check_change hr passes_cx (pa_cons (pv 0) pa_nil)))
      pss_never), ?_⟩
  walk_at "rd"
  exact .inr ⟨v, m, rfl, hv, hb, hg, q⟩
set_option maxHeartbeats 4000000 in
theorem calx_kept (F : Def K mg "kept" s_kept ["change"]) (C_kept : Cal P w K mg base 5 "kept" ["change"] (spKept K)) (X_check_change : CalX P w K mg base 5 "check_change" ["change"] (fun vs H Q E => (spCheckC K) vs H Q E ∨ (spCheckCX K nc) vs H Q E)) : CalX P w K mg base 6 "kept" ["change"] (fun vs H Q E => (spKept K) vs H Q E ∨ (spCheckCX K nc) vs H Q E) := by
  refine CalX.or (CalX.of (C_kept.mono (by decide))) ?_
  refine F.calX (k := 5) sc_kept (fun vs H Q E h => ?_) (fun f cdv A outer s H vs Q E hr h => ?_)
  · obtain ⟨v, m, rfl, hv, hb, hg, q⟩ := h
    rfl
  obtain ⟨v, m, rfl, hv, hb, hg, q⟩ := h
  have hu := hr.units
  have hu8 : (A.deeper (envOfC "kept" (defScope s_kept) s.heap.objs.size f cdv)).units + 80 < cLine := by have := hr.un; omega
  refine ⟨_, (pss_cons (ps_expr (pe_callX X_check_change hr passes_cx (pa_cons (pv 0) pa_nil)))
      pss_never), ?_⟩
  walk_at "rd"
  exact .inr ⟨v, m, rfl, hv, hb, hg, q⟩
set_option maxHeartbeats 4000000 in
theorem calx_two_turns (F : Def K mg "two_turns" s_two_turns ["change"]) (C_two_turns : Cal P w K mg base 6 "two_turns" ["change"] (spTwo K)) (X_check_change : CalX P w K mg base 6 "check_change" ["change"] (fun vs H Q E => (spCheckC K) vs H Q E ∨ (spCheckCX K nc) vs H Q E)) : CalX P w K mg base 7 "two_turns" ["change"] (fun vs H Q E => (spTwo K) vs H Q E ∨ (spCheckCX K nc) vs H Q E) := by
  refine CalX.or (CalX.of (C_two_turns.mono (by decide))) ?_
  refine F.calX (k := 6) sc_two_turns (fun vs H Q E h => ?_) (fun f cdv A outer s H vs Q E hr h => ?_)
  · obtain ⟨v, m, rfl, hv, hb, hg, q⟩ := h
    rfl
  obtain ⟨v, m, rfl, hv, hb, hg, q⟩ := h
  have hu := hr.units
  have hu8 : (A.deeper (envOfC "two_turns" (defScope s_two_turns) s.heap.objs.size f cdv)).units + 80 < cLine := by have := hr.un; omega
  refine ⟨_, (pss_cons (ps_expr (pe_callX X_check_change hr passes_cx (pa_cons (pv 0) pa_nil)))
      pss_never), ?_⟩
  walk_at "rd"
  exact .inr ⟨v, m, rfl, hv, hb, hg, q⟩
set_option maxHeartbeats 4000000 in
theorem calx_shown_change (F : Def K mg "shown_change" s_shown_change ["change"]) (C_shown_change : Cal P w K mg base 5 "shown_change" ["change"] (spShownC K)) (X_check_change : CalX P w K mg base 5 "check_change" ["change"] (fun vs H Q E => (spCheckC K) vs H Q E ∨ (spCheckCX K nc) vs H Q E)) : CalX P w K mg base 6 "shown_change" ["change"] (fun vs H Q E => (spShownC K) vs H Q E ∨ (spCheckCX K nc) vs H Q E) := by
  refine CalX.or (CalX.of (C_shown_change.mono (by decide))) ?_
  refine F.calX (k := 5) sc_shown_change (fun vs H Q E h => ?_) (fun f cdv A outer s H vs Q E hr h => ?_)
  · obtain ⟨v, m, rfl, hv, hb, hg, q⟩ := h
    rfl
  obtain ⟨v, m, rfl, hv, hb, hg, q⟩ := h
  have hu := hr.units
  have hu8 : (A.deeper (envOfC "shown_change" (defScope s_shown_change) s.heap.objs.size f cdv)).units + 80 < cLine := by have := hr.un; omega
  refine ⟨_, (pss_cons (ps_expr (pe_callX X_check_change hr passes_cx (pa_cons (pv 0) pa_nil)))
      pss_never), ?_⟩
  walk_at "rd"
  exact .inr ⟨v, m, rfl, hv, hb, hg, q⟩
set_option maxHeartbeats 4000000 in
theorem calx__law_first (F : Def K mg "_law_first" s__law_first ["way", "change", "other", "point", "times"]) (C__law_first : Cal P w K mg base 9 "_law_first" ["way", "change", "other", "point", "times"] (spMet1 K)) (X_moved : CalX P w K mg base 9 "moved" ["change", "point"] (fun vs H Q E => (spMoved K) vs H Q E ∨ (spMovedX K nc np) vs H Q E)) (X_after : CalX P w K mg base 9 "after" ["one", "other"] (fun vs H Q E => (spAfter K) vs H Q E ∨ (spAfterX K nc) vs H Q E)) (X_back : CalX P w K mg base 9 "back" ["change"] (fun vs H Q E => (spBack K) vs H Q E ∨ (spCheckCX K nc) vs H Q E)) (X_power : CalX P w K mg base 9 "power" ["change", "times"] (fun vs H Q E => (spPower K) vs H Q E ∨ (spPowerX K nc nt) vs H Q E)) (X_turns : CalX P w K mg base 9 "turns" ["change"] (fun vs H Q E => (spTurns K) vs H Q E ∨ (spCheckCX K nc) vs H Q E)) (X_kept : CalX P w K mg base 9 "kept" ["change"] (fun vs H Q E => (spKept K) vs H Q E ∨ (spCheckCX K nc) vs H Q E)) (X_two_turns : CalX P w K mg base 9 "two_turns" ["change"] (fun vs H Q E => (spTwo K) vs H Q E ∨ (spCheckCX K nc) vs H Q E)) (X_shown_change : CalX P w K mg base 9 "shown_change" ["change"] (fun vs H Q E => (spShownC K) vs H Q E ∨ (spCheckCX K nc) vs H Q E)) : CalX P w K mg base 10 "_law_first" ["way", "change", "other", "point", "times"] (fun vs H Q E => (spMet1 K) vs H Q E ∨ (spMet1X K nc nn np nth nt) vs H Q E) := by
  refine CalX.or (CalX.of (C__law_first.mono (by decide))) ?_
  refine F.calX (k := 9) sc__law_first (fun vs H Q E h => ?_) (fun f cdv A outer s H vs Q E hr h => ?_)
  · obtain ⟨way, t, v, u, w, m, n, p, j, C, rfl, hv, hu_, hw, bm, bn, bp, hbad, hC, q⟩ := h
    rfl
  obtain ⟨way, t, v, u, w, m, n, p, j, C, rfl, hv, hu_, hw, bm, bn, bp, hbad, hC, q⟩ := h
  have hu := hr.units
  have hu8 : (A.deeper (envOfC "_law_first" (defScope s__law_first) s.heap.objs.size f cdv)).units + 80 < cLine := by have := hr.un; omega
  refine ⟨_, (pss_cons (ps_if (pt_cmpR op_eq (pv 0) pe_int (nomark _)) (pss_one (ps_ret (pe_callX X_moved hr passes_cx (pa_cons (pv 1) (pa_cons (pv 3) pa_nil))))) pss_nil)
      (pss_cons (ps_if (pt_cmpR op_eq (pv 0) pe_int (nomark _)) (pss_one (ps_ret (pe_callX X_after hr passes_cx (pa_cons (pv 1) (pa_cons (pv 2) pa_nil))))) pss_nil)
      (pss_cons (ps_if (pt_cmpR op_eq (pv 0) pe_int (nomark _)) (pss_one (ps_ret (pe_callX X_after hr passes_cx (pa_cons (pv 2) (pa_cons (pv 1) pa_nil))))) pss_nil)
      (pss_cons (ps_if (pt_cmpR op_eq (pv 0) pe_int (nomark _)) (pss_one (ps_ret (pe_callX X_back hr passes_cx (pa_cons (pv 1) pa_nil)))) pss_nil)
      (pss_cons (ps_if (pt_cmpR op_eq (pv 0) pe_int (nomark _)) (pss_one (ps_ret (pe_callX X_power hr passes_cx (pa_cons (pv 1) (pa_cons (pv 4) pa_nil))))) pss_nil)
      (pss_cons (ps_if (pt_cmpR op_eq (pv 0) pe_int (nomark _)) (pss_one (ps_ret (pe_callX X_turns hr passes_cx (pa_cons (pv 1) pa_nil)))) pss_nil)
      (pss_cons (ps_if (pt_cmpR op_eq (pv 0) pe_int (nomark _)) (pss_one (ps_ret (pe_callX X_kept hr passes_cx (pa_cons (pv 1) pa_nil)))) pss_nil)
      (pss_cons (ps_if (pt_cmpR op_eq (pv 0) pe_int (nomark _)) (pss_one (ps_ret (pe_callX X_two_turns hr passes_cx (pa_cons (pv 1) pa_nil)))) pss_nil)
      (pss_one (ps_ret (pe_callX X_shown_change hr passes_cx (pa_cons (pv 1) pa_nil)))))))))))), ?_⟩
  have plain : way ≠ 0 → way ≠ 4 → ¬ GoodC m ∧ ∀ H', Same H H' → E (.ref nc) none H' := fun w0 w4 => by
    rcases hbad with ⟨rfl, hg⟩ | ⟨rfl, e, _⟩ | ⟨rfl, e, _⟩
    · cases hC; exact ⟨hg, q⟩
    · exact absurd e w0
    · exact absurd e w4
  walk_at "rd"
  refine ite2 (fun c => ?_) (fun c0 => ?_)
  · refine .inr ⟨v, w, m, p, rfl, hv, hw, bm.mono (by decide), bp.mono (by decide), ?_⟩
    rcases hbad with ⟨rfl, hg⟩ | ⟨rfl, e, gm, gp⟩ | ⟨rfl, e, _⟩
    · cases hC; exact .inl ⟨hg, q⟩
    · cases hC; exact .inr ⟨gm, gp, q⟩
    · exact absurd e (by omega)
  refine ite2 (fun c => ?_) (fun c => ?_)
  · obtain ⟨hg, q⟩ := plain (by omega) (by omega)
    exact .inr ⟨v, u, m, n, rfl, hv, hu_, bm.mono (by decide), bn.mono (by decide), .inl hg, q⟩
  refine ite2 (fun c => ?_) (fun c => ?_)
  · obtain ⟨hg, q⟩ := plain (by omega) (by omega)
    exact .inr ⟨u, v, n, m, rfl, hu_, hv, bn.mono (by decide), bm.mono (by decide), .inr hg, q⟩
  refine ite2 (fun c => ?_) (fun c => ?_)
  · obtain ⟨hg, q⟩ := plain (by omega) (by omega)
    exact .inr ⟨v, m, rfl, hv, bm.mono (by decide), hg, q⟩
  refine ite2 (fun c => ?_) (fun c4 => ?_)
  · refine .inr ⟨v, m, t, rfl, hv, bm.mono (by decide), ?_⟩
    rcases hbad with ⟨rfl, hg⟩ | ⟨rfl, e, gm, gp⟩ | ⟨rfl, e, gm, ht⟩
    · cases hC; exact .inl ⟨hg, q⟩
    · exact absurd e (by omega)
    · cases hC; exact .inr ⟨gm, ht, q⟩
  obtain ⟨hg, q⟩ := plain (by omega) (by omega)
  refine ite2 (fun c => ?_) (fun c => ?_)
  · exact .inr ⟨v, m, rfl, hv, bm.mono (by decide), hg, q⟩
  refine ite2 (fun c => ?_) (fun c => ?_)
  · exact .inr ⟨v, m, rfl, hv, bm.mono (by decide), hg, q⟩
  refine ite2 (fun c => ?_) (fun c => ?_)
  · exact .inr ⟨v, m, rfl, hv, bm.mono (by decide), hg, q⟩
  · exact .inr ⟨v, m, rfl, hv, bm.mono (by decide), hg, q⟩
theorem sc_unlike : FnScope ["points"] ["points"] (defScope s_unlike) := ⟨rfl, rfl, rfl, by decide +kernel, rfl, by decide +kernel, by decide +kernel⟩
set_option maxHeartbeats 4000000 in
theorem cal_unlike (F : Def K mg "unlike" s_unlike ["points"]) (B : Blt mg) : Cal P w K mg base 1 "unlike" ["points"] (spUnlike K) := by
  refine F.cal (k := 0) sc_unlike (fun vs H Q E h => ?_) (fun f cdv A outer s H vs Q E hr h => ?_)
  · obtain ⟨v, ps, rfl, ⟨l, ws, rfl, hq, ht⟩, hn, q⟩ := h
    rfl
  obtain ⟨v, ps, rfl, ⟨l, ws, rfl, hq, ht⟩, hn, q⟩ := h
  have hu := hr.units
  have hu8 : (A.deeper (envOfC "unlike" (defScope s_unlike) s.heap.objs.size f cdv)).units + 80 < cLine := by have := hr.un; omega
  refine ⟨_, (pss_one (ps_ret (pe_cmpR op_eq (pe_lenSet hu rfl rfl B.len rfl B.set (pv 0)) (pe_callB call_len_seq rfl B.len bt_len (pa_cons (pv 0) pa_nil)) (nomark _)))), ?_⟩
  walk_at "rd"
  refine ⟨ws, hq, _, ht, by rw [List.length_map]; exact hn, ws, hq, ?_⟩
  have e : decide (((Stb.uniq (ps.map pl)).length : Int) = (ws.length : Int)) = decide ps.Nodup := by
    rw [decide_eq_decide, ht.length, ← nodup_pl, ← Stb.uniq_all]
    omega
  rw [e]; exact q
theorem sc_check_told : FnScope ["points", "goals", "point"] ["points", "goals"] (defScope s_check_told) := ⟨rfl, rfl, rfl, by decide +kernel, rfl, by decide +kernel, by decide +kernel⟩
set_option maxHeartbeats 4000000 in
theorem cal_check_told (F : Def K mg "check_told" s_check_told ["points", "goals"]) (C_check_point : Cal P w K mg base 4 "check_point" ["point"] (spCheckP K)) (C_unlike : Cal P w K mg base 4 "unlike" ["points"] (spUnlike K)) (B : Blt mg) {uF : Value} (c_FEWEST_POINTS : mg "FEWEST_POINTS" = some uF ∧ RelV (.int 3) uF) {uP : Value} (c_MOST_POINTS : mg "MOST_POINTS" = some uP ∧ RelV (.int 8) uP) : Cal P w K mg base 5 "check_told" ["points", "goals"] (spCheckTold K) := by
  refine F.cal (k := 4) sc_check_told (fun vs H Q E h => ?_) (fun f cdv A outer s H vs Q E hr h => ?_)
  · obtain ⟨v, u, ps, gs, rfl, tb, q⟩ := h
    rfl
  obtain ⟨v, u, ps, gs, rfl, tb, q⟩ := h
  have hu := hr.units
  have hu8 : (A.deeper (envOfC "check_told" (defScope s_check_told) s.heap.objs.size f cdv)).units + 80 < cLine := by have := hr.un; omega
  refine ⟨_, (pss_cons (ps_for PassesOwn.never rfl (pi_list (pe_op op_cat (pv 0) (pv 1))) (pg_name (i := 2) sc_check_told.nd rfl (Or.inl rfl)) (pss_one (ps_expr (pe_callC C_check_point hr (pa_cons (pv 2) pa_nil)))))
      (pss_cons (ps_if (pt_cmpR op_ne (pe_callB call_len_seq rfl B.len bt_len (pa_cons (pv 0) pa_nil)) (pe_callB call_len_seq rfl B.len bt_len (pa_cons (pv 1) pa_nil)) (nomark _)) (pss_one ps_never) pss_nil)
      (pss_cons (ps_if (PW.pt (pw_or (pt_cmpR op_lt (pe_callB call_len_seq rfl B.len bt_len (pa_cons (pv 0) pa_nil)) (pe_glob rfl c_FEWEST_POINTS.1 c_FEWEST_POINTS.2) (nomark _)) (pw_or1 (pt_cmpR op_gt (pe_callB call_len_seq rfl B.len bt_len (pa_cons (pv 0) pa_nil)) (pe_glob rfl c_MOST_POINTS.1 c_MOST_POINTS.2) (nomark _))))) (pss_one ps_never) pss_nil)
      (pss_one (ps_if (PW.pt (pw_or (pt_not (pt_val (pe_callC C_unlike hr (pa_cons (pv 0) pa_nil)))) (pw_or1 (pt_not (pt_val (pe_callC C_unlike hr (pa_cons (pv 1) pa_nil))))))) (pss_one ps_never) pss_nil))))), ?_⟩
  obtain ⟨⟨l1, ws1, rfl, hH1, ht1⟩, ⟨l2, ws2, rfl, hH2, ht2⟩, gp, gg, hlen, h3, h8, nd1, nd2⟩ := tb
  have hq1 := SqL.of (K := K) hH1
  have hq2 := SqL.of (K := K) hH2
  have L1 : ws1.length = ps.length := by rw [ht1.length, List.length_map]
  have L2' : ws2.length = gs.length := by rw [ht2.length, List.length_map]
  refine seq_by (fun σ H1 => Same H H1 ∧ ∃ r, σ = [some (.ref l1), some (.ref l2), r]) (fun k hk => ?_) ?_
  · refine for_src (fun x H1 => ∃ l, x = .ref l ∧ Same H H1 ∧ SqL K H1 l (ws1 ++ ws2)) (fun k hk => ?_) ?_
    · walk_at "rd"
      refine ⟨ws1, hH1, ws2, hH2, by rw [L1, L2']; exact Nat.le_of_lt (small1000 (by omega)), fun p hp => hk _ _ ⟨p, rfl, same_new hp _, SqL.of upd_same⟩⟩
    · rintro x H1 ⟨l, rfl, g1, hq⟩
      refine ⟨l, rfl, ⟨_, hq⟩, forL (xs := ws1 ++ ws2) (fun i σ H2 => Same H1 H2 ∧ ∃ r, σ = [some (.ref l1), some (.ref l2), r]) ⟨Same.refl _, none, rfl⟩ (fun i σ H2 _ h => h.1.seq hq) ?_ ?_⟩
      · rintro Pv' hP i x σ H2 hx ⟨g2, r, rfl⟩
        obtain ⟨ns, en, tn⟩ := (Tps.append (ht1.mono g1) (ht2.mono g1)).at hx
        obtain ⟨p, hp, rfl⟩ : ∃ p, (GoodPt p ∧ BdPt 200 p) ∧ pl p = ns := by
          have hm := List.mem_of_getElem? en
          rcases List.mem_append.mp hm with z | z
          · obtain ⟨p, hp, e⟩ := List.mem_map.mp z
            exact ⟨p, gp p hp, e⟩
          · obtain ⟨p, hp, e⟩ := List.mem_map.mp z
            exact ⟨p, gg p hp, e⟩
        walk_at "rd"
        exact ⟨x, p, rfl, tn.mono g2, hp.2.mono (by decide), hp.1, fun H3 g3 => hP _ _ _ ⟨g2.trans g3, _, rfl⟩⟩
      · rintro σ H2 ⟨g2, r, rfl⟩
        exact hk _ _ ⟨g1.trans g2, r, rfl⟩
  rintro σ H1 ⟨g1, r, rfl⟩
  have q1 := g1.seq hq1
  have q2 := g1.seq hq2
  apply seq_det
  · intro k hk; walk_at "rd"
    refine ⟨ws1, .inl q1, ws2, .inl q2, ?_⟩
    rw [if_neg (by omega)]
    exact hk
  apply seq_det
  · intro k hk; walk_at "rd"
    refine ⟨ws1, .inl q1, ?_⟩
    rw [if_neg (by omega)]
    refine ⟨ws1, .inl q1, ?_⟩
    rw [if_neg (by omega)]
    exact hk
  walk_at "rd"
  refine ⟨.ref l1, ps, rfl, ⟨l1, ws1, rfl, .inl q1, ht1.mono g1⟩, by omega, ?_⟩
  rw [decide_eq_true nd1]
  walk_at "rd"
  refine ⟨.ref l2, gs, rfl, ⟨l2, ws2, rfl, .inl q2, ht2.mono g1⟩, by omega, ?_⟩
  rw [decide_eq_true nd2]
  walk_at "rd"
  exact q H1 g1
theorem sc_gap : FnScope ["one", "other"] ["one", "other"] (defScope s_gap) := ⟨rfl, rfl, rfl, by decide +kernel, rfl, by decide +kernel, by decide +kernel⟩
set_option maxHeartbeats 4000000 in
theorem cal_gap (F : Def K mg "gap" s_gap ["one", "other"]) : Cal P w K mg base 1 "gap" ["one", "other"] (spGap K) := by
  refine F.cal (k := 0) sc_gap (fun vs H Q E h => ?_) (fun f cdv A outer s H vs Q E hr h => ?_)
  · obtain ⟨v, u, x, y, rfl, hx, hy, bx, by_, q⟩ := h
    rfl
  obtain ⟨v, u, x, y, rfl, hx, hy, bx, by_, q⟩ := h
  have hu := hr.units
  have hu8 : (A.deeper (envOfC "gap" (defScope s_gap) s.heap.objs.size f cdv)).units + 80 < cLine := by have := hr.un; omega
  refine ⟨_, (pss_one (ps_ret (pe_op op_sub (pe_op op_mulB (pe_ix ix_tupI (pv 0) pe_int (fun _ _ => rfl)) (pe_ix ix_tupI (pv 1) pe_int (fun _ _ => rfl))) (pe_op op_mulB (pe_ix ix_tupI (pv 0) pe_int (fun _ _ => rfl)) (pe_ix ix_tupI (pv 1) pe_int (fun _ _ => rfl)))))), ?_⟩
  walk_at "rd"
  exact ⟨_, hx, _, at0 _ _, _, hy, _, at1 _ _ _, ⟨bx.1.mono (by decide), by_.2.mono (by decide)⟩, _, hx, _, at1 _ _ _, _, hy, _, at0 _ _, ⟨bx.2.mono (by decide), by_.1.mono (by decide)⟩, q⟩
theorem sc_to_base : FnScope ["one", "two", "three", "upper", "lower"] ["one", "two", "three"] (defScope s_to_base) := ⟨rfl, rfl, rfl, by decide +kernel, rfl, by decide +kernel, by decide +kernel⟩
set_option maxHeartbeats 4000000 in
theorem cal_to_base (F : Def K mg "to_base" s_to_base ["one", "two", "three"]) (C_gap : Cal P w K mg base 2 "gap" ["one", "other"] (spGap K)) (C_lowest_change : Cal P w K mg base 2 "lowest_change" ["numbers"] (spLowC K)) : Cal P w K mg base 3 "to_base" ["one", "two", "three"] (spBase K) := by
  refine F.cal (k := 2) sc_to_base (fun vs H Q E h => ?_) (fun f cdv A outer s H vs Q E hr h => ?_)
  · obtain ⟨u, v, t, p, q, r, rfl, hp, hq, hv, un, bp, bq, br, q0⟩ := h
    rfl
  obtain ⟨u, v, t, p, q, r, rfl, hp, hq, hv, un, bp, bq, br, q0⟩ := h
  have hu := hr.units
  have hu8 : (A.deeper (envOfC "to_base" (defScope s_to_base) s.heap.objs.size f cdv)).units + 80 < cLine := by have := hr.un; omega
  refine ⟨_, (pss_cons (ps_set (i := 3) sc_to_base.nd rfl (Or.inl rfl) (pe_callC C_gap hr (pa_cons (pv 2) (pa_cons (pv 0) pa_nil))))
      (pss_cons (ps_set (i := 4) sc_to_base.nd rfl (Or.inl rfl) (pe_callC C_gap hr (pa_cons (pv 2) (pa_cons (pv 1) pa_nil))))
      (pss_one (ps_ret (pe_callC C_lowest_change hr (pa_cons (pe_tup (pa_cons (pe_op op_mulB (pe_ix ix_tupI (pv 1) pe_int (fun _ _ => rfl)) (pv 3)) (pa_cons (pe_op op_mulB (pe_un un_neg (pe_ix ix_tupI (pv 1) pe_int (fun _ _ => rfl))) (pv 3)) (pa_cons (pe_op op_mulB (pe_ix ix_tupI (pv 0) pe_int (fun _ _ => rfl)) (pv 4)) (pa_cons (pe_op op_mulB (pe_un un_neg (pe_ix ix_tupI (pv 0) pe_int (fun _ _ => rfl))) (pv 4)) pa_nil))))) pa_nil)))))), ?_⟩
  have g1 := (Bd.gap br bp).mono (show 400 + 400 + 1 ≤ 100000 by decide)
  have g2 := (Bd.gap br bq).mono (show 400 + 400 + 1 ≤ 100000 by decide)
  have p1 := bp.mono (show 400 ≤ 100000 by decide)
  have p2 := bq.mono (show 400 ≤ 100000 by decide)
  apply seq_det
  · intro k hk; walk_at "rd"; exact ⟨_, _, r, p, rfl, hv, hp, br.mono (by decide), bp.mono (by decide), hk⟩
  apply seq_det
  · intro k hk; walk_at "rd"; exact ⟨_, _, r, q, rfl, hv, hq, br.mono (by decide), bq.mono (by decide), hk⟩
  walk_at "rd"
  refine ⟨_, hq, _, at1 _ _ _, ⟨p2.2, g1⟩, _, hq, _, at0 _ _, ⟨p2.1.neg, g1⟩, _, hp, _, at1 _ _ _, ⟨p1.2, g2⟩, _, hp, _, at0 _ _, ⟨p1.1.neg, g2⟩, (by show 4 ≤ sizeLine; decide), fun a ha => ?_⟩
  exact ⟨.ref a, base3 p q r, rfl, ⟨a, rfl, SqT.of upd_same⟩, un.det, (BdC.base bp bq br).mono (by decide), q0.from (same_new ha _)⟩
theorem sc_told_by : FnScope ["points", "goals", "there", "onward", "change", "point", "goal"] ["points", "goals"] (defScope s_told_by) := ⟨rfl, rfl, rfl, by decide +kernel, rfl, by decide +kernel, by decide +kernel⟩
set_option maxHeartbeats 4000000 in
theorem cal_told_by (F : Def K mg "told_by" s_told_by ["points", "goals"]) (C_check_told : Cal P w K mg base 6 "check_told" ["points", "goals"] (spCheckTold K)) (C_to_base : Cal P w K mg base 6 "to_base" ["one", "two", "three"] (spBase K)) (C_back : Cal P w K mg base 6 "back" ["change"] (spBack K)) (C_after : Cal P w K mg base 6 "after" ["one", "other"] (spAfter K)) (C_moved : Cal P w K mg base 6 "moved" ["change", "point"] (spMoved K)) (B : Blt mg) : Cal P w K mg base 7 "told_by" ["points", "goals"] (spTold K) := by
  refine F.cal (k := 6) sc_told_by (fun vs H Q E h => ?_) (fun f cdv A outer s H vs Q E hr h => ?_)
  · obtain ⟨v, u, ps, gs, rfl, tb, q0⟩ := h
    rfl
  obtain ⟨v, u, ps, gs, rfl, tb, q0⟩ := h
  have hu := hr.units
  have hu8 : (A.deeper (envOfC "told_by" (defScope s_told_by) s.heap.objs.size f cdv)).units + 80 < cLine := by have := hr.un; omega
  refine ⟨_, (pss_cons (ps_expr (pe_callC C_check_told hr (pa_cons (pv 0) (pa_cons (pv 1) pa_nil))))
      (pss_cons (ps_set (i := 2) sc_told_by.nd rfl (Or.inl rfl) (pe_callC C_to_base hr (pa_cons (pe_ix ix_list (pv 0) pe_int (fun _ _ => rfl)) (pa_cons (pe_ix ix_list (pv 0) pe_int (fun _ _ => rfl)) (pa_cons (pe_ix ix_list (pv 0) pe_int (fun _ _ => rfl)) pa_nil)))))
      (pss_cons (ps_set (i := 3) sc_told_by.nd rfl (Or.inl rfl) (pe_callC C_back hr (pa_cons (pe_callC C_to_base hr (pa_cons (pe_ix ix_list (pv 1) pe_int (fun _ _ => rfl)) (pa_cons (pe_ix ix_list (pv 1) pe_int (fun _ _ => rfl)) (pa_cons (pe_ix ix_list (pv 1) pe_int (fun _ _ => rfl)) pa_nil)))) pa_nil)))
      (pss_cons (ps_set (i := 4) sc_told_by.nd rfl (Or.inl rfl) (pe_callC C_after hr (pa_cons (pv 2) (pa_cons (pv 3) pa_nil))))
      (pss_cons (ps_for PassesOwn.never rfl (pi_zip rfl B.zip (pa_cons (pv 0) (pa_cons (pv 1) pa_nil))) (pg_tup rfl (pgs_cons (pg_name (i := 5) sc_told_by.nd rfl (Or.inl rfl)) (pgs_cons (pg_name (i := 6) sc_told_by.nd rfl (Or.inl rfl)) pgs_nil))) (pss_one (ps_if (pt_cmpR (op_neT hu) (pe_callC C_moved hr (pa_cons (pv 4) (pa_cons (pv 5) pa_nil))) (pv 6) (nomark _)) (pss_one (ps_ret pe_non)) pss_nil)))
      (pss_one (ps_ret (pv 4)))))))), ?_⟩
  obtain ⟨⟨l1, ws1, rfl, hH1, ht1⟩, ⟨l2, ws2, rfl, hH2, ht2⟩, gp, gg, hlen, h3, h8, nd1, nd2⟩ := id tb
  obtain ⟨p, q, r, ps', rfl⟩ := list3 h3
  obtain ⟨p', q', r', gs', rfl⟩ := list3 (show 3 ≤ gs.length by omega)
  have un := unlike_of gp nd1
  have un' := unlike_of gg nd2
  have bp := (gp p (by simp)).2
  have bq := (gp q (by simp)).2
  have br := (gp r (by simp)).2
  have bp' := (gg p' (by simp)).2
  have bq' := (gg q' (by simp)).2
  have br' := (gg r' (by simp)).2
  refine seq_by (fun σ H1 => Same H H1 ∧ σ = [some (.ref l1), some (.ref l2), none, none, none, none, none]) (fun k hk => ?_) ?_
  · walk_at "rd"
    exact ⟨_, _, _, _, rfl, tb, fun H1 g1 => hk _ _ ⟨g1, rfl⟩⟩
  rintro σ H1 ⟨g1, rfl⟩
  have hq1 := SqL.of (K := K) (g1 _ _ hH1)
  have ht1' := ht1.mono g1
  obtain ⟨w1, w2, w3, ws1', rfl, t1, t2, t3, tr⟩ := tps3 ht1'
  refine seq_by (fun σ H2 => Same H H2 ∧ ∃ a, Tp K H2 a (cl (nch (base3 p q r))) ∧ σ = [some (.ref l1), some (.ref l2), some a, none, none, none, none]) (fun k hk => ?_) ?_
  · walk_at "rd"
    refine ⟨_, hq1, _, at0 _ _, _, hq1, _, at1 _ _ _, _, hq1, _, at2 _ _ _ _, ?_⟩
    exact ⟨_, _, _, p, q, r, rfl, t1, t2, t3, un, bp.mono (by decide), bq.mono (by decide), br.mono (by decide), fun a H2 g2 ta => hk _ _ ⟨g1.trans g2, a, ta, rfl⟩⟩
  rintro σ H2 ⟨g2, a, ta, rfl⟩
  have hq2 := SqL.of (K := K) (g2 _ _ hH2)
  have ht2' := ht2.mono g2
  obtain ⟨x1, x2, x3, ws2', rfl, s1, s2, s3, sr⟩ := tps3 ht2'
  have gB := nch_goodC un.det
  have gB' := nch_goodC un'.det
  have bB := (BdC.base bp bq br).nch un.det
  have bB' := (BdC.base bp' bq' br').nch un'.det
  have dA : (adj (nch (base3 p' q' r'))).det ≠ 0 := by rw [det_adj]; exact gB'.det
  refine seq_by (fun σ H3 => Same H H3 ∧ Tp K H3 a (cl (nch (base3 p q r))) ∧ ∃ b, Tp K H3 b (cl (nch (adj (nch (base3 p' q' r'))))) ∧ σ = [some (.ref l1), some (.ref l2), some a, some b, none, none, none]) (fun k hk => ?_) ?_
  · walk_at "rd"
    refine ⟨_, hq2, _, at0 _ _, _, hq2, _, at1 _ _ _, _, hq2, _, at2 _ _ _ _, ?_⟩
    refine ⟨_, _, _, p', q', r', rfl, s1, s2, s3, un', bp'.mono (by decide), bq'.mono (by decide), br'.mono (by decide), fun c H3 g3 tc => ?_⟩
    exact ⟨c, _, rfl, tc, gB', bB'.mono (by decide), fun b H4 g4 tb => hk _ _ ⟨(g2.trans g3).trans g4, (ta.mono g3).mono g4, b, tb, rfl⟩⟩
  rintro σ H3 ⟨g3, ta, b, tb', rfl⟩
  obtain ⟨c, hc⟩ : ∃ c, c = told3 p q r p' q' r' := ⟨_, rfl⟩
  have gc : GoodC c := by rw [hc]; exact un.good un'
  have bc : BdC 1900 c := by rw [hc]; exact (BdC.told un un' bp bq br bp' bq' br').mono (by decide)
  refine seq_by (fun σ H4 => Same H H4 ∧ ∃ d, Tp K H4 d (cl c) ∧ σ = [some (.ref l1), some (.ref l2), some a, some b, some d, none, none]) (fun k hk => ?_) ?_
  · walk_at "rd"
    refine ⟨a, b, _, _, rfl, ta, tb', gB, nch_goodC dA, bB.mono (by decide), (bB'.adj.nch dA).mono (by decide), fun d H4 g4 td => hk _ _ ⟨g3.trans g4, d, ?_, rfl⟩⟩
    rw [hc]; exact td
  rintro σ H4 ⟨g4, d, td, rfl⟩
  have L1 := ht1.length
  have L2' := ht2.length
  rw [List.length_map] at L1 L2'
  refine seq_by (fun σ H5 => Same H H5 ∧ Tp K H5 d (cl c) ∧ (p :: q :: r :: ps').map (mv c) = p' :: q' :: r' :: gs' ∧ ∃ y z, σ = [some (.ref l1), some (.ref l2), some a, some b, some d, y, z]) (fun k hk => ?_) ?_
  · refine ⟨_, rfl, _, rfl, l1, l2, w1 :: w2 :: w3 :: ws1', x1 :: x2 :: x3 :: ws2', rfl, SqL.of (g4 _ _ hH1), SqL.of (g4 _ _ hH2), ?_⟩
    refine forZ (xs := w1 :: w2 :: w3 :: ws1') (ys := x1 :: x2 :: x3 :: ws2') (fun i σ H5 => Same H4 H5 ∧ (∀ j, j < i → ((p :: q :: r :: ps').map (mv c))[j]? = (p' :: q' :: r' :: gs')[j]?) ∧ ∃ y z, σ = [some (.ref l1), some (.ref l2), some a, some b, some d, y, z])
      ⟨Same.refl _, fun j hj => absurd hj (Nat.not_lt_zero _), _, _, rfl⟩ (by rw [L1, L2']; exact hlen) (fun i σ H5 _ h => ⟨h.1.seq (SqL.of (g4 _ _ hH1)), h.1.seq (SqL.of (g4 _ _ hH2))⟩) ?_ ?_
    · rintro Pv' hP i x y σ H5 T ex ey ⟨g5, hall, y0, z0, rfl⟩ nT
      have g6 := (g4.trans g5).trans (same_new nT (.tup [x, y]))
      obtain ⟨n1, en1, tx⟩ := (ht1.mono g6).at ex
      obtain ⟨n2, en2, ty⟩ := (ht2.mono g6).at ey
      obtain ⟨pt, ep, rfl⟩ := map_at en1
      obtain ⟨gl, eg, rfl⟩ := map_at en2
      have gpt := gp pt (List.mem_of_getElem? ep)
      walk_at "rd"
      refine ⟨_, SqT.of upd_same, rfl, _, _, rfl, _, _, rfl, rfl, ?_⟩
      refine ⟨d, x, c, pt, rfl, (td.mono g5).mono (same_new nT _), tx, gc, gpt.1, bc, gpt.2.mono (by decide), fun o H6 g7 to => ?_⟩
      refine ⟨_, to, _, ty.mono g7, ?_⟩
      refine ite2 (fun ne => ?_) (fun eq => ?_)
      · refine q0 _ _ (g6.trans g7) ?_
        have : toldL (p :: q :: r :: ps') (p' :: q' :: r' :: gs') = none := by
          rw [toldL_cons, ← hc, if_neg]
          intro z
          have z2 := congrArg (fun l => l[i]?) z
          simp only [List.getElem?_map] at z2
          rw [ep, eg] at z2
          exact ne (congrArg pl (Option.some.inj z2))
        rw [this]; rfl
      · refine hP _ _ _ ⟨(g5.trans (same_new nT _)).trans g7, fun j hj => ?_, _, _, rfl⟩
        by_cases h : j < i
        · exact hall j h
        · have : j = i := by omega
          subst this
          rw [List.getElem?_map, ep, eg, Option.map_some]
          exact congrArg some (pl_inj.mp (Classical.byContradiction eq))
    · rintro σ H5 ⟨g5, hall, y0, z0, rfl⟩
      refine hk _ _ ⟨g4.trans g5, td.mono g5, List.ext_getElem? fun j => ?_, _, _, rfl⟩
      by_cases h : j < (w1 :: w2 :: w3 :: ws1').length
      · exact hall j h
      · rw [List.getElem?_eq_none (by rw [List.length_map]; omega), List.getElem?_eq_none (by omega)]
  rintro σ H5 ⟨g5, td, em, y0, z0, rfl⟩
  walk_at "rd"
  refine q0 _ _ g5 ?_
  have : toldL (p :: q :: r :: ps') (p' :: q' :: r' :: gs') = some c := by
    rw [toldL_cons, ← hc, if_pos em]
  rw [this]; exact td
theorem sc_check_three : FnScope ["one", "two", "three", "last", "point"] ["one", "two", "three", "last"] (defScope s_check_three) := ⟨rfl, rfl, rfl, by decide +kernel, rfl, by decide +kernel, by decide +kernel⟩
set_option maxHeartbeats 4000000 in
theorem cal_check_three (F : Def K mg "check_three" s_check_three ["one", "two", "three", "last"]) (C_check_point : Cal P w K mg base 4 "check_point" ["point"] (spCheckP K)) (C_unlike : Cal P w K mg base 4 "unlike" ["points"] (spUnlike K)) : Cal P w K mg base 5 "check_three" ["one", "two", "three", "last"] (spCheckThree K) := by
  refine F.cal (k := 4) sc_check_three (fun vs H Q E h => ?_) (fun f cdv A outer s H vs Q E hr h => ?_)
  · obtain ⟨u, v, w, t, p, q, r, x, rfl, f4, q0⟩ := h
    rfl
  obtain ⟨u, v, w, t, p, q, r, x, rfl, f4, q0⟩ := h
  have hu := hr.units
  have hu8 : (A.deeper (envOfC "check_three" (defScope s_check_three) s.heap.objs.size f cdv)).units + 80 < cLine := by have := hr.un; omega
  refine ⟨_, (pss_cons (ps_for PassesOwn.never rfl (pi_tup (pe_tup (pa_cons (pv 0) (pa_cons (pv 1) (pa_cons (pv 2) (pa_cons (pv 3) pa_nil)))))) (pg_name (i := 4) sc_check_three.nd rfl (Or.inl rfl)) (pss_one (ps_expr (pe_callC C_check_point hr (pa_cons (pv 4) pa_nil)))))
      (pss_one (ps_if (pt_not (pt_val (pe_callC C_unlike hr (pa_cons (pe_tup (pa_cons (pv 0) (pa_cons (pv 1) (pa_cons (pv 2) pa_nil)))) pa_nil)))) (pss_one ps_never) pss_nil))), ?_⟩
  refine seq_by (fun σ H1 => Same H H1 ∧ ∃ z, σ = [some u, some v, some w, some t, z]) (fun k hk => ?_) ?_
  · refine for_srcT (fun y H1 => ∃ l, y = .ref l ∧ Same H H1 ∧ SqT K H1 l [u, v, w, t]) (fun k hk => ?_) ?_
    · walk_at "rd"
      exact ⟨by show 4 ≤ sizeLine; decide, fun p hp => hk _ _ ⟨p, rfl, same_new hp _, SqT.of upd_same⟩⟩
    · rintro y H1 ⟨l, rfl, g1, hq⟩
      refine ⟨l, rfl, ⟨_, hq⟩, forT (xs := [u, v, w, t]) (fun i σ H2 => Same H1 H2 ∧ ∃ z, σ = [some u, some v, some w, some t, z]) ⟨Same.refl _, none, rfl⟩ (fun i σ H2 _ h => Same.tup h.1 hq) ?_ ?_⟩
      · rintro Pv' hP i x0 σ H2 hx ⟨g2, r0, rfl⟩
        obtain ⟨ns, en, tn⟩ := (f4.tps.mono (g1.trans g2)).at hx
        obtain ⟨y, hy, rfl⟩ := map_at en
        obtain ⟨gy, byy⟩ := f4.all y (List.mem_of_getElem? hy)
        walk_at "rd"
        exact ⟨x0, y, rfl, tn, byy, gy, fun H3 g3 => hP _ _ _ ⟨g2.trans g3, _, rfl⟩⟩
      · rintro σ H2 ⟨g2, z, rfl⟩
        exact hk _ _ ⟨g1.trans g2, z, rfl⟩
  rintro σ H1 ⟨g1, z, rfl⟩
  have f1 := f4.mono g1
  walk_at "rd"
  refine ⟨by show 3 ≤ sizeLine; decide, fun p0 hp0 => ?_⟩
  have g2 := same_new hp0 (.tup [u, v, w])
  have f2 := f1.mono g2
  refine ⟨.ref p0, [p, q, r], rfl, ⟨p0, [u, v, w], rfl, .inr (SqT.of upd_same), .cons f2.tp (.cons f2.tq (.cons f2.tr .nil))⟩, by show 3 ≤ 17; decide, ?_⟩
  rw [decide_eq_true f2.nd]
  walk_at "rd"
  exact q0 _ (g1.trans g2)
theorem sc_cross : FnScope ["one", "two", "three", "four"] ["one", "two", "three", "four"] (defScope s_cross) := ⟨rfl, rfl, rfl, by decide +kernel, rfl, by decide +kernel, by decide +kernel⟩
set_option maxHeartbeats 4000000 in
theorem cal_cross (F : Def K mg "cross" s_cross ["one", "two", "three", "four"]) (C_check_three : Cal P w K mg base 5 "check_three" ["one", "two", "three", "last"] (spCheckThree K)) (C_moved : Cal P w K mg base 5 "moved" ["change", "point"] (spMoved K)) (C_to_base : Cal P w K mg base 5 "to_base" ["one", "two", "three"] (spBase K)) : Cal P w K mg base 6 "cross" ["one", "two", "three", "four"] (spCross K) := by
  refine F.cal (k := 5) sc_cross (fun vs H Q E h => ?_) (fun f cdv A outer s H vs Q E hr h => ?_)
  · obtain ⟨u, v, w, t, p, q, r, x, rfl, f4, q0⟩ := h
    rfl
  obtain ⟨u, v, w, t, p, q, r, x, rfl, f4, q0⟩ := h
  have hu := hr.units
  have hu8 : (A.deeper (envOfC "cross" (defScope s_cross) s.heap.objs.size f cdv)).units + 80 < cLine := by have := hr.un; omega
  refine ⟨_, (pss_cons (ps_expr (pe_callC C_check_three hr (pa_cons (pv 0) (pa_cons (pv 1) (pa_cons (pv 2) (pa_cons (pv 3) pa_nil))))))
      (pss_one (ps_ret (pe_callC C_moved hr (pa_cons (pe_callC C_to_base hr (pa_cons (pv 0) (pa_cons (pv 1) (pa_cons (pv 2) pa_nil)))) (pa_cons (pv 3) pa_nil)))))), ?_⟩
  refine seq_by (fun σ H1 => Same H H1 ∧ σ = [some u, some v, some w, some t]) (fun k hk => ?_) ?_
  · walk_at "rd"
    exact ⟨_, _, _, _, _, _, _, _, rfl, f4, fun H1 g1 => hk _ _ ⟨g1, rfl⟩⟩
  rintro σ H1 ⟨g1, rfl⟩
  have f1 := f4.mono g1
  walk_at "rd"
  refine ⟨_, _, _, p, q, r, rfl, f1.tp, f1.tq, f1.tr, un3_unlike f1.un, f1.bp, f1.bq, f1.br, fun m H2 g2 tm => ?_⟩
  exact ⟨m, t, _, x, rfl, tm, f1.tx.mono g2, nch_goodC f1.un.det, f1.gx, (bd_base f1.un f1.bp f1.bq f1.br).mono (by decide), f1.bx, (q0.from g1).from g2⟩
theorem sc_fourth : FnScope ["one", "two", "three", "number"] ["one", "two", "three", "number"] (defScope s_fourth) := ⟨rfl, rfl, rfl, by decide +kernel, rfl, by decide +kernel, by decide +kernel⟩
set_option maxHeartbeats 4000000 in
theorem cal_fourth (F : Def K mg "fourth" s_fourth ["one", "two", "three", "number"]) (C_check_three : Cal P w K mg base 5 "check_three" ["one", "two", "three", "last"] (spCheckThree K)) (C_moved : Cal P w K mg base 5 "moved" ["change", "point"] (spMoved K)) (C_back : Cal P w K mg base 5 "back" ["change"] (spBack K)) (C_to_base : Cal P w K mg base 5 "to_base" ["one", "two", "three"] (spBase K)) : Cal P w K mg base 6 "fourth" ["one", "two", "three", "number"] (spFourth K) := by
  refine F.cal (k := 5) sc_fourth (fun vs H Q E h => ?_) (fun f cdv A outer s H vs Q E hr h => ?_)
  · obtain ⟨u, v, w, t, p, q, r, x, rfl, f4, q0⟩ := h
    rfl
  obtain ⟨u, v, w, t, p, q, r, x, rfl, f4, q0⟩ := h
  have hu := hr.units
  have hu8 : (A.deeper (envOfC "fourth" (defScope s_fourth) s.heap.objs.size f cdv)).units + 80 < cLine := by have := hr.un; omega
  refine ⟨_, (pss_cons (ps_expr (pe_callC C_check_three hr (pa_cons (pv 0) (pa_cons (pv 1) (pa_cons (pv 2) (pa_cons (pv 3) pa_nil))))))
      (pss_one (ps_ret (pe_callC C_moved hr (pa_cons (pe_callC C_back hr (pa_cons (pe_callC C_to_base hr (pa_cons (pv 0) (pa_cons (pv 1) (pa_cons (pv 2) pa_nil)))) pa_nil)) (pa_cons (pv 3) pa_nil)))))), ?_⟩
  refine seq_by (fun σ H1 => Same H H1 ∧ σ = [some u, some v, some w, some t]) (fun k hk => ?_) ?_
  · walk_at "rd"
    exact ⟨_, _, _, _, _, _, _, _, rfl, f4, fun H1 g1 => hk _ _ ⟨g1, rfl⟩⟩
  rintro σ H1 ⟨g1, rfl⟩
  have f1 := f4.mono g1
  have bb := bd_base f1.un f1.bp f1.bq f1.br
  walk_at "rd"
  refine ⟨_, _, _, p, q, r, rfl, f1.tp, f1.tq, f1.tr, un3_unlike f1.un, f1.bp, f1.bq, f1.br, fun m H2 g2 tm => ?_⟩
  refine ⟨m, _, rfl, tm, nch_goodC f1.un.det, bb.mono (by decide), fun b H3 g3 tb => ?_⟩
  exact ⟨b, t, _, x, rfl, tb, (f1.tx.mono g2).mono g3, nch_goodC (det_fo f1.un), f1.gx, (bb.adj.nch (det_fo f1.un)).mono (by decide), f1.bx, ((q0.from g1).from g2).from g3⟩
theorem sc_shown_point : FnScope ["point"] ["point"] (defScope s_shown_point) := ⟨rfl, rfl, rfl, by decide +kernel, rfl, by decide +kernel, by decide +kernel⟩
set_option maxHeartbeats 4000000 in
theorem cal_shown_point (F : Def K mg "shown_point" s_shown_point ["point"]) (C_check_point : Cal P w K mg base 4 "check_point" ["point"] (spCheckP K)) (B : Blt mg) {aF : Addr} (c_FAR : mg "FAR" = some (.ref aF) ∧ RelV (.ref aF) (Value.ref aF)) (kF : ∀ H, SqT K H aF [.int 1, .int 0]) {uN : Value} (c_FAR_NOTE : mg "FAR_NOTE" = some uN ∧ RelV (.str "far") uN) : Cal P w K mg base 5 "shown_point" ["point"] (spShownP K) := by
  refine F.cal (k := 4) sc_shown_point (fun vs H Q E h => ?_) (fun f cdv A outer s H vs Q E hr h => ?_)
  · obtain ⟨v, p, rfl, hv, gp, bp, q⟩ := h
    rfl
  obtain ⟨v, p, rfl, hv, gp, bp, q⟩ := h
  have hu := hr.units
  have hu8 : (A.deeper (envOfC "shown_point" (defScope s_shown_point) s.heap.objs.size f cdv)).units + 80 < cLine := by have := hr.un; omega
  refine ⟨_, (pss_cons (ps_expr (pe_callC C_check_point hr (pa_cons (pv 0) pa_nil)))
      (pss_cons (ps_if (pt_cmpR (op_eqT hu) (pv 0) (pe_glob rfl c_FAR.1 c_FAR.2) (nomark _)) (pss_one (ps_ret (pe_glob rfl c_FAR_NOTE.1 c_FAR_NOTE.2))) pss_nil)
      (pss_cons (ps_if (pt_cmpR op_eq (pe_ix ix_tupI (pv 0) pe_int (fun _ _ => rfl)) pe_int (nomark _)) (pss_one (ps_ret (pe_callTy call_str_int rfl B.str bt_str (pa_cons (pe_ix ix_tupI (pv 0) pe_int (fun _ _ => rfl)) pa_nil)))) pss_nil)
      (pss_one (ps_ret (pe_op op_add_str (pe_op op_add_str (pe_callTy call_str_int rfl B.str bt_str (pa_cons (pe_ix ix_tupI (pv 0) pe_int (fun _ _ => rfl)) pa_nil)) pe_str) (pe_callTy call_str_int rfl B.str bt_str (pa_cons (pe_ix ix_tupI (pv 0) pe_int (fun _ _ => rfl)) pa_nil)))))))), ?_⟩
  refine seq_by (fun σ H1 => Same H H1 ∧ σ = [some v]) (fun k hk => ?_) ?_
  · walk_at "rd"
    exact ⟨v, p, rfl, hv, bp.mono (by decide), gp, fun H1 g1 => hk _ _ ⟨g1, rfl⟩⟩
  rintro σ H1 ⟨g1, rfl⟩
  have hv := hv.mono g1
  have tF : Tp K H1 (.ref aF) (pl (1, 0)) := ⟨aF, rfl, kF _⟩
  by_cases h0 : p = (1, 0)
  · refine seq_by (fun _ _ => False) (fun k hk => ?_) (fun _ _ h => h.elim)
    walk_at "rd"
    refine ⟨_, hv, _, tF, ?_⟩
    rw [if_pos (by rw [h0])]
    refine q _ _ g1 ?_
    unfold shP; rw [if_pos h0]; rfl
  apply seq_det
  · intro k hk; walk_at "rd"
    refine ⟨_, hv, _, tF, ?_⟩
    rw [if_neg fun z => h0 (pl_inj.mp z)]
    exact hk
  by_cases h1 : p.2 = 1
  · refine seq_by (fun _ _ => False) (fun k hk => ?_) (fun _ _ h => h.elim)
    walk_at "rd"
    refine ⟨_, hv, _, at1 _ _ _, ?_⟩
    rw [if_pos h1]
    refine ⟨_, hv, _, at0 _ _, Bd.log (bp.1.mono (by decide)), ?_⟩
    refine q (T p.1) _ g1 ?_
    unfold shP; rw [if_neg h0, if_pos h1]; exact T_list _
  apply seq_det
  · intro k hk; walk_at "rd"
    refine ⟨_, hv, _, at1 _ _ _, ?_⟩
    rw [if_neg h1]
    exact hk
  have l1 := T_len (bp.1.mono (show 1000 ≤ 1900 by decide))
  have l2 := T_len (bp.2.mono (show 1000 ≤ 1900 by decide))
  have hs : (("/" : Str)).length = 1 := rfl
  walk_at "rd"
  refine ⟨_, hv, _, at0 _ _, Bd.log (bp.1.mono (by decide)), ?_⟩
  refine ⟨?_, _, hv, _, at1 _ _ _, Bd.log (bp.2.mono (by decide)), ?_, ?_⟩
  · exact Nat.le_trans (Nat.add_le_add l1 (Nat.le_of_eq hs)) (by decide)
  · show (T p.1 ++ ("/" : Str)).length + (T p.2).length ≤ sizeLine
    have : (T p.1 ++ ("/" : Str)).length = (T p.1).length + 1 := by
      rw [Tx.len_list, Tx.app_list, List.length_append, ← Tx.len_list, ← Tx.len_list]; rfl
    rw [this]
    exact Nat.le_trans (Nat.add_le_add (Nat.add_le_add l1 (Nat.le_refl 1)) l2) (by decide)
  · refine q (T p.1 ++ ("/" : Str) ++ T p.2) _ g1 ?_
    unfold shP; rw [if_neg h0, if_neg h1, Tx.app_list, Tx.app_list, T_list, T_list]
    show tx p.1 ++ [47] ++ tx p.2 = _
    simp
theorem sc__law_second : FnScope ["way", "points", "goals"] ["way", "points", "goals"] (defScope s__law_second) := ⟨rfl, rfl, rfl, by decide +kernel, rfl, by decide +kernel, by decide +kernel⟩
set_option maxHeartbeats 4000000 in
theorem cal__law_second (F : Def K mg "_law_second" s__law_second ["way", "points", "goals"]) (C_told_by : Cal P w K mg base 8 "told_by" ["points", "goals"] (spTold K)) (C_cross : Cal P w K mg base 8 "cross" ["one", "two", "three", "four"] (spCross K)) (C_fourth : Cal P w K mg base 8 "fourth" ["one", "two", "three", "number"] (spFourth K)) (C_shown_point : Cal P w K mg base 8 "shown_point" ["point"] (spShownP K)) : Cal P w K mg base 9 "_law_second" ["way", "points", "goals"] (spMet2 K) := by
  refine F.cal (k := 8) sc__law_second (fun vs H Q E h => ?_) (fun f cdv A outer s H vs Q E hr h => ?_)
  · obtain ⟨way, v, u, ps, gs, rfl, hv, hu_, hb, hg, q⟩ := h
    rfl
  obtain ⟨way, v, u, ps, gs, rfl, hv, hu_, hb, hg, q⟩ := h
  have hu := hr.units
  have hu8 : (A.deeper (envOfC "_law_second" (defScope s__law_second) s.heap.objs.size f cdv)).units + 80 < cLine := by have := hr.un; omega
  refine ⟨_, (pss_cons (ps_if (pt_cmpR op_eq (pv 0) pe_int (nomark _)) (pss_one (ps_ret (pe_callC C_told_by hr (pa_cons (pv 1) (pa_cons (pv 2) pa_nil))))) pss_nil)
      (pss_cons (ps_if (pt_cmpR op_eq (pv 0) pe_int (nomark _)) (pss_one (ps_ret (pe_callC C_cross hr (pa_cons (pe_ix ix_list (pv 1) pe_int (fun _ _ => rfl)) (pa_cons (pe_ix ix_list (pv 1) pe_int (fun _ _ => rfl)) (pa_cons (pe_ix ix_list (pv 1) pe_int (fun _ _ => rfl)) (pa_cons (pe_ix ix_list (pv 1) (pe_un un_neg pe_int) (fun _ _ => rfl)) pa_nil))))))) pss_nil)
      (pss_cons (ps_if (pt_cmpR op_eq (pv 0) pe_int (nomark _)) (pss_one (ps_ret (pe_callC C_fourth hr (pa_cons (pe_ix ix_list (pv 1) pe_int (fun _ _ => rfl)) (pa_cons (pe_ix ix_list (pv 1) pe_int (fun _ _ => rfl)) (pa_cons (pe_ix ix_list (pv 1) pe_int (fun _ _ => rfl)) (pa_cons (pe_ix ix_list (pv 1) (pe_un un_neg pe_int) (fun _ _ => rfl)) pa_nil))))))) pss_nil)
      (pss_one (ps_ret (pe_callC C_shown_point hr (pa_cons (pe_ix ix_list (pv 1) (pe_un un_neg pe_int) (fun _ _ => rfl)) pa_nil))))))), ?_⟩
  obtain ⟨n1, n2, nd1, nd2, hall⟩ := hg
  have glp : GoodL ps := fun p hp => ⟨hall p (List.mem_append_left _ hp), (hb p (List.mem_append_left _ hp)).mono (by decide)⟩
  have glg : GoodL gs := fun p hp => ⟨hall p (List.mem_append_right _ hp), (hb p (List.mem_append_right _ hp)).mono (by decide)⟩
  have tb : TellB K H v u ps gs := ⟨hv, hu_, glp, glg, by omega, by omega, by omega, nd1, nd2⟩
  obtain ⟨l1, ws1, rfl, hH1, ht1⟩ := hv
  obtain ⟨p, q', r, x, rfl⟩ := len4 n1
  obtain ⟨w1, w2, w3, w4, rfl, t1, t2, t3, t4⟩ := tps4 ht1
  have hq := SqL.of (K := K) hH1
  have un := (unlike_of glp nd1).un3
  have f4 : F4 K H w1 w2 w3 w4 p q' r x := ⟨t1, t2, t3, t4, un, (glp x (by simp)).1, (glp p (by simp)).2.mono (by decide), (glp q' (by simp)).2.mono (by decide), (glp r (by simp)).2.mono (by decide), (glp x (by simp)).2.mono (by decide)⟩
  walk_at "rd"
  refine ite2 (fun c => ?_) (fun c => ?_)
  · exact ⟨_, _, _, _, rfl, tb, fun w H' g _ => q w H' g⟩
  refine ite2 (fun c => ?_) (fun c => ?_)
  · exact ⟨_, hq, _, at0 _ _, _, hq, _, at1 _ _ _, _, hq, _, at2 _ _ _ _, _, hq, _, atL4 _ _ _ _, _, _, _, _, p, q', r, x, rfl, f4, fun w H' g _ => q w H' g⟩
  refine ite2 (fun c => ?_) (fun c => ?_)
  · exact ⟨_, hq, _, at0 _ _, _, hq, _, at1 _ _ _, _, hq, _, at2 _ _ _ _, _, hq, _, atL4 _ _ _ _, _, _, _, _, p, q', r, x, rfl, f4, fun w H' g _ => q w H' g⟩
  · exact ⟨_, hq, _, atL4 _ _ _ _, _, x, rfl, t4, (glp x (by simp)).1, (glp x (by simp)).2.mono (by decide), fun x H' g _ => q _ H' g⟩
set_option maxHeartbeats 4000000 in
theorem calx_check_told (F : Def K mg "check_told" s_check_told ["points", "goals"]) (C_check_told : Cal P w K mg base 5 "check_told" ["points", "goals"] (spCheckTold K)) (X_check_point : CalX P w K mg base 5 "check_point" ["point"] (fun vs H Q E => (spCheckP K) vs H Q E ∨ (spCheckPX K np) vs H Q E)) (C_unlike : Cal P w K mg base 5 "unlike" ["points"] (spUnlike K)) (B : Blt mg) (cls : ClsOk K mg nc nn np nth nt le) {uF : Value} (c_FEWEST_POINTS : mg "FEWEST_POINTS" = some uF ∧ RelV (.int 3) uF) {uP : Value} (c_MOST_POINTS : mg "MOST_POINTS" = some uP ∧ RelV (.int 8) uP) : CalX P w K mg base 6 "check_told" ["points", "goals"] (fun vs H Q E => (spCheckTold K) vs H Q E ∨ (spToldX K np nth) vs H Q E) := by
  refine CalX.or (CalX.of (C_check_told.mono (by decide))) ?_
  refine F.calX (k := 5) sc_check_told (fun vs H Q E h => ?_) (fun f cdv A outer s H vs Q E hr h => ?_)
  · obtain ⟨v, u, ps, gs, rfl, h1, h2, hb, n1, n2, q⟩ := h
    rfl
  obtain ⟨v, u, ps, gs, rfl, h1, h2, hb, n1, n2, q⟩ := h
  have hu := hr.units
  have hu8 : (A.deeper (envOfC "check_told" (defScope s_check_told) s.heap.objs.size f cdv)).units + 80 < cLine := by have := hr.un; omega
  refine ⟨_, (pss_cons (ps_for PassesOwn.leaving rfl (pi_list (pe_op op_cat (pv 0) (pv 1))) (pg_name (i := 2) sc_check_told.nd rfl (Or.inl rfl)) (pss_one (ps_expr (pe_callX X_check_point hr passes_cx (pa_cons (pv 2) pa_nil)))))
      (pss_cons (ps_if (pt_cmpR op_ne (pe_callB call_len_seq rfl B.len bt_len (pa_cons (pv 0) pa_nil)) (pe_callB call_len_seq rfl B.len bt_len (pa_cons (pv 1) pa_nil)) (nomark _)) (pss_one (ps_raise rfl made_ok (cls.own cls.b_NoThree (j := 3) rfl) rfl (pa_cons pe_str pa_nil))) pss_nil)
      (pss_cons (ps_if (PW.pt (pw_or (pt_cmpR op_lt (pe_callB call_len_seq rfl B.len bt_len (pa_cons (pv 0) pa_nil)) (pe_glob rfl c_FEWEST_POINTS.1 c_FEWEST_POINTS.2) (nomark _)) (pw_or1 (pt_cmpR op_gt (pe_callB call_len_seq rfl B.len bt_len (pa_cons (pv 0) pa_nil)) (pe_glob rfl c_MOST_POINTS.1 c_MOST_POINTS.2) (nomark _))))) (pss_one (ps_raise rfl made_ok (cls.own cls.b_NoThree (j := 3) rfl) rfl (pa_cons pe_str pa_nil))) pss_nil)
      (pss_one (ps_if (PW.pt (pw_or (pt_not (pt_val (pe_callC C_unlike hr (pa_cons (pv 0) pa_nil)))) (pw_or1 (pt_not (pt_val (pe_callC C_unlike hr (pa_cons (pv 1) pa_nil))))))) (pss_one (ps_raise rfl made_ok (cls.own cls.b_NoThree (j := 3) rfl) rfl (pa_cons pe_str pa_nil))) pss_nil))))), ?_⟩
  obtain ⟨l1, ws1, rfl, hH1, ht1⟩ := h1
  obtain ⟨l2, ws2, rfl, hH2, ht2⟩ := h2
  have hq1 := SqL.of (K := K) hH1
  have hq2 := SqL.of (K := K) hH2
  have L1 : ws1.length = ps.length := by rw [ht1.length, List.length_map]
  have L2' : ws2.length = gs.length := by rw [ht2.length, List.length_map]
  refine seq_by (fun σ H1 => Same H H1 ∧ (∀ p ∈ ps ++ gs, GoodPt p) ∧ ∃ r, σ = [some (.ref l1), some (.ref l2), r]) (fun k hk => ?_) ?_
  · refine for_src (fun x H1 => ∃ l, x = .ref l ∧ Same H H1 ∧ SqL K H1 l (ws1 ++ ws2)) (fun k hk => ?_) ?_
    · walk_at "rd"
      refine ⟨ws1, hH1, ws2, hH2, by rw [L1, L2']; exact Nat.le_of_lt (small1000 (by omega)), fun p hp => hk _ _ ⟨p, rfl, same_new hp _, SqL.of upd_same⟩⟩
    · rintro x H1 ⟨l, rfl, g1, hq⟩
      refine ⟨l, rfl, ⟨_, hq⟩, forL (xs := ws1 ++ ws2) (fun i σ H2 => Same H1 H2 ∧ (∀ j p, j < i → (ps ++ gs)[j]? = some p → GoodPt p) ∧ ∃ r, σ = [some (.ref l1), some (.ref l2), r]) ⟨Same.refl _, fun j p hj => absurd hj (Nat.not_lt_zero _), none, rfl⟩ (fun i σ H2 _ h => h.1.seq hq) ?_ ?_⟩
      · rintro Pv' hP i x σ H2 hx ⟨g2, ha, r, rfl⟩
        obtain ⟨ns, en, tn⟩ := (Tps.append (ht1.mono g1) (ht2.mono g1)).at hx
        rw [← List.map_append] at en
        obtain ⟨p, hp, rfl⟩ := map_at en
        have mp := List.mem_of_getElem? hp
        walk_at "rd"
        by_cases gp : GoodPt p
        · refine .inl ⟨x, p, rfl, tn.mono g2, (hb p mp).mono (by decide), gp, fun H3 g3 => hP _ _ _ ⟨g2.trans g3, fun j p' hj e => ?_, _, rfl⟩⟩
          by_cases hji : j < i
          · exact ha j p' hji e
          · have : j = i := by omega
            subst this
            rw [hp] at e; cases e; exact gp
        · rcases q with ⟨_, q⟩ | ⟨hall, _⟩
          · exact .inr ⟨x, p, rfl, tn.mono g2, (hb p mp).mono (by decide), gp, fun H3 g3 => q _ (g1.trans (g2.trans g3))⟩
          · exact absurd (hall p mp) gp
      · rintro σ H2 ⟨g2, ha, r, rfl⟩
        refine hk _ _ ⟨g1.trans g2, fun p hp => ?_, r, rfl⟩
        obtain ⟨j, hj, e⟩ := List.getElem_of_mem hp
        exact ha j p (by rw [List.length_append] at hj ⊢; omega) (by rw [← e]; exact List.getElem?_eq_getElem hj)
  rintro σ H1 ⟨g1, hall, r, rfl⟩
  obtain ⟨hno, q⟩ : ¬ (ps.length = gs.length ∧ 3 ≤ ps.length ∧ ps.length ≤ 8 ∧ ps.Nodup ∧ gs.Nodup) ∧ ∀ H', Same H H' → E (.ref nth) none H' := by
    rcases q with ⟨⟨p, hp, hg⟩, _⟩ | ⟨_, hno, q⟩
    · exact absurd (hall p hp) hg
    · exact ⟨hno, q⟩
  have q1 := g1.seq hq1
  have q2 := g1.seq hq2
  by_cases c1 : ps.length = gs.length
  case neg =>
    walk_at "rd"
    refine ⟨ws1, .inl q1, ws2, .inl q2, ?_⟩
    rw [if_pos (by omega)]
    exact q _ g1
  apply seq_det
  · intro k hk; walk_at "rd"
    refine ⟨ws1, .inl q1, ws2, .inl q2, ?_⟩
    rw [if_neg (by omega)]
    exact hk
  by_cases c2 : 3 ≤ ps.length
  case neg =>
    walk_at "rd"
    refine ⟨ws1, .inl q1, ?_⟩
    rw [if_pos (by omega)]
    exact q _ g1
  by_cases c3 : ps.length ≤ 8
  case neg =>
    walk_at "rd"
    refine ⟨ws1, .inl q1, ?_⟩
    rw [if_neg (by omega)]
    refine ⟨ws1, .inl q1, ?_⟩
    rw [if_pos (by omega)]
    exact q _ g1
  apply seq_det
  · intro k hk; walk_at "rd"
    refine ⟨ws1, .inl q1, ?_⟩
    rw [if_neg (by omega)]
    refine ⟨ws1, .inl q1, ?_⟩
    rw [if_neg (by omega)]
    exact hk
  walk_at "rd"
  refine ⟨.ref l1, ps, rfl, ⟨l1, ws1, rfl, .inl q1, ht1.mono g1⟩, by omega, ?_⟩
  by_cases nd1 : ps.Nodup
  case neg =>
    rw [decide_eq_false nd1]
    walk_at "rd"
    exact q _ g1
  rw [decide_eq_true nd1]
  walk_at "rd"
  refine ⟨.ref l2, gs, rfl, ⟨l2, ws2, rfl, .inl q2, ht2.mono g1⟩, by omega, ?_⟩
  rw [decide_eq_false (fun nd2 => hno ⟨c1, c2, c3, nd1, nd2⟩)]
  walk_at "rd"
  exact q H1 g1
set_option maxHeartbeats 4000000 in
theorem calx_told_by (F : Def K mg "told_by" s_told_by ["points", "goals"]) (C_told_by : Cal P w K mg base 7 "told_by" ["points", "goals"] (spTold K)) (X_check_told : CalX P w K mg base 7 "check_told" ["points", "goals"] (fun vs H Q E => (spCheckTold K) vs H Q E ∨ (spToldX K np nth) vs H Q E)) : CalX P w K mg base 8 "told_by" ["points", "goals"] (fun vs H Q E => (spTold K) vs H Q E ∨ (spToldX K np nth) vs H Q E) := by
  refine CalX.or (CalX.of (C_told_by.mono (by decide))) ?_
  refine F.calX (k := 7) sc_told_by (fun vs H Q E h => ?_) (fun f cdv A outer s H vs Q E hr h => ?_)
  · obtain ⟨v, u, ps, gs, rfl, h⟩ := h
    rfl
  obtain ⟨v, u, ps, gs, rfl, h⟩ := h
  have hu := hr.units
  have hu8 : (A.deeper (envOfC "told_by" (defScope s_told_by) s.heap.objs.size f cdv)).units + 80 < cLine := by have := hr.un; omega
  refine ⟨_, (pss_cons (ps_expr (pe_callX X_check_told hr passes_cx (pa_cons (pv 0) (pa_cons (pv 1) pa_nil))))
      pss_never), ?_⟩
  walk_at "rd"
  exact .inr ⟨v, u, ps, gs, rfl, h⟩
set_option maxHeartbeats 4000000 in
theorem calx_check_three (F : Def K mg "check_three" s_check_three ["one", "two", "three", "last"]) (C_check_three : Cal P w K mg base 5 "check_three" ["one", "two", "three", "last"] (spCheckThree K)) (X_check_point : CalX P w K mg base 5 "check_point" ["point"] (fun vs H Q E => (spCheckP K) vs H Q E ∨ (spCheckPX K np) vs H Q E)) (C_unlike : Cal P w K mg base 5 "unlike" ["points"] (spUnlike K)) (cls : ClsOk K mg nc nn np nth nt le) : CalX P w K mg base 6 "check_three" ["one", "two", "three", "last"] (fun vs H Q E => (spCheckThree K) vs H Q E ∨ (spThreeX K np nth) vs H Q E) := by
  refine CalX.or (CalX.of (C_check_three.mono (by decide))) ?_
  refine F.calX (k := 5) sc_check_three (fun vs H Q E h => ?_) (fun f cdv A outer s H vs Q E hr h => ?_)
  · obtain ⟨u, v, w, t, p, q, r, x, rfl, hu_, hv, hw, ht, hb, q0⟩ := h
    rfl
  obtain ⟨u, v, w, t, p, q, r, x, rfl, hu_, hv, hw, ht, hb, q0⟩ := h
  have hu := hr.units
  have hu8 : (A.deeper (envOfC "check_three" (defScope s_check_three) s.heap.objs.size f cdv)).units + 80 < cLine := by have := hr.un; omega
  refine ⟨_, (pss_cons (ps_for PassesOwn.leaving rfl (pi_tup (pe_tup (pa_cons (pv 0) (pa_cons (pv 1) (pa_cons (pv 2) (pa_cons (pv 3) pa_nil)))))) (pg_name (i := 4) sc_check_three.nd rfl (Or.inl rfl)) (pss_one (ps_expr (pe_callX X_check_point hr passes_cx (pa_cons (pv 4) pa_nil)))))
      (pss_one (ps_if (pt_not (pt_val (pe_callC C_unlike hr (pa_cons (pe_tup (pa_cons (pv 0) (pa_cons (pv 1) (pa_cons (pv 2) pa_nil)))) pa_nil)))) (pss_one (ps_raise rfl made_ok (cls.own cls.b_NoThree (j := 3) rfl) rfl (pa_cons pe_str pa_nil))) pss_nil))), ?_⟩
  have tps : Tps K H [u, v, w, t] ([p, q, r, x].map pl) := .cons hu_ (.cons hv (.cons hw (.cons ht .nil)))
  refine seq_by (fun σ H1 => Same H H1 ∧ (∀ y ∈ [p, q, r, x], GoodPt y) ∧ ∃ z, σ = [some u, some v, some w, some t, z]) (fun k hk => ?_) ?_
  · refine for_srcT (fun y H1 => ∃ l, y = .ref l ∧ Same H H1 ∧ SqT K H1 l [u, v, w, t]) (fun k hk => ?_) ?_
    · walk_at "rd"
      exact ⟨by show 4 ≤ sizeLine; decide, fun p hp => hk _ _ ⟨p, rfl, same_new hp _, SqT.of upd_same⟩⟩
    · rintro y H1 ⟨l, rfl, g1, hq⟩
      refine ⟨l, rfl, ⟨_, hq⟩, forT (xs := [u, v, w, t]) (fun i σ H2 => Same H1 H2 ∧ (∀ j y, j < i → [p, q, r, x][j]? = some y → GoodPt y) ∧ ∃ z, σ = [some u, some v, some w, some t, z]) ⟨Same.refl _, fun j p hj => absurd hj (Nat.not_lt_zero _), none, rfl⟩ (fun i σ H2 _ h => Same.tup h.1 hq) ?_ ?_⟩
      · rintro Pv' hP i x0 σ H2 hx ⟨g2, ha, r0, rfl⟩
        obtain ⟨ns, en, tn⟩ := (tps.mono (g1.trans g2)).at hx
        obtain ⟨y, hy, rfl⟩ := map_at en
        have my := List.mem_of_getElem? hy
        walk_at "rd"
        by_cases gy : GoodPt y
        · refine .inl ⟨x0, y, rfl, tn, (hb y my).mono (by decide), gy, fun H3 g3 => hP _ _ _ ⟨g2.trans g3, fun j p' hj e => ?_, _, rfl⟩⟩
          by_cases hji : j < i
          · exact ha j p' hji e
          · have : j = i := by omega
            subst this
            rw [hy] at e; cases e; exact gy
        · rcases q0 with ⟨_, q⟩ | ⟨hall, _⟩
          · exact .inr ⟨x0, y, rfl, tn, (hb y my).mono (by decide), gy, fun H3 g3 => q _ (g1.trans (g2.trans g3))⟩
          · exact absurd (hall y my) gy
      · rintro σ H2 ⟨g2, ha, z, rfl⟩
        refine hk _ _ ⟨g1.trans g2, fun p hp => ?_, z, rfl⟩
        obtain ⟨j, hj, e⟩ := List.getElem_of_mem hp
        exact ha j p hj (by rw [← e]; exact List.getElem?_eq_getElem hj)
  rintro σ H1 ⟨g1, hall, z, rfl⟩
  obtain ⟨hno, q0⟩ : ¬ [p, q, r].Nodup ∧ ∀ H', Same H H' → E (.ref nth) none H' := by
    rcases q0 with ⟨⟨p, hp, hg⟩, _⟩ | ⟨_, hno, q⟩
    · exact absurd (hall p hp) hg
    · exact ⟨hno, q⟩
  walk_at "rd"
  refine ⟨by show 3 ≤ sizeLine; decide, fun p0 hp0 => ?_⟩
  have g2 := same_new hp0 (.tup [u, v, w])
  have g3 := g1.trans g2
  refine ⟨.ref p0, [p, q, r], rfl, ⟨p0, [u, v, w], rfl, .inr (SqT.of upd_same), .cons (hu_.mono g3) (.cons (hv.mono g3) (.cons (hw.mono g3) .nil))⟩, by show 3 ≤ 17; decide, ?_⟩
  rw [decide_eq_false hno]
  walk_at "rd"
  exact q0 _ g3
set_option maxHeartbeats 4000000 in
theorem calx_cross (F : Def K mg "cross" s_cross ["one", "two", "three", "four"]) (C_cross : Cal P w K mg base 6 "cross" ["one", "two", "three", "four"] (spCross K)) (X_check_three : CalX P w K mg base 6 "check_three" ["one", "two", "three", "last"] (fun vs H Q E => (spCheckThree K) vs H Q E ∨ (spThreeX K np nth) vs H Q E)) : CalX P w K mg base 7 "cross" ["one", "two", "three", "four"] (fun vs H Q E => (spCross K) vs H Q E ∨ (spThreeX K np nth) vs H Q E) := by
  refine CalX.or (CalX.of (C_cross.mono (by decide))) ?_
  refine F.calX (k := 6) sc_cross (fun vs H Q E h => ?_) (fun f cdv A outer s H vs Q E hr h => ?_)
  · obtain ⟨u, v, w, t, p, q, r, x, rfl, h⟩ := h
    rfl
  obtain ⟨u, v, w, t, p, q, r, x, rfl, h⟩ := h
  have hu := hr.units
  have hu8 : (A.deeper (envOfC "cross" (defScope s_cross) s.heap.objs.size f cdv)).units + 80 < cLine := by have := hr.un; omega
  refine ⟨_, (pss_cons (ps_expr (pe_callX X_check_three hr passes_cx (pa_cons (pv 0) (pa_cons (pv 1) (pa_cons (pv 2) (pa_cons (pv 3) pa_nil))))))
      pss_never), ?_⟩
  walk_at "rd"
  exact .inr ⟨u, v, w, t, p, q, r, x, rfl, h⟩
set_option maxHeartbeats 4000000 in
theorem calx_fourth (F : Def K mg "fourth" s_fourth ["one", "two", "three", "number"]) (C_fourth : Cal P w K mg base 6 "fourth" ["one", "two", "three", "number"] (spFourth K)) (X_check_three : CalX P w K mg base 6 "check_three" ["one", "two", "three", "last"] (fun vs H Q E => (spCheckThree K) vs H Q E ∨ (spThreeX K np nth) vs H Q E)) : CalX P w K mg base 7 "fourth" ["one", "two", "three", "number"] (fun vs H Q E => (spFourth K) vs H Q E ∨ (spThreeX K np nth) vs H Q E) := by
  refine CalX.or (CalX.of (C_fourth.mono (by decide))) ?_
  refine F.calX (k := 6) sc_fourth (fun vs H Q E h => ?_) (fun f cdv A outer s H vs Q E hr h => ?_)
  · obtain ⟨u, v, w, t, p, q, r, x, rfl, h⟩ := h
    rfl
  obtain ⟨u, v, w, t, p, q, r, x, rfl, h⟩ := h
  have hu := hr.units
  have hu8 : (A.deeper (envOfC "fourth" (defScope s_fourth) s.heap.objs.size f cdv)).units + 80 < cLine := by have := hr.un; omega
  refine ⟨_, (pss_cons (ps_expr (pe_callX X_check_three hr passes_cx (pa_cons (pv 0) (pa_cons (pv 1) (pa_cons (pv 2) (pa_cons (pv 3) pa_nil))))))
      pss_never), ?_⟩
  walk_at "rd"
  exact .inr ⟨u, v, w, t, p, q, r, x, rfl, h⟩
set_option maxHeartbeats 4000000 in
theorem calx_shown_point (F : Def K mg "shown_point" s_shown_point ["point"]) (C_shown_point : Cal P w K mg base 5 "shown_point" ["point"] (spShownP K)) (X_check_point : CalX P w K mg base 5 "check_point" ["point"] (fun vs H Q E => (spCheckP K) vs H Q E ∨ (spCheckPX K np) vs H Q E)) : CalX P w K mg base 6 "shown_point" ["point"] (fun vs H Q E => (spShownP K) vs H Q E ∨ (spCheckPX K np) vs H Q E) := by
  refine CalX.or (CalX.of (C_shown_point.mono (by decide))) ?_
  refine F.calX (k := 5) sc_shown_point (fun vs H Q E h => ?_) (fun f cdv A outer s H vs Q E hr h => ?_)
  · obtain ⟨v, p, rfl, hv, hb, hg, q⟩ := h
    rfl
  obtain ⟨v, p, rfl, hv, hb, hg, q⟩ := h
  have hu := hr.units
  have hu8 : (A.deeper (envOfC "shown_point" (defScope s_shown_point) s.heap.objs.size f cdv)).units + 80 < cLine := by have := hr.un; omega
  refine ⟨_, (pss_cons (ps_expr (pe_callX X_check_point hr passes_cx (pa_cons (pv 0) pa_nil)))
      pss_never), ?_⟩
  walk_at "rd"
  exact .inr ⟨v, p, rfl, hv, hb, hg, q⟩
set_option maxHeartbeats 4000000 in
theorem calx__law_second (F : Def K mg "_law_second" s__law_second ["way", "points", "goals"]) (C__law_second : Cal P w K mg base 9 "_law_second" ["way", "points", "goals"] (spMet2 K)) (X_told_by : CalX P w K mg base 9 "told_by" ["points", "goals"] (fun vs H Q E => (spTold K) vs H Q E ∨ (spToldX K np nth) vs H Q E)) (X_cross : CalX P w K mg base 9 "cross" ["one", "two", "three", "four"] (fun vs H Q E => (spCross K) vs H Q E ∨ (spThreeX K np nth) vs H Q E)) (X_fourth : CalX P w K mg base 9 "fourth" ["one", "two", "three", "number"] (fun vs H Q E => (spFourth K) vs H Q E ∨ (spThreeX K np nth) vs H Q E)) (X_shown_point : CalX P w K mg base 9 "shown_point" ["point"] (fun vs H Q E => (spShownP K) vs H Q E ∨ (spCheckPX K np) vs H Q E)) : CalX P w K mg base 10 "_law_second" ["way", "points", "goals"] (fun vs H Q E => (spMet2 K) vs H Q E ∨ (spMet2X K nc nn np nth nt) vs H Q E) := by
  refine CalX.or (CalX.of (C__law_second.mono (by decide))) ?_
  refine F.calX (k := 9) sc__law_second (fun vs H Q E h => ?_) (fun f cdv A outer s H vs Q E hr h => ?_)
  · obtain ⟨way, v, u, ps, gs, j, C, rfl, hv, hu_, hb, n1, n2, hbad, hC, q⟩ := h
    rfl
  obtain ⟨way, v, u, ps, gs, j, C, rfl, hv, hu_, hb, n1, n2, hbad, hC, q⟩ := h
  have hu := hr.units
  have hu8 : (A.deeper (envOfC "_law_second" (defScope s__law_second) s.heap.objs.size f cdv)).units + 80 < cLine := by have := hr.un; omega
  refine ⟨_, (pss_cons (ps_if (pt_cmpR op_eq (pv 0) pe_int (nomark _)) (pss_one (ps_ret (pe_callX X_told_by hr passes_cx (pa_cons (pv 1) (pa_cons (pv 2) pa_nil))))) pss_nil)
      (pss_cons (ps_if (pt_cmpR op_eq (pv 0) pe_int (nomark _)) (pss_one (ps_ret (pe_callX X_cross hr passes_cx (pa_cons (pe_ix ix_list (pv 1) pe_int (fun _ _ => rfl)) (pa_cons (pe_ix ix_list (pv 1) pe_int (fun _ _ => rfl)) (pa_cons (pe_ix ix_list (pv 1) pe_int (fun _ _ => rfl)) (pa_cons (pe_ix ix_list (pv 1) (pe_un un_neg pe_int) (fun _ _ => rfl)) pa_nil))))))) pss_nil)
      (pss_cons (ps_if (pt_cmpR op_eq (pv 0) pe_int (nomark _)) (pss_one (ps_ret (pe_callX X_fourth hr passes_cx (pa_cons (pe_ix ix_list (pv 1) pe_int (fun _ _ => rfl)) (pa_cons (pe_ix ix_list (pv 1) pe_int (fun _ _ => rfl)) (pa_cons (pe_ix ix_list (pv 1) pe_int (fun _ _ => rfl)) (pa_cons (pe_ix ix_list (pv 1) (pe_un un_neg pe_int) (fun _ _ => rfl)) pa_nil))))))) pss_nil)
      (pss_one (ps_ret (pe_callX X_shown_point hr passes_cx (pa_cons (pe_ix ix_list (pv 1) (pe_un un_neg pe_int) (fun _ _ => rfl)) pa_nil))))))), ?_⟩
  have hb2 : ∀ p ∈ ps ++ gs, BdPt 200 p := fun p hp => (hb p hp).mono (by decide)
  obtain ⟨l1, ws1, rfl, hH1, ht1⟩ := id hv
  walk_at "rd"
  rcases hbad with ⟨rfl, hl⟩ | ⟨hw, p, q', r, x, rfl, h3⟩ | ⟨rfl, p, q', r, x, rfl, rfl, gx⟩
  · rw [if_pos rfl]
    refine .inr ⟨_, _, _, _, rfl, hv, hu_, hb2, n1, n2, ?_⟩
    rcases hl with ⟨rfl, h⟩ | ⟨rfl, h, h'⟩
    · cases hC; exact .inl ⟨h, q⟩
    · cases hC; exact .inr ⟨h, h', q⟩
  all_goals obtain ⟨w1, w2, w3, w4, rfl, t1, t2, t3, t4⟩ := tps4 ht1
  all_goals have hq := SqL.of (K := K) hH1
  · have fin : ∀ (Q' : VK), spThreeX K np nth [w1, w2, w3, w4] H Q' E := fun Q' => by
      refine ⟨_, _, _, _, p, q', r, x, rfl, t1, t2, t3, t4, fun y hy => hb2 y (List.mem_append_left _ hy), ?_⟩
      rcases h3 with ⟨rfl, h⟩ | ⟨rfl, h, h'⟩
      · cases hC; exact .inl ⟨h, q⟩
      · cases hC; exact .inr ⟨h, h', q⟩
    rw [if_neg (by omega)]
    rcases hw with rfl | rfl
    · rw [if_pos rfl]
      exact ⟨_, hq, _, at0 _ _, _, hq, _, at1 _ _ _, _, hq, _, at2 _ _ _ _, _, hq, _, atL4 _ _ _ _, .inr (fin _)⟩
    · rw [if_neg (by decide), if_pos rfl]
      exact ⟨_, hq, _, at0 _ _, _, hq, _, at1 _ _ _, _, hq, _, at2 _ _ _ _, _, hq, _, atL4 _ _ _ _, .inr (fin _)⟩
  · cases hC
    rw [if_neg (by decide), if_neg (by decide), if_neg (by decide)]
    exact ⟨_, hq, _, atL4 _ _ _ _, .inr ⟨_, x, rfl, t4, (hb2 x (by simp)).mono (by decide), gx, q⟩⟩
theorem sc__law_which : FnScope ["e", "told"] ["e"] (defScope s__law_which) := ⟨rfl, rfl, rfl, by decide +kernel, rfl, by decide +kernel, by decide +kernel⟩
set_option maxHeartbeats 4000000 in
theorem calu__law_which (F : Def K mg "_law_which" s__law_which ["e"]) (B : Blt mg) (cls : ClsOk K mg nc nn np nth nt le) : CalU P w K mg base 1 "_law_which" ["e"] (spWhich K nc nn np nth nt) := by
  refine F.calU (k := 0) sc__law_which (fun vs H Q E h => ?_) (fun f cdv A outer s H vs Q E hr h => ?_)
  · obtain ⟨x, C, j, t, rfl, hx, kd, ht, q⟩ := h
    rfl
  obtain ⟨x, C, j, t, rfl, hx, kd, ht, q⟩ := h
  have hu8 : (A.deeper (envOfC "_law_which" (defScope s__law_which) s.heap.objs.size f cdv)).units + 80 < cLine := by have := hr.un; omega
  refine ⟨_, (pss_cons (ps_set (i := 1) sc__law_which.nd rfl (Or.inl rfl) (pe_lst (pa_cons (pe_callB call_isinstX rfl B.isinstance bt_isinstance (pa_cons (pv 0) (pa_cons (pe_glob (v := .ref _) rfl cls.b_NoChange rfl) pa_nil))) (pa_cons (pe_callB call_isinstX rfl B.isinstance bt_isinstance (pa_cons (pv 0) (pa_cons (pe_glob (v := .ref _) rfl cls.b_NoNote rfl) pa_nil))) (pa_cons (pe_callB call_isinstX rfl B.isinstance bt_isinstance (pa_cons (pv 0) (pa_cons (pe_glob (v := .ref _) rfl cls.b_NoPoint rfl) pa_nil))) pa_nil)))))
      (pss_cons (ps_set (i := 1) sc__law_which.nd rfl (Or.inl rfl) (pe_op op_cat (pv 1) (pe_lst (pa_cons (pe_callB call_isinstX rfl B.isinstance bt_isinstance (pa_cons (pv 0) (pa_cons (pe_glob (v := .ref _) rfl cls.b_NoThree rfl) pa_nil))) (pa_cons (pe_callB call_isinstX rfl B.isinstance bt_isinstance (pa_cons (pv 0) (pa_cons (pe_glob (v := .ref _) rfl cls.b_NoTimes rfl) pa_nil))) pa_nil)))))
      (pss_cons (ps_if (PW.pt (pw_or (pt_not (pt_val (pe_callB call_isinstX rfl B.isinstance bt_isinstance (pa_cons (pv 0) (pa_cons (pe_bltn (v := .ty "ValueError") rfl cls.b_ValueError bt_ValueError rfl) pa_nil))))) (pw_or1 (pt_cmpR op_ne (pe_bm PySem.F.plainAttrs_list PySem.F.slot_list_count PySem.F.type_list_count mt_countB (pv 1) (pa_cons pe_bl pa_nil)) pe_int (nomark _))))) (pss_one (ps_ret pe_str)) pss_nil)
      (pss_one (ps_ret (pe_ix ix_list (pe_lst (pa_cons pe_str (pa_cons pe_str (pa_cons pe_str (pa_cons pe_str (pa_cons pe_str pa_nil)))))) (pe_bm PySem.F.plainAttrs_list PySem.F.slot_list_index PySem.F.type_list_index mt_indexB (pv 1) (pa_cons pe_bl pa_nil)) (fun _ _ => rfl))))))), ?_⟩
  refine seq_by (fun σ H1 => ∃ l, Same H H1 ∧ H1 l = some (.lst ([decide (j = 0), decide (j = 1), decide (j = 2)].map V.bl)) ∧ σ = [some (.ref x), some (.ref l)]) (fun k hk => ?_) ?_
  · walk_at "rd"
    refine inst_own hx kd.exc kd.k0 (inst_own hx kd.exc kd.k1 (inst_own hx kd.exc kd.k2 ?_))
    try walk_at "rd"
    refine ⟨(by show 3 ≤ sizeLine; decide), fun p hp => hk _ _ ⟨p, same_new hp _, upd_same, rfl⟩⟩
  rintro σ H1 ⟨l, g1, hl, rfl⟩
  have hx1 : H1 x = some (excO x C) := g1 _ _ hx
  refine seq_by (fun σ H2 => ∃ l, Same H H2 ∧ H2 l = some (.lst ([decide (j = 0), decide (j = 1), decide (j = 2), decide (j = 3), decide (j = 4)].map V.bl)) ∧ σ = [some (.ref x), some (.ref l)]) (fun k hk => ?_) ?_
  · walk_at "rd"
    refine inst_own hx1 kd.exc kd.k3 (inst_own hx1 kd.exc kd.k4 ?_)
    try walk_at "rd"
    refine ⟨(by show 2 ≤ sizeLine; decide), fun p hp => ⟨_, same_new hp _ _ _ hl, _, upd_same, (by show 5 ≤ sizeLine; decide), fun p2 hp2 => hk _ _ ⟨p2, g1.trans ((same_new hp _).trans (same_new hp2 _)), upd_same, rfl⟩⟩⟩
  rintro σ H2 ⟨l2, g2, hl2, rfl⟩
  have hx2 : H2 x = some (excO x C) := g2 _ _ hx
  have hc : ([decide (j = 0), decide (j = 1), decide (j = 2), decide (j = 3), decide (j = 4)].countP id : Nat) = 1 := by
    have := kd.lt
    rcases j with _ | _ | _ | _ | _ | j
    all_goals first | rfl | omega
  apply seq_det
  · intro k hk; walk_at "rd"
    refine inst_ty hx2 kd.exc kd.ve ?_
    walk_at "rd"
    refine ⟨.inl ⟨rfl, _, SqL.of hl2⟩, l2, _, rfl, rfl, hl2, ?_⟩
    rw [hc]
    refine ⟨rfl, ?_⟩
    rw [if_neg (fun z => z rfl)]
    exact hk
  walk_at "rd"
  refine ⟨(by show 5 ≤ sizeLine; decide), fun p hp => ⟨.inl ⟨rfl, _, SqL.of (same_new hp _ _ _ hl2)⟩, l2, _, j, rfl, rfl, same_new hp _ _ _ hl2, ?_, ?_, _, (j : Int), rfl, SqL.of upd_same, .str t, ?_, q _ (g2.trans (same_new hp _))⟩⟩
  · have := kd.lt
    rcases j with _ | _ | _ | _ | _ | j
    all_goals first | rfl | omega
  · intro m hm
    have := kd.lt
    rcases j with _ | _ | _ | _ | _ | j
    all_goals first | omega | (rcases m with _ | _ | _ | _ | _ | m; all_goals first | rfl | omega)
  · have := kd.lt
    rcases j with _ | _ | _ | _ | _ | j
    all_goals first | (cases ht; rfl) | omega
theorem sc__law_met : FnScope ["way", "change", "other", "points", "goals", "times", "which", "e"] ["way", "change", "other", "points", "goals", "times"] (defScope s__law_met) := ⟨rfl, rfl, rfl, by decide +kernel, rfl, by decide +kernel, by decide +kernel⟩
set_option maxHeartbeats 4000000 in
theorem cal__law_met (F : Def K mg "_law_met" s__law_met ["way", "change", "other", "points", "goals", "times"]) (X__law_first : CalX P w K mg base 10 "_law_first" ["way", "change", "other", "point", "times"] (fun vs H Q E => (spMet1 K) vs H Q E ∨ (spMet1X K nc nn np nth nt) vs H Q E)) (X__law_second : CalX P w K mg base 10 "_law_second" ["way", "points", "goals"] (fun vs H Q E => (spMet2 K) vs H Q E ∨ (spMet2X K nc nn np nth nt) vs H Q E)) (U__law_which : CalU P w K mg base 10 "_law_which" ["e"] (spWhich K nc nn np nth nt)) (cls : ClsOk K mg nc nn np nth nt le) : Cal P w K mg base 11 "_law_met" ["way", "change", "other", "points", "goals", "times"] (spMet K) := by
  refine F.cal (k := 10) sc__law_met (fun vs H Q E h => ?_) (fun f cdv A outer s H vs Q E hr h => ?_)
  · obtain ⟨way, t, v, u, w, z, m, n, ps, gs, a, rfl, hv, hu_, hw, hz, bm, bn, hb, n1, n2, hmet, q⟩ := h
    rfl
  obtain ⟨way, t, v, u, w, z, m, n, ps, gs, a, rfl, hv, hu_, hw, hz, bm, bn, hb, n1, n2, hmet, q⟩ := h
  have hu := hr.units
  have hu8 : (A.deeper (envOfC "_law_met" (defScope s__law_met) s.heap.objs.size f cdv)).units + 80 < cLine := by have := hr.un; omega
  refine ⟨_, (pss_cons (ps_set (i := 6) sc__law_met.nd rfl (Or.inl rfl) pe_str)
      (pss_cons (ps_try rfl (i := 7) ⟨rfl, rfl⟩ sc__law_met.nd rfl rfl rfl cls.b_LineError (fun pn Ec E hp => (pss_one (ps_if (pt_cmpR op_lt (pv 0) pe_int (nomark _)) (pss_one (ps_expr (pe_callX X__law_first hr hp (pa_cons (pv 0) (pa_cons (pv 1) (pa_cons (pv 2) (pa_cons (pe_ix (ixK_list K rfl) (pv 3) pe_int (fun _ _ => rfl)) (pa_cons (pv 5) pa_nil)))))))) (pss_one (ps_expr (pe_callX X__law_second hr hp (pa_cons (pv 0) (pa_cons (pv 3) (pa_cons (pv 4) pa_nil))))))))) (fun pn xa => (pss_one (ps_set (i := 6) sc__law_met.nd rfl (Or.inl rfl) (pe_callU (E := fun _ _ _ => False) U__law_which (roomU_mark hr) (pa_cons (pv 7) pa_nil))))))
      (pss_one (ps_ret (pv 6))))), ?_⟩
  apply seq_det
  · intro k hk; walk_at "rd"; exact hk
  refine seq_by (fun σ H1 => ∃ (x0 x1 x2 x3 x4 x5 x7 : Option V), Same H H1 ∧ σ = [x0, x1, x2, x3, x4, x5, some (.str a), x7]) (fun k hk => ?_) ?_
  · refine ⟨fun Cv _ H' => ∃ (j : Nat) (C : Addr), Cv = .ref C ∧ [nc, nn, np, nth, nt][j]? = some C ∧ whichN[j]? = some a ∧ Same H H', ?_, ?_⟩
    · obtain ⟨l, ws, rfl, hH, ht⟩ := id hw
      walk_at "rd"
      rcases hmet with ⟨hlt, p, ps', rfl, h⟩ | ⟨hge, h⟩
      · rw [if_pos hlt]
        cases ht with
        | cons t1 tr =>
        refine ⟨_, SqL.of hH, _, at0 _ _, ?_⟩
        have bp := hb p (by simp)
        rcases h with ⟨j, h, hj⟩ | ⟨gm, gn, gp, ht60, rfl⟩
        · have lt5 : j < 5 := by rcases h with ⟨rfl, _⟩ | ⟨rfl, _⟩ | ⟨rfl, _⟩ <;> decide
          obtain ⟨C, hC⟩ : ∃ C, [nc, nn, np, nth, nt][j]? = some C := ⟨_, List.getElem?_eq_getElem lt5⟩
          exact .inr ⟨way, t, v, u, _, m, n, p, j, C, rfl, hv, hu_, t1, bm, bn, bp, h, hC, fun H' g => ⟨j, C, rfl, hC, hj, g⟩⟩
        · exact .inl ⟨way, t, v, u, _, m, n, p, rfl, hv, hu_, t1, bm, bn, bp, gm, gn, gp, ht60, fun x H' g => hk _ _ ⟨_, _, _, _, _, _, _, g, rfl⟩⟩
      · rw [if_neg (by omega)]
        rcases h with ⟨j, h, hj⟩ | ⟨hg, rfl⟩
        · have lt5 : j < 5 := by rcases h with ⟨_, ⟨rfl, _⟩ | ⟨rfl, _⟩⟩ | ⟨_, p, q, r, x, _, ⟨rfl, _⟩ | ⟨rfl, _⟩⟩ | ⟨_, p, q, r, x, _, rfl, _⟩ <;> decide
          obtain ⟨C, hC⟩ : ∃ C, [nc, nn, np, nth, nt][j]? = some C := ⟨_, List.getElem?_eq_getElem lt5⟩
          exact .inr ⟨way, _, z, ps, gs, j, C, rfl, hw, hz, hb, n1, n2, h, hC, fun H' g => ⟨j, C, rfl, hC, hj, g⟩⟩
        · exact .inl ⟨way, _, z, ps, gs, rfl, hw, hz, hb, hg, fun x H' g => hk _ _ ⟨_, _, _, _, _, _, _, g, rfl⟩⟩
    · rintro Cv _ H' ⟨j, C, rfl, hC, hj, g⟩
      refine ⟨C, rfl, (cls.kind C j hC).2, fun y hy => ?_⟩
      show tAsg _ _ _ ((List.replicate 8 none).set 7 (some (V.ref y))) _
      walk_at "rd"
      refine ⟨y, C, j, a, rfl, upd_same, (cls.kind C j hC).1, hj, fun H2 g2 => ?_⟩
      exact hk _ _ ⟨_, _, _, _, _, _, _, g.trans ((same_new hy _).trans g2), rfl⟩
  rintro σ H1 ⟨x0, x1, x2, x3, x4, x5, x7, g1, rfl⟩
  walk_at "rd"
  exact q _ g1
theorem sc__law_threes_right : FnScope ["cell", "change", "points", "goals", "nine", "one", "other", "twice", "later", "way", "pairs", "some", "ends"] ["cell", "change", "points", "goals", "nine"] (defScope s__law_threes_right) := ⟨rfl, rfl, rfl, by decide +kernel, rfl, by decide +kernel, by decide +kernel⟩
seal L2.PE L2.PA L2.PS L2.PSs L2.PT in
set_option maxHeartbeats 4000000 in
theorem cal__law_threes_right (F : Def K mg "_law_threes_right" s__law_threes_right ["cell", "change", "points", "goals", "nine"]) (C__law_met : Cal P w K mg base 11 "_law_met" ["way", "change", "other", "points", "goals", "times"] (spMet K)) (B : Blt mg) : Cal P w K mg base 12 "_law_threes_right" ["cell", "change", "points", "goals", "nine"] (spThrees K) := by
  refine F.cal (k := 11) sc__law_threes_right (fun vs H Q E h => ?_) (fun f cdv A outer s H vs Q E hr h => ?_)
  · obtain ⟨c, v, w, z, y, m, ps, gs, ns, rfl, hv, hw, hz, hy_, gm, bm, hb, n1, n2, n3, nd1, nd2, q⟩ := h
    rfl
  obtain ⟨c, v, w, z, y, m, ps, gs, ns, rfl, hv, hw, hz, hy_, gm, bm, hb, n1, n2, n3, nd1, nd2, q⟩ := h
  have hu := hr.units
  have hu8 : (A.deeper (envOfC "_law_threes_right" (defScope s__law_threes_right) s.heap.objs.size f cdv)).units + 80 < cLine := by have := hr.un; omega
  refine ⟨_, (pss_cons (ps_asg (pe_ix ix_list (pe_lst (pa_cons (pe_tup (pa_consC pe_int (pa_consC pe_int pa_nil))) (pa_cons (pe_tup (pa_consC pe_int (pa_consC pe_int pa_nil))) (pa_cons (pe_tup (pa_consC pe_int (pa_consC pe_int pa_nil))) pa_nil)))) (pe_op op_mod (pe_op op_fdiv (pv 0) pe_int) pe_int) (fun _ _ => rfl)) (pg_tup rfl (pgs_cons (pg_name (i := 5) sc__law_threes_right.nd rfl (Or.inl rfl)) (pgs_cons (pg_name (i := 6) sc__law_threes_right.nd rfl (Or.inl rfl)) pgs_nil))))
      (pss_cons (ps_set (i := 7) sc__law_threes_right.nd rfl (Or.inl rfl) (pe_callTy call_list_of rfl B.list bt_list (pa_cons (pv 2) pa_nil)))
      (pss_cons (ps_asg (pe_ix ix_list (pv 2) (pv 5) (fun _ _ => rfl)) (pg_sub (pv 7) (pv 6) set_list))
      (pss_cons (ps_set (i := 8) sc__law_threes_right.nd rfl (Or.inl rfl) (pe_op op_cat (pe_slice sl_list (pv 2) po_none (po_some pe_int)) (pe_lst (pa_cons (pe_ix ix_list (pv 2) (pe_op op_mod (pe_op op_fdiv (pv 0) pe_int) pe_int) (fun _ _ => rfl)) pa_nil))))
      (pss_cons (ps_for PassesOwn.never rfl (pi_list (pe_lst (pa_consC pe_int (pa_consC pe_int (pa_consC pe_int pa_nil))))) (pg_name (i := 9) sc__law_threes_right.nd rfl (Or.inl rfl)) (pss_one (ps_if (pt_cmpR op_ne (pe_callC C__law_met hr (pa_cons (pv 9) (pa_cons (pv 1) (pa_cons (pv 1) (pa_cons (pv 7) (pa_cons (pv 3) (pa_consC pe_int pa_nil))))))) pe_str (nomark _)) (pss_one (ps_ret pe_bl)) pss_nil)))
      (pss_cons (ps_set (i := 10) sc__law_threes_right.nd rfl (Or.inl rfl) (pe_lst (pa_cons (pe_tup (pa_cons (pe_slice sl_list (pv 2) po_none (po_some pe_int)) (pa_cons (pe_slice sl_list (pv 3) po_none (po_some pe_int)) pa_nil))) (pa_cons (pe_tup (pa_cons (pv 2) (pa_cons (pe_slice sl_list (pv 3) po_none (po_some pe_int)) pa_nil))) (pa_cons (pe_tup (pa_cons (pv 4) (pa_cons (pv 4) pa_nil))) (pa_cons (pe_tup (pa_cons (pe_lst pa_nil) (pa_cons (pe_lst pa_nil) pa_nil))) (pa_cons (pe_tup (pa_cons (pv 2) (pa_cons (pv 7) pa_nil))) pa_nil)))))))
      (pss_cons (ps_set (i := 10) sc__law_threes_right.nd rfl (Or.inl rfl) (pe_op op_cat (pv 10) (pe_lst (pa_cons (pe_tup (pa_cons (pv 8) (pa_cons (pv 3) pa_nil))) (pa_cons (pe_tup (pa_cons (pv 2) (pa_cons (pv 8) pa_nil))) (pa_cons (pe_tup (pa_cons (pe_slice sl_list (pv 2) po_none (po_some pe_int)) (pa_cons (pv 3) pa_nil))) pa_nil))))))
      (pss_cons (ps_asg (pe_ix ix_list (pv 10) (pe_op op_mod (pe_op op_fdiv (pv 0) pe_int) pe_int) (fun _ _ => rfl)) (pg_tup rfl (pgs_cons (pg_name (i := 11) sc__law_threes_right.nd rfl (Or.inl rfl)) (pgs_cons (pg_name (i := 12) sc__law_threes_right.nd rfl (Or.inl rfl)) pgs_nil))))
      (pss_cons (ps_if (pt_cmpR op_ne (pe_callC C__law_met hr (pa_consC pe_int (pa_cons (pv 1) (pa_cons (pv 1) (pa_cons (pv 11) (pa_cons (pv 12) (pa_consC pe_int pa_nil))))))) pe_str (nomark _)) (pss_one (ps_ret pe_bl)) pss_nil)
      (pss_cons (ps_for PassesOwn.never rfl (pi_list (pe_lst (pa_consC pe_int (pa_consC pe_int (pa_consC pe_int (pa_consC pe_int (pa_consC pe_int (pa_consC pe_int (pa_consC pe_int (pa_consC pe_int (pa_consC pe_int (pa_consC pe_int (pa_consC pe_int (pa_consC pe_int pa_nil)))))))))))))) (pg_name (i := 9) sc__law_threes_right.nd rfl (Or.inl rfl)) (pss_one (ps_if (pt_cmpR op_ne (pe_callC C__law_met hr (pa_cons (pv 9) (pa_cons (pv 1) (pa_cons (pv 1) (pa_cons (pv 2) (pa_cons (pv 3) (pa_consC pe_int pa_nil))))))) pe_str (nomark _)) (pss_one (ps_ret pe_bl)) pss_nil)))
      (pss_one (ps_ret (pe_cmpR op_eq (pe_callC C__law_met hr (pa_consC pe_int (pa_cons (pv 1) (pa_cons (pv 1) (pa_cons (pv 2) (pa_cons (pv 3) (pa_cons (pe_ix ix_lstI (pe_lst (pa_consC pe_int (pa_cons (pe_un un_neg pe_int) pa_nil))) (pe_op op_mod (pv 0) pe_int) (fun _ _ => rfl)) pa_nil))))))) pe_str (nomark _)))))))))))))), ?_⟩
  obtain ⟨l1, ws1, rfl, hH1, ht1⟩ := id hw
  obtain ⟨l2, ws2, rfl, hH2, ht2⟩ := id hz
  obtain ⟨l3, ws3, rfl, hH3, ht3⟩ := id hy_
  obtain ⟨p, q', r, x, rfl⟩ := len4 n1
  obtain ⟨p', q'', r', x', rfl⟩ := len4 n2
  obtain ⟨w1, w2, w3, w4, rfl, t1, t2, t3, t4⟩ := tps4 ht1
  obtain ⟨u1, u2, u3, u4, rfl, s1, s2, s3, s4⟩ := tps4 ht2
  have hq1 := SqL.of (K := K) hH1
  have hq2 := SqL.of (K := K) hH2
  refine seq_by (fun σ H1 => ∃ (i j : Int), (i, j) ∈ [((0 : Int), (1 : Int)), (0, 2), (1, 2)] ∧ Same H H1 ∧ σ = [some (.int c), some v, some (.ref l1), some (.ref l2), some (.ref l3), some (.int i), some (.int j), none, none, none, none, none, none]) (fun k hk => ?_) ?_
  · walk_at "rd"
    refine ⟨by show 2 ≤ sizeLine; decide, fun p0 n0 => ⟨by show 2 ≤ sizeLine; decide, fun p1 n1 => ⟨by show 2 ≤ sizeLine; decide, fun p2 n2 => ⟨by show 3 ≤ sizeLine; decide, fun p3 n3 => ⟨⟨by decide, by decide⟩, by decide, ?_⟩⟩⟩⟩⟩
    have hc : c / 126 % 3 = 0 ∨ c / 126 % 3 = 1 ∨ c / 126 % 3 = 2 := by omega
    rcases hc with e | e | e <;> rw [e]
    · exact ⟨_, SqL.of upd_same, _, at0 _ _, p0, rfl, _, SqT.of (((same_new n1 _).trans ((same_new n2 _).trans (same_new n3 _))) _ _ upd_same), rfl, _, _, rfl, _, _, rfl, rfl, hk _ _ ⟨0, 1, by simp, (same_new n0 _).trans ((same_new n1 _).trans ((same_new n2 _).trans (same_new n3 _))), rfl⟩⟩
    · exact ⟨_, SqL.of upd_same, _, at1 _ _ _, p1, rfl, _, SqT.of (((same_new n2 _).trans (same_new n3 _)) _ _ upd_same), rfl, _, _, rfl, _, _, rfl, rfl, hk _ _ ⟨0, 2, by simp, (same_new n0 _).trans ((same_new n1 _).trans ((same_new n2 _).trans (same_new n3 _))), rfl⟩⟩
    · exact ⟨_, SqL.of upd_same, _, at2 _ _ _ _, p2, rfl, _, SqT.of ((same_new n3 _) _ _ upd_same), rfl, _, _, rfl, _, _, rfl, rfl, hk _ _ ⟨1, 2, by simp, (same_new n0 _).trans ((same_new n1 _).trans ((same_new n2 _).trans (same_new n3 _))), rfl⟩⟩
  rintro σ H1 ⟨i, j, hij, g1, rfl⟩
  refine seq_by (fun σ H2 => ∃ lt, H lt = none ∧ H2 lt = some (.lst [w1, w2, w3, w4]) ∧ Same H H2 ∧ σ = [some (.int c), some v, some (.ref l1), some (.ref l2), some (.ref l3), some (.int i), some (.int j), some (.ref lt), none, none, none, none, none]) (fun k hk => ?_) ?_
  · walk_at "rd"
    exact ⟨_, .inl (g1.seq hq1), fun l hl => hk _ _ ⟨l, g1.free hl, upd_same, g1.trans (same_new hl _), rfl⟩⟩
  rintro σ H2 ⟨lt, nlt, hlt, g2, rfl⟩
  refine seq_by (fun σ H3 => ∃ a b d : Int × Int, Ltr K H3 (.ref lt) ([a, b, d, x].map pl) ∧ (∀ y ∈ [a, b, d, x], y ∈ [p, q', r, x]) ∧ ¬ [a, b, d].Nodup ∧ Same H H3 ∧ σ = [some (.int c), some v, some (.ref l1), some (.ref l2), some (.ref l3), some (.int i), some (.int j), some (.ref lt), none, none, none, none, none]) (fun k hk => ?_) ?_
  · walk_at "rd"
    simp only [List.mem_cons, List.not_mem_nil, or_false, Prod.mk.injEq] at hij
    have gu := fun o => same_upd (o := o) g2 nlt
    rcases hij with ⟨rfl, rfl⟩ | ⟨rfl, rfl⟩ | ⟨rfl, rfl⟩
    · exact ⟨_, g2.seq hq1, w1, at0 _ _, _, hlt, 1, rfl, hk _ _ ⟨p, p, r, ⟨lt, _, rfl, upd_same, .cons (t1.mono (gu _)) (.cons (t1.mono (gu _)) (.cons (t3.mono (gu _)) (.cons (t4.mono (gu _)) .nil)))⟩, by simp, by simp, gu _, rfl⟩⟩
    · exact ⟨_, g2.seq hq1, w1, at0 _ _, _, hlt, 2, rfl, hk _ _ ⟨p, q', p, ⟨lt, _, rfl, upd_same, .cons (t1.mono (gu _)) (.cons (t2.mono (gu _)) (.cons (t1.mono (gu _)) (.cons (t4.mono (gu _)) .nil)))⟩, by simp, by simp, gu _, rfl⟩⟩
    · exact ⟨_, g2.seq hq1, w2, at1 _ _ _, _, hlt, 2, rfl, hk _ _ ⟨p, q', q', ⟨lt, _, rfl, upd_same, .cons (t1.mono (gu _)) (.cons (t2.mono (gu _)) (.cons (t2.mono (gu _)) (.cons (t4.mono (gu _)) .nil)))⟩, by simp, by simp, gu _, rfl⟩⟩
  clear g2 hlt
  rintro σ H3 ⟨a, b, d, lt3, sub3, nd3, g3, rfl⟩
  refine seq_by (fun σ H4 => ∃ (ll : Addr) (e : Int × Int), Same H3 H4 ∧ e ∈ [p, q', r] ∧ Ltr K H4 (.ref ll) ([p, q', r, e].map pl) ∧ σ = [some (.int c), some v, some (.ref l1), some (.ref l2), some (.ref l3), some (.int i), some (.int j), some (.ref lt), some (.ref ll), none, none, none, none]) (fun k hk => ?_) ?_
  · walk_at "rd"
    refine ⟨_, g3.seq hq1, ?_⟩
    intro p0 nwn; generalize nwe : upd _ p0 _ = G0; obtain ⟨a0, b0⟩ := nw nwn nwe; clear nwn nwe
    refine ⟨by decide, by decide, _, (g3.trans a0).seq hq1, ?_⟩
    obtain ⟨e, we, he, hwe, twe⟩ : ∃ (e : Int × Int) (we : V), e ∈ [p, q', r] ∧ atI [w1, w2, w3, w4] (c / 378 % 3) = some we ∧ Tp K H we (pl e) := by
      have hc : c / 378 % 3 = 0 ∨ c / 378 % 3 = 1 ∨ c / 378 % 3 = 2 := by omega
      rcases hc with e | e | e <;> rw [e]
      · exact ⟨p, w1, by simp, at0 _ _, t1⟩
      · exact ⟨q', w2, by simp, at1 _ _ _, t2⟩
      · exact ⟨r, w3, by simp, at2 _ _ _ _, t3⟩
    refine ⟨we, hwe, by show 1 ≤ sizeLine; decide, ?_⟩
    intro p1 nwn; generalize nwe : upd _ p1 _ = G1; obtain ⟨a1, b1⟩ := nw nwn nwe; clear nwn nwe
    refine ⟨_, a1 _ _ b0, _, b1, by show 4 ≤ sizeLine; decide, ?_⟩
    intro p2 nwn; generalize nwe : upd _ p2 _ = G2; obtain ⟨a2, b2⟩ := nw nwn nwe; clear nwn nwe
    have g02 := a0.trans (a1.trans a2)
    have gH := g3.trans g02
    exact hk _ _ ⟨p2, e, g02, he, ⟨p2, _, rfl, b2, .cons (t1.mono gH) (.cons (t2.mono gH) (.cons (t3.mono gH) (.cons (twe.mono gH) .nil)))⟩, rfl⟩
  rintro σ H4 ⟨ll, e, g4, he, ll4, rfl⟩
  have g4' := g3.trans g4
  have hgP : ∀ y ∈ [p, q', r, x], GoodPt y ∧ BdPt 12 y := fun y hy => hb y (List.mem_append_left _ (List.mem_append_left _ hy))
  have hgG : ∀ y ∈ [p', q'', r', x'], GoodPt y ∧ BdPt 12 y := fun y hy => hb y (List.mem_append_left _ (List.mem_append_right _ hy))
  have hgN : ∀ y ∈ ns, GoodPt y ∧ BdPt 12 y := fun y hy => hb y (List.mem_append_right _ hy)
  have hgT : ∀ y ∈ [a, b, d, x], GoodPt y ∧ BdPt 12 y := fun y hy => hgP y (sub3 y hy)
  have hgL : ∀ y ∈ [p, q', r, e], GoodPt y ∧ BdPt 12 y := fun y hy => hgP y (by
    simp only [List.mem_cons, List.not_mem_nil, or_false] at hy he ⊢
    rcases hy with h | h | h | h
    · exact .inl h
    · exact .inr (.inl h)
    · exact .inr (.inr (.inl h))
    · rcases he with z | z | z
      · exact .inl (h.trans z)
      · exact .inr (.inl (h.trans z))
      · exact .inr (.inr (.inl (h.trans z))))
  have ndL : ¬ [p, q', r, e].Nodup := fun h => by
    have h2 := (List.nodup_append (l₁ := [p, q', r]) (l₂ := [e])).mp h
    exact h2.2.2 e he e (by simp) rfl
  have both : ∀ {A1 B1 : List (Int × Int)}, (∀ y ∈ A1, GoodPt y ∧ BdPt 12 y) → (∀ y ∈ B1, GoodPt y ∧ BdPt 12 y) → ∀ y ∈ A1 ++ B1, GoodPt y ∧ BdPt 12 y := fun h1 h2 y hy => by
    rcases List.mem_append.mp hy with z | z
    · exact h1 y z
    · exact h2 y z
  refine seq_by (fun σ H5 => ∃ z, Same H4 H5 ∧ σ = [some (.int c), some v, some (.ref l1), some (.ref l2), some (.ref l3), some (.int i), some (.int j), some (.ref lt), some (.ref ll), z, none, none, none]) (fun k hk => ?_) ?_
  · refine for_src (fun x H1 => ∃ l, x = .ref l ∧ Same H4 H1 ∧ SqL K H1 l ([9, 10, 11].map V.int)) (fun k hk => ?_) ?_
    · walk_at "rd"
      exact ⟨by show 3 ≤ sizeLine; decide, fun p hp => hk _ _ ⟨p, rfl, same_new hp _, SqL.of upd_same⟩⟩
    · rintro y H5 ⟨l, rfl, g5, hq⟩
      refine ⟨l, rfl, ⟨_, hq⟩, forL (xs := [9, 10, 11].map V.int) (fun i1 σ H6 => Same H5 H6 ∧ ∃ z, σ = [some (.int c), some v, some (.ref l1), some (.ref l2), some (.ref l3), some (.int i), some (.int j), some (.ref lt), some (.ref ll), z, none, none, none]) ⟨Same.refl _, none, rfl⟩ (fun i σ H2 _ h => h.1.seq hq) ?_ ?_⟩
      · rintro Pv' hP i1 y σ H6 hy ⟨g6, z0, rfl⟩
        obtain ⟨wy, hwy, rfl⟩ := map_at hy
        have mwy := List.mem_of_getElem? hwy
        walk_at "rd"
        have gs6 := (g4'.trans g5).trans g6
        have hh := both hgT hgG
        refine ⟨wy, 0, v, v, .ref lt, .ref l2, m, m, [a, b, d, x], [p', q'', r', x'], "three", rfl, hv.mono gs6, hv.mono gs6, lt3.mono (g4.trans (g5.trans g6)), hz.mono gs6, bm, bm, fun y hy => (hh y hy).2, by show 4 ≤ 16; decide, by show 4 ≤ 16; decide, met_twice (by simpa using mwy) (fun y hy => (hh y hy).1) nd3, fun H7 g7 => ⟨rfl, ?_⟩⟩
        rw [if_neg (fun h => h rfl)]
        exact hP _ _ _ ⟨g6.trans g7, _, rfl⟩
      · rintro σ H6 ⟨g6, z0, rfl⟩
        exact hk _ _ ⟨z0, g5.trans g6, rfl⟩
  rintro σ H5 ⟨z5, g5, rfl⟩
  have g5' := g4'.trans g5
  refine seq_by (fun σ H6 => ∃ (lp : Addr) (ts : List V), Same H5 H6 ∧ H6 lp = some (.lst ts) ∧ ts.length = 5 ∧ (∀ x ∈ ts, NotT K H6 x) ∧ σ = [some (.int c), some v, some (.ref l1), some (.ref l2), some (.ref l3), some (.int i), some (.int j), some (.ref lt), some (.ref ll), z5, some (.ref lp), none, none]) (fun k hk => ?_) ?_
  · walk_at "rd"
    have gl : ∀ {G : Hp}, Same H5 G → Same H G := fun g => g5'.trans g
    refine ⟨_, g5'.seq hq1, ?_⟩
    intro p0 nwn; generalize nwe : upd _ p0 _ = G0; obtain ⟨a0, b0⟩ := nw nwn nwe; clear nwn nwe
    refine ⟨_, (gl a0).seq hq2, ?_⟩
    intro p1 nwn; generalize nwe : upd _ p1 _ = G1; obtain ⟨a1, b1⟩ := nw nwn nwe; clear nwn nwe
    refine ⟨by show 2 ≤ sizeLine; decide, ?_⟩
    intro p2 nwn; generalize nwe : upd _ p2 _ = G2; obtain ⟨a2, b2⟩ := nw nwn nwe; clear nwn nwe
    have A2 := a0.trans (a1.trans a2)
    refine ⟨_, (gl A2).seq hq2, ?_⟩
    intro p3 nwn; generalize nwe : upd _ p3 _ = G3; obtain ⟨a3, b3⟩ := nw nwn nwe; clear nwn nwe
    refine ⟨by show 2 ≤ sizeLine; decide, ?_⟩
    intro p4 nwn; generalize nwe : upd _ p4 _ = G4; obtain ⟨a4, b4⟩ := nw nwn nwe; clear nwn nwe
    refine ⟨by show 2 ≤ sizeLine; decide, ?_⟩
    intro p5 nwn; generalize nwe : upd _ p5 _ = G5; obtain ⟨a5, b5⟩ := nw nwn nwe; clear nwn nwe
    refine ⟨by show 0 ≤ sizeLine; decide, ?_⟩
    intro p6 nwn; generalize nwe : upd _ p6 _ = G6; obtain ⟨a6, b6⟩ := nw nwn nwe; clear nwn nwe
    refine ⟨by show 0 ≤ sizeLine; decide, ?_⟩
    intro p7 nwn; generalize nwe : upd _ p7 _ = G7; obtain ⟨a7, b7⟩ := nw nwn nwe; clear nwn nwe
    refine ⟨by show 2 ≤ sizeLine; decide, ?_⟩
    intro p8 nwn; generalize nwe : upd _ p8 _ = G8; obtain ⟨a8, b8⟩ := nw nwn nwe; clear nwn nwe
    refine ⟨by show 2 ≤ sizeLine; decide, ?_⟩
    intro p9 nwn; generalize nwe : upd _ p9 _ = G9; obtain ⟨a9, b9⟩ := nw nwn nwe; clear nwn nwe
    refine ⟨by show 5 ≤ sizeLine; decide, ?_⟩
    intro p10 nwn; generalize nwe : upd _ p10 _ = G10; obtain ⟨a10, b10⟩ := nw nwn nwe; clear nwn nwe
    have c9 := a10
    have c8 := a9.trans c9
    have c7 := a8.trans c8
    have c6 := a7.trans c7
    have c5 := a6.trans c6
    have c4 := a5.trans c5
    have c3 := a4.trans c4
    have c2 := a3.trans c3
    have c1 := a2.trans c2
    have c0 := a1.trans c1
    have cH := gl (a0.trans c0)
    refine hk _ _ ⟨p10, _, a0.trans c0, b10, rfl, fun y hy => ?_, rfl⟩
    simp only [List.mem_cons, List.not_mem_nil, or_false] at hy
    rcases hy with rfl | rfl | rfl | rfl | rfl
    · exact ⟨p2, .ref p0, .ref p1, [p, q'], [p', q''], rfl, SqT.of (c2 _ _ b2), ⟨p0, _, rfl, c0 _ _ b0, .cons (t1.mono cH) (.cons (t2.mono cH) .nil)⟩, ⟨p1, _, rfl, c1 _ _ b1, .cons (s1.mono cH) (.cons (s2.mono cH) .nil)⟩, both (fun y hy => hgP y (List.mem_of_mem_take (i := 2) hy)) (fun y hy => hgG y (List.mem_of_mem_take (i := 2) hy)), by show 2 ≤ 16; decide, by show 2 ≤ 16; decide, fun h => absurd h.2.1 (by show ¬ 3 ≤ 2; decide)⟩
    · exact ⟨p4, .ref l1, .ref p3, [p, q', r, x], [p', q'', r'], rfl, SqT.of (c4 _ _ b4), hw.mono cH, ⟨p3, _, rfl, c3 _ _ b3, .cons (s1.mono cH) (.cons (s2.mono cH) (.cons (s3.mono cH) .nil))⟩, both hgP (fun y hy => hgG y (List.mem_of_mem_take (i := 3) hy)), by show 4 ≤ 16; decide, by show 3 ≤ 16; decide, fun h => absurd h.1 (by show ¬ 4 = 3; decide)⟩
    · exact ⟨p5, .ref l3, .ref l3, ns, ns, rfl, SqT.of (c5 _ _ b5), hy_.mono cH, hy_.mono cH, both hgN hgN, by omega, by omega, fun h => absurd h.2.2.1 (by omega)⟩
    · exact ⟨p8, .ref p6, .ref p7, [], [], rfl, SqT.of (c8 _ _ b8), ⟨p6, _, rfl, c6 _ _ b6, .nil⟩, ⟨p7, _, rfl, c7 _ _ b7, .nil⟩, (fun y hy => absurd hy (by simp)), by show 0 ≤ 16; decide, by show 0 ≤ 16; decide, fun h => absurd h.2.1 (by show ¬ 3 ≤ 0; decide)⟩
    · exact ⟨p9, .ref l1, .ref lt, [p, q', r, x], [a, b, d, x], rfl, SqT.of (c9 _ _ b9), hw.mono cH, lt3.mono (g4.trans (g5.trans (a0.trans c0))), both hgP hgT, by show 4 ≤ 16; decide, by show 4 ≤ 16; decide, fun h => nd3 (List.Nodup.sublist (List.sublist_append_left [a, b, d] [x]) h.2.2.2.2)⟩
  rintro σ H6 ⟨lp, ts, g6, hlp, h5, hts, rfl⟩
  have g6' := g5'.trans g6
  refine seq_by (fun σ H7 => ∃ (lp : Addr) (ts : List V), Same H6 H7 ∧ H7 lp = some (.lst ts) ∧ ts.length = 8 ∧ (∀ x ∈ ts, NotT K H7 x) ∧ σ = [some (.int c), some v, some (.ref l1), some (.ref l2), some (.ref l3), some (.int i), some (.int j), some (.ref lt), some (.ref ll), z5, some (.ref lp), none, none]) (fun k hk => ?_) ?_
  · walk_at "rd"
    have gl : ∀ {G : Hp}, Same H6 G → Same H G := fun g => g6'.trans g
    refine ⟨by show 2 ≤ sizeLine; decide, ?_⟩
    intro p0 nwn; generalize nwe : upd _ p0 _ = G0; obtain ⟨a0, b0⟩ := nw nwn nwe; clear nwn nwe
    refine ⟨by show 2 ≤ sizeLine; decide, ?_⟩
    intro p1 nwn; generalize nwe : upd _ p1 _ = G1; obtain ⟨a1, b1⟩ := nw nwn nwe; clear nwn nwe
    refine ⟨_, (gl (a0.trans a1)).seq hq1, ?_⟩
    intro p2 nwn; generalize nwe : upd _ p2 _ = G2; obtain ⟨a2, b2⟩ := nw nwn nwe; clear nwn nwe
    refine ⟨by show 2 ≤ sizeLine; decide, ?_⟩
    intro p3 nwn; generalize nwe : upd _ p3 _ = G3; obtain ⟨a3, b3⟩ := nw nwn nwe; clear nwn nwe
    refine ⟨by show 3 ≤ sizeLine; decide, ?_⟩
    intro p4 nwn; generalize nwe : upd _ p4 _ = G4; obtain ⟨a4, b4⟩ := nw nwn nwe; clear nwn nwe
    have A4 := a0.trans (a1.trans (a2.trans (a3.trans a4)))
    refine ⟨_, A4 _ _ hlp, _, b4, by rw [h5]; show 8 ≤ sizeLine; decide, ?_⟩
    intro p5 nwn; generalize nwe : upd _ p5 _ = G5; obtain ⟨a5, b5⟩ := nw nwn nwe; clear nwn nwe
    have c4 := a5
    have c3 := a4.trans c4
    have c2 := a3.trans c3
    have c1 := a2.trans c2
    have c0 := a1.trans c1
    have cc := a0.trans c0
    have cH := gl cc
    have cL := g5.trans (g6.trans cc)
    refine hk _ _ ⟨p5, _, cc, b5, by rw [List.length_append, h5]; rfl, fun y hy => ?_, rfl⟩
    rcases List.mem_append.mp hy with hy | hy
    · exact (hts y hy).mono cc
    simp only [List.mem_cons, List.not_mem_nil, or_false] at hy
    rcases hy with rfl | rfl | rfl
    · exact ⟨p0, .ref ll, .ref l2, [p, q', r, e], [p', q'', r', x'], rfl, SqT.of (c0 _ _ b0), ll4.mono cL, hz.mono cH, both hgL hgG, by show 4 ≤ 16; decide, by show 4 ≤ 16; decide, fun h => ndL h.2.2.2.1⟩
    · exact ⟨p1, .ref l1, .ref ll, [p, q', r, x], [p, q', r, e], rfl, SqT.of (c1 _ _ b1), hw.mono cH, ll4.mono cL, both hgP hgL, by show 4 ≤ 16; decide, by show 4 ≤ 16; decide, fun h => ndL h.2.2.2.2⟩
    · exact ⟨p3, .ref p2, .ref l2, [p, q', r], [p', q'', r', x'], rfl, SqT.of (c3 _ _ b3), ⟨p2, _, rfl, c2 _ _ b2, .cons (t1.mono cH) (.cons (t2.mono cH) (.cons (t3.mono cH) .nil))⟩, hz.mono cH, both (fun y hy => hgP y (List.mem_of_mem_take (i := 3) hy)) hgG, by show 3 ≤ 16; decide, by show 4 ≤ 16; decide, fun h => absurd h.1 (by show ¬ 3 = 4; decide)⟩
  rintro σ H7 ⟨lq, ts7, g7, hlq, h8, hts7, rfl⟩
  have g7' := g6'.trans g7
  clear hlp h5 hts
  refine seq_by (fun σ H8 => ∃ (so en : V) (ps2 gs2 : List (Int × Int)), Same H H8 ∧ Ltr K H8 so (ps2.map pl) ∧ Ltr K H8 en (gs2.map pl) ∧ (∀ p ∈ ps2 ++ gs2, GoodPt p ∧ BdPt 12 p) ∧ ps2.length ≤ 16 ∧ gs2.length ≤ 16 ∧ ¬ (ps2.length = gs2.length ∧ 3 ≤ ps2.length ∧ ps2.length ≤ 8 ∧ ps2.Nodup ∧ gs2.Nodup) ∧ σ = [some (.int c), some v, some (.ref l1), some (.ref l2), some (.ref l3), some (.int i), some (.int j), some (.ref lt), some (.ref ll), z5, some (.ref lq), some so, some en]) (fun k hk => ?_) ?_
  · walk_at "rd"
    obtain ⟨y, hy, pa, so, en, ps2, gs2, rfl, tq, lso, len_, hall, m1, m2, hno⟩ := pick (xs := ts7) (i := c / 252 % 8) (Int.emod_nonneg _ (by decide)) (by rw [h8]; exact Int.emod_lt_of_pos _ (by decide)) hts7
    exact ⟨⟨by decide, by decide⟩, by decide, _, SqL.of hlq, _, hy, pa, rfl, _, tq, rfl, _, _, rfl, _, _, rfl, rfl, hk _ _ ⟨so, en, ps2, gs2, g7', lso, len_, hall, m1, m2, hno, rfl⟩⟩
  rintro σ H8 ⟨so, en, ps2, gs2, g8, lso, len_, hall, m1, m2, hno, rfl⟩
  refine seq_by (fun σ H9 => Same H H9 ∧ σ = [some (.int c), some v, some (.ref l1), some (.ref l2), some (.ref l3), some (.int i), some (.int j), some (.ref lt), some (.ref ll), z5, some (.ref lq), some so, some en]) (fun k hk => ?_) ?_
  · walk_at "rd"
    refine ⟨9, 0, v, v, so, en, m, m, ps2, gs2, "three", rfl, hv.mono g8, hv.mono g8, lso, len_, bm, bm, fun y hy => (hall y hy).2, m1, m2, met_not (fun y hy => (hall y hy).1) hno, fun H9 g9 => ⟨rfl, ?_⟩⟩
    rw [if_neg (fun h => h rfl)]
    exact hk _ _ ⟨g8.trans g9, rfl⟩
  rintro σ H9 ⟨g9, rfl⟩
  have hh := both hgP hgG
  have good : Good2 [p, q', r, x] [p', q'', r', x'] := ⟨rfl, rfl, nd1, nd2, fun y hy => (hh y hy).1⟩
  refine seq_by (fun σ H10 => ∃ z, Same H H10 ∧ σ = [some (.int c), some v, some (.ref l1), some (.ref l2), some (.ref l3), some (.int i), some (.int j), some (.ref lt), some (.ref ll), z, some (.ref lq), some so, some en]) (fun k hk => ?_) ?_
  · refine for_src (fun x H1 => ∃ l, x = .ref l ∧ Same H H1 ∧ SqL K H1 l ([0, 1, 2, 3, 5, 6, 7, 8, 9, 10, 11, 12].map V.int)) (fun k hk => ?_) ?_
    · walk_at "rd"
      exact ⟨by show 12 ≤ sizeLine; decide, fun p hp => hk _ _ ⟨p, rfl, g9.trans (same_new hp _), SqL.of upd_same⟩⟩
    · rintro y H5 ⟨l, rfl, g5, hq⟩
      refine ⟨l, rfl, ⟨_, hq⟩, forL (xs := [0, 1, 2, 3, 5, 6, 7, 8, 9, 10, 11, 12].map V.int) (fun i1 σ H6 => Same H5 H6 ∧ ∃ z, σ = [some (.int c), some v, some (.ref l1), some (.ref l2), some (.ref l3), some (.int i), some (.int j), some (.ref lt), some (.ref ll), z, some (.ref lq), some so, some en]) ⟨Same.refl _, z5, rfl⟩ (fun i σ H2 _ h => h.1.seq hq) ?_ ?_⟩
      · rintro Pv' hP i1 y σ H6 hy ⟨g6, z0, rfl⟩
        obtain ⟨wy, hwy, rfl⟩ := map_at hy
        walk_at "rd"
        have gs6 := g5.trans g6
        refine ⟨wy, 0, v, v, .ref l1, .ref l2, m, m, [p, q', r, x], [p', q'', r', x'], "told", rfl, hv.mono gs6, hv.mono gs6, hw.mono gs6, hz.mono gs6, bm, bm, fun y hy => (hh y hy).2, by show 4 ≤ 16; decide, by show 4 ≤ 16; decide, met_good gm gm good (by decide), fun H7 g7 => ⟨rfl, ?_⟩⟩
        rw [if_neg (fun h => h rfl)]
        exact hP _ _ _ ⟨g6.trans g7, _, rfl⟩
      · rintro σ H6 ⟨g6, z0, rfl⟩
        exact hk _ _ ⟨z0, g5.trans g6, rfl⟩
  rintro σ H10 ⟨z10, g10, rfl⟩
  walk_at "rd"
  refine ⟨by show 2 ≤ sizeLine; decide, ?_⟩
  intro p0 nwn; generalize nwe : upd _ p0 _ = G0; obtain ⟨a0, b0⟩ := nw nwn nwe; clear nwn nwe
  have gG := g10.trans a0
  have fin : ∀ tt : Int, tt.natAbs ≤ 60 → ∀ (E : XK), spMet K [.int 4, v, v, .ref l1, .ref l2, .int tt] G0 (fun x H1 => scal x (.str "told") = true ∧ Q (.bl (decide (x = .str "told"))) H1) E := fun tt htt E => by
    refine ⟨4, tt, v, v, .ref l1, .ref l2, m, m, [p, q', r, x], [p', q'', r', x'], "told", rfl, hv.mono gG, hv.mono gG, hw.mono gG, hz.mono gG, bm, bm, fun y hy => (hh y hy).2, by show 4 ≤ 16; decide, by show 4 ≤ 16; decide, met_good gm gm good htt, fun H7 g7 => ⟨rfl, ?_⟩⟩
    rw [decide_eq_true rfl]
    exact q _ (gG.trans g7)
  have hc : c % 2 = 0 ∨ c % 2 = 1 := by omega
  refine ⟨by decide, [60, -60], ⟨p0, rfl, SqL.of b0⟩, ?_⟩
  rcases hc with e | e <;> rw [e]
  · exact ⟨60, at0 _ _, fin 60 (by decide) _⟩
  · exact ⟨-60, at1 _ _ _, fin (-60) (by decide) _⟩
theorem sc_law : FnScope ["script", "spot", "change", "other", "points", "goals", "cell", "far", "times", "bad", "none", "hurt", "first", "way", "place", "anywhere", "nine"] ["script"] (defScope s_law) := ⟨rfl, rfl, rfl, by decide +kernel, rfl, by decide +kernel, by decide +kernel⟩
seal L2.PE L2.PA L2.PS L2.PSs L2.PT in
set_option maxHeartbeats 4000000 in
theorem ok_law {f : Addr} {fd : FuncData} (F : Fun K "law" "law" s_law f fd) (C__law_change : Cal P w K mg base 12 "_law_change" ["script", "spot"] (spLawChange K)) (C__law_some_points : Cal P w K mg base 12 "_law_some_points" ["script", "spot", "many"] (spSome K)) (C__law_cell_at : Cal P w K mg base 12 "_law_cell_at" ["script", "k"] (spCell K)) (C__law_bad_change : Cal P w K mg base 12 "_law_bad_change" ["change", "cell"] (spBadC K)) (C__law_bad_point : Cal P w K mg base 12 "_law_bad_point" ["point", "cell"] (spBadP K)) (C__law_met : Cal P w K mg base 12 "_law_met" ["way", "change", "other", "points", "goals", "times"] (spMet K)) (C__law_threes_right : Cal P w K mg base 12 "_law_threes_right" ["cell", "change", "points", "goals", "nine"] (spThrees K)) (B : Blt mg) : FnOk P w K mg base CX0 13 f fd ["script"] (spLaw K) := by
  refine F.ok (k := 12) sc_law (fun vs H Q E h => ?_) (fun cdv A outer s H vs Q E hr h => ?_)
  · obtain ⟨a, ns, rfl, hs, q⟩ := h
    rfl
  obtain ⟨a, ns, rfl, hs, q⟩ := h
  have hu := hr.units
  have hu8 : (A.deeper (envOfC "law" (defScope s_law) s.heap.objs.size f cdv)).units + 80 < cLine := by have := hr.un; omega
  refine ⟨_, (pss_cons (ps_set (i := 1) sc_law.nd rfl (Or.inl rfl) (pe_lst (pa_consC pe_int pa_nil)))
      (pss_cons (ps_set (i := 2) sc_law.nd rfl (Or.inl rfl) (pe_callC C__law_change hr (pa_cons (pv 0) (pa_cons (pv 1) pa_nil))))
      (pss_cons (ps_set (i := 3) sc_law.nd rfl (Or.inl rfl) (pe_callC C__law_change hr (pa_cons (pv 0) (pa_cons (pv 1) pa_nil))))
      (pss_cons (ps_set (i := 4) sc_law.nd rfl (Or.inl rfl) (pe_callC C__law_some_points hr (pa_cons (pv 0) (pa_cons (pv 1) (pa_consC pe_int pa_nil)))))
      (pss_cons (ps_set (i := 5) sc_law.nd rfl (Or.inl rfl) (pe_callC C__law_some_points hr (pa_cons (pv 0) (pa_cons (pv 1) (pa_consC pe_int pa_nil)))))
      (pss_cons (ps_set (i := 6) sc_law.nd rfl (Or.inl rfl) (pe_callC C__law_cell_at hr (pa_cons (pv 0) (pa_consC pe_int pa_nil))))
      (pss_cons (ps_set (i := 7) sc_law.nd rfl (Or.inl rfl) (pe_op op_mod (pe_op op_fdiv (pe_callC C__law_cell_at hr (pa_cons (pv 0) (pa_consC pe_int pa_nil))) pe_int) (pe_op op_pow pe_int pe_int)))
      (pss_cons (ps_set (i := 8) sc_law.nd rfl (Or.inl rfl) (pe_ix ix_lstI (pe_lst (pa_cons (pe_un un_neg pe_int) (pa_consC pe_int (pa_cons (pe_op op_sub (pe_un un_neg pe_int) (pv 7)) (pa_cons (pe_op op_add pe_int (pv 7)) pa_nil))))) (pe_op op_mod (pe_callC C__law_cell_at hr (pa_cons (pv 0) (pa_consC pe_int pa_nil))) pe_int) (fun _ _ => rfl)))
      (pss_cons (ps_set (i := 9) sc_law.nd rfl (Or.inl rfl) (pe_callC C__law_bad_change hr (pa_cons (pv 2) (pa_cons (pv 6) pa_nil))))
      (pss_cons (ps_set (i := 10) sc_law.nd rfl (Or.inl rfl) (pe_callC C__law_bad_point hr (pa_cons (pe_ix ix_list (pv 4) pe_int (fun _ _ => rfl)) (pa_cons (pe_op op_fdiv (pv 6) pe_int) pa_nil))))
      (pss_cons (ps_set (i := 11) sc_law.nd rfl (Or.inl rfl) (pe_callTy call_list_of rfl B.list bt_list (pa_cons (pv 4) pa_nil)))
      (pss_cons (ps_asg (pv 10) (pg_sub (pv 11) (pe_un un_neg pe_int) set_list))
      (pss_cons (ps_set (i := 12) sc_law.nd rfl (Or.inl rfl) (pe_op op_cat (pe_lst (pa_cons (pv 10) pa_nil)) (pe_slice sl_list (pv 4) (po_some pe_int) po_none)))
      (pss_cons (ps_for PassesOwn.never rfl (pi_range1 rfl B.range (pa_consC pe_int pa_nil)) (pg_name (i := 13) sc_law.nd rfl (Or.inl rfl)) (pss_one (ps_if (pt_cmpR op_ne (pe_callC C__law_met hr (pa_cons (pv 13) (pa_cons (pv 9) (pa_cons (pv 3) (pa_cons (pv 12) (pa_cons (pv 5) (pa_cons (pv 8) pa_nil))))))) pe_str (nomark _)) (pss_one (ps_ret pe_bl)) pss_nil)))
      (pss_cons (ps_if (pt_cmpR op_ne (pe_callC C__law_met hr (pa_consC pe_int (pa_cons (pv 2) (pa_cons (pv 3) (pa_cons (pv 12) (pa_cons (pv 5) (pa_consC pe_int pa_nil))))))) pe_str (nomark _)) (pss_one (ps_ret pe_bl)) pss_nil)
      (pss_cons (ps_if (pt_cmpR op_ne (pe_callC C__law_met hr (pa_consC pe_int (pa_cons (pv 2) (pa_cons (pv 3) (pa_cons (pv 4) (pa_cons (pv 5) (pa_cons (pv 8) pa_nil))))))) pe_str (nomark _)) (pss_one (ps_ret pe_bl)) pss_nil)
      (pss_cons (ps_for PassesOwn.never rfl (pi_range2 rfl B.range (pa_consC pe_int (pa_consC pe_int pa_nil))) (pg_name (i := 13) sc_law.nd rfl (Or.inl rfl)) (pss_one (ps_if (pt_cmpR op_ne (pe_callC C__law_met hr (pa_cons (pv 13) (pa_cons (pv 2) (pa_cons (pv 3) (pa_cons (pv 11) (pa_cons (pe_slice sl_list (pv 5) po_none (po_some pe_int)) (pa_consC pe_int pa_nil))))))) pe_str (nomark _)) (pss_one (ps_ret pe_bl)) pss_nil)))
      (pss_cons (ps_set (i := 14) sc_law.nd rfl (Or.inl rfl) (pe_op op_mod (pe_op op_fdiv (pv 6) pe_int) pe_int))
      (pss_cons (ps_if (pt_cmpR op_ne (pe_callC C__law_met hr (pa_consC pe_int (pa_cons (pv 2) (pa_cons (pv 3) (pa_cons (pv 4) (pa_cons (pe_op op_cat (pe_op op_cat (pe_slice sl_list (pv 5) po_none (po_some (pv 14))) (pe_lst (pa_cons (pv 10) pa_nil))) (pe_slice sl_list (pv 5) (po_some (pv 14)) po_none)) (pa_consC pe_int pa_nil))))))) pe_str (nomark _)) (pss_one (ps_ret pe_bl)) pss_nil)
      (pss_cons (ps_set (i := 15) sc_law.nd rfl (Or.inl rfl) (pe_callTy call_list_of rfl B.list bt_list (pa_cons (pv 4) pa_nil)))
      (pss_cons (ps_asg (pv 10) (pg_sub (pv 15) (pe_op op_mod (pv 6) pe_int) set_list))
      (pss_cons (ps_for PassesOwn.never rfl (pi_list (pe_lst (pa_consC pe_int (pa_consC pe_int (pa_consC pe_int pa_nil))))) (pg_name (i := 13) sc_law.nd rfl (Or.inl rfl)) (pss_one (ps_if (pt_cmpR op_ne (pe_callC C__law_met hr (pa_cons (pv 13) (pa_cons (pv 2) (pa_cons (pv 3) (pa_cons (pv 15) (pa_cons (pv 5) (pa_consC pe_int pa_nil))))))) pe_str (nomark _)) (pss_one (ps_ret pe_bl)) pss_nil)))
      (pss_cons (ps_for PassesOwn.never rfl (pi_list (pe_lst (pa_consC pe_int (pa_consC pe_int pa_nil)))) (pg_name (i := 13) sc_law.nd rfl (Or.inl rfl)) (pss_one (ps_if (pt_cmpR op_ne (pe_callC C__law_met hr (pa_cons (pv 13) (pa_cons (pv 2) (pa_cons (pv 3) (pa_cons (pe_lst (pa_cons (pe_ix ix_list (pv 4) pe_int (fun _ _ => rfl)) (pa_cons (pe_ix ix_list (pv 4) pe_int (fun _ _ => rfl)) (pa_cons (pe_ix ix_list (pv 4) pe_int (fun _ _ => rfl)) (pa_cons (pv 10) pa_nil))))) (pa_cons (pv 5) (pa_consC pe_int pa_nil))))))) pe_str (nomark _)) (pss_one (ps_ret pe_bl)) pss_nil)))
      (pss_cons (ps_set (i := 16) sc_law.nd rfl (Or.inl rfl) (pe_callC C__law_some_points hr (pa_cons (pv 0) (pa_cons (pe_lst (pa_cons (pe_ix ix_lstI (pv 1) pe_int (fun _ _ => rfl)) pa_nil)) (pa_consC pe_int pa_nil)))))
      (pss_one (ps_ret (pe_callC C__law_threes_right hr (pa_cons (pv 6) (pa_cons (pv 2) (pa_cons (pv 4) (pa_cons (pv 5) (pa_cons (pv 16) pa_nil)))))))))))))))))))))))))))))))), ?_⟩
  refine seq_by (fun σ H1 => ∃ b, Scr K H1 a ns ∧ H1 b = some (.lst [.int 3]) ∧ σ = [some (.ref a), some (.ref b), none, none, none, none, none, none, none, none, none, none, none, none, none, none, none]) (fun k hk => ?_) ?_
  · walk_at "rd"
    exact ⟨by show 1 ≤ sizeLine; decide, fun p hp => hk _ _ ⟨p, hs.mono (same_new hp _), upd_same, rfl⟩⟩
  rintro σ H1 ⟨b, hs1, hb1, rfl⟩
  refine seq_by (fun σ H2 => ∃ z m, Scr K H2 a ns ∧ H2 b = some (.lst [.int 4]) ∧ Tp K H2 z (cl m) ∧ GoodC m ∧ BdC 24 m ∧ σ = [some (.ref a), some (.ref b), some z, none, none, none, none, none, none, none, none, none, none, none, none, none, none]) (fun k hk => ?_) ?_
  · walk_at "rd"
    exact ⟨a, b, ns, 3, rfl, hs1, hb1, by decide, fun u H2 m g2 t2 gm bm => hk _ _ ⟨u, m, (hs1.upd hb1).mono g2, g2 _ _ upd_same, t2, gm, bm, rfl⟩⟩
  rintro σ H2 ⟨z, m, hs2, hb2, tz2, gm, bm, rfl⟩
  refine seq_by (fun σ H3 => ∃ y n, Scr K H3 a ns ∧ H3 b = some (.lst [.int 5]) ∧ Tp K H3 z (cl m) ∧ Tp K H3 y (cl n) ∧ GoodC n ∧ BdC 24 n ∧ σ = [some (.ref a), some (.ref b), some z, some y, none, none, none, none, none, none, none, none, none, none, none, none, none]) (fun k hk => ?_) ?_
  · walk_at "rd"
    exact ⟨a, b, ns, 4, rfl, hs2, hb2, by decide, fun u H2 m g2 t2 gm bm => hk _ _ ⟨u, m, (hs2.upd hb2).mono g2, g2 _ _ upd_same, (Tp.upd tz2 hb2).mono g2, t2, gm, bm, rfl⟩⟩
  rintro σ H3 ⟨y, n, hs3, hb3, tz3, ty3, gn, bn, rfl⟩
  refine seq_by (fun σ H4 => ∃ (l1 : Addr) (ps : List (Int × Int)), Scr K H4 a ns ∧ H4 b = some (.lst [.int 9]) ∧ l1 ≠ b ∧ Tp K H4 z (cl m) ∧ Tp K H4 y (cl n) ∧ Ltr K H4 (.ref l1) (ps.map pl) ∧ ps.Nodup ∧ ps.length = 4 ∧ (∀ p ∈ ps, GoodPt p ∧ BdPt 10 p) ∧ σ = [some (.ref a), some (.ref b), some z, some y, some (.ref l1), none, none, none, none, none, none, none, none, none, none, none, none]) (fun k hk => ?_) ?_
  · walk_at "rd"
    exact ⟨a, b, ns, 5, 4, rfl, hs3, hb3, by decide, by decide, by decide, fun l ws ps H4 g4 nl hl ht nd hlen hgood => hk _ _ ⟨l, ps, (hs3.upd hb3).mono g4, g4 _ _ upd_same, (ne_of_none hb3 nl).symm, (Tp.upd tz3 hb3).mono g4, (Tp.upd ty3 hb3).mono g4, ⟨l, ws, rfl, hl, ht⟩, nd, by omega, hgood, rfl⟩⟩
  rintro σ H4 ⟨l1, ps, hs4, hb4, lb1, tz4, ty4, hw4, nd1, n1, gd1, rfl⟩
  obtain ⟨ws, hl4, ht4⟩ := hw4.at_ref
  refine seq_by (fun σ H5 => ∃ (l2 : Addr) (gs : List (Int × Int)), Scr K H5 a ns ∧ H5 b = some (.lst [.int 13]) ∧ Tp K H5 z (cl m) ∧ Tp K H5 y (cl n) ∧ Ltr K H5 (.ref l1) (ps.map pl) ∧ Ltr K H5 (.ref l2) (gs.map pl) ∧ gs.Nodup ∧ gs.length = 4 ∧ (∀ p ∈ gs, GoodPt p ∧ BdPt 10 p) ∧ σ = [some (.ref a), some (.ref b), some z, some y, some (.ref l1), some (.ref l2), none, none, none, none, none, none, none, none, none, none, none]) (fun k hk => ?_) ?_
  · walk_at "rd"
    exact ⟨a, b, ns, 9, 4, rfl, hs4, hb4, by decide, by decide, by decide, fun l ws ps H5 g5 nl hl ht nd hlen hgood => hk _ _ ⟨l, ps, (hs4.upd hb4).mono g5, g5 _ _ upd_same, (Tp.upd tz4 hb4).mono g5, (Tp.upd ty4 hb4).mono g5, ⟨l1, _, rfl, g5 _ _ (by rw [upd_ne lb1]; exact hl4), (Tps.upd hb4 ht4).mono g5⟩, ⟨l, ws, rfl, hl, ht⟩, nd, by omega, hgood, rfl⟩⟩
  clear hl4 ht4 hs4 hs3 hs2 hs1 hb1 hb2 hb3 hb4 tz2 tz3 tz4 ty3 ty4
  rintro σ H5 ⟨l2, gs, hs5, hb5, tz, ty, hw, hz, nd2, n2, gd2, rfl⟩
  obtain ⟨ws, hl1, ht1⟩ := hw.at_ref
  obtain ⟨us, hl2, ht2⟩ := hz.at_ref
  obtain ⟨p, q', r, x, rfl⟩ := len4 n1
  obtain ⟨p', q'', r', x', rfl⟩ := len4 n2
  obtain ⟨w1, w2, w3, w4, rfl, t1, t2, t3, t4⟩ := tps4 ht1
  obtain ⟨u1, u2, u3, u4, rfl, s1, s2, s3, s4⟩ := tps4 ht2
  have hq1 := SqL.of (K := K) hl1
  have hq2 := SqL.of (K := K) hl2
  have bm30 := bm.mono (show 24 ≤ 30 by decide)
  have bn30 := bn.mono (show 24 ≤ 30 by decide)
  have hgP : ∀ y ∈ [p, q', r, x], GoodPt y ∧ BdPt 12 y := fun y hy => ⟨(gd1 y hy).1, (gd1 y hy).2.mono (by decide)⟩
  have hgG : ∀ y ∈ [p', q'', r', x'], GoodPt y ∧ BdPt 12 y := fun y hy => ⟨(gd2 y hy).1, (gd2 y hy).2.mono (by decide)⟩
  obtain ⟨c, hc⟩ : ∃ c, c = cellN ns 0 := ⟨_, rfl⟩
  obtain ⟨c1, hc1⟩ : ∃ c1, c1 = cellN ns 1 := ⟨_, rfl⟩
  refine seq_det (σ1 := [some (.ref a), some (.ref b), some z, some y, some (.ref l1), some (.ref l2), some (.int c), none, none, none, none, none, none, none, none, none, none]) (H1 := H5) (fun k hk => ?_) ?_
  · walk_at "rd"
    refine ⟨a, ns, 0, rfl, hs5.seq, by decide, ?_⟩
    rw [← hc]; exact hk
  refine seq_by (fun σ H6 => ∃ fr : Int, 0 ≤ fr ∧ H6 = H5 ∧ σ = [some (.ref a), some (.ref b), some z, some y, some (.ref l1), some (.ref l2), some (.int c), some (.int fr), none, none, none, none, none, none, none, none, none]) (fun k hk => ?_) ?_
  · walk_at "rd"
    refine ⟨a, ns, 1, rfl, hs5.seq, by decide, ?_⟩
    have h20 : (0 : Int) < 10 ^ Int.toNat 20 := by decide
    exact ⟨_, rfl, by decide, by decide, h20, hk _ _ ⟨_, Int.emod_nonneg _ (Int.ne_of_gt h20), rfl, rfl⟩⟩
  rintro σ H6 ⟨fr, hfr, rfl, rfl⟩
  refine seq_by (fun σ H7 => ∃ tt : Int, 60 < tt.natAbs ∧ Same H6 H7 ∧ σ = [some (.ref a), some (.ref b), some z, some y, some (.ref l1), some (.ref l2), some (.int c), some (.int fr), some (.int tt), none, none, none, none, none, none, none, none]) (fun k hk => ?_) ?_
  · walk_at "rd"
    refine ⟨by show 4 ≤ sizeLine; decide, ?_⟩
    intro p0 nwn; generalize nwe : upd _ p0 _ = G0; obtain ⟨a0, b0⟩ := nw nwn nwe; clear nwn nwe
    refine ⟨a, ns, 1, rfl, (hs5.mono a0).seq, by decide, ?_⟩
    rw [← hc1]
    obtain ⟨tt, htt, hm⟩ := at_any [(-61 : Int), 61, -61 - fr, 61 + fr] (i := c1 % 4) (Int.emod_nonneg _ (by decide)) (Int.emod_lt_of_pos _ (by decide))
    have h60 : 60 < tt.natAbs := by
      simp only [List.mem_cons, List.not_mem_nil, or_false] at hm
      omega
    exact ⟨_, rfl, by decide, [-61, 61, -61 - fr, 61 + fr], ⟨p0, rfl, SqL.of b0⟩, tt, htt, hk _ _ ⟨tt, h60, a0, rfl⟩⟩
  rintro σ H7 ⟨tt, h60, g7, rfl⟩
  refine seq_by (fun σ H8 => ∃ (bz : V) (m' : Ch), Same H6 H8 ∧ Tp K H8 bz (cl m') ∧ ¬ GoodC m' ∧ BdC 30 m' ∧ σ = [some (.ref a), some (.ref b), some z, some y, some (.ref l1), some (.ref l2), some (.int c), some (.int fr), some (.int tt), some bz, none, none, none, none, none, none, none]) (fun k hk => ?_) ?_
  · walk_at "rd"
    exact ⟨z, m, c, rfl, tz.mono g7, gm, bm, fun bz m' H8 g8 t8 ng b8 => hk _ _ ⟨bz, m', g7.trans g8, t8, ng, b8, rfl⟩⟩
  clear g7
  rintro σ H8 ⟨bz, m', g8, tb8, ngm, bb, rfl⟩
  refine seq_by (fun σ H9 => ∃ (nz : V) (pn : Int × Int), Same H6 H9 ∧ Tp K H9 bz (cl m') ∧ Tp K H9 nz (pl pn) ∧ ¬ GoodPt pn ∧ BdPt 12 pn ∧ σ = [some (.ref a), some (.ref b), some z, some y, some (.ref l1), some (.ref l2), some (.int c), some (.int fr), some (.int tt), some bz, some nz, none, none, none, none, none, none]) (fun k hk => ?_) ?_
  · walk_at "rd"
    refine ⟨_, g8.seq hq1, _, at0 _ _, ⟨by decide, by decide⟩, _, p, _, rfl, t1.mono g8, (hgP p (by simp)).1, (gd1 p (by simp)).2, fun nz pn H9 g9 t9 ng b9 => hk _ _ ⟨nz, pn, g8.trans g9, tb8.mono g9, t9, ng, b9, rfl⟩⟩
  clear tb8 g8
  rintro σ H9 ⟨nz, pn, g9, tb9, tn9, ngp, bpn, rfl⟩
  refine seq_by (fun σ H10 => ∃ (lh : Addr), H6 lh = none ∧ H9 lh = none ∧ Same H6 H10 ∧ Same H9 H10 ∧ H10 lh = some (.lst [w1, w2, w3, w4]) ∧ σ = [some (.ref a), some (.ref b), some z, some y, some (.ref l1), some (.ref l2), some (.int c), some (.int fr), some (.int tt), some bz, some nz, some (.ref lh), none, none, none, none, none]) (fun k hk => ?_) ?_
  · walk_at "rd"
    exact ⟨_, .inl (g9.seq hq1), fun l hl => hk _ _ ⟨l, g9.free hl, hl, g9.trans (same_new hl _), same_new hl _, upd_same, rfl⟩⟩
  rintro σ H10 ⟨lh, nh6, nh9, g10, g10', hh10, rfl⟩
  refine seq_by (fun σ H11 => Same H6 H11 ∧ Same H9 H11 ∧ H11 lh = some (.lst [w1, w2, w3, nz]) ∧ σ = [some (.ref a), some (.ref b), some z, some y, some (.ref l1), some (.ref l2), some (.int c), some (.int fr), some (.int tt), some bz, some nz, some (.ref lh), none, none, none, none, none]) (fun k hk => ?_) ?_
  · walk_at "rd"
    exact ⟨_, hh10, 3, rfl, hk _ _ ⟨same_upd g10 nh6, same_upd g10' nh9, upd_same, rfl⟩⟩
  clear hh10 g10 g10' nh6 nh9
  rintro σ H11 ⟨g11, g11', hh11, rfl⟩
  have tb11 := tb9.mono g11'
  have tn11 := tn9.mono g11'
  have lth : Ltr K H11 (.ref lh) ([p, q', r, pn].map pl) := ⟨lh, _, rfl, hh11, .cons (t1.mono g11) (.cons (t2.mono g11) (.cons (t3.mono g11) (.cons tn11 .nil)))⟩
  clear tb9 tn9 g11' g9
  refine seq_by (fun σ H12 => ∃ (lf : Addr), Same H11 H12 ∧ Ltr K H12 (.ref lf) ([pn, q', r, x].map pl) ∧ σ = [some (.ref a), some (.ref b), some z, some y, some (.ref l1), some (.ref l2), some (.int c), some (.int fr), some (.int tt), some bz, some nz, some (.ref lh), some (.ref lf), none, none, none, none]) (fun k hk => ?_) ?_
  · walk_at "rd"
    refine ⟨by show 1 ≤ sizeLine; decide, ?_⟩
    intro p0 nwn; generalize nwe : upd _ p0 _ = G0; obtain ⟨a0, b0⟩ := nw nwn nwe; clear nwn nwe
    refine ⟨_, (g11.trans a0).seq hq1, ?_⟩
    intro p1 nwn; generalize nwe : upd _ p1 _ = G1; obtain ⟨a1, b1⟩ := nw nwn nwe; clear nwn nwe
    refine ⟨_, a1 _ _ b0, _, b1, by show 4 ≤ sizeLine; decide, ?_⟩
    intro p2 nwn; generalize nwe : upd _ p2 _ = G2; obtain ⟨a2, b2⟩ := nw nwn nwe; clear nwn nwe
    have A2 := a0.trans (a1.trans a2)
    have AH := g11.trans A2
    exact hk _ _ ⟨p2, A2, ⟨p2, _, rfl, b2, .cons (tn11.mono A2) (.cons (t2.mono AH) (.cons (t3.mono AH) (.cons (t4.mono AH) .nil)))⟩, rfl⟩
  rintro σ H12 ⟨lf, g12, ltf, rfl⟩
  have G12 := g11.trans g12
  have tb12 := tb11.mono g12
  have tn12 := tn11.mono g12
  have both : ∀ {A1 B1 : List (Int × Int)}, (∀ y ∈ A1, BdPt 12 y) → (∀ y ∈ B1, BdPt 12 y) → ∀ y ∈ A1 ++ B1, BdPt 12 y := fun h1 h2 y hy => by
    rcases List.mem_append.mp hy with z | z
    · exact h1 y z
    · exact h2 y z
  have bP : ∀ y ∈ [p, q', r, x], BdPt 12 y := fun y hy => (hgP y hy).2
  have bG : ∀ y ∈ [p', q'', r', x'], BdPt 12 y := fun y hy => (hgG y hy).2
  have bF : ∀ y ∈ [pn, q', r, x], BdPt 12 y := fun y hy => by
    rcases List.mem_cons.mp hy with rfl | h
    · exact bpn
    · exact bP y (List.mem_cons_of_mem _ h)
  have bH : ∀ y ∈ [p, q', r, pn], BdPt 12 y := fun y hy => by
    rcases List.mem_append.mp (show y ∈ [p, q', r] ++ [pn] from hy) with h | h
    · exact bP y (List.mem_append_left [x] h)
    · rw [List.mem_singleton.mp h]; exact bpn
  have bS : ∀ {A1 : List (Int × Int)}, (∀ y ∈ A1, y = pn ∨ y ∈ [p, q', r, x]) → ∀ y ∈ A1, BdPt 12 y := fun h y hy => by
    rcases h y hy with rfl | h
    · exact bpn
    · exact bP y h
  refine seq_by (fun σ H13 => ∃ (wz : Option V), Same H12 H13 ∧ σ = [some (.ref a), some (.ref b), some z, some y, some (.ref l1), some (.ref l2), some (.int c), some (.int fr), some (.int tt), some bz, some nz, some (.ref lh), some (.ref lf), wz, none, none, none]) (fun k hk => ?_) ?_
  · refine ⟨9, rfl, by decide, by decide, forR (n := 9) (fun i1 σ H13 => ∃ (wz : Option V), Same H12 H13 ∧ σ = [some (.ref a), some (.ref b), some z, some y, some (.ref l1), some (.ref l2), some (.int c), some (.int fr), some (.int tt), some bz, some nz, some (.ref lh), some (.ref lf), wz, none, none, none]) ⟨none, Same.refl _, rfl⟩ ?_ ?_⟩
    · rintro Pv' hP i1 σ H13 hi ⟨wz, g13, rfl⟩
      walk_at "rd"
      have gg := G12.trans g13
      refine ⟨_, tt, bz, y, .ref lf, .ref l2, m', n, [pn, q', r, x], [p', q'', r', x'], "change", rfl, tb12.mono g13, ty.mono gg, ltf.mono g13, hz.mono gg, bb, bn30, both bF bG, by show 4 ≤ 16; decide, by show 4 ≤ 16; decide, met_change (by omega) ngm, fun H14 g14 => ⟨rfl, ?_⟩⟩
      rw [if_neg (fun h => h rfl)]
      exact hP _ _ _ ⟨_, g13.trans g14, rfl⟩
    · rintro σ H13 ⟨wz, g13, rfl⟩
      exact hk _ _ ⟨wz, g13, rfl⟩
  rintro σ H13 ⟨wz, g13, rfl⟩
  have G13 := G12.trans g13
  refine seq_by (fun σ H14 => Same H13 H14 ∧ σ = [some (.ref a), some (.ref b), some z, some y, some (.ref l1), some (.ref l2), some (.int c), some (.int fr), some (.int tt), some bz, some nz, some (.ref lh), some (.ref lf), wz, none, none, none]) (fun k hk => ?_) ?_
  · walk_at "rd"
    refine ⟨0, 0, z, y, .ref lf, .ref l2, m, n, [pn, q', r, x], [p', q'', r', x'], "point", rfl, tz.mono G13, ty.mono G13, ltf.mono g13, hz.mono G13, bm30, bn30, both bF bG, by show 4 ≤ 16; decide, by show 4 ≤ 16; decide, met_point0 gm ngp, fun H14 g14 => ⟨rfl, ?_⟩⟩
    rw [if_neg (fun h => h rfl)]
    exact hk _ _ ⟨g14, rfl⟩
  rintro σ H14 ⟨g14, rfl⟩
  have G14 := G13.trans g14
  refine seq_by (fun σ H15 => Same H14 H15 ∧ σ = [some (.ref a), some (.ref b), some z, some y, some (.ref l1), some (.ref l2), some (.int c), some (.int fr), some (.int tt), some bz, some nz, some (.ref lh), some (.ref lf), wz, none, none, none]) (fun k hk => ?_) ?_
  · walk_at "rd"
    refine ⟨4, tt, z, y, .ref l1, .ref l2, m, n, [p, q', r, x], [p', q'', r', x'], "times", rfl, tz.mono G14, ty.mono G14, hw.mono G14, hz.mono G14, bm30, bn30, both bP bG, by show 4 ≤ 16; decide, by show 4 ≤ 16; decide, met_times gm h60, fun H15 g15 => ⟨rfl, ?_⟩⟩
    rw [if_neg (fun h => h rfl)]
    exact hk _ _ ⟨g15, rfl⟩
  rintro σ H15 ⟨g15, rfl⟩
  have G15 := G14.trans g15
  have lth15 := lth.mono (g12.trans (g13.trans (g14.trans g15)))
  have tn15 := tn12.mono (g13.trans (g14.trans g15))
  refine seq_by (fun σ H16 => ∃ (wz : Option V), Same H15 H16 ∧ σ = [some (.ref a), some (.ref b), some z, some y, some (.ref l1), some (.ref l2), some (.int c), some (.int fr), some (.int tt), some bz, some nz, some (.ref lh), some (.ref lf), wz, none, none, none]) (fun k hk => ?_) ?_
  · refine ⟨9, 13, rfl, by decide, forR (n := 4) (lo := 9) (fun i1 σ H16 => ∃ (wz : Option V), Same H15 H16 ∧ σ = [some (.ref a), some (.ref b), some z, some y, some (.ref l1), some (.ref l2), some (.int c), some (.int fr), some (.int tt), some bz, some nz, some (.ref lh), some (.ref lf), wz, none, none, none]) ⟨_, Same.refl _, rfl⟩ ?_ ?_⟩
    · rintro Pv' hP i1 σ H16 hi ⟨wz, g16, rfl⟩
      walk_at "rd"
      refine ⟨_, (G15.trans g16).seq hq2, ?_⟩
      intro p0 nwn; generalize nwe : upd _ p0 _ = G0; obtain ⟨a0, b0⟩ := nw nwn nwe; clear nwn nwe
      have gg := (G15.trans g16).trans a0
      refine ⟨_, 0, z, y, .ref lh, .ref p0, m, n, [p, q', r, pn], [p', q''], "point", rfl, tz.mono gg, ty.mono gg, lth15.mono (g16.trans a0), ⟨p0, _, rfl, b0, .cons (s1.mono gg) (.cons (s2.mono gg) .nil)⟩, bm30, bn30, both bH (fun y hy => bG y (List.mem_of_mem_take (i := 2) hy)), by show 4 ≤ 16; decide, by show 2 ≤ 16; decide, met_last (by omega) ngp, fun H17 g17 => ⟨rfl, ?_⟩⟩
      rw [if_neg (fun h => h rfl)]
      exact hP _ _ _ ⟨_, g16.trans (a0.trans g17), rfl⟩
    · rintro σ H16 ⟨wz, g16, rfl⟩
      exact hk _ _ ⟨wz, g16, rfl⟩
  clear wz
  rintro σ H16 ⟨wz, g16, rfl⟩
  have G16 := G15.trans g16
  have tn16 := tn15.mono g16
  obtain ⟨pc, hpc⟩ : ∃ pc, pc = c / 42 % 3 := ⟨_, rfl⟩
  refine seq_det (σ1 := [some (.ref a), some (.ref b), some z, some y, some (.ref l1), some (.ref l2), some (.int c), some (.int fr), some (.int tt), some bz, some nz, some (.ref lh), some (.ref lf), wz, some (.int pc), none, none]) (H1 := H16) (fun k hk => ?_) ?_
  · walk_at "rd"
    refine ⟨⟨by decide, by decide⟩, by decide, ?_⟩
    rw [← hpc]; exact hk
  obtain ⟨v1, v2, h1, h2, e1, e2, tv1, tv2, hlen, sb1, sb2⟩ : ∃ (v1 v2 : List V) (h1 h2 : List (Int × Int)), cutV [u1, u2, u3, u4] none (some pc) = v1 ∧ cutV [u1, u2, u3, u4] (some pc) none = v2 ∧ Tps K H6 v1 (h1.map pl) ∧ Tps K H6 v2 (h2.map pl) ∧ h1.length + h2.length = 4 ∧ (∀ y ∈ h1, BdPt 12 y) ∧ ∀ y ∈ h2, BdPt 12 y := by
    have hpc3 : pc = 0 ∨ pc = 1 ∨ pc = 2 := by omega
    rcases hpc3 with e | e | e <;> rw [e]
    · exact ⟨[], [u1, u2, u3, u4], [], [p', q'', r', x'], rfl, rfl, .nil, .cons s1 (.cons s2 (.cons s3 (.cons s4 .nil))), rfl, fun y hy => absurd hy (by simp), bG⟩
    · exact ⟨[u1], [u2, u3, u4], [p'], [q'', r', x'], rfl, rfl, .cons s1 .nil, .cons s2 (.cons s3 (.cons s4 .nil)), rfl, fun y hy => bG y (List.mem_of_mem_take (i := 1) hy), fun y hy => bG y (List.mem_of_mem_drop (i := 1) hy)⟩
    · exact ⟨[u1, u2], [u3, u4], [p', q''], [r', x'], rfl, rfl, .cons s1 (.cons s2 .nil), .cons s3 (.cons s4 .nil), rfl, fun y hy => bG y (List.mem_of_mem_take (i := 2) hy), fun y hy => bG y (List.mem_of_mem_drop (i := 2) hy)⟩
  have lv1 : v1.length = h1.length := by rw [tv1.length, List.length_map]
  have lv2 : v2.length = h2.length := by rw [tv2.length, List.length_map]
  refine seq_by (fun σ H17 => Same H16 H17 ∧ σ = [some (.ref a), some (.ref b), some z, some y, some (.ref l1), some (.ref l2), some (.int c), some (.int fr), some (.int tt), some bz, some nz, some (.ref lh), some (.ref lf), wz, some (.int pc), none, none]) (fun k hk => ?_) ?_
  · walk_at "rd"
    refine ⟨_, G16.seq hq2, ?_⟩
    rw [e1]
    intro p0 nwn; generalize nwe : upd _ p0 _ = G0; obtain ⟨a0, b0⟩ := nw nwn nwe; clear nwn nwe
    refine ⟨by show 1 ≤ sizeLine; decide, ?_⟩
    intro p1 nwn; generalize nwe : upd _ p1 _ = G1; obtain ⟨a1, b1⟩ := nw nwn nwe; clear nwn nwe
    refine ⟨_, a1 _ _ b0, _, b1, by rw [lv1]; exact Nat.le_of_lt (small1000 (by simp only [List.length_cons, List.length_nil]; omega)), ?_⟩
    intro p2 nwn; generalize nwe : upd _ p2 _ = G2; obtain ⟨a2, b2⟩ := nw nwn nwe; clear nwn nwe
    have A2 := a0.trans (a1.trans a2)
    refine ⟨_, (G16.trans A2).seq hq2, ?_⟩
    rw [e2]
    intro p3 nwn; generalize nwe : upd _ p3 _ = G3; obtain ⟨a3, b3⟩ := nw nwn nwe; clear nwn nwe
    refine ⟨_, a3 _ _ b2, _, b3, by rw [List.length_append, lv1, lv2]; exact Nat.le_of_lt (small1000 (by simp only [List.length_cons, List.length_nil]; omega)), ?_⟩
    intro p4 nwn; generalize nwe : upd _ p4 _ = G4; obtain ⟨a4, b4⟩ := nw nwn nwe; clear nwn nwe
    have A4 := A2.trans (a3.trans a4)
    have gg := G16.trans A4
    refine ⟨9, 0, z, y, .ref l1, .ref p4, m, n, [p, q', r, x], (h1 ++ [pn]) ++ h2, "point", rfl, tz.mono gg, ty.mono gg, hw.mono gg, ⟨p4, _, rfl, b4, ?_⟩, bm30, bn30, both bP (both (both sb1 (bS (by simp))) sb2), by show 4 ≤ 16; decide, by simp only [List.length_append, List.length_cons, List.length_nil]; omega, met_goal ⟨pn, by simp, ngp⟩, fun H17 g17 => ⟨rfl, ?_⟩⟩
    · rw [List.map_append, List.map_append]
      exact Tps.append (Tps.append (tv1.mono gg) (.cons (tn16.mono A4) .nil)) (tv2.mono gg)
    rw [if_neg (fun h => h rfl)]
    exact hk _ _ ⟨A4.trans g17, rfl⟩
  rintro σ H17 ⟨g17, rfl⟩
  have G17 := G16.trans g17
  have tn17 := tn16.mono g17
  refine seq_by (fun σ H18 => ∃ (la : Addr), H6 la = none ∧ H17 la = none ∧ Same H6 H18 ∧ Same H17 H18 ∧ H18 la = some (.lst [w1, w2, w3, w4]) ∧ σ = [some (.ref a), some (.ref b), some z, some y, some (.ref l1), some (.ref l2), some (.int c), some (.int fr), some (.int tt), some bz, some nz, some (.ref lh), some (.ref lf), wz, some (.int pc), some (.ref la), none]) (fun k hk => ?_) ?_
  · walk_at "rd"
    exact ⟨_, .inl (G17.seq hq1), fun l hl => hk _ _ ⟨l, G17.free hl, hl, G17.trans (same_new hl _), same_new hl _, upd_same, rfl⟩⟩
  rintro σ H18 ⟨la, na6, na17, G18, g18, ha18, rfl⟩
  refine seq_by (fun σ H19 => ∃ (a1 a2 a3 a4 : Int × Int), Same H6 H19 ∧ Same H17 H19 ∧ Ltr K H19 (.ref la) ([a1, a2, a3, a4].map pl) ∧ (∃ y ∈ [a1, a2, a3, a4], ¬ GoodPt y) ∧ (∀ y ∈ [a1, a2, a3, a4], BdPt 12 y) ∧ σ = [some (.ref a), some (.ref b), some z, some y, some (.ref l1), some (.ref l2), some (.int c), some (.int fr), some (.int tt), some bz, some nz, some (.ref lh), some (.ref lf), wz, some (.int pc), some (.ref la), none]) (fun k hk => ?_) ?_
  · walk_at "rd"
    have ga := fun o => same_upd (o := o) G18 na6
    have ga' := fun o => same_upd (o := o) g18 na17
    have hc4 : c % 4 = 0 ∨ c % 4 = 1 ∨ c % 4 = 2 ∨ c % 4 = 3 := by omega
    refine ⟨by decide, _, ha18, ?_⟩
    rcases hc4 with e | e | e | e <;> rw [e]
    · exact ⟨0, rfl, hk _ _ ⟨pn, q', r, x, ga _, ga' _, ⟨la, _, rfl, upd_same, .cons (tn17.mono (ga' _)) (.cons (t2.mono (ga _)) (.cons (t3.mono (ga _)) (.cons (t4.mono (ga _)) .nil)))⟩, ⟨pn, by simp, ngp⟩, bF, rfl⟩⟩
    · exact ⟨1, rfl, hk _ _ ⟨p, pn, r, x, ga _, ga' _, ⟨la, _, rfl, upd_same, .cons (t1.mono (ga _)) (.cons (tn17.mono (ga' _)) (.cons (t3.mono (ga _)) (.cons (t4.mono (ga _)) .nil)))⟩, ⟨pn, by simp, ngp⟩, bS (by simp), rfl⟩⟩
    · exact ⟨2, rfl, hk _ _ ⟨p, q', pn, x, ga _, ga' _, ⟨la, _, rfl, upd_same, .cons (t1.mono (ga _)) (.cons (t2.mono (ga _)) (.cons (tn17.mono (ga' _)) (.cons (t4.mono (ga _)) .nil)))⟩, ⟨pn, by simp, ngp⟩, bS (by simp), rfl⟩⟩
    · exact ⟨3, rfl, hk _ _ ⟨p, q', r, pn, ga _, ga' _, ⟨la, _, rfl, upd_same, .cons (t1.mono (ga _)) (.cons (t2.mono (ga _)) (.cons (t3.mono (ga _)) (.cons (tn17.mono (ga' _)) .nil)))⟩, ⟨pn, by simp, ngp⟩, bH, rfl⟩⟩
  clear G18 g18 ha18 na6 na17
  rintro σ H19 ⟨a1, a2, a3, a4, G19, g19, lta, abad, bA, rfl⟩
  have tn19 := tn17.mono g19
  refine seq_by (fun σ H20 => ∃ (wz : Option V), Same H19 H20 ∧ σ = [some (.ref a), some (.ref b), some z, some y, some (.ref l1), some (.ref l2), some (.int c), some (.int fr), some (.int tt), some bz, some nz, some (.ref lh), some (.ref lf), wz, some (.int pc), some (.ref la), none]) (fun k hk => ?_) ?_
  · refine for_src (fun x H1 => ∃ l, x = .ref l ∧ Same H19 H1 ∧ SqL K H1 l ([9, 10, 11].map V.int)) (fun k hk => ?_) ?_
    · walk_at "rd"
      exact ⟨by show 3 ≤ sizeLine; decide, fun p hp => hk _ _ ⟨p, rfl, same_new hp _, SqL.of upd_same⟩⟩
    · rintro yy H20 ⟨l, rfl, g20, hq⟩
      refine ⟨l, rfl, ⟨_, hq⟩, forL (xs := [9, 10, 11].map V.int) (fun i1 σ H21 => ∃ (wz : Option V), Same H20 H21 ∧ σ = [some (.ref a), some (.ref b), some z, some y, some (.ref l1), some (.ref l2), some (.int c), some (.int fr), some (.int tt), some bz, some nz, some (.ref lh), some (.ref lf), wz, some (.int pc), some (.ref la), none]) ⟨_, Same.refl _, rfl⟩ (fun i σ H2 _ ⟨_, h, _⟩ => h.seq hq) ?_ ?_⟩
      · rintro Pv' hP i1 yy σ H21 hy ⟨wz, g21, rfl⟩
        obtain ⟨wy, hwy, rfl⟩ := map_at hy
        have mwy := List.mem_of_getElem? hwy
        walk_at "rd"
        have gl := g20.trans g21
        have gg := G19.trans gl
        refine ⟨wy, 0, z, y, .ref la, .ref l2, m, n, [a1, a2, a3, a4], [p', q'', r', x'], "point", rfl, tz.mono gg, ty.mono gg, lta.mono gl, hz.mono gg, bm30, bn30, both bA bG, by show 4 ≤ 16; decide, by show 4 ≤ 16; decide, met_any (by simpa using mwy) abad, fun H22 g22 => ⟨rfl, ?_⟩⟩
        rw [if_neg (fun h => h rfl)]
        exact hP _ _ _ ⟨_, g21.trans g22, rfl⟩
      · rintro σ H21 ⟨wz, g21, rfl⟩
        exact hk _ _ ⟨wz, g20.trans g21, rfl⟩
  clear wz
  rintro σ H20 ⟨wz, g20, rfl⟩
  have G20 := G19.trans g20
  have tn20 := tn19.mono g20
  refine seq_by (fun σ H21 => ∃ (wz : Option V), Same H20 H21 ∧ σ = [some (.ref a), some (.ref b), some z, some y, some (.ref l1), some (.ref l2), some (.int c), some (.int fr), some (.int tt), some bz, some nz, some (.ref lh), some (.ref lf), wz, some (.int pc), some (.ref la), none]) (fun k hk => ?_) ?_
  · refine for_src (fun x H1 => ∃ l, x = .ref l ∧ Same H20 H1 ∧ SqL K H1 l ([10, 11].map V.int)) (fun k hk => ?_) ?_
    · walk_at "rd"
      exact ⟨by show 2 ≤ sizeLine; decide, fun p hp => hk _ _ ⟨p, rfl, same_new hp _, SqL.of upd_same⟩⟩
    · rintro yy H21 ⟨l, rfl, g21, hq⟩
      refine ⟨l, rfl, ⟨_, hq⟩, forL (xs := [10, 11].map V.int) (fun i1 σ H22 => ∃ (wz : Option V), Same H21 H22 ∧ σ = [some (.ref a), some (.ref b), some z, some y, some (.ref l1), some (.ref l2), some (.int c), some (.int fr), some (.int tt), some bz, some nz, some (.ref lh), some (.ref lf), wz, some (.int pc), some (.ref la), none]) ⟨_, Same.refl _, rfl⟩ (fun i σ H2 _ ⟨_, h, _⟩ => h.seq hq) ?_ ?_⟩
      · rintro Pv' hP i1 yy σ H22 hy ⟨wz, g22, rfl⟩
        obtain ⟨wy, hwy, rfl⟩ := map_at hy
        have mwy : wy = 10 ∨ wy = 11 := by simpa using List.mem_of_getElem? hwy
        walk_at "rd"
        have gg0 := G20.trans (g21.trans g22)
        have hqq := gg0.seq hq1
        refine ⟨_, hqq, _, at0 _ _, _, hqq, _, at0 _ _, _, hqq, _, at2 _ _ _ _, by show 4 ≤ sizeLine; decide, ?_⟩
        intro p0 nwn; generalize nwe : upd _ p0 _ = G0; obtain ⟨a0, b0⟩ := nw nwn nwe; clear nwn nwe
        have gg := gg0.trans a0
        refine ⟨wy, 0, z, y, .ref p0, .ref l2, m, n, [p, p, r, pn], [p', q'', r', x'], "point", rfl, tz.mono gg, ty.mono gg, ⟨p0, _, rfl, b0, .cons (t1.mono gg) (.cons (t1.mono gg) (.cons (t3.mono gg) (.cons (tn20.mono (g21.trans (g22.trans a0))) .nil)))⟩, hz.mono gg, bm30, bn30, both (bS (by simp)) bG, by show 4 ≤ 16; decide, by show 4 ≤ 16; decide, met_any (by omega) ⟨pn, by simp, ngp⟩, fun H23 g23 => ⟨rfl, ?_⟩⟩
        rw [if_neg (fun h => h rfl)]
        exact hP _ _ _ ⟨_, g22.trans (a0.trans g23), rfl⟩
      · rintro σ H22 ⟨wz, g22, rfl⟩
        exact hk _ _ ⟨wz, g21.trans g22, rfl⟩
  clear wz
  rintro σ H21 ⟨wz, g21, rfl⟩
  have G21 := G20.trans g21
  refine seq_by (fun σ H22 => ∃ (l9 : Addr) (ms : List (Int × Int)), Same H6 H22 ∧ Ltr K H22 (.ref l9) (ms.map pl) ∧ ms.length = 9 ∧ (∀ y ∈ ms, GoodPt y ∧ BdPt 12 y) ∧ σ = [some (.ref a), some (.ref b), some z, some y, some (.ref l1), some (.ref l2), some (.int c), some (.int fr), some (.int tt), some bz, some nz, some (.ref lh), some (.ref lf), wz, some (.int pc), some (.ref la), some (.ref l9)]) (fun k hk => ?_) ?_
  · walk_at "rd"
    refine ⟨[13], ⟨b, rfl, SqL.of (G21 _ _ hb5)⟩, 13, at0 _ _, by show 1 ≤ sizeLine; decide, fun p0 n0 => ?_⟩
    have g0 := same_new n0 (.lst [.int 13])
    refine ⟨a, p0, ns, 13, 9, rfl, (hs5.mono G21).mono g0, upd_same, by decide, by decide, by decide, fun l vs ms H22 g22 nl hl ht nd hlen hgood => ?_⟩
    have G22 := (same_upd (o := .lst [.int (13 + 9)]) (G21.trans g0) (G21.free n0)).trans g22
    exact hk _ _ ⟨l, ms, G22, ⟨l, vs, rfl, hl, ht⟩, by omega, fun y hy => ⟨(hgood y hy).1, (hgood y hy).2.mono (by decide)⟩, rfl⟩
  rintro σ H22 ⟨l9, ms, G22, lt9, n9, gd9, rfl⟩
  walk_at "rd"
  refine ⟨c, z, .ref l1, .ref l2, .ref l9, m, [p, q', r, x], [p', q'', r', x'], ms, rfl, tz.mono G22, hw.mono G22, hz.mono G22, lt9, gm, bm30, fun y hy => ?_, rfl, rfl, n9, nd1, nd2, fun H23 g23 => q _⟩
  rcases List.mem_append.mp hy with h | h
  · rcases List.mem_append.mp h with h | h
    · exact hgP y h
    · exact hgG y h
  · exact gd9 y h
end
theorem law_mk {K : PySem.W.Frag} {h : Heap} {mg : Str → Option Value} {f : Addr} {oc : Value} {od an : Option Addr} {osl : Array (Option Value)} {kV doc pm cdv ct : Value} (X : K.In h) (G : h.Ns mainGlobals mg)
    (a : PySem.W.nsIn K mainGlobals "law" = some (some (.ref f))) (l : K.lookup f = some ⟨oc, od, .func (PySem.W.fnOf "law" "law" (defArgs s_law) (defBody s_law) (defScope s_law) .none kV doc pm an cdv ct), osl⟩) (c : PySem.W.codeIn K cdv "law" = true) (k : PySem.W.keepIn K (.ref f) = true) :
    ∃ (f : Addr) (fd : FuncData), Fun K "law" "law" s_law f fd ∧ mg "law" = some (.ref f) ∧ ∀ (s : Shared) (v : Value), BindsTo s fd ⟨[v], []⟩ [("script", v)] :=
  ⟨f, _, fun_mk l c k, PySem.W.mg_of X G a, fun s v => .of_eq rfl⟩
theorem fin {P : Program} {w : World} {K : PySem.W.Frag} {mg : Str → Option Value} {fa nc nn np nth nt le : Addr} (hfa : mg "law" = some (.ref fa)) (B : Blt mg)
    (D__law_cell_at : Def K mg "_law_cell_at" s__law_cell_at ["script", "k"])
    (D__law_next : Def K mg "_law_next" s__law_next ["script", "spot"])
    (D__law_stir : Def K mg "_law_stir" s__law_stir ["seed"])
    (D__law_common : Def K mg "_law_common" s__law_common ["one", "other"])
    (D__law_plain : Def K mg "_law_plain" s__law_plain ["numbers"])
    (D__law_turning : Def K mg "_law_turning" s__law_turning ["cell"])
    (D__law_after : Def K mg "_law_after" s__law_after ["one", "other"])
    (D__law_back : Def K mg "_law_back" s__law_back ["change"])
    (D__law_change : Def K mg "_law_change" s__law_change ["script", "spot"])
    (D__law_point : Def K mg "_law_point" s__law_point ["top", "bottom"])
    (D__law_drawn_point : Def K mg "_law_drawn_point" s__law_drawn_point ["cell"])
    (D__law_some_points : Def K mg "_law_some_points" s__law_some_points ["script", "spot", "many"])
    (D__law_bad_change : Def K mg "_law_bad_change" s__law_bad_change ["change", "cell"])
    (D__law_bad_point : Def K mg "_law_bad_point" s__law_bad_point ["point", "cell"])
    (D_common_divisor : Def K mg "common_divisor" s_common_divisor ["one", "other"])
    (D_lowest_change : Def K mg "lowest_change" s_lowest_change ["numbers"])
    (D_is_change : Def K mg "is_change" s_is_change ["change"])
    (D_check_change : Def K mg "check_change" s_check_change ["change"])
    (D_lowest_point : Def K mg "lowest_point" s_lowest_point ["top", "bottom"])
    (D_is_point : Def K mg "is_point" s_is_point ["point"])
    (D_check_point : Def K mg "check_point" s_check_point ["point"])
    (D_moved : Def K mg "moved" s_moved ["change", "point"])
    (D_joined : Def K mg "joined" s_joined ["one", "other"])
    (D_after : Def K mg "after" s_after ["one", "other"])
    (D_back : Def K mg "back" s_back ["change"])
    (D_power : Def K mg "power" s_power ["change", "times"])
    (D_turns : Def K mg "turns" s_turns ["change"])
    (D_kept_with_far : Def K mg "kept_with_far" s_kept_with_far ["change"])
    (D_whole_root : Def K mg "whole_root" s_whole_root ["number"])
    (D_kept_without_far : Def K mg "kept_without_far" s_kept_without_far ["change"])
    (D_kept : Def K mg "kept" s_kept ["change"])
    (D_first_turn : Def K mg "first_turn" s_first_turn ["change"])
    (D_two_turns : Def K mg "two_turns" s_two_turns ["change"])
    (D_shown_change : Def K mg "shown_change" s_shown_change ["change"])
    (D__law_first : Def K mg "_law_first" s__law_first ["way", "change", "other", "point", "times"])
    (D_unlike : Def K mg "unlike" s_unlike ["points"])
    (D_check_told : Def K mg "check_told" s_check_told ["points", "goals"])
    (D_gap : Def K mg "gap" s_gap ["one", "other"])
    (D_to_base : Def K mg "to_base" s_to_base ["one", "two", "three"])
    (D_told_by : Def K mg "told_by" s_told_by ["points", "goals"])
    (D_check_three : Def K mg "check_three" s_check_three ["one", "two", "three", "last"])
    (D_cross : Def K mg "cross" s_cross ["one", "two", "three", "four"])
    (D_fourth : Def K mg "fourth" s_fourth ["one", "two", "three", "number"])
    (D_shown_point : Def K mg "shown_point" s_shown_point ["point"])
    (D__law_second : Def K mg "_law_second" s__law_second ["way", "points", "goals"])
    (D__law_which : Def K mg "_law_which" s__law_which ["e"])
    (D__law_met : Def K mg "_law_met" s__law_met ["way", "change", "other", "points", "goals", "times"])
    (D__law_threes_right : Def K mg "_law_threes_right" s__law_threes_right ["cell", "change", "points", "goals", "nine"])
    (cls : ClsOk K mg nc nn np nth nt le)
    {aF : Addr} (c_FAR : mg "FAR" = some (.ref aF) ∧ RelV (.ref aF) (Value.ref aF)) (kF : ∀ H, SqT K H aF [.int 1, .int 0])
    {uN : Value} (c_FAR_NOTE : mg "FAR_NOTE" = some uN ∧ RelV (.str "far") uN)
    {uF : Value} (c_FEWEST_POINTS : mg "FEWEST_POINTS" = some uF ∧ RelV (.int 3) uF)
    {uP : Value} (c_MOST_POINTS : mg "MOST_POINTS" = some uP ∧ RelV (.int 8) uP)
    {uM : Value} (c_MOST_TIMES : mg "MOST_TIMES" = some uM ∧ RelV (.int 60) uM)
    {aS : Addr} (c_STILL : mg "STILL" = some (.ref aS) ∧ RelV (.ref aS) (Value.ref aS)) (kS : ∀ H, SqT K H aS [.int 1, .int 0, .int 0, .int 1])
    {aT : Addr} (c_TURN_NUMBERS : mg "TURN_NUMBERS" = some (.ref aT) ∧ RelV (.ref aT) (Value.ref aT)) (kT : ∀ H, SqT K H aT (tn.map fun k : Nat => V.int (k : Int)))
    (FL : ∃ (f : Addr) (fd : FuncData), Fun K "law" "law" s_law f fd ∧ mg "law" = some (.ref f) ∧ ∀ (s : Shared) (v : Value), BindsTo s fd ⟨[v], []⟩ [("script", v)]) :
    ∃ fd : FuncData, (∀ (s : Shared) (u : Value), BindsTo s fd ⟨[u], []⟩ [("script", u)]) ∧ ∀ base : Heap, K.In base → base.Ns mainGlobals mg → FnOk P w K mg base CX0 13 fa fd ["script"] (spLaw K) := by
  obtain ⟨f, fd, F, m, b⟩ := FL
  cases hfa.symm.trans m
  refine ⟨fd, b, fun base _ _ => ?_⟩
  have c__law_cell_at : Cal P w K mg base 1 "_law_cell_at" ["script", "k"] (spCell K) := cal__law_cell_at D__law_cell_at B
  have c__law_next : Cal P w K mg base 2 "_law_next" ["script", "spot"] (spNext K) := cal__law_next D__law_next (c__law_cell_at.mono (by decide))
  have c__law_stir : Cal P w K mg base 1 "_law_stir" ["seed"] spStir := cal__law_stir D__law_stir
  have c__law_common : Cal P w K mg base 1 "_law_common" ["one", "other"] spGcd := cal__law_common D__law_common B
  have c__law_plain : Cal P w K mg base 2 "_law_plain" ["numbers"] (spPlain K) := cal__law_plain D__law_plain (c__law_common.mono (by decide)) B
  have c__law_turning : Cal P w K mg base 1 "_law_turning" ["cell"] (spTurning K) := cal__law_turning D__law_turning
  have c__law_after : Cal P w K mg base 3 "_law_after" ["one", "other"] (spLawAfter K) := cal__law_after D__law_after (c__law_plain.mono (by decide))
  have c__law_back : Cal P w K mg base 3 "_law_back" ["change"] (spLawBack K) := cal__law_back D__law_back (c__law_plain.mono (by decide))
  have c__law_change : Cal P w K mg base 4 "_law_change" ["script", "spot"] (spLawChange K) := cal__law_change D__law_change (c__law_next.mono (by decide)) (c__law_stir.mono (by decide)) (c__law_plain.mono (by decide)) (c__law_turning.mono (by decide)) (c__law_after.mono (by decide)) (c__law_back.mono (by decide)) B
  have c__law_point : Cal P w K mg base 2 "_law_point" ["top", "bottom"] (spLawP K) := cal__law_point D__law_point (c__law_common.mono (by decide))
  have c__law_drawn_point : Cal P w K mg base 3 "_law_drawn_point" ["cell"] (spDrawn K) := cal__law_drawn_point D__law_drawn_point (c__law_point.mono (by decide)) (c__law_stir.mono (by decide))
  have c__law_some_points : Cal P w K mg base 4 "_law_some_points" ["script", "spot", "many"] (spSome K) := cal__law_some_points D__law_some_points (c__law_next.mono (by decide)) (c__law_drawn_point.mono (by decide)) B
  have c__law_bad_change : Cal P w K mg base 1 "_law_bad_change" ["change", "cell"] (spBadC K) := cal__law_bad_change D__law_bad_change B
  have c__law_bad_point : Cal P w K mg base 1 "_law_bad_point" ["point", "cell"] (spBadP K) := cal__law_bad_point D__law_bad_point
  have c_common_divisor : Cal P w K mg base 1 "common_divisor" ["one", "other"] spGcd := cal_common_divisor D_common_divisor B
  have c_lowest_change : Cal P w K mg base 2 "lowest_change" ["numbers"] (spLowC K) := cal_lowest_change D_lowest_change (c_common_divisor.mono (by decide)) B
  have c_is_change : Cal P w K mg base 3 "is_change" ["change"] (spIsC K) := cal_is_change D_is_change (c_lowest_change.mono (by decide))
  have c_check_change : Cal P w K mg base 4 "check_change" ["change"] (spCheckC K) := cal_check_change D_check_change (c_is_change.mono (by decide))
  have c_lowest_point : Cal P w K mg base 2 "lowest_point" ["top", "bottom"] (spLowP K) := cal_lowest_point D_lowest_point (c_common_divisor.mono (by decide)) c_FAR kF
  have c_is_point : Cal P w K mg base 3 "is_point" ["point"] (spIsP K) := cal_is_point D_is_point (c_lowest_point.mono (by decide))
  have c_check_point : Cal P w K mg base 4 "check_point" ["point"] (spCheckP K) := cal_check_point D_check_point (c_is_point.mono (by decide))
  have c_moved : Cal P w K mg base 5 "moved" ["change", "point"] (spMoved K) := cal_moved D_moved (c_check_change.mono (by decide)) (c_check_point.mono (by decide)) (c_lowest_point.mono (by decide))
  have c_joined : Cal P w K mg base 1 "joined" ["one", "other"] (spJoined K) := cal_joined D_joined
  have c_after : Cal P w K mg base 5 "after" ["one", "other"] (spAfter K) := cal_after D_after (c_check_change.mono (by decide)) (c_joined.mono (by decide)) (c_lowest_change.mono (by decide))
  have c_back : Cal P w K mg base 5 "back" ["change"] (spBack K) := cal_back D_back (c_check_change.mono (by decide)) (c_lowest_change.mono (by decide))
  have c_power : Cal P w K mg base 6 "power" ["change", "times"] (spPower K) := cal_power D_power (c_check_change.mono (by decide)) (c_back.mono (by decide)) (c_joined.mono (by decide)) (c_lowest_change.mono (by decide)) B c_MOST_TIMES c_STILL kS
  have c_turns : Cal P w K mg base 7 "turns" ["change"] (spTurns K) := cal_turns D_turns (c_check_change.mono (by decide)) (c_power.mono (by decide)) c_STILL kS c_TURN_NUMBERS kT
  have c_kept_with_far : Cal P w K mg base 3 "kept_with_far" ["change"] (spKeptFar K) := cal_kept_with_far D_kept_with_far (c_lowest_point.mono (by decide)) c_FAR kF
  have c_whole_root : Cal P w K mg base 1 "whole_root" ["number"] (spRoot K) := cal_whole_root D_whole_root
  have c_kept_without_far : Cal P w K mg base 3 "kept_without_far" ["change"] (spKeptNoFar K) := cal_kept_without_far D_kept_without_far (c_lowest_point.mono (by decide)) (c_whole_root.mono (by decide))
  have c_kept : Cal P w K mg base 5 "kept" ["change"] (spKept K) := cal_kept D_kept (c_check_change.mono (by decide)) (c_kept_with_far.mono (by decide)) (c_kept_without_far.mono (by decide)) B c_STILL kS
  have c_first_turn : Cal P w K mg base 3 "first_turn" ["change"] (spFirst K) := cal_first_turn D_first_turn (c_lowest_change.mono (by decide))
  have c_two_turns : Cal P w K mg base 6 "two_turns" ["change"] (spTwo K) := cal_two_turns D_two_turns (c_check_change.mono (by decide)) (c_first_turn.mono (by decide)) (c_after.mono (by decide))
  have c_shown_change : Cal P w K mg base 5 "shown_change" ["change"] (spShownC K) := cal_shown_change D_shown_change (c_check_change.mono (by decide)) B
  have c__law_first : Cal P w K mg base 9 "_law_first" ["way", "change", "other", "point", "times"] (spMet1 K) := cal__law_first D__law_first (c_moved.mono (by decide)) (c_after.mono (by decide)) (c_back.mono (by decide)) (c_power.mono (by decide)) (c_turns.mono (by decide)) (c_kept.mono (by decide)) (c_two_turns.mono (by decide)) (c_shown_change.mono (by decide))
  have x_check_change : CalX P w K mg base 5 "check_change" ["change"] (fun vs H Q E => (spCheckC K) vs H Q E ∨ (spCheckCX K nc) vs H Q E) := calx_check_change D_check_change (c_check_change.mono (by decide)) (c_is_change.mono (by decide)) cls
  have x_check_point : CalX P w K mg base 5 "check_point" ["point"] (fun vs H Q E => (spCheckP K) vs H Q E ∨ (spCheckPX K np) vs H Q E) := calx_check_point D_check_point (c_check_point.mono (by decide)) (c_is_point.mono (by decide)) cls
  have x_moved : CalX P w K mg base 6 "moved" ["change", "point"] (fun vs H Q E => (spMoved K) vs H Q E ∨ (spMovedX K nc np) vs H Q E) := calx_moved D_moved (c_moved.mono (by decide)) (x_check_change.mono (by decide)) (x_check_point.mono (by decide))
  have x_after : CalX P w K mg base 6 "after" ["one", "other"] (fun vs H Q E => (spAfter K) vs H Q E ∨ (spAfterX K nc) vs H Q E) := calx_after D_after (c_after.mono (by decide)) (x_check_change.mono (by decide))
  have x_back : CalX P w K mg base 6 "back" ["change"] (fun vs H Q E => (spBack K) vs H Q E ∨ (spCheckCX K nc) vs H Q E) := calx_back D_back (c_back.mono (by decide)) (x_check_change.mono (by decide))
  have x_power : CalX P w K mg base 7 "power" ["change", "times"] (fun vs H Q E => (spPower K) vs H Q E ∨ (spPowerX K nc nt) vs H Q E) := calx_power D_power (c_power.mono (by decide)) (x_check_change.mono (by decide)) B cls c_MOST_TIMES
  have x_turns : CalX P w K mg base 8 "turns" ["change"] (fun vs H Q E => (spTurns K) vs H Q E ∨ (spCheckCX K nc) vs H Q E) := calx_turns D_turns (c_turns.mono (by decide)) (x_check_change.mono (by decide))
  have x_kept : CalX P w K mg base 6 "kept" ["change"] (fun vs H Q E => (spKept K) vs H Q E ∨ (spCheckCX K nc) vs H Q E) := calx_kept D_kept (c_kept.mono (by decide)) (x_check_change.mono (by decide))
  have x_two_turns : CalX P w K mg base 7 "two_turns" ["change"] (fun vs H Q E => (spTwo K) vs H Q E ∨ (spCheckCX K nc) vs H Q E) := calx_two_turns D_two_turns (c_two_turns.mono (by decide)) (x_check_change.mono (by decide))
  have x_shown_change : CalX P w K mg base 6 "shown_change" ["change"] (fun vs H Q E => (spShownC K) vs H Q E ∨ (spCheckCX K nc) vs H Q E) := calx_shown_change D_shown_change (c_shown_change.mono (by decide)) (x_check_change.mono (by decide))
  have x__law_first : CalX P w K mg base 10 "_law_first" ["way", "change", "other", "point", "times"] (fun vs H Q E => (spMet1 K) vs H Q E ∨ (spMet1X K nc nn np nth nt) vs H Q E) := calx__law_first D__law_first (c__law_first.mono (by decide)) (x_moved.mono (by decide)) (x_after.mono (by decide)) (x_back.mono (by decide)) (x_power.mono (by decide)) (x_turns.mono (by decide)) (x_kept.mono (by decide)) (x_two_turns.mono (by decide)) (x_shown_change.mono (by decide))
  have c_unlike : Cal P w K mg base 1 "unlike" ["points"] (spUnlike K) := cal_unlike D_unlike B
  have c_check_told : Cal P w K mg base 5 "check_told" ["points", "goals"] (spCheckTold K) := cal_check_told D_check_told (c_check_point.mono (by decide)) (c_unlike.mono (by decide)) B c_FEWEST_POINTS c_MOST_POINTS
  have c_gap : Cal P w K mg base 1 "gap" ["one", "other"] (spGap K) := cal_gap D_gap
  have c_to_base : Cal P w K mg base 3 "to_base" ["one", "two", "three"] (spBase K) := cal_to_base D_to_base (c_gap.mono (by decide)) (c_lowest_change.mono (by decide))
  have c_told_by : Cal P w K mg base 7 "told_by" ["points", "goals"] (spTold K) := cal_told_by D_told_by (c_check_told.mono (by decide)) (c_to_base.mono (by decide)) (c_back.mono (by decide)) (c_after.mono (by decide)) (c_moved.mono (by decide)) B
  have c_check_three : Cal P w K mg base 5 "check_three" ["one", "two", "three", "last"] (spCheckThree K) := cal_check_three D_check_three (c_check_point.mono (by decide)) (c_unlike.mono (by decide))
  have c_cross : Cal P w K mg base 6 "cross" ["one", "two", "three", "four"] (spCross K) := cal_cross D_cross (c_check_three.mono (by decide)) (c_moved.mono (by decide)) (c_to_base.mono (by decide))
  have c_fourth : Cal P w K mg base 6 "fourth" ["one", "two", "three", "number"] (spFourth K) := cal_fourth D_fourth (c_check_three.mono (by decide)) (c_moved.mono (by decide)) (c_back.mono (by decide)) (c_to_base.mono (by decide))
  have c_shown_point : Cal P w K mg base 5 "shown_point" ["point"] (spShownP K) := cal_shown_point D_shown_point (c_check_point.mono (by decide)) B c_FAR kF c_FAR_NOTE
  have c__law_second : Cal P w K mg base 9 "_law_second" ["way", "points", "goals"] (spMet2 K) := cal__law_second D__law_second (c_told_by.mono (by decide)) (c_cross.mono (by decide)) (c_fourth.mono (by decide)) (c_shown_point.mono (by decide))
  have x_check_told : CalX P w K mg base 6 "check_told" ["points", "goals"] (fun vs H Q E => (spCheckTold K) vs H Q E ∨ (spToldX K np nth) vs H Q E) := calx_check_told D_check_told (c_check_told.mono (by decide)) (x_check_point.mono (by decide)) (c_unlike.mono (by decide)) B cls c_FEWEST_POINTS c_MOST_POINTS
  have x_told_by : CalX P w K mg base 8 "told_by" ["points", "goals"] (fun vs H Q E => (spTold K) vs H Q E ∨ (spToldX K np nth) vs H Q E) := calx_told_by D_told_by (c_told_by.mono (by decide)) (x_check_told.mono (by decide))
  have x_check_three : CalX P w K mg base 6 "check_three" ["one", "two", "three", "last"] (fun vs H Q E => (spCheckThree K) vs H Q E ∨ (spThreeX K np nth) vs H Q E) := calx_check_three D_check_three (c_check_three.mono (by decide)) (x_check_point.mono (by decide)) (c_unlike.mono (by decide)) cls
  have x_cross : CalX P w K mg base 7 "cross" ["one", "two", "three", "four"] (fun vs H Q E => (spCross K) vs H Q E ∨ (spThreeX K np nth) vs H Q E) := calx_cross D_cross (c_cross.mono (by decide)) (x_check_three.mono (by decide))
  have x_fourth : CalX P w K mg base 7 "fourth" ["one", "two", "three", "number"] (fun vs H Q E => (spFourth K) vs H Q E ∨ (spThreeX K np nth) vs H Q E) := calx_fourth D_fourth (c_fourth.mono (by decide)) (x_check_three.mono (by decide))
  have x_shown_point : CalX P w K mg base 6 "shown_point" ["point"] (fun vs H Q E => (spShownP K) vs H Q E ∨ (spCheckPX K np) vs H Q E) := calx_shown_point D_shown_point (c_shown_point.mono (by decide)) (x_check_point.mono (by decide))
  have x__law_second : CalX P w K mg base 10 "_law_second" ["way", "points", "goals"] (fun vs H Q E => (spMet2 K) vs H Q E ∨ (spMet2X K nc nn np nth nt) vs H Q E) := calx__law_second D__law_second (c__law_second.mono (by decide)) (x_told_by.mono (by decide)) (x_cross.mono (by decide)) (x_fourth.mono (by decide)) (x_shown_point.mono (by decide))
  have u__law_which : CalU P w K mg base 1 "_law_which" ["e"] (spWhich K nc nn np nth nt) := calu__law_which D__law_which B cls
  have c__law_met : Cal P w K mg base 11 "_law_met" ["way", "change", "other", "points", "goals", "times"] (spMet K) := cal__law_met D__law_met (x__law_first.mono (by decide)) (x__law_second.mono (by decide)) (u__law_which.mono (by decide)) cls
  have c__law_threes_right : Cal P w K mg base 12 "_law_threes_right" ["cell", "change", "points", "goals", "nine"] (spThrees K) := cal__law_threes_right D__law_threes_right (c__law_met.mono (by decide)) B
  exact ok_law F (c__law_change.mono (by decide)) (c__law_some_points.mono (by decide)) (c__law_cell_at.mono (by decide)) (c__law_bad_change.mono (by decide)) (c__law_bad_point.mono (by decide)) (c__law_met.mono (by decide)) (c__law_threes_right.mono (by decide)) B
end Lw
open PySem PySem.W PyProof.Rows
set_option maxRecDepth 100000 in
set_option maxHeartbeats 0 in
theorem PySem.Challenge.cw_crossline_k02_refused_holds : PySem.Challenge.rw_crossline_k02_refused.Holds := by
  refine Lh.hd ?_
  k_fill
  refine L2.walk_of (l := PySem.Challenge.rw_crossline_k02_refused) (n := 63) (k := 13) (x := "script") (CX := fun _ => L2.CX0) (sp := fun w => Cs.spLaw _) rfl (by decide) rfl ⟨rfl, by decide, by decide⟩ (fun w h Y => PySem.W.kIn_of Y) ?F (fun w H a ns hl hO hS => ⟨a, ns, rfl, Cs.Only.scr hS hO, fun _ => rfl⟩) (fun _ _ _ _ _ z => z)
  case F =>
    intro w mg fa h KX G hmg
    have D__law_cell_at : L3.Def (L2.KOf KX) mg "_law_cell_at" Lw.s__law_cell_at ["script", "k"] := by
      dsimp only [L2.KOf]
      refine' L3.def_mk KX G ?a ?l ?c ?k (fun _ _ _ _ _ _ us hl => match us, hl with | [_, _], _ => rfl)
      (case a => k_is); (case l => k_is); (case c => k_is); (case k => k_is)
    have D__law_next : L3.Def (L2.KOf KX) mg "_law_next" Lw.s__law_next ["script", "spot"] := by
      dsimp only [L2.KOf]
      refine' L3.def_mk KX G ?a ?l ?c ?k (fun _ _ _ _ _ _ us hl => match us, hl with | [_, _], _ => rfl)
      (case a => k_is); (case l => k_is); (case c => k_is); (case k => k_is)
    have D__law_stir : L3.Def (L2.KOf KX) mg "_law_stir" Lw.s__law_stir ["seed"] := by
      dsimp only [L2.KOf]
      refine' L3.def_mk KX G ?a ?l ?c ?k (fun _ _ _ _ _ _ us hl => match us, hl with | [_], _ => rfl)
      (case a => k_is); (case l => k_is); (case c => k_is); (case k => k_is)
    have D__law_common : L3.Def (L2.KOf KX) mg "_law_common" Lw.s__law_common ["one", "other"] := by
      dsimp only [L2.KOf]
      refine' L3.def_mk KX G ?a ?l ?c ?k (fun _ _ _ _ _ _ us hl => match us, hl with | [_, _], _ => rfl)
      (case a => k_is); (case l => k_is); (case c => k_is); (case k => k_is)
    have D__law_plain : L3.Def (L2.KOf KX) mg "_law_plain" Lw.s__law_plain ["numbers"] := by
      dsimp only [L2.KOf]
      refine' L3.def_mk KX G ?a ?l ?c ?k (fun _ _ _ _ _ _ us hl => match us, hl with | [_], _ => rfl)
      (case a => k_is); (case l => k_is); (case c => k_is); (case k => k_is)
    have D__law_turning : L3.Def (L2.KOf KX) mg "_law_turning" Lw.s__law_turning ["cell"] := by
      dsimp only [L2.KOf]
      refine' L3.def_mk KX G ?a ?l ?c ?k (fun _ _ _ _ _ _ us hl => match us, hl with | [_], _ => rfl)
      (case a => k_is); (case l => k_is); (case c => k_is); (case k => k_is)
    have D__law_after : L3.Def (L2.KOf KX) mg "_law_after" Lw.s__law_after ["one", "other"] := by
      dsimp only [L2.KOf]
      refine' L3.def_mk KX G ?a ?l ?c ?k (fun _ _ _ _ _ _ us hl => match us, hl with | [_, _], _ => rfl)
      (case a => k_is); (case l => k_is); (case c => k_is); (case k => k_is)
    have D__law_back : L3.Def (L2.KOf KX) mg "_law_back" Lw.s__law_back ["change"] := by
      dsimp only [L2.KOf]
      refine' L3.def_mk KX G ?a ?l ?c ?k (fun _ _ _ _ _ _ us hl => match us, hl with | [_], _ => rfl)
      (case a => k_is); (case l => k_is); (case c => k_is); (case k => k_is)
    have D__law_change : L3.Def (L2.KOf KX) mg "_law_change" Lw.s__law_change ["script", "spot"] := by
      dsimp only [L2.KOf]
      refine' L3.def_mk KX G ?a ?l ?c ?k (fun _ _ _ _ _ _ us hl => match us, hl with | [_, _], _ => rfl)
      (case a => k_is); (case l => k_is); (case c => k_is); (case k => k_is)
    have D__law_point : L3.Def (L2.KOf KX) mg "_law_point" Lw.s__law_point ["top", "bottom"] := by
      dsimp only [L2.KOf]
      refine' L3.def_mk KX G ?a ?l ?c ?k (fun _ _ _ _ _ _ us hl => match us, hl with | [_, _], _ => rfl)
      (case a => k_is); (case l => k_is); (case c => k_is); (case k => k_is)
    have D__law_drawn_point : L3.Def (L2.KOf KX) mg "_law_drawn_point" Lw.s__law_drawn_point ["cell"] := by
      dsimp only [L2.KOf]
      refine' L3.def_mk KX G ?a ?l ?c ?k (fun _ _ _ _ _ _ us hl => match us, hl with | [_], _ => rfl)
      (case a => k_is); (case l => k_is); (case c => k_is); (case k => k_is)
    have D__law_some_points : L3.Def (L2.KOf KX) mg "_law_some_points" Lw.s__law_some_points ["script", "spot", "many"] := by
      dsimp only [L2.KOf]
      refine' L3.def_mk KX G ?a ?l ?c ?k (fun _ _ _ _ _ _ us hl => match us, hl with | [_, _, _], _ => rfl)
      (case a => k_is); (case l => k_is); (case c => k_is); (case k => k_is)
    have D__law_bad_change : L3.Def (L2.KOf KX) mg "_law_bad_change" Lw.s__law_bad_change ["change", "cell"] := by
      dsimp only [L2.KOf]
      refine' L3.def_mk KX G ?a ?l ?c ?k (fun _ _ _ _ _ _ us hl => match us, hl with | [_, _], _ => rfl)
      (case a => k_is); (case l => k_is); (case c => k_is); (case k => k_is)
    have D__law_bad_point : L3.Def (L2.KOf KX) mg "_law_bad_point" Lw.s__law_bad_point ["point", "cell"] := by
      dsimp only [L2.KOf]
      refine' L3.def_mk KX G ?a ?l ?c ?k (fun _ _ _ _ _ _ us hl => match us, hl with | [_, _], _ => rfl)
      (case a => k_is); (case l => k_is); (case c => k_is); (case k => k_is)
    have D_common_divisor : L3.Def (L2.KOf KX) mg "common_divisor" Lw.s_common_divisor ["one", "other"] := by
      dsimp only [L2.KOf]
      refine' L3.def_mk KX G ?a ?l ?c ?k (fun _ _ _ _ _ _ us hl => match us, hl with | [_, _], _ => rfl)
      (case a => k_is); (case l => k_is); (case c => k_is); (case k => k_is)
    have D_lowest_change : L3.Def (L2.KOf KX) mg "lowest_change" Lw.s_lowest_change ["numbers"] := by
      dsimp only [L2.KOf]
      refine' L3.def_mk KX G ?a ?l ?c ?k (fun _ _ _ _ _ _ us hl => match us, hl with | [_], _ => rfl)
      (case a => k_is); (case l => k_is); (case c => k_is); (case k => k_is)
    have D_is_change : L3.Def (L2.KOf KX) mg "is_change" Lw.s_is_change ["change"] := by
      dsimp only [L2.KOf]
      refine' L3.def_mk KX G ?a ?l ?c ?k (fun _ _ _ _ _ _ us hl => match us, hl with | [_], _ => rfl)
      (case a => k_is); (case l => k_is); (case c => k_is); (case k => k_is)
    have D_check_change : L3.Def (L2.KOf KX) mg "check_change" Lw.s_check_change ["change"] := by
      dsimp only [L2.KOf]
      refine' L3.def_mk KX G ?a ?l ?c ?k (fun _ _ _ _ _ _ us hl => match us, hl with | [_], _ => rfl)
      (case a => k_is); (case l => k_is); (case c => k_is); (case k => k_is)
    have D_lowest_point : L3.Def (L2.KOf KX) mg "lowest_point" Lw.s_lowest_point ["top", "bottom"] := by
      dsimp only [L2.KOf]
      refine' L3.def_mk KX G ?a ?l ?c ?k (fun _ _ _ _ _ _ us hl => match us, hl with | [_, _], _ => rfl)
      (case a => k_is); (case l => k_is); (case c => k_is); (case k => k_is)
    have D_is_point : L3.Def (L2.KOf KX) mg "is_point" Lw.s_is_point ["point"] := by
      dsimp only [L2.KOf]
      refine' L3.def_mk KX G ?a ?l ?c ?k (fun _ _ _ _ _ _ us hl => match us, hl with | [_], _ => rfl)
      (case a => k_is); (case l => k_is); (case c => k_is); (case k => k_is)
    have D_check_point : L3.Def (L2.KOf KX) mg "check_point" Lw.s_check_point ["point"] := by
      dsimp only [L2.KOf]
      refine' L3.def_mk KX G ?a ?l ?c ?k (fun _ _ _ _ _ _ us hl => match us, hl with | [_], _ => rfl)
      (case a => k_is); (case l => k_is); (case c => k_is); (case k => k_is)
    have D_moved : L3.Def (L2.KOf KX) mg "moved" Lw.s_moved ["change", "point"] := by
      dsimp only [L2.KOf]
      refine' L3.def_mk KX G ?a ?l ?c ?k (fun _ _ _ _ _ _ us hl => match us, hl with | [_, _], _ => rfl)
      (case a => k_is); (case l => k_is); (case c => k_is); (case k => k_is)
    have D_joined : L3.Def (L2.KOf KX) mg "joined" Lw.s_joined ["one", "other"] := by
      dsimp only [L2.KOf]
      refine' L3.def_mk KX G ?a ?l ?c ?k (fun _ _ _ _ _ _ us hl => match us, hl with | [_, _], _ => rfl)
      (case a => k_is); (case l => k_is); (case c => k_is); (case k => k_is)
    have D_after : L3.Def (L2.KOf KX) mg "after" Lw.s_after ["one", "other"] := by
      dsimp only [L2.KOf]
      refine' L3.def_mk KX G ?a ?l ?c ?k (fun _ _ _ _ _ _ us hl => match us, hl with | [_, _], _ => rfl)
      (case a => k_is); (case l => k_is); (case c => k_is); (case k => k_is)
    have D_back : L3.Def (L2.KOf KX) mg "back" Lw.s_back ["change"] := by
      dsimp only [L2.KOf]
      refine' L3.def_mk KX G ?a ?l ?c ?k (fun _ _ _ _ _ _ us hl => match us, hl with | [_], _ => rfl)
      (case a => k_is); (case l => k_is); (case c => k_is); (case k => k_is)
    have D_power : L3.Def (L2.KOf KX) mg "power" Lw.s_power ["change", "times"] := by
      dsimp only [L2.KOf]
      refine' L3.def_mk KX G ?a ?l ?c ?k (fun _ _ _ _ _ _ us hl => match us, hl with | [_, _], _ => rfl)
      (case a => k_is); (case l => k_is); (case c => k_is); (case k => k_is)
    have D_turns : L3.Def (L2.KOf KX) mg "turns" Lw.s_turns ["change"] := by
      dsimp only [L2.KOf]
      refine' L3.def_mk KX G ?a ?l ?c ?k (fun _ _ _ _ _ _ us hl => match us, hl with | [_], _ => rfl)
      (case a => k_is); (case l => k_is); (case c => k_is); (case k => k_is)
    have D_kept_with_far : L3.Def (L2.KOf KX) mg "kept_with_far" Lw.s_kept_with_far ["change"] := by
      dsimp only [L2.KOf]
      refine' L3.def_mk KX G ?a ?l ?c ?k (fun _ _ _ _ _ _ us hl => match us, hl with | [_], _ => rfl)
      (case a => k_is); (case l => k_is); (case c => k_is); (case k => k_is)
    have D_whole_root : L3.Def (L2.KOf KX) mg "whole_root" Lw.s_whole_root ["number"] := by
      dsimp only [L2.KOf]
      refine' L3.def_mk KX G ?a ?l ?c ?k (fun _ _ _ _ _ _ us hl => match us, hl with | [_], _ => rfl)
      (case a => k_is); (case l => k_is); (case c => k_is); (case k => k_is)
    have D_kept_without_far : L3.Def (L2.KOf KX) mg "kept_without_far" Lw.s_kept_without_far ["change"] := by
      dsimp only [L2.KOf]
      refine' L3.def_mk KX G ?a ?l ?c ?k (fun _ _ _ _ _ _ us hl => match us, hl with | [_], _ => rfl)
      (case a => k_is); (case l => k_is); (case c => k_is); (case k => k_is)
    have D_kept : L3.Def (L2.KOf KX) mg "kept" Lw.s_kept ["change"] := by
      dsimp only [L2.KOf]
      refine' L3.def_mk KX G ?a ?l ?c ?k (fun _ _ _ _ _ _ us hl => match us, hl with | [_], _ => rfl)
      (case a => k_is); (case l => k_is); (case c => k_is); (case k => k_is)
    have D_first_turn : L3.Def (L2.KOf KX) mg "first_turn" Lw.s_first_turn ["change"] := by
      dsimp only [L2.KOf]
      refine' L3.def_mk KX G ?a ?l ?c ?k (fun _ _ _ _ _ _ us hl => match us, hl with | [_], _ => rfl)
      (case a => k_is); (case l => k_is); (case c => k_is); (case k => k_is)
    have D_two_turns : L3.Def (L2.KOf KX) mg "two_turns" Lw.s_two_turns ["change"] := by
      dsimp only [L2.KOf]
      refine' L3.def_mk KX G ?a ?l ?c ?k (fun _ _ _ _ _ _ us hl => match us, hl with | [_], _ => rfl)
      (case a => k_is); (case l => k_is); (case c => k_is); (case k => k_is)
    have D_shown_change : L3.Def (L2.KOf KX) mg "shown_change" Lw.s_shown_change ["change"] := by
      dsimp only [L2.KOf]
      refine' L3.def_mk KX G ?a ?l ?c ?k (fun _ _ _ _ _ _ us hl => match us, hl with | [_], _ => rfl)
      (case a => k_is); (case l => k_is); (case c => k_is); (case k => k_is)
    have D__law_first : L3.Def (L2.KOf KX) mg "_law_first" Lw.s__law_first ["way", "change", "other", "point", "times"] := by
      dsimp only [L2.KOf]
      refine' L3.def_mk KX G ?a ?l ?c ?k (fun _ _ _ _ _ _ us hl => match us, hl with | [_, _, _, _, _], _ => rfl)
      (case a => k_is); (case l => k_is); (case c => k_is); (case k => k_is)
    have D_unlike : L3.Def (L2.KOf KX) mg "unlike" Lw.s_unlike ["points"] := by
      dsimp only [L2.KOf]
      refine' L3.def_mk KX G ?a ?l ?c ?k (fun _ _ _ _ _ _ us hl => match us, hl with | [_], _ => rfl)
      (case a => k_is); (case l => k_is); (case c => k_is); (case k => k_is)
    have D_check_told : L3.Def (L2.KOf KX) mg "check_told" Lw.s_check_told ["points", "goals"] := by
      dsimp only [L2.KOf]
      refine' L3.def_mk KX G ?a ?l ?c ?k (fun _ _ _ _ _ _ us hl => match us, hl with | [_, _], _ => rfl)
      (case a => k_is); (case l => k_is); (case c => k_is); (case k => k_is)
    have D_gap : L3.Def (L2.KOf KX) mg "gap" Lw.s_gap ["one", "other"] := by
      dsimp only [L2.KOf]
      refine' L3.def_mk KX G ?a ?l ?c ?k (fun _ _ _ _ _ _ us hl => match us, hl with | [_, _], _ => rfl)
      (case a => k_is); (case l => k_is); (case c => k_is); (case k => k_is)
    have D_to_base : L3.Def (L2.KOf KX) mg "to_base" Lw.s_to_base ["one", "two", "three"] := by
      dsimp only [L2.KOf]
      refine' L3.def_mk KX G ?a ?l ?c ?k (fun _ _ _ _ _ _ us hl => match us, hl with | [_, _, _], _ => rfl)
      (case a => k_is); (case l => k_is); (case c => k_is); (case k => k_is)
    have D_told_by : L3.Def (L2.KOf KX) mg "told_by" Lw.s_told_by ["points", "goals"] := by
      dsimp only [L2.KOf]
      refine' L3.def_mk KX G ?a ?l ?c ?k (fun _ _ _ _ _ _ us hl => match us, hl with | [_, _], _ => rfl)
      (case a => k_is); (case l => k_is); (case c => k_is); (case k => k_is)
    have D_check_three : L3.Def (L2.KOf KX) mg "check_three" Lw.s_check_three ["one", "two", "three", "last"] := by
      dsimp only [L2.KOf]
      refine' L3.def_mk KX G ?a ?l ?c ?k (fun _ _ _ _ _ _ us hl => match us, hl with | [_, _, _, _], _ => rfl)
      (case a => k_is); (case l => k_is); (case c => k_is); (case k => k_is)
    have D_cross : L3.Def (L2.KOf KX) mg "cross" Lw.s_cross ["one", "two", "three", "four"] := by
      dsimp only [L2.KOf]
      refine' L3.def_mk KX G ?a ?l ?c ?k (fun _ _ _ _ _ _ us hl => match us, hl with | [_, _, _, _], _ => rfl)
      (case a => k_is); (case l => k_is); (case c => k_is); (case k => k_is)
    have D_fourth : L3.Def (L2.KOf KX) mg "fourth" Lw.s_fourth ["one", "two", "three", "number"] := by
      dsimp only [L2.KOf]
      refine' L3.def_mk KX G ?a ?l ?c ?k (fun _ _ _ _ _ _ us hl => match us, hl with | [_, _, _, _], _ => rfl)
      (case a => k_is); (case l => k_is); (case c => k_is); (case k => k_is)
    have D_shown_point : L3.Def (L2.KOf KX) mg "shown_point" Lw.s_shown_point ["point"] := by
      dsimp only [L2.KOf]
      refine' L3.def_mk KX G ?a ?l ?c ?k (fun _ _ _ _ _ _ us hl => match us, hl with | [_], _ => rfl)
      (case a => k_is); (case l => k_is); (case c => k_is); (case k => k_is)
    have D__law_second : L3.Def (L2.KOf KX) mg "_law_second" Lw.s__law_second ["way", "points", "goals"] := by
      dsimp only [L2.KOf]
      refine' L3.def_mk KX G ?a ?l ?c ?k (fun _ _ _ _ _ _ us hl => match us, hl with | [_, _, _], _ => rfl)
      (case a => k_is); (case l => k_is); (case c => k_is); (case k => k_is)
    have D__law_which : L3.Def (L2.KOf KX) mg "_law_which" Lw.s__law_which ["e"] := by
      dsimp only [L2.KOf]
      refine' L3.def_mk KX G ?a ?l ?c ?k (fun _ _ _ _ _ _ us hl => match us, hl with | [_], _ => rfl)
      (case a => k_is); (case l => k_is); (case c => k_is); (case k => k_is)
    have D__law_met : L3.Def (L2.KOf KX) mg "_law_met" Lw.s__law_met ["way", "change", "other", "points", "goals", "times"] := by
      dsimp only [L2.KOf]
      refine' L3.def_mk KX G ?a ?l ?c ?k (fun _ _ _ _ _ _ us hl => match us, hl with | [_, _, _, _, _, _], _ => rfl)
      (case a => k_is); (case l => k_is); (case c => k_is); (case k => k_is)
    have D__law_threes_right : L3.Def (L2.KOf KX) mg "_law_threes_right" Lw.s__law_threes_right ["cell", "change", "points", "goals", "nine"] := by
      dsimp only [L2.KOf]
      refine' L3.def_mk KX G ?a ?l ?c ?k (fun _ _ _ _ _ _ us hl => match us, hl with | [_, _, _, _, _], _ => rfl)
      (case a => k_is); (case l => k_is); (case c => k_is); (case k => k_is)
    have FL : ∃ (f : PySem.Addr) (fd : PySem.FuncData), L2.Fun (L2.KOf KX) "law" "law" Lw.s_law f fd ∧ mg "law" = some (.ref f) ∧ ∀ (s : PySem.Shared) (v : PySem.Value), PySem.BindsTo s fd ⟨[v], []⟩ [("script", v)] := by
      dsimp only [L2.KOf]
      refine' Lw.law_mk KX G ?a ?l ?c ?k
      (case a => k_is); (case l => k_is); (case c => k_is); (case k => k_is)
    have B : L3.Blt mg := by
      refine' ⟨PySem.W.mg_none_of KX G ?b0, PySem.W.mg_none_of KX G ?b1, PySem.W.mg_none_of KX G ?b2, PySem.W.mg_none_of KX G ?b3, PySem.W.mg_none_of KX G ?b4, PySem.W.mg_none_of KX G ?b5, PySem.W.mg_none_of KX G ?b6, PySem.W.mg_none_of KX G ?b7, PySem.W.mg_none_of KX G ?b8, PySem.W.mg_none_of KX G ?b9, PySem.W.mg_none_of KX G ?b10, PySem.W.mg_none_of KX G ?b11, PySem.W.mg_none_of KX G ?b12⟩
      (case b0 => k_is); (case b1 => k_is); (case b2 => k_is); (case b3 => k_is); (case b4 => k_is); (case b5 => k_is); (case b6 => k_is); (case b7 => k_is); (case b8 => k_is); (case b9 => k_is); (case b10 => k_is); (case b11 => k_is); (case b12 => k_is)
    have CLS : ∃ nc nn np nth nt le : PySem.Addr, Cs.ClsOk (L2.KOf KX) mg nc nn np nth nt le := by
      dsimp only [L2.KOf]
      refine' Cs.cls_mk KX G ?a0 ?a1 ?a2 ?a3 ?a4 ?a5 ?a6 (Cs.kind_mk ?p0_0 ?p0_1 ?p0_2 ?p0_3 ?p0_4 ?p0_5 ?p0_6 ?p0_7 ?p0_8 ?p0_9 (by decide) ?p0_10 rfl) (Cs.kind_mk ?p1_0 ?p1_1 ?p1_2 ?p1_3 ?p1_4 ?p1_5 ?p1_6 ?p1_7 ?p1_8 ?p1_9 (by decide) ?p1_10 rfl) (Cs.kind_mk ?p2_0 ?p2_1 ?p2_2 ?p2_3 ?p2_4 ?p2_5 ?p2_6 ?p2_7 ?p2_8 ?p2_9 (by decide) ?p2_10 rfl) (Cs.kind_mk ?p3_0 ?p3_1 ?p3_2 ?p3_3 ?p3_4 ?p3_5 ?p3_6 ?p3_7 ?p3_8 ?p3_9 (by decide) ?p3_10 rfl) (Cs.kind_mk ?p4_0 ?p4_1 ?p4_2 ?p4_3 ?p4_4 ?p4_5 ?p4_6 ?p4_7 ?p4_8 ?p4_9 (by decide) ?p4_10 rfl)
      (case a0 => k_is); (case a1 => k_is); (case a2 => k_is); (case a3 => k_is); (case a4 => k_is); (case a5 => k_is); (case a6 => k_is)
      (case p0_0 => k_exc); (case p0_1 => k_is); (case p0_2 => k_is); (case p0_3 => k_is); (case p0_4 => kit_is); (case p0_5 => kit_is); (case p0_6 => kit_is); (case p0_7 => kit_is); (case p0_8 => kit_is); (case p0_9 => kit_is); (case p0_10 => kts_exm)
      (case p1_0 => k_exc); (case p1_1 => k_is); (case p1_2 => k_is); (case p1_3 => k_is); (case p1_4 => kit_is); (case p1_5 => kit_is); (case p1_6 => kit_is); (case p1_7 => kit_is); (case p1_8 => kit_is); (case p1_9 => kit_is); (case p1_10 => kts_exm)
      (case p2_0 => k_exc); (case p2_1 => k_is); (case p2_2 => k_is); (case p2_3 => k_is); (case p2_4 => kit_is); (case p2_5 => kit_is); (case p2_6 => kit_is); (case p2_7 => kit_is); (case p2_8 => kit_is); (case p2_9 => kit_is); (case p2_10 => kts_exm)
      (case p3_0 => k_exc); (case p3_1 => k_is); (case p3_2 => k_is); (case p3_3 => k_is); (case p3_4 => kit_is); (case p3_5 => kit_is); (case p3_6 => kit_is); (case p3_7 => kit_is); (case p3_8 => kit_is); (case p3_9 => kit_is); (case p3_10 => kts_exm)
      (case p4_0 => k_exc); (case p4_1 => k_is); (case p4_2 => k_is); (case p4_3 => k_is); (case p4_4 => kit_is); (case p4_5 => kit_is); (case p4_6 => kit_is); (case p4_7 => kit_is); (case p4_8 => kit_is); (case p4_9 => kit_is); (case p4_10 => kts_exm)
    obtain ⟨nc, nn, np, nth, nt, le, cls⟩ := CLS
    have CF : ∃ aF, (mg "FAR" = some (.ref aF) ∧ L2.RelV (.ref aF) (Value.ref aF)) ∧ ∀ H, L2.SqT (L2.KOf KX) H aF [.int 1, .int 0] := by
      dsimp only [L2.KOf]
      refine' Cs.far_mk KX G ?a ?l
      (case a => k_is); (case l => k_is)
    obtain ⟨aF, c_FAR, kF⟩ := CF
    have CuN : ∃ u, mg "FAR_NOTE" = some u ∧ L2.RelV (.str "far") u := by
      refine' Cs.str_mk KX G ?a
      (case a => k_is)
    obtain ⟨uN, c_FAR_NOTE⟩ := CuN
    have CuF : ∃ u, mg "FEWEST_POINTS" = some u ∧ L2.RelV (.int 3) u := by
      refine' Cs.int_mk KX G ?a
      (case a => k_is)
    obtain ⟨uF, c_FEWEST_POINTS⟩ := CuF
    have CuP : ∃ u, mg "MOST_POINTS" = some u ∧ L2.RelV (.int 8) u := by
      refine' Cs.int_mk KX G ?a
      (case a => k_is)
    obtain ⟨uP, c_MOST_POINTS⟩ := CuP
    have CM : ∃ u, mg "MOST_TIMES" = some u ∧ L2.RelV (.int 60) u := by
      refine' Cs.int_mk KX G ?a
      (case a => k_is)
    obtain ⟨uM, c_MOST_TIMES⟩ := CM
    have CS : ∃ aS, (mg "STILL" = some (.ref aS) ∧ L2.RelV (.ref aS) (Value.ref aS)) ∧ ∀ H, L2.SqT (L2.KOf KX) H aS [.int 1, .int 0, .int 0, .int 1] := by
      dsimp only [L2.KOf]
      refine' Cs.still_mk KX G ?a ?l
      (case a => k_is); (case l => k_is)
    obtain ⟨aS, c_STILL, kS⟩ := CS
    have CT : ∃ aT, (mg "TURN_NUMBERS" = some (.ref aT) ∧ L2.RelV (.ref aT) (Value.ref aT)) ∧ ∀ H, L2.SqT (L2.KOf KX) H aT (Mx.tn.map fun k : Nat => L2.V.int (k : Int)) := by
      dsimp only [L2.KOf]
      refine' Cs.turn_mk KX G ?a ?l
      (case a => k_is); (case l => k_is)
    obtain ⟨aT, c_TURN_NUMBERS, kT⟩ := CT
    exact Lw.fin hmg B D__law_cell_at D__law_next D__law_stir D__law_common D__law_plain D__law_turning D__law_after D__law_back D__law_change D__law_point D__law_drawn_point D__law_some_points D__law_bad_change D__law_bad_point D_common_divisor D_lowest_change D_is_change D_check_change D_lowest_point D_is_point D_check_point D_moved D_joined D_after D_back D_power D_turns D_kept_with_far D_whole_root D_kept_without_far D_kept D_first_turn D_two_turns D_shown_change D__law_first D_unlike D_check_told D_gap D_to_base D_told_by D_check_three D_cross D_fourth D_shown_point D__law_second D__law_which D__law_met D__law_threes_right cls c_FAR kF c_FAR_NOTE c_FEWEST_POINTS c_MOST_POINTS c_MOST_TIMES c_STILL kS c_TURN_NUMBERS kT FL
#print axioms PySem.Challenge.cw_crossline_k02_refused_holds
