/- A region that draws its order, walked ONCE in an order of our choice: reads are taken as soon as they may come up, if they yield the same in every later world; a call comes up alone. -/
import Derived.OrdersHeld
import Derived.BigQuiet
import Derived.Below
import Derived.WalkKit
import Derived.Laws.Rows
import Derived.Laws.ResultCell
import Derived.Deep.Draws
import Derived.Lib.Hide
import Derived.StillTailTactics
import Derived.Test.YticbjiddbjgikaaDoorRows
import Derived.Laws.StructEq
import Derived.Laws.Tables
import Derived.Laws.Entries
import Derived.Lib.SmallJoins
import Derived.ChangeArms
import Derived.OpenShut
import Derived.Laws.CopyOwn
import Derived.Deep.MidRow
namespace Go.Proofs.YticbjiddbjgikaaDoor
open Go.RowKit
section
variable {P : Program} {ops : Array Oper} {Q : Exit → Act → World → Prop} {N : Act → World → Prop} {md : Region.Mode} {R : World → World → Prop} {listed : Array Bool}

/-- Each operation goes on to a later world: whatever holds of the world at hand and of all later ones may be held for the rest of the region. -/
def wpAnyE (P : Program) (md : Region.Mode) (ops : Array Oper) (Q : Exit → Act → World → Prop) (R : World → World → Prop) (fuel : Nat) (listed : Array Bool) (a : Act) (w : World) : Prop :=
  ∀ S : World → Prop, (∀ x y, S x → R x y → S y) → S w → wpAnyH P md ops Q S fuel listed a w

theorem held_mono {S S' : World → Prop} (h : ∀ w, S' w → S w) : ∀ (fuel : Nat) (listed : Array Bool) (a : Act) (w : World), wpAnyH P md ops Q S' fuel listed a w → wpAnyH P md ops Q S fuel listed a w
  | 0, _, _, _, H => H
  | fuel + 1, _, _, _, H => ⟨H.1, fun i hi => wpOp_mono (fun a' w' h' => ⟨h _ h'.1, held_mono h fuel _ a' w' h'.2⟩) (H.2 i hi)⟩

theorem wpAnyE_first (hr0 : ∀ x, R x x) (ht : ∀ x y z, R x y → R y z → R x z) {i : Nat} {oi : Oper} {v : Value} (hi : ops[i]? = some oi) (hs : Region.noSelect ops = true) (hf : Region.free md ops listed i = true)
    (hr : (Region.ready md ops listed).contains i = true) (hQ : ∀ c a w, Q (.panic c) (a.put oi.dst v) w → Q (.panic c) a w) {fuel : Nat} {a : Act} {w : World} (hy : YieldsIf P ops (R w) oi v a)
    (H : wpAnyE P md ops Q R fuel (listed.setIfInBounds i true) (a.put oi.dst v) w) : wpAnyE P md ops Q R (fuel + 1) listed a w := by
  intro S hS hw
  have key : wpAnyH P md ops Q (fun x => S x ∧ R w x) (fuel + 1) listed a w :=
    wpAnyH_take hi hs hf hr hQ (hy.imp (fun ⟨h1, h2⟩ => ⟨h1, fun x hx => h2 x hx.2⟩) id) ⟨hw, hr0 w⟩
      (H _ (fun x y hx hxy => ⟨hS x y hx.1 hxy, ht _ _ _ hx.2 hxy⟩) ⟨hw, hr0 w⟩)
  exact held_mono (fun x hx => hx.1) _ _ _ _ key

/-- the operation of that place, by looking -/
def nth : List Oper → Nat → Oper
  | [], _ => default
  | o :: _, 0 => o
  | _ :: l, n + 1 => nth l n
theorem nth_z (o : Oper) (l : List Oper) : nth (o :: l) 0 = o := rfl
theorem nth_s (o : Oper) (l : List Oper) (n : Nat) : nth (o :: l) (n + 1) = nth l n := rfl
theorem nth_of : ∀ (l : List Oper) (i : Nat), i < l.length → l.toArray[i]? = some (nth l i)
  | [], _, h => absurd h (by simp)
  | o :: l, 0, _ => by simp [nth]
  | o :: l, i + 1, h => by
    have := nth_of l i (by simpa using h)
    simp [nth] at this ⊢
    exact this

/-- The walk in the chosen order: a pair is an operation, and whether it comes up alone. -/
def wpSeq (P : Program) (ops : Array Oper) (R : World → World → Prop) (Q : Exit → Act → World → Prop) (N : Act → World → Prop) : List (Oper × Bool) → Act → World → Prop
  | [], a, w => N a w
  | (o, false) :: r, a, w => if Region.wanted o (yielded ops a.tmps) then ∃ v, (∀ w', R w w' → (execOp a.eval o).run P w' = .ok (.value v) w') ∧ wpSeq P ops R Q N r (a.put o.dst v) w else wpSeq P ops R Q N r (a.put o.dst undef) w
  | (o, true) :: r, a, w => if Region.wanted o (yielded ops a.tmps) then o.wp P a w (fun a' w' => R w w' ∧ wpSeq P ops R Q N r a' w') Q else wpSeq P ops R Q N r (a.put o.dst undef) w

/-- What is listed behind those operations, if they may come up so. -/
def afterB (md : Region.Mode) (ops : Array Oper) : List (Nat × Bool) → Array Bool → Option (Array Bool)
  | [], listed => some listed
  | (i, false) :: r, listed => if (Region.ready md ops listed).contains i && Region.free md ops listed i then afterB md ops r (listed.setIfInBounds i true) else none
  | (i, true) :: r, listed => if Region.ready md ops listed == [i] then afterB md ops r (listed.setIfInBounds i true) else none

theorem ready_lt {listed : Array Bool} {i : Nat} (h : i ∈ Region.ready md ops listed) : i < ops.size := by
  obtain ⟨_, o, ho, _⟩ := mem_ready.1 h
  exact (Array.getElem?_eq_some_iff.1 ho).1

theorem wpAnyE_of_seq {l : List Oper} (hr0 : ∀ x, R x x) (ht : ∀ x y z, R x y → R y z → R x z) (hs : Region.noSelect l.toArray = true) (hQ : ∀ c a d v w, Q (.panic c) (a.put d v) w → Q (.panic c) a w) {n : Nat} {fin : Array Bool}
    (hN : ∀ a w, N a w → wpAnyE P md l.toArray Q R n fin a w) :
    ∀ (π : List (Nat × Bool)) (listed : Array Bool) (a : Act) (w : World), afterB md l.toArray π listed = some fin →
      wpSeq P l.toArray R Q N (π.map fun p => (nth l p.1, p.2)) a w → wpAnyE P md l.toArray Q R (π.length + n) listed a w
  | [], listed, a, w, hB, h => by
    obtain rfl : listed = fin := by simpa [afterB] using hB
    simpa using hN a w h
  | (i, false) :: r, listed, a, w, hB, h => by
    simp only [afterB] at hB
    split at hB
    case isFalse => cases hB
    case isTrue hc =>
    simp only [Bool.and_eq_true] at hc
    obtain ⟨hr, hf⟩ := hc
    have hi := nth_of l i (by simpa using ready_lt (show i ∈ Region.ready md l.toArray listed by simpa using hr))
    simp only [List.map_cons, wpSeq] at h
    rw [show ((i, false) :: r).length + n = (r.length + n) + 1 by simp; omega]
    by_cases hw : Region.wanted (nth l i) (yielded l.toArray a.tmps) = true
    · rw [if_pos hw] at h
      obtain ⟨v, hv, hK⟩ := h
      exact wpAnyE_first hr0 ht hi hs hf hr (fun c a w => hQ c a _ _ w) (.inl ⟨hw, hv⟩) (wpAnyE_of_seq hr0 ht hs hQ hN r _ _ _ hB hK)
    · rw [if_neg hw] at h
      exact wpAnyE_first hr0 ht hi hs hf hr (fun c a w => hQ c a _ _ w) (.inr ⟨by simpa using hw, rfl⟩) (wpAnyE_of_seq hr0 ht hs hQ hN r _ _ _ hB h)
  | (i, true) :: r, listed, a, w, hB, h => by
    simp only [afterB] at hB
    split at hB
    case isFalse => cases hB
    case isTrue hc =>
    have hr : Region.ready md l.toArray listed = [i] := by simpa using hc
    have hi := nth_of l i (by simpa using ready_lt (show i ∈ Region.ready md l.toArray listed by rw [hr]; simp))
    simp only [List.map_cons, wpSeq] at h
    rw [show ((i, true) :: r).length + n = (r.length + n) + 1 by simp; omega]
    intro S hS hw0
    refine wpAnyH_all hr (by simp) fun j hj => ?_
    obtain rfl : j = i := by simpa using hj
    unfold wpOp
    simp only [hi]
    by_cases hw : Region.wanted (nth l j) (yielded l.toArray a.tmps) = true
    · rw [if_pos hw] at h ⊢
      exact .inl (Oper.wp_mono (fun a' w' h' => ⟨hS _ _ hw0 h'.1, wpAnyE_of_seq hr0 ht hs hQ hN r _ _ _ hB h'.2 S hS (hS _ _ hw0 h'.1)⟩) h)
    · rw [if_neg hw] at h ⊢
      exact ⟨hw0, wpAnyE_of_seq hr0 ht hs hQ hN r _ _ _ hB h S hS hw0⟩
theorem wpAnyE_done {listed : Array Bool} {a : Act} {w : World} (hB : (Region.ready md ops listed).isEmpty = true) (h : Q .normal a w) : wpAnyE P md ops Q R 0 listed a w :=
  fun S _ _ => ⟨by simpa using hB, h⟩

/-- May the operations come up so, to the last? -/
def orderB (md : Region.Mode) (ops : Array Oper) (π : List (Nat × Bool)) (listed : Array Bool) : Bool :=
  match afterB md ops π listed with
  | some fin => (Region.ready md ops fin).isEmpty
  | none => false
theorem orderB_spec {π : List (Nat × Bool)} {listed : Array Bool} (h : orderB md ops π listed = true) : ∃ fin, afterB md ops π listed = some fin ∧ (Region.ready md ops fin).isEmpty = true := by
  unfold orderB at h
  split at h
  · rename_i fin hf; exact ⟨fin, hf, h⟩
  · cases h

/-- Q, but 'False' at a panic: the region is shown not to panic. -/
def Calm (Q : Exit → Act → World → Prop) : Exit → Act → World → Prop
  | .panic _, _, _ => False
  | e, a, w => Q e a w
theorem Calm.imp {Q : Exit → Act → World → Prop} : ∀ (e : Exit) (a : Act) (w : World), Calm Q e a w → Q e a w := fun e a w h => by
  cases e <;> first | exact h | exact (h : False).elim

/-- **ONE WALK, IN THE ORDER π.** -/
theorem wp_region_seq (π : List (Nat × Bool)) (R : World → World → Prop) {id : Nat} {Q : Exit → Act → World → Prop} {a : Act} {w : World} {l : List Oper} (hm : P.follows .mixedOrders = true)
    (hB : (Region.noSelect l.toArray && (π.length == l.length) && orderB .any l.toArray π (Array.replicate l.length false)) = true)
    (hr0 : ∀ x, R x x) (ht : ∀ x y z, R x y → R y z → R x z)
    (h : wpSeq P l.toArray R (Calm Q) (Q .normal) (π.map fun p => (nth l p.1, p.2)) a w.drew) : (Code.region id l.toArray true).wp P Q a w := by
  simp only [Bool.and_eq_true, beq_iff_eq] at hB
  obtain ⟨⟨hs, hl⟩, ho⟩ := hB
  refine Code.wp_mono Calm.imp (wp_region_held (S := fun _ => True) hm ?_)
  obtain ⟨fin, hf, he⟩ := orderB_spec ho
  have := wpAnyE_of_seq (P := P) (md := .any) (Q := Calm Q) (n := 0) (fin := fin) hr0 ht hs (fun _ _ _ _ _ h => (h : False).elim) (fun a w hn => wpAnyE_done he hn) π _ a w.drew hf h (fun _ => True) (fun _ _ _ _ => trivial) trivial
  rw [Nat.add_zero, hl] at this
  simpa using this
theorem seq_done {a : Act} {w : World} (h : N a w) : wpSeq P ops R Q N [] a w := h

/-! ### The steps -/
/-- Operations that yield a value and never a call. -/
def readOp : Op → Bool
  | .move _ | .assign _ | .pick .. | .load .. | .binOp .. | .unOp .. | .convert .. | .indexAddr .. | .index .. | .fieldAddr .. | .field .. | .slice .. | .extract .. | .lookup .. => true
  | .call c => match c.callee with
    | .builtin .len | .builtin .cap | .builtin .min | .builtin .max => true
    | _ => false
  | _ => false

theorem run_value {s : Sem Value} {w w' : World} {n : Next} (h : (do let x ← s; pure (Next.value x) : Sem Next).run P w = .ok n w') : ∃ v, n = .value v := by
  rw [Sem.run_bind] at h
  cases hs : s.run P w with
  | ok x w1 => rw [hs] at h; simp [Result.andThen, Sem.run_pure] at h; exact ⟨x, h.1.symm⟩
  | halt x w1 => rw [hs] at h; simp [Result.andThen] at h

theorem readOp_value {ρ : Operand → Value} {o : Oper} (hr : readOp o.op = true) {w w' : World} {n : Next} (h : (execOp ρ o).run P w = .ok n w') : ∃ v, n = .value v := by
  obtain ⟨dst, op, type, pos, after, guard⟩ := o
  cases op <;> simp only [readOp, Bool.false_eq_true] at hr <;> simp only [execOp] at h
  case call c =>
    obtain ⟨callee, args, ats⟩ := c
    cases callee <;> simp only at hr
    case builtin b =>
      cases b <;> simp only [Bool.false_eq_true] at hr
      all_goals
        simp only [resolve, Sem.run_bind, Sem.run_pure, Result.andThen, invoke, builtin] at h
        exact run_value (P := P) (w := w) (w' := w') (by rw [Sem.run_bind]; exact h)
    all_goals exact absurd hr (by simp)
  case pick c x y =>
    rw [Sem.run_bind] at h
    cases hs : (asBool (ρ c)).run P w with
    | ok b w1 => rw [hs] at h; simp [Result.andThen, Sem.run_pure] at h; exact ⟨_, h.1.symm⟩
    | halt e w1 => rw [hs] at h; simp [Result.andThen] at h
  all_goals first
    | exact run_value h
    | (simp [Sem.run_pure] at h; exact ⟨_, h.1.symm⟩)

theorem seq_read {o : Oper} {r : List (Oper × Bool)} {a : Act} {w : World} (hr : readOp o.op = true) (hw : Region.wanted o (yielded ops a.tmps) = true)
    (h : ∀ K : Act → Prop, (∀ a', wpSeq P ops R Q N r a' w → K a') → o.quiet P a (R w) K) : wpSeq P ops R Q N ((o, false) :: r) a w := by
  obtain ⟨v, h1, h2⟩ := h _ (fun _ h => h)
  simp only [wpSeq]
  rw [if_pos hw]
  refine ⟨v, fun w' hw' => ?_, h2⟩
  have h3 := h1 w' hw'
  unfold Oper.quietAt at h3
  cases hrun : (execOp a.eval o).run P w' with
  | ok n w1 =>
    rw [hrun] at h3
    obtain ⟨u, rfl⟩ := readOp_value hr hrun
    obtain ⟨rfl, rfl⟩ := h3
    rfl
  | halt x w1 => rw [hrun] at h3; exact h3.elim
theorem seq_value {o : Oper} {r : List (Oper × Bool)} {a : Act} {w : World} (v : Value) (hw : Region.wanted o (yielded ops a.tmps) = true)
    (h : ∀ w', R w w' → (execOp a.eval o).run P w' = .ok (.value v) w') (k : ∀ K : Act → Prop, (∀ a', wpSeq P ops R Q N r a' w → K a') → K (a.put o.dst v)) : wpSeq P ops R Q N ((o, false) :: r) a w := by
  simp only [wpSeq]
  rw [if_pos hw]
  exact ⟨v, h, k _ fun _ h => h⟩
theorem seq_skip {o : Oper} {r : List (Oper × Bool)} {a : Act} {w : World} (hw : Region.wanted o (yielded ops a.tmps) = false) (k : ∀ K : Act → Prop, (∀ a', wpSeq P ops R Q N r a' w → K a') → K (a.put o.dst undef)) :
    wpSeq P ops R Q N ((o, false) :: r) a w := by
  simp only [wpSeq, hw, Bool.false_eq_true, if_false]; exact k _ fun _ h => h
theorem seq_skipc {o : Oper} {r : List (Oper × Bool)} {a : Act} {w : World} (hw : Region.wanted o (yielded ops a.tmps) = false) (k : ∀ K : Act → Prop, (∀ a', wpSeq P ops R Q N r a' w → K a') → K (a.put o.dst undef)) :
    wpSeq P ops R Q N ((o, true) :: r) a w := by
  simp only [wpSeq, hw, Bool.false_eq_true, if_false]; exact k _ fun _ h => h
theorem run_callFunc {f : FuncId} {fn : Func} (hf : P.funcs[f]? = some fn) (hn : (fn.name == "runtime.NumGoroutine") = false) (hb : fn.body.isNone = false) (args : Array Value) (w : World) :
    (callFunc f args).run P w = .ok (.enter f args) w := by
  have hn' : fn.name ≠ "runtime.NumGoroutine" := by simpa using hn
  have hb' : fn.body ≠ none := by intro e; rw [e] at hb; simp at hb
  simp [callFunc, hf, hn', hb']
theorem seq_call {o : Oper} {r : List (Oper × Bool)} {a : Act} {w : World} {f : FuncId} {xs : Array Operand} {ats : Array TypeId} {fn : Func} {args : Array Value} {T : Ending → World → Prop} (hc : Calls P f args w T)
    (hop : o.op = .call { callee := .value (.func f), args := xs, argTypes := ats })
    (hf : P.funcs[f]? = some fn) (hn : (fn.name == "runtime.NumGoroutine") = false) (hb : fn.body.isNone = false) (hargs0 : xs.toList.map a.eval = args.toList) (hw : Region.wanted o (yielded ops a.tmps) = true)
    (h : ∀ (K : Act → World → Prop), (∀ a' w', wpSeq P ops R Q N r a' w' → K a' w') → ∀ e w', T e w' → ∃ v, e = .returned v ∧ R w w' ∧ K (a.put o.dst v) w') : wpSeq P ops R Q N ((o, true) :: r) a w := by
  simp only [wpSeq]
  rw [if_pos hw]
  unfold Oper.wp
  obtain ⟨d, op, type, pos, after, guard⟩ := o
  have hargs : xs.map a.eval = args := by apply Array.ext'; rw [← hargs0]; simp
  subst hop hargs
  rw [execOp_call_go, run_callFunc hf hn hb]
  simp only [Oper.upon]
  have e : (#[] ++ xs.map a.eval ++ #[] : Array Value) = xs.map a.eval := by simp
  rw [e]
  exact hc.mono fun e w' ht => by
    obtain ⟨v, he, h1, h2⟩ := h _ (fun _ _ h => h) e w' ht
    subst he
    exact ⟨h1, h2⟩
/-- a step that comes up alone and hands on a value, in the world as it then is -/
theorem seq_run {o : Oper} {r : List (Oper × Bool)} {a : Act} {w : World} (v : Value) (w1 : World) (hw : Region.wanted o (yielded ops a.tmps) = true) (hrun : (execOp a.eval o).run P w = .ok (.value v) w1) (hR : R w w1)
    (k : ∀ K : Act → World → Prop, (∀ a' w', wpSeq P ops R Q N r a' w' → K a' w') → K (a.put o.dst v) w1) : wpSeq P ops R Q N ((o, true) :: r) a w := by
  simp only [wpSeq]
  rw [if_pos hw]
  unfold Oper.wp
  rw [hrun]
  simp only [Oper.upon]
  exact ⟨hR, k _ fun _ _ h => h⟩
/-- the same, of a store -/
theorem seq_store {o : Oper} {r : List (Oper × Bool)} {a : Act} {w : World} (w1 : World) (hw : Region.wanted o (yielded ops a.tmps) = true) (hrun : (execOp a.eval o).run P w = .ok .skip w1) (hR : R w w1)
    (k : ∀ K : Act → World → Prop, (∀ a' w', wpSeq P ops R Q N r a' w' → K a' w') → K (a.put o.dst undef) w1) : wpSeq P ops R Q N ((o, true) :: r) a w := by
  simp only [wpSeq]
  rw [if_pos hw]
  unfold Oper.wp
  rw [hrun]
  simp only [Oper.upon]
  exact ⟨hR, k _ fun _ _ h => h⟩
/-- the same, of the builtin copy -/
theorem seq_copy {o : Oper} {r : List (Oper × Bool)} {a : Act} {w : World} (v : Value) (w1 : World) {s x : Operand} {t1 t2 : TypeId} (u y : Value) (hop : o.op = .call { callee := .builtin .copy, args := #[s, x], argTypes := #[t1, t2] })
    (hs : a.eval s = u) (hx : a.eval x = y) (hw : Region.wanted o (yielded ops a.tmps) = true) (hrun : ∀ ty, (Builtin.copy_ #[t1, t2] ty #[u, y]).run P w = .ok v w1) (hR : R w w1)
    (k : ∀ K : Act → World → Prop, (∀ a' w', wpSeq P ops R Q N r a' w' → K a' w') → K (a.put o.dst v) w1) : wpSeq P ops R Q N ((o, true) :: r) a w :=
  seq_run v w1 hw (by
    unfold execOp
    simp only [hop, resolve, invoke, builtin, Sem.run_bind, Sem.run_pure, Result.andThen_ok, List.map_toArray, List.map_cons, List.map_nil, hs, hx, hrun]) hR k
end
attribute [irreducible] wpSeq
/-- nothing that was there has turned -/
def Ext (w w' : World) : Prop := Below w.heap.size w w'
theorem Ext.refl (w : World) : Ext w w := Below.refl _ _
theorem Ext.trans {a b c : World} (h : Ext a b) (k : Ext b c) : Ext a c := Below.trans h (Below.mono k h.size)
theorem Ext.drew {a b : World} (h : Ext a b) : Ext a b.drew := Below.drew h
theorem Ext.of_drew {a b : World} (h : Ext a.drew b) : Ext a b := ⟨h.os, h.tape, h.output, h.size, h.block⟩
end Go.Proofs.YticbjiddbjgikaaDoor
/- Structs in blocks of memory: a block that is known whole, carried on to later worlds; results that lie in a block. -/
namespace Go.Proofs.YticbjiddbjgikaaDoor
open Go.RowKit
set_option linter.unusedVariables false
set_option linter.unusedSimpArgs false

/-- the block g holds those cells -/
def Blk (w : World) (g : Nat) (t : TypeId) (cs : Array Value) : Prop := w.heap[g]? = some (.cells cs t (0, 0))
theorem Blk.cell {w : World} {g : Nat} {t : TypeId} {cs : Array Value} (h : Blk w g t cs) (i : Nat) : w.cell? ⟨g, i, none⟩ = cs[i]? := cell_of_row w g i cs t (0, 0) h
theorem Blk.frozen {w : World} {g : Nat} {t : TypeId} {cs : Array Value} (h : Blk w g t cs) (i : Nat) : w.frozen? ⟨g, i, none⟩ = false := by
  unfold Blk at h
  simp [World.frozen?, h]
theorem Blk.new (w : World) (t : TypeId) (cs : Array Value) : Blk (w.alloc (.cells cs t)) w.heap.size t cs := heap_alloc_new w _
theorem Blk.set_ {w : World} {g : Nat} {t : TypeId} {cs : Array Value} (h : Blk w g t cs) (i : Nat) (u : Value) : Blk (w.setCell ⟨g, i, none⟩ u) g t (cs.setIfInBounds i u) := by
  unfold Blk at h ⊢
  simp [World.setCell, Array.getElem?_modify, h]
theorem Blk.lt {w : World} {g : Nat} {t : TypeId} {cs : Array Value} (h : Blk w g t cs) : g < w.heap.size := (Array.getElem?_eq_some_iff.1 h).1
theorem Blk.ext {w w' : World} {g : Nat} {t : TypeId} {cs : Array Value} (h : Blk w g t cs) (hE : Ext w w') : Blk w' g t cs := (hE.block g h.lt).trans h
theorem Blk.alloc {w : World} {g : Nat} {t : TypeId} {cs : Array Value} (h : Blk w g t cs) (o : Obj) : Blk (w.alloc o) g t cs := h.ext (Below.alloc (Below.refl _ _) (Nat.le_refl _) _)
theorem Blk.drew {w : World} {g : Nat} {t : TypeId} {cs : Array Value} (h : Blk w g t cs) : Blk w.drew g t cs := h
theorem Blk.other {w : World} {g : Nat} {t : TypeId} {cs : Array Value} (h : Blk w g t cs) {a : Addr} (hn : a.block ≠ g) (u : Value) : Blk (w.setCell a u) g t cs := by
  unfold Blk at h ⊢
  rw [heap_setCell_other _ _ _ _ (fun e => hn e.symm)]; exact h
theorem ext_cell {w w' : World} {p : Addr} {v : Value} (h : Ext w w') (hc : w.cell? p = some v) : w'.cell? p = some v := (h.cell (block_lt_of_cell hc)).trans hc
theorem Blk.c3 {w : World} {g : Nat} {t : TypeId} {a b c : Value} (h : Blk w g t #[a, b, c]) : w.cell? ⟨g, 0, none⟩ = some a ∧ w.cell? ⟨g, 1, none⟩ = some b ∧ w.cell? ⟨g, 2, none⟩ = some c := ⟨h.cell 0, h.cell 1, h.cell 2⟩
theorem Blk.f3 {w : World} {g : Nat} {t : TypeId} {cs : Array Value} (h : Blk w g t cs) : w.frozen? ⟨g, 0, none⟩ = false ∧ w.frozen? ⟨g, 1, none⟩ = false ∧ w.frozen? ⟨g, 2, none⟩ = false := ⟨h.frozen 0, h.frozen 1, h.frozen 2⟩
theorem blk_one {w w1 : World} {t : TypeId} {cs : Array Value} (h : Ext (w.alloc (.cells cs t)) w1) : Blk w1 w.heap.size t cs := (Blk.new w t cs).ext h
theorem blk_two {w w1 : World} {t u : TypeId} {cs ds : Array Value} (h : Ext ((w.alloc (.cells cs t)).alloc (.cells ds u)) w1) : Blk w1 w.heap.size t cs ∧ Blk w1 (w.heap.size + 1) u ds := by
  refine ⟨((Blk.new w t cs).alloc _).ext h, ?_⟩
  have := (Blk.new (w.alloc (.cells cs t)) u ds).ext h
  rwa [World.size_alloc] at this
theorem Blk.set3 {w : World} {g : Nat} {t : TypeId} {a b c : Value} (h : Blk w g t #[a, b, c]) (x y z : Value) :
    Blk (((w.setCell ⟨g, 0, none⟩ x).setCell ⟨g, 1, none⟩ y).setCell ⟨g, 2, none⟩ z) g t #[x, y, z] := ((h.set_ 0 x).set_ 1 y).set_ 2 z
theorem Ext.set3 {w w' : World} (h : Ext w w') {g : Nat} (hg : w.heap.size ≤ g) (x y z : Value) : Ext w (((w'.setCell ⟨g, 0, none⟩ x).setCell ⟨g, 1, none⟩ y).setCell ⟨g, 2, none⟩ z) :=
  ((Below.setCell (p := ⟨g, 0, none⟩) h hg x).setCell (p := ⟨g, 1, none⟩) hg y).setCell (p := ⟨g, 2, none⟩) hg z
theorem Ext.set1 {w w' : World} (h : Ext w w') {g : Nat} (hg : w.heap.size ≤ g) (i : Nat) (x : Value) : Ext w (w'.setCell ⟨g, i, none⟩ x) := Below.setCell (p := ⟨g, i, none⟩) h hg x
theorem Ext.alloc {a b : World} (h : Ext a b) (o : Obj) : Ext a (b.alloc o) := Below.alloc h h.size o
theorem Ext.drewN {a b : World} (h : Ext a b) (n : Nat) : Ext a (b.drewN n) := ⟨h.os, h.tape, h.output, h.size, h.block⟩
theorem ext_one {w w1 : World} {o : Obj} (h : Ext (w.alloc o) w1) : Ext w w1 := ((Ext.refl w).alloc _).trans h
theorem ext_two {w w1 : World} {o p : Obj} (h : Ext ((w.alloc o).alloc p) w1) : Ext w w1 := (((Ext.refl w).alloc _).alloc _).trans h

/-- a region that draws its order, whose head reads and calls quietly: the world of the rest under one name -/
theorem region_tail {P : Program} {id : Nat} {Q : Exit → Act → World → Prop} {a : Act} {w : World} {l : List Oper} (n : Nat) (hm : P.follows .mixedOrders = true) (hB : Region.lexTailB .any l.toArray n = true)
    (h : ∀ w1, Ext w w1 → wpStill P l.toArray w1 (fun a' => wpList P l.toArray Q (l.drop n) a' w1) (l.take n) a) : (Code.region id l.toArray true).wp P Q a w :=
  wp_region_still_tail n hm hB (h w.drew (Ext.refl w).drew)
/-- all blocks but g are as they were -/
def Bar (g : Nat) (x y : World) : Prop := x.heap.size ≤ y.heap.size ∧ ∀ b, b < x.heap.size → b ≠ g → y.heap[b]? = x.heap[b]?
theorem Bar.refl (g : Nat) (x : World) : Bar g x x := ⟨Nat.le_refl _, fun _ _ _ => rfl⟩
theorem Bar.trans {g : Nat} {x y z : World} (h : Bar g x y) (k : Bar g y z) : Bar g x z := ⟨Nat.le_trans h.1 k.1, fun b hb hn => (k.2 b (Nat.lt_of_lt_of_le hb h.1) hn).trans (h.2 b hb hn)⟩
theorem Bar.ext {g : Nat} {x y : World} (h : Ext x y) : Bar g x y := ⟨h.size, fun b hb _ => h.block b hb⟩
theorem Bar.set {g : Nat} {x y : World} (h : Bar g x y) (i : Nat) (u : Value) : Bar g x (y.setCell ⟨g, i, none⟩ u) :=
  ⟨by rw [World.size_setCell]; exact h.1, fun b hb hn => by rw [heap_setCell_other _ _ _ _ hn]; exact h.2 b hb hn⟩
theorem Bar.blk {k : Nat} {w w' : World} {g : Nat} {t : TypeId} {cs : Array Value} (hE : Bar k w w') (h : Blk w g t cs) (hn : g ≠ k) : Blk w' g t cs := (hE.2 g h.lt hn).trans h
theorem bar_cell {k : Nat} {w w' : World} {b i : Nat} {v : Value} (h : Bar k w w') (hc : w.cell? ⟨b, i, none⟩ = some v) (hn : b ≠ k) : w'.cell? ⟨b, i, none⟩ = some v := by
  have hb := block_lt_of_cell hc
  have := h.2 b hb hn
  simp only [World.cell?] at hc ⊢
  rw [this]; exact hc
/-- a struct loaded in a region that is walked once -/
theorem seq_load {P : Program} {ops : Array Oper} {R : World → World → Prop} {Q : Exit → Act → World → Prop} {N : Act → World → Prop} {o : Oper} {r : List (Oper × Bool)} {a : Act} {w : World} {ty t : TypeId} {x : Operand} {g : Nat} {cs : Array Value} {d : TypeDesc}
    (hop : o.op = .load ty x) (hx : a.eval x = .pointer (some ⟨g, 0, none⟩)) (hb : ∀ w', R w w' → Blk w' g t cs)
    (hd : (match d with | .struct _ | .array _ _ => true | _ => false) = true) (hu : P.underlying ty = some d) (hi : (P.info? ty).map (·.size) = some cs.size) (hw : Region.wanted o (yielded ops a.tmps) = true)
    (k : ∀ K : Act → Prop, (∀ a', wpSeq P ops R Q N r a' w → K a') → K (a.put o.dst (.agg cs))) : wpSeq P ops R Q N ((o, false) :: r) a w :=
  seq_value (.agg cs) hw (fun w' hw' => by
    unfold execOp
    simp only [hop, hx, Instr.loadAt, Instr.sureAddr, Sem.run_bind, Sem.run_pure, Result.andThen_ok, run_loadVar_row w' g t ty cs (0, 0) d (hb w' hw') hu (by cases d <;> first | rfl | exact hd) hi]) k
theorem results_c2 {fn : Func} {p u : Tmp} {ty : TypeId} {P : Program} (h : fn.results = #[.cell p ty, .tmp u]) (tmps : Array Value) (w : World) (g : Nat) (t : TypeId) (cs : Array Value) (d : TypeDesc)
    (hp : tmps.getD p undef = .pointer (some ⟨g, 0, none⟩)) (hg : Blk w g t cs)
    (hd : (match d with | .struct _ | .array _ _ => true | _ => false) = true) (hu : P.underlying ty = some d) (hi : (P.info? ty).map (·.size) = some cs.size) :
    (results fn tmps).run P w = .ok (.tuple #[.agg cs, tmps.getD u undef]) w := by
  rw [results_cell_tmp h, hp]
  simp [asAddr, run_loadVar_row w g t ty cs (0, 0) d hg hu (by cases d <;> first | rfl | exact hd) hi]
theorem results_c3 {fn : Func} {p u x : Tmp} {ty : TypeId} {P : Program} (h : fn.results = #[.cell p ty, .tmp u, .tmp x]) (tmps : Array Value) (w : World) (g : Nat) (t : TypeId) (cs : Array Value) (d : TypeDesc)
    (hp : tmps.getD p undef = .pointer (some ⟨g, 0, none⟩)) (hg : Blk w g t cs)
    (hd : (match d with | .struct _ | .array _ _ => true | _ => false) = true) (hu : P.underlying ty = some d) (hi : (P.info? ty).map (·.size) = some cs.size) :
    (results fn tmps).run P w = .ok (.tuple #[.agg cs, tmps.getD u undef, tmps.getD x undef]) w := by
  have hp' : tmps[p]?.getD undef = .pointer (some ⟨g, 0, none⟩) := by simpa using hp
  simp only [results, h]
  simp [Sem.run_bind, Result.andThen, hp', asAddr, run_loadVar_row w g t ty cs (0, 0) d hg hu (by cases d <;> first | rfl | exact hd) hi]
end Go.Proofs.YticbjiddbjgikaaDoor
/- Structs of one-cell fields, as they come in, held against one another, stored and loaded whole: what serves all types. -/
namespace Go.Proofs.YticbjiddbjgikaaDoor
open Go.ChangeShapes Go.WideShapes Go.ChangeAt Go.RowKit Go.Joins Go.Deep
set_option linter.unusedVariables false
set_option linter.unusedSimpArgs false

/-! a struct of one-cell fields, however many, that came in -/
section
variable {H : Type} {enc : TypeId × Value → H} {P : Program} {w : World} {base : Nat} {spare : Nat → Bool} {held : Bool}
end

/-! structs held against one another -/
theorem run_eqF {P : Program} {w : World} {d : Nat} {xs ys : Array Value} {f : Field} {fs : List Field} {a b : Value} {r s : Bool} (hn : f.name ≠ "_") (ha : (part f.type xs f.offset).run P w = .ok a w) (hb : (part f.type ys f.offset).run P w = .ok b w)
    (he : (Op.equalIn d f.type a b).run P w = .ok r w) (h : (Op.eqFields d xs ys fs).run P w = .ok s w) : (Op.eqFields d xs ys (f :: fs)).run P w = .ok (r && s) w := by
  simp only [Op.eqFields, if_pos hn, Sem.run_bind, ha, hb, he, Result.andThen_ok]
  cases r
  · simp [Sem.run_pure]
  · simpa using h
theorem part_bool {w : World} {cs : Array Value} {i : Nat} {v : Value} (h : cs[i]? = some v) : (part 4 cs i).run Tryd.prog w = .ok v w := by
  simp [part, go_sem, h, Sem.run_pure]
theorem part_u64 {w : World} {cs : Array Value} {i : Nat} {v : Value} (h : cs[i]? = some v) : (part 22 cs i).run Tryd.prog w = .ok v w := by
  simp [part, go_sem, h, Sem.run_pure]
theorem part_int {w : World} {cs : Array Value} {i : Nat} {v : Value} {t : TypeId} {k : IntKind} (ht : Tryd.prog.underlying t = some (.int k)) (h : cs[i]? = some v) : (part t cs i).run Tryd.prog w = .ok v w := by
  simp [part, go_sem, h, isAgg, run_underlying ht, Sem.run_pure]
theorem neq_of_eql {w : World} {t : TypeId} {xs ys : Array Value} {b : Bool} (h : (binOp .eql t (.agg xs) (.agg ys)).run Tryd.prog w = .ok (.bool b) w) : (binOp .neq t (.agg xs) (.agg ys)).run Tryd.prog w = .ok (.bool (!b)) w := by
  rw [run_eql_struct] at h
  rw [run_neq_struct]
  cases hr : (Op.equalIn 10000 t (.agg xs) (.agg ys)).run Tryd.prog w with
  | ok x w1 => rw [hr] at h; simp only [Result.andThen_ok, Result.ok.injEq, Value.bool.injEq] at h ⊢; exact ⟨by rw [h.1], h.2⟩
  | halt x w1 => rw [hr] at h; simp [Result.andThen] at h
theorem wpList_load_blk {P : Program} {ops : Array Oper} {rest : List Oper} {o : Oper} {a : Act} {w : World} {Q : Exit → Act → World → Prop} {g : Nat} {t : TypeId} {cs : Array Value} {d : TypeDesc} (hw : Region.wanted o (yielded ops a.tmps) = true) (ty : TypeId) (x : Operand) (ho : o.op = .load ty x)
    (hx : a.eval x = .pointer (some ⟨g, 0, none⟩)) (hb : Blk w g t cs) (hu : P.underlying ty = some d) (hd : (match d with | .struct _ | .array _ _ => true | _ => false) = true) (hi : (P.info? ty).map (·.size) = some cs.size)
    (h : wpList P ops Q rest (a.put o.dst (.agg cs)) w) : wpList P ops Q (o :: rest) a w :=
  wpList_step fun _ hK => by
    rw [if_pos hw]
    exact wp_load_row ty x ho g hx t cs (0, 0) d hb hu hd hi (hK _ _ h)
theorem blk_at {w : World} {g : Nat} {t : TypeId} {cs : Array Value} (h : g = w.heap.size) : Blk (w.alloc (.cells cs t)) g t cs := by subst h; exact Blk.new w t cs
end Go.Proofs.YticbjiddbjgikaaDoor
/- A region in which two operations may come up, and behind the first of them two again: three walks. A struct's cells stored whole into a block. -/
namespace Go.Proofs.YticbjiddbjgikaaDoor
open Go.RowKit
set_option linter.unusedVariables false
set_option linter.unusedSimpArgs false
section
variable {P : Program} {Q : Exit → Act → World → Prop} {md : Region.Mode} {R : World → World → Prop}

/-- one operation that comes up beside others, and what is behind it -/
theorem anyE_one {l : List Oper} {listed : Array Bool} {k n : Nat} {N : Act → World → Prop} {a : Act} {w : World} (hk : k ∈ Region.ready md l.toArray listed) (h : wpSeq P l.toArray R Q N [(nth l k, true)] a w)
    (hN : ∀ a w, N a w → wpAnyE P md l.toArray Q R n (listed.setIfInBounds k true) a w) (S : World → Prop) (hS : ∀ x y, S x → R x y → S y) (hw0 : S w) :
    wpOp P l.toArray Q k (fun a' w' => S w' ∧ wpAnyH P md l.toArray Q S n (listed.setIfInBounds k true) a' w') a w := by
  have hi := nth_of l k (by simpa using ready_lt hk)
  unfold wpSeq at h
  unfold wpOp
  simp only [hi]
  by_cases hw : Region.wanted (nth l k) (yielded l.toArray a.tmps) = true
  · rw [if_pos hw] at h ⊢
    refine .inl (Oper.wp_mono (fun a' w' h' => ?_) h)
    have h2 := h'.2
    unfold wpSeq at h2
    exact ⟨hS _ _ hw0 h'.1, hN _ _ h2 S hS (hS _ _ hw0 h'.1)⟩
  · rw [if_neg hw] at h ⊢
    unfold wpSeq at h
    exact ⟨hw0, hN _ _ h S hS hw0⟩
theorem anyE_fork {l : List Oper} {listed : Array Bool} {i j n : Nat} {Ni Nj : Act → World → Prop} {a : Act} {w : World} (hr : Region.ready md l.toArray listed = [i, j])
    (h1 : wpSeq P l.toArray R Q Ni [(nth l i, true)] a w) (h2 : wpSeq P l.toArray R Q Nj [(nth l j, true)] a w)
    (hNi : ∀ a w, Ni a w → wpAnyE P md l.toArray Q R n (listed.setIfInBounds i true) a w) (hNj : ∀ a w, Nj a w → wpAnyE P md l.toArray Q R n (listed.setIfInBounds j true) a w) :
    wpAnyE P md l.toArray Q R (n + 1) listed a w := by
  intro S hS hw0
  refine wpAnyH_all hr (by simp) fun k hk => ?_
  have hk' : k ∈ Region.ready md l.toArray listed := by rw [hr]; exact hk
  rcases List.mem_cons.1 hk with rfl | hk2
  · exact anyE_one hk' h1 hNi S hS hw0
  · obtain rfl : k = j := by simpa using hk2
    exact anyE_one hk' h2 hNj S hS hw0

end

theorem Blk.lower {w w' : World} {B g : Nat} {t : TypeId} {cs : Array Value} (h : Blk w g t cs) (hE : Below B w w') (hg : g < B) : Blk w' g t cs := (hE.block g hg).trans h
theorem Blk.row {w : World} {g : Nat} {t : TypeId} {old : Array Value} (h : Blk w g t old) (cs : Array Value) : Blk (w.setRow g cs) g t cs := setRow_heap w g _ _ t _ h
theorem Blk.apart {w : World} {g k : Nat} {t : TypeId} {cs : Array Value} (h : Blk w g t cs) (hn : g ≠ k) (ds : Array Value) : Blk (w.setRow k ds) g t cs := (setRow_other w k g ds hn).trans h
theorem below_row {B g : Nat} {w0 w : World} (hb : Below B w0 w) (hg : B ≤ g) (cs : Array Value) : Below B w0 (w.setRow g cs) := below_setRow hb hg cs
theorem Ext.row {w0 w : World} {g : Nat} (h : Ext w0 w) (hg : w0.heap.size ≤ g) (cs : Array Value) : Ext w0 (w.setRow g cs) := below_row h hg cs
/-- a struct's cells stored whole, in a region that is walked once -/
theorem seq_store_row {P : Program} {ops : Array Oper} {R : World → World → Prop} {Q : Exit → Act → World → Prop} {N : Act → World → Prop} {o : Oper} {r : List (Oper × Bool)} {a : Act} {w : World} {ty t : TypeId} {x y : Operand} {g : Nat} {cs old : Array Value}
    (hop : o.op = .store ty x y) (hx : a.eval x = .pointer (some ⟨g, 0, none⟩)) (hy : a.eval y = .agg cs) (hb : Blk w g t old) (hi : (P.info? ty).map (·.size) = some cs.size) (hold : old.size = cs.size) (h1 : cs.all (·.oneCell') = true)
    (hw : Region.wanted o (yielded ops a.tmps) = true) (hR : R w (w.setRow g cs))
    (k : ∀ K : Act → World → Prop, (∀ a' w', wpSeq P ops R Q N r a' w' → K a' w') → K (a.put o.dst undef) (w.setRow g cs)) : wpSeq P ops R Q N ((o, true) :: r) a w :=
  seq_store (w.setRow g cs) hw (by
    unfold execOp
    simp only [hop, hx, hy, Instr.storeAt, Instr.sureAddr, Sem.run_bind, Sem.run_pure, Result.andThen_ok, run_storeVar_row w g t ty old cs hb hi hold h1]) hR k
end Go.Proofs.YticbjiddbjgikaaDoor
/- Structs that lie in structs: a part of a block loaded and stored whole; regions that store into blocks of their own; results that lie in several blocks. -/
namespace Go.Proofs.YticbjiddbjgikaaDoor
open Go.ChangeShapes Go.WideShapes Go.ChangeAt Go.RowKit
set_option linter.unusedVariables false
set_option linter.unusedSimpArgs false
set_option maxRecDepth 10000

/-- cells put over others from a place on -/
def putAt (cs : Array Value) : Nat → List Value → Array Value
  | _, [] => cs
  | o, v :: r => putAt (cs.setIfInBounds o v) (o + 1) r
theorem setRow_self {w : World} {g : Nat} {t : TypeId} {cs : Array Value} (h : Blk w g t cs) : w.setRow g cs = w := by
  obtain ⟨hl, he⟩ := Array.getElem?_eq_some_iff.1 h
  unfold World.setRow
  congr 1
  apply Array.ext_getElem?
  intro j
  rw [Array.getElem?_modify]
  by_cases hj : g = j
  · subst hj; rw [if_pos rfl, h]; rfl
  · rw [if_neg hj]
theorem setRow_setRow (w : World) (g : Nat) (cs ds : Array Value) : (w.setRow g cs).setRow g ds = w.setRow g ds := by
  unfold World.setRow
  congr 1
  apply Array.ext_getElem?
  intro j
  simp only [Array.getElem?_modify]
  by_cases hj : g = j
  · subst hj
    simp only [if_true]
    cases w.heap[g]? with
    | none => rfl
    | some o => cases o <;> rfl
  · simp only [if_neg hj]
theorem setCells_row : ∀ (vs : List Value) (w : World) (g o : Nat) (t : TypeId) (cs : Array Value), Blk w g t cs → w.setCells g o vs = w.setRow g (putAt cs o vs)
  | [], w, g, o, t, cs, h => (setRow_self h).symm
  | v :: r, w, g, o, t, cs, h => by
    rw [World.setCells, putAt, setCell_eq_setRow w g o cs t (0, 0) v h]
    rw [setCells_row r _ g (o + 1) t _ (h.row _), setRow_setRow]
theorem Blk.there {w : World} {g : Nat} {t : TypeId} {cs : Array Value} (h : Blk w g t cs) {o n : Nat} (hn : o + n ≤ cs.size) : w.there g o n := fun j hj => by
  rw [h.cell, h.frozen, Array.getElem?_eq_getElem (by omega)]
  exact ⟨rfl, rfl⟩
theorem Blk.part {w : World} {g : Nat} {t : TypeId} {cs : Array Value} (h : Blk w g t cs) (o : Nat) {ds : Array Value} (he : cs.extract o (o + ds.size) = ds) : w.rangeAt g o ds.toList := by
  have := World.rangeAt_of_block h o ds.size
  rwa [he] at this

section
variable {P : Program} {ops : Array Oper} {rest : List Oper} {o : Oper} {a : Act} {w : World} {Q : Exit → Act → World → Prop}
theorem run_load_part {g k : Nat} {t : TypeId} {cs ds : Array Value} {d : TypeDesc} (ty : TypeId) (hb : Blk w g t cs) (he : cs.extract k (k + ds.size) = ds)
    (hu : P.underlying ty = some d) (hd : d.isRow = true) (hi : (P.info? ty).map (·.size) = some ds.size) : (Instr.loadAt ty (.pointer (some ⟨g, k, none⟩))).run P w = .ok (.agg ds) w := by
  have := run_loadAt_mid (P := P) w g k ty ds.toList d (hb.part k he) hu hd (by simpa using hi)
  simpa using this
theorem wpList_load_part {g k : Nat} {t : TypeId} {cs ds : Array Value} {d : TypeDesc} (hw : Region.wanted o (yielded ops a.tmps) = true) (ty : TypeId) (x : Operand) (ho : o.op = .load ty x)
    (hx : a.eval x = .pointer (some ⟨g, k, none⟩)) (hb : Blk w g t cs) (he : cs.extract k (k + ds.size) = ds) (hu : P.underlying ty = some d) (hd : d.isRow = true) (hi : (P.info? ty).map (·.size) = some ds.size)
    (h : wpList P ops Q rest (a.put o.dst (.agg ds)) w) : wpList P ops Q (o :: rest) a w :=
  wpList_step fun _ hK => by
    rw [if_pos hw]
    unfold Oper.wp execOp
    simp only [ho, hx, Sem.run_bind, run_load_part ty hb he hu hd hi, Result.andThen_ok]
    exact hK _ _ h
theorem run_store_part {g k : Nat} {t : TypeId} {cs ds es : Array Value} (ty : TypeId) (hb : Blk w g t cs) (hn : k + ds.size ≤ cs.size) (he : putAt cs k ds.toList = es) (hi : (P.info? ty).map (·.size) = some ds.size) (h1 : ds.all (·.oneCell') = true) :
    (Instr.storeAt ty (.pointer (some ⟨g, k, none⟩)) (.agg ds)).run P w = .ok () (w.setRow g es) := by
  rw [run_storeAt_mid w g k ty ds (hb.there hn) hi h1, setCells_row _ _ _ _ t cs hb, he]
theorem wpList_store_part {g k : Nat} {t : TypeId} {cs ds es : Array Value} (hgd : o.guard = none) (ty : TypeId) (x y : Operand) (ho : o.op = .store ty x y)
    (hx : a.eval x = .pointer (some ⟨g, k, none⟩)) (hy : a.eval y = .agg ds) (hb : Blk w g t cs) (hn : k + ds.size ≤ cs.size) (he : putAt cs k ds.toList = es) (hi : (P.info? ty).map (·.size) = some ds.size) (h1 : ds.all (·.oneCell') = true)
    (h : wpList P ops Q rest (a.put o.dst undef) (w.setRow g es)) : wpList P ops Q (o :: rest) a w :=
  wpList_plain hgd fun _ hK => by
    unfold Oper.wp execOp
    simp only [ho, hx, hy, Sem.run_bind, run_store_part ty hb hn he hi h1, Result.andThen_ok]
    exact hK _ _ h
theorem wpList_store_blk {g : Nat} {t : TypeId} {cs old : Array Value} (hgd : o.guard = none) (ty : TypeId) (x y : Operand) (ho : o.op = .store ty x y) (hx : a.eval x = .pointer (some ⟨g, 0, none⟩)) (hy : a.eval y = .agg cs)
    (hb : Blk w g t old) (hi : (P.info? ty).map (·.size) = some cs.size) (hold : old.size = cs.size) (h1 : cs.all (·.oneCell') = true) (h : wpList P ops Q rest (a.put o.dst undef) (w.setRow g cs)) : wpList P ops Q (o :: rest) a w :=
  wpList_store_row hgd ty x y ho g cs hx hy t old hb hi hold h1 h
/-- one cell of a known block stored -/
theorem wpList_store_cell {g k : Nat} {t : TypeId} {cs es : Array Value} {v : Value} (hgd : o.guard = none) (ty : TypeId) (x y : Operand) (ho : o.op = .store ty x y)
    (hx : a.eval x = .pointer (some ⟨g, k, none⟩)) (hy : a.eval y = v) (hb : Blk w g t cs) (hn : k < cs.size) (he : cs.setIfInBounds k v = es) (hi : (P.info? ty).map (·.size) = some 1) (hv : v.cells = #[v]) (h1 : v.oneCell' = true)
    (h : wpList P ops Q rest (a.put o.dst undef) (w.setRow g es)) : wpList P ops Q (o :: rest) a w :=
  wpList_plain hgd fun _ hK => by
    have hs := run_storeCells_cells (P := P) g k [v] 0 w (fun j hj => by
      obtain rfl : j = 0 := by simpa using hj
      rw [Nat.add_zero, hb.cell, Array.getElem?_eq_getElem (by omega)]; rfl) (fun j hj => by
      obtain rfl : j = 0 := by simpa using hj
      rw [Nat.add_zero, hb.frozen]) (fun u hu => by
      obtain rfl : u = v := by simpa using hu
      exact h1)
    rw [Nat.add_zero, setCells_row _ _ _ _ t cs hb] at hs
    have hp : putAt cs k [v] = es := he
    rw [hp] at hs
    have hst : (storeVar ty ⟨g, k, none⟩ v).run P w = .ok () (w.setRow g es) := by
      cases hq : P.info? ty with
      | none => simp [hq] at hi
      | some i =>
        have hs1 : i.size = 1 := by simpa [hq] using hi
        simp [storeVar, sizeOf, typeInfo, hq, hv, hs1, hs]
    unfold Oper.wp execOp
    simp only [ho, hx, hy, Instr.storeAt, Instr.sureAddr, Sem.run_bind, Sem.run_pure, Result.andThen_ok, hst]
    exact hK _ _ h
/-- a value made of parts: its cells by a law of one's own -/
theorem wpList_build_as {t : TypeId} {parts : Array (Nat × Operand)} {cs : Array Value} (hw : Region.wanted o (yielded ops a.tmps) = true) (ho : o.op = .build t parts) (hc : P.built t (parts.toList.map fun q => (q.1, a.eval q.2)) = some cs)
    (h : wpList P ops Q rest (a.put o.dst (.agg cs)) w) : wpList P ops Q (o :: rest) a w :=
  wpList_step fun _ hK => by
    have hc' : P.built t (parts.map fun (i, x) => (i, a.eval x)).toList = some cs := by rw [Array.toList_map]; exact hc
    rw [if_pos hw]
    unfold Oper.wp execOp
    simp only [ho, Sem.run_bind, run_build w t _ cs hc', Result.andThen_ok]
    exact hK _ _ h
end

/-! regions walked once that store into blocks of their own -/
/-- all blocks but those from lo on, below hi, are as they were -/
def Gap (lo hi : Nat) (x y : World) : Prop := x.heap.size ≤ y.heap.size ∧ ∀ b, b < x.heap.size → (b < lo ∨ hi ≤ b) → y.heap[b]? = x.heap[b]?
theorem Gap.refl (lo hi : Nat) (x : World) : Gap lo hi x x := ⟨Nat.le_refl _, fun _ _ _ => rfl⟩
theorem Gap.trans {lo hi : Nat} {x y z : World} (h : Gap lo hi x y) (k : Gap lo hi y z) : Gap lo hi x z := ⟨Nat.le_trans h.1 k.1, fun b hb hn => (k.2 b (Nat.lt_of_lt_of_le hb h.1) hn).trans (h.2 b hb hn)⟩
theorem Gap.ext {lo hi : Nat} {x y : World} (h : Ext x y) : Gap lo hi x y := ⟨h.size, fun b hb _ => h.block b hb⟩
theorem Gap.row {lo hi : Nat} (x : World) {g : Nat} (h1 : lo ≤ g) (h2 : g < hi) (cs : Array Value) : Gap lo hi x (x.setRow g cs) :=
  ⟨by rw [size_setRow]; exact Nat.le_refl _, fun b hb hn => setRow_other x g b cs (by omega)⟩
theorem Gap.blk {lo hi : Nat} {w w' : World} {g : Nat} {t : TypeId} {cs : Array Value} (hE : Gap lo hi w w') (h : Blk w g t cs) (hn : g < lo ∨ hi ≤ g) : Blk w' g t cs := (hE.2 g h.lt hn).trans h

section
variable {P : Program} {ops : Array Oper} {R : World → World → Prop} {Q : Exit → Act → World → Prop} {N : Act → World → Prop} {o : Oper} {r : List (Oper × Bool)} {a : Act} {w : World}
theorem seq_load_part {ty t : TypeId} {x : Operand} {g k : Nat} {cs ds : Array Value} {d : TypeDesc}
    (hop : o.op = .load ty x) (hx : a.eval x = .pointer (some ⟨g, k, none⟩)) (hb : ∀ w', R w w' → Blk w' g t cs) (he : cs.extract k (k + ds.size) = ds)
    (hd : d.isRow = true) (hu : P.underlying ty = some d) (hi : (P.info? ty).map (·.size) = some ds.size) (hw : Region.wanted o (yielded ops a.tmps) = true)
    (k : ∀ K : Act → Prop, (∀ a', wpSeq P ops R Q N r a' w → K a') → K (a.put o.dst (.agg ds))) : wpSeq P ops R Q N ((o, false) :: r) a w :=
  seq_value (.agg ds) hw (fun w' hw' => by
    unfold execOp
    simp only [hop, hx, Sem.run_bind, run_load_part ty (hb w' hw') he hu hd hi, Result.andThen_ok, Sem.run_pure]) k
theorem seq_build_as {t : TypeId} {parts : Array (Nat × Operand)} {cs : Array Value} (hop : o.op = .build t parts) (hc : P.built t (parts.toList.map fun q => (q.1, a.eval q.2)) = some cs) (hw : Region.wanted o (yielded ops a.tmps) = true)
    (k : ∀ K : Act → Prop, (∀ a', wpSeq P ops R Q N r a' w → K a') → K (a.put o.dst (.agg cs))) : wpSeq P ops R Q N ((o, false) :: r) a w :=
  have hc' : P.built t (parts.map fun (i, x) => (i, a.eval x)).toList = some cs := by rw [Array.toList_map]; exact hc
  seq_value (.agg cs) hw (fun w' hw' => by
    unfold execOp
    simp only [hop, Sem.run_bind, run_build w' t _ cs hc', Result.andThen_ok, Sem.run_pure]) k
end

/-- the builtin append, alone at its place -/
theorem seq_append {P : Program} {ops : Array Oper} {R : World → World → Prop} {Q : Exit → Act → World → Prop} {N : Act → World → Prop} {o : Oper} {r : List (Oper × Bool)} {a : Act} {w : World} (v : Value) (w1 : World) {s x : Operand} {t1 t2 ty : TypeId} (u y : Value)
    (hop : o.op = .call { callee := .builtin .append, args := #[s, x], argTypes := #[t1, t2] }) (hty : o.type = ty) (hs : a.eval s = u) (hx : a.eval x = y) (hw : Region.wanted o (yielded ops a.tmps) = true)
    (hrun : (Builtin.append_ #[t1, t2] ty #[u, y]).run P w = .ok v w1) (hR : R w w1)
    (k : ∀ K : Act → World → Prop, (∀ a' w', wpSeq P ops R Q N r a' w' → K a' w') → K (a.put o.dst v) w1) : wpSeq P ops R Q N ((o, true) :: r) a w :=
  seq_run v w1 hw (by
    subst hty
    unfold execOp
    simp only [hop, resolve, invoke, builtin, Sem.run_bind, Sem.run_pure, Result.andThen_ok, List.map_toArray, List.map_cons, List.map_nil, hs, hx, hrun]) hR k

/-! structs held against one another, in both kinds of regions (the comparison as a fact, no simp over its parts) -/
theorem run_b {P : Program} {w : World} {s : Sem Value} {b c : Bool} (h : s.run P w = .ok (.bool b) w) (e : b = c) : s.run P w = .ok (.bool c) w := by rw [h, e]
theorem dec_same {α : Type} [DecidableEq α] (p : α) : decide (p = p) = true := by simp
theorem dec_nots {α : Type} [DecidableEq α] (p : α) : (!decide (p = p)) = false := by simp
theorem run_cmp {P : Program} {w : World} {ρ : Operand → Value} {o : Oper} {op : BinOp} {t t2 : TypeId} {x y : Operand} {xs ys : Array Value} {v : Value} (hop : o.op = .binOp op t x y t2) (hx : ρ x = .agg xs) (hy : ρ y = .agg ys)
    (hg : P.eqGuardType P.depth t = false) (he : (binOp op t (.agg xs) (.agg ys)).run P w = .ok v w) : (execOp ρ o).run P w = .ok (.value v) w := by
  unfold execOp
  simp only [hop, hx, hy, Sem.run_bind, run_eqGuard_agg w op t x y xs ys hg, he, Result.andThen_ok, Sem.run_pure]
theorem seq_cmp {P : Program} {ops : Array Oper} {R : World → World → Prop} {Q : Exit → Act → World → Prop} {N : Act → World → Prop} {o : Oper} {r : List (Oper × Bool)} {a : Act} {w : World} {op : BinOp} {t t2 : TypeId} {x y : Operand} {xs ys : Array Value} {v : Value}
    (hop : o.op = .binOp op t x y t2) (hx : a.eval x = .agg xs) (hy : a.eval y = .agg ys) (hg : P.eqGuardType P.depth t = false) (he : ∀ w, (binOp op t (.agg xs) (.agg ys)).run P w = .ok v w) (hw : Region.wanted o (yielded ops a.tmps) = true)
    (k : ∀ K : Act → Prop, (∀ a', wpSeq P ops R Q N r a' w → K a') → K (a.put o.dst v)) : wpSeq P ops R Q N ((o, false) :: r) a w :=
  seq_value v hw (fun w' _ => run_cmp hop hx hy hg (he w')) k
theorem wpList_cmp {P : Program} {ops : Array Oper} {rest : List Oper} {o : Oper} {a : Act} {w : World} {Q : Exit → Act → World → Prop} {op : BinOp} {t2 : TypeId} {x y : Operand} {xs ys : Array Value} {v : Value} (hw : Region.wanted o (yielded ops a.tmps) = true)
    (t : TypeId) (hop : o.op = .binOp op t x y t2) (hx : a.eval x = .agg xs) (hy : a.eval y = .agg ys) (hg : P.eqGuardType P.depth t = false) (he : ∀ w, (binOp op t (.agg xs) (.agg ys)).run P w = .ok v w)
    (h : wpList P ops Q rest (a.put o.dst v) w) : wpList P ops Q (o :: rest) a w :=
  wpList_step fun _ hK => by
    rw [if_pos hw]
    unfold Oper.wp
    simp only [run_cmp hop hx hy hg (he w)]
    exact hK _ _ h

/-! structs in structs, held against one another -/
theorem part_agg {P : Program} {w : World} {cs ds : Array Value} {k : Nat} {t : TypeId} {d : TypeDesc} (hu : P.underlying t = some d) (hd : d.isRow = true) (hi : (P.info? t).map (·.size) = some ds.size) (he : cs.extract k (k + ds.size) = ds) :
    (part t cs k).run P w = .ok (.agg ds) w := by
  cases hq : P.info? t with
  | none => simp [hq] at hi
  | some i =>
    have hs : i.size = ds.size := by simpa [hq] using hi
    have hagg : (isAgg t).run P w = .ok true w := by
      unfold isAgg
      rw [Sem.run_bind, run_underlying hu w]
      cases d <;> simp_all
    simp [part, Sem.run_bind, hagg, sizeOf, typeInfo, hq, hs, he]

/-! results in several blocks -/
theorem run_result {P : Program} {w : World} {g : Nat} {t ty : TypeId} {cs : Array Value} {d : TypeDesc} (hg : Blk w g t cs) (hu : P.underlying ty = some d) (hd : d.isRow = true) (hi : (P.info? ty).map (·.size) = some cs.size) :
    (loadVar ty ⟨g, 0, none⟩).run P w = .ok (.agg cs) w := run_loadVar_row w g t ty cs (0, 0) d hg hu (by cases d <;> first | rfl | exact hd) hi
theorem results_cc {fn : Func} {p q : Tmp} {tp tq : TypeId} {P : Program} (h : fn.results = #[.cell p tp, .cell q tq]) (tmps : Array Value) (w : World) {g k : Nat} {t u : TypeId} {cs ds : Array Value} {d e : TypeDesc}
    (hp : tmps.getD p undef = .pointer (some ⟨g, 0, none⟩)) (hq : tmps.getD q undef = .pointer (some ⟨k, 0, none⟩)) (hg : Blk w g t cs) (hk : Blk w k u ds)
    (hu : P.underlying tp = some d) (hd : d.isRow = true) (hi : (P.info? tp).map (·.size) = some cs.size) (hu2 : P.underlying tq = some e) (hd2 : e.isRow = true) (hi2 : (P.info? tq).map (·.size) = some ds.size) :
    (results fn tmps).run P w = .ok (.tuple #[.agg cs, .agg ds]) w := by
  have hp' : tmps[p]?.getD undef = .pointer (some ⟨g, 0, none⟩) := by simpa using hp
  have hq' : tmps[q]?.getD undef = .pointer (some ⟨k, 0, none⟩) := by simpa using hq
  simp only [results, h]
  simp [Sem.run_bind, Result.andThen, hp', hq', asAddr, run_result hg hu hd hi, run_result hk hu2 hd2 hi2]
end Go.Proofs.YticbjiddbjgikaaDoor
/- A region in which, behind a common beginning, two operations may come up, and behind each of them again two, and so on: a tree of walks. -/
namespace Go.Proofs.YticbjiddbjgikaaDoor
open Go.RowKit
set_option linter.unusedVariables false
set_option linter.unusedSimpArgs false

inductive Plan where
  | last (π : List (Nat × Bool))
  | fork (π : List (Nat × Bool)) (i : Nat) (p : Plan) (j : Nat) (q : Plan)
/-- how many operations it lists -/
def Plan.len : Plan → Nat
  | .last π => π.length
  | .fork π _ p _ _ => π.length + (p.len + 1)
/-- may they come up so? -/
def Plan.ok (l : List Oper) : Plan → Array Bool → Bool
  | .last π, m => orderB .any l.toArray π m
  | .fork π i p j q, m => match afterB .any l.toArray π m with
    | some mid => (Region.ready .any l.toArray mid == [i, j]) && ((p.len == q.len) && (p.ok l (mid.setIfInBounds i true) && q.ok l (mid.setIfInBounds j true)))
    | none => false
/-- what is to be shown: each walk -/
def Plan.wp (P : Program) (l : List Oper) (R : World → World → Prop) (Q : Exit → Act → World → Prop) : Plan → Act → World → Prop
  | .last π, a, w => wpSeq P l.toArray R (Calm Q) (Q .normal) (π.map fun p => (nth l p.1, p.2)) a w
  | .fork π i p j q, a, w => wpSeq P l.toArray R (Calm Q) (fun a w => wpSeq P l.toArray R (Calm Q) (p.wp P l R Q) [(nth l i, true)] a w ∧ wpSeq P l.toArray R (Calm Q) (q.wp P l R Q) [(nth l j, true)] a w) (π.map fun p => (nth l p.1, p.2)) a w
theorem Plan.any {P : Program} {Q : Exit → Act → World → Prop} {R : World → World → Prop} {l : List Oper} (hr0 : ∀ x, R x x) (ht : ∀ x y z, R x y → R y z → R x z) (hs : Region.noSelect l.toArray = true) :
    ∀ (p : Plan) (m : Array Bool) (a : Act) (w : World), p.ok l m = true → p.wp P l R Q a w → wpAnyE P .any l.toArray (Calm Q) R p.len m a w
  | .last π, m, a, w, ho, h => by
    obtain ⟨fin, hf, he⟩ := orderB_spec ho
    have := wpAnyE_of_seq (P := P) (md := .any) (Q := Calm Q) (n := 0) (fin := fin) hr0 ht hs (fun _ _ _ _ _ h => (h : False).elim) (fun a w hn => wpAnyE_done he hn) π _ a w hf h
    rwa [Nat.add_zero] at this
  | .fork π i p j q, m, a, w, ho, h => by
    unfold Plan.ok at ho
    cases hmid : afterB .any l.toArray π m with
    | none => rw [hmid] at ho; cases ho
    | some mid =>
      rw [hmid] at ho
      simp only [Bool.and_eq_true, beq_iff_eq] at ho
      obtain ⟨hr, hl, h1, h2⟩ := ho
      exact wpAnyE_of_seq (P := P) (md := .any) (Q := Calm Q) (n := p.len + 1) (fin := mid) hr0 ht hs (fun _ _ _ _ _ h => (h : False).elim) (fun a w hn => by
        refine anyE_fork hr hn.1 hn.2 (fun a w hi => Plan.any hr0 ht hs p _ a w h1 hi) (fun a w hj => ?_)
        have := Plan.any hr0 ht hs q _ a w h2 hj
        rwa [← hl] at this) π _ a w hmid h
/-- **A TREE OF WALKS.** -/
theorem wp_region_plan (p : Plan) (R : World → World → Prop) {id : Nat} {Q : Exit → Act → World → Prop} {a : Act} {w : World} {P : Program} {l : List Oper} (hm : P.follows .mixedOrders = true)
    (hB : (Region.noSelect l.toArray && ((p.len == l.length) && p.ok l (Array.replicate l.length false))) = true) (hr0 : ∀ x, R x x) (ht : ∀ x y z, R x y → R y z → R x z)
    (h : p.wp P l R Q a w.drew) : (Code.region id l.toArray true).wp P Q a w := by
  simp only [Bool.and_eq_true, beq_iff_eq] at hB
  obtain ⟨hs, hl, ho⟩ := hB
  refine Code.wp_mono Calm.imp (wp_region_held (S := fun _ => True) hm ?_)
  have key := Plan.any (P := P) (Q := Q) hr0 ht hs p _ a w.drew ho h (fun _ => True) (fun _ _ _ _ => trivial) trivial
  rw [hl] at key
  simpa using key
end Go.Proofs.YticbjiddbjgikaaDoor
