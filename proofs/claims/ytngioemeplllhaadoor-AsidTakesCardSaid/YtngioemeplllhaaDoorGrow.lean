/- A region that draws its order, walked ONCE in an order of our choice: reads are taken as soon as they may come up, if they yield the same in every later world; a call comes up alone. -/
import Derived.OrdersHeld
import Derived.BigQuiet
import Derived.Below
import Derived.WalkKit
namespace Go.Proofs.YtngioemeplllhaaDoor
open Go.RowKit
section
variable {P : Program} {ops : Array Oper} {Q : Exit → Act → World → Prop} {N : Act → World → Prop} {md : Region.Mode} {R : World → World → Prop} {listed : Array Bool}

/-- Each operation goes on to a later world: whatever holds of the world at hand and of all later ones may be held for the rest of the region. -/
def wpAnyE (P : Program) (md : Region.Mode) (ops : Array Oper) (Q : Exit → Act → World → Prop) (R : World → World → Prop) (fuel : Nat) (listed : Array Bool) (a : Act) (w : World) : Prop :=
  ∀ S : World → Prop, (∀ x y, S x → R x y → S y) → S w → wpAnyH P md ops Q S fuel listed a w

theorem held_mono {S S' : World → Prop} (h : ∀ w, S' w → S w) : ∀ (fuel : Nat) (listed : Array Bool) (a : Act) (w : World), wpAnyH P md ops Q S' fuel listed a w → wpAnyH P md ops Q S fuel listed a w
  | 0, _, _, _, H => H
  | fuel + 1, _, _, _, H => ⟨H.1, fun i hi => wpOp_mono (fun a' w' h' => ⟨h _ h'.1, held_mono h fuel _ a' w' h'.2⟩) (H.2 i hi)⟩

theorem wpAnyE_first (hr0 : ∀ x, R x x) (ht : ∀ x y z, R x y → R y z → R x z) {i : Nat} {oi : Oper} {v : Value} (hi : ops[i]? = some oi) (hs : Region.noSelect ops = true) (hf : Region.free md ops listed i = true)
    (hr : (Region.ready md ops listed).contains i = true) (hQ : ∀ c a w, Q (.panic c) (a.put oi.dst v) w → Q (.panic c) a w) {fuel : Nat} {a : Act} {w : World} (hy : YieldsIf P ops (R w) oi v a)
    (H : wpAnyE P md ops Q R fuel (listed.setIfInBounds i true) (a.put oi.dst v) w) : wpAnyE P md ops Q R (fuel + 1) listed a w := by
  intro S hS hw
  have key : wpAnyH P md ops Q (fun x => S x ∧ R w x) (fuel + 1) listed a w :=
    wpAnyH_take hi hs hf hr hQ (hy.imp (fun ⟨h1, h2⟩ => ⟨h1, fun x hx => h2 x hx.2⟩) id) ⟨hw, hr0 w⟩
      (H _ (fun x y hx hxy => ⟨hS x y hx.1 hxy, ht _ _ _ hx.2 hxy⟩) ⟨hw, hr0 w⟩)
  exact held_mono (fun x hx => hx.1) _ _ _ _ key

/-- the operation of that place, by looking -/
def nth : List Oper → Nat → Oper
  | [], _ => default
  | o :: _, 0 => o
  | _ :: l, n + 1 => nth l n
theorem nth_z (o : Oper) (l : List Oper) : nth (o :: l) 0 = o := rfl
theorem nth_s (o : Oper) (l : List Oper) (n : Nat) : nth (o :: l) (n + 1) = nth l n := rfl
theorem nth_of : ∀ (l : List Oper) (i : Nat), i < l.length → l.toArray[i]? = some (nth l i)
  | [], _, h => absurd h (by simp)
  | o :: l, 0, _ => by simp [nth]
  | o :: l, i + 1, h => by
    have := nth_of l i (by simpa using h)
    simp [nth] at this ⊢
    exact this

/-- The walk in the chosen order: a pair is an operation, and whether it comes up alone. -/
def wpSeq (P : Program) (ops : Array Oper) (R : World → World → Prop) (Q : Exit → Act → World → Prop) (N : Act → World → Prop) : List (Oper × Bool) → Act → World → Prop
  | [], a, w => N a w
  | (o, false) :: r, a, w => if Region.wanted o (yielded ops a.tmps) then ∃ v, (∀ w', R w w' → (execOp a.eval o).run P w' = .ok (.value v) w') ∧ wpSeq P ops R Q N r (a.put o.dst v) w else wpSeq P ops R Q N r (a.put o.dst undef) w
  | (o, true) :: r, a, w => if Region.wanted o (yielded ops a.tmps) then o.wp P a w (fun a' w' => R w w' ∧ wpSeq P ops R Q N r a' w') Q else wpSeq P ops R Q N r (a.put o.dst undef) w

/-- What is listed behind those operations, if they may come up so. -/
def afterB (md : Region.Mode) (ops : Array Oper) : List (Nat × Bool) → Array Bool → Option (Array Bool)
  | [], listed => some listed
  | (i, false) :: r, listed => if (Region.ready md ops listed).contains i && Region.free md ops listed i then afterB md ops r (listed.setIfInBounds i true) else none
  | (i, true) :: r, listed => if Region.ready md ops listed == [i] then afterB md ops r (listed.setIfInBounds i true) else none

theorem ready_lt {listed : Array Bool} {i : Nat} (h : i ∈ Region.ready md ops listed) : i < ops.size := by
  obtain ⟨_, o, ho, _⟩ := mem_ready.1 h
  exact (Array.getElem?_eq_some_iff.1 ho).1

theorem wpAnyE_of_seq {l : List Oper} (hr0 : ∀ x, R x x) (ht : ∀ x y z, R x y → R y z → R x z) (hs : Region.noSelect l.toArray = true) (hQ : ∀ c a d v w, Q (.panic c) (a.put d v) w → Q (.panic c) a w) {n : Nat} {fin : Array Bool}
    (hN : ∀ a w, N a w → wpAnyE P md l.toArray Q R n fin a w) :
    ∀ (π : List (Nat × Bool)) (listed : Array Bool) (a : Act) (w : World), afterB md l.toArray π listed = some fin →
      wpSeq P l.toArray R Q N (π.map fun p => (nth l p.1, p.2)) a w → wpAnyE P md l.toArray Q R (π.length + n) listed a w
  | [], listed, a, w, hB, h => by
    obtain rfl : listed = fin := by simpa [afterB] using hB
    simpa using hN a w h
  | (i, false) :: r, listed, a, w, hB, h => by
    simp only [afterB] at hB
    split at hB
    case isFalse => cases hB
    case isTrue hc =>
    simp only [Bool.and_eq_true] at hc
    obtain ⟨hr, hf⟩ := hc
    have hi := nth_of l i (by simpa using ready_lt (show i ∈ Region.ready md l.toArray listed by simpa using hr))
    simp only [List.map_cons, wpSeq] at h
    rw [show ((i, false) :: r).length + n = (r.length + n) + 1 by simp; omega]
    by_cases hw : Region.wanted (nth l i) (yielded l.toArray a.tmps) = true
    · rw [if_pos hw] at h
      obtain ⟨v, hv, hK⟩ := h
      exact wpAnyE_first hr0 ht hi hs hf hr (fun c a w => hQ c a _ _ w) (.inl ⟨hw, hv⟩) (wpAnyE_of_seq hr0 ht hs hQ hN r _ _ _ hB hK)
    · rw [if_neg hw] at h
      exact wpAnyE_first hr0 ht hi hs hf hr (fun c a w => hQ c a _ _ w) (.inr ⟨by simpa using hw, rfl⟩) (wpAnyE_of_seq hr0 ht hs hQ hN r _ _ _ hB h)
  | (i, true) :: r, listed, a, w, hB, h => by
    simp only [afterB] at hB
    split at hB
    case isFalse => cases hB
    case isTrue hc =>
    have hr : Region.ready md l.toArray listed = [i] := by simpa using hc
    have hi := nth_of l i (by simpa using ready_lt (show i ∈ Region.ready md l.toArray listed by rw [hr]; simp))
    simp only [List.map_cons, wpSeq] at h
    rw [show ((i, true) :: r).length + n = (r.length + n) + 1 by simp; omega]
    intro S hS hw0
    refine wpAnyH_all hr (by simp) fun j hj => ?_
    obtain rfl : j = i := by simpa using hj
    unfold wpOp
    simp only [hi]
    by_cases hw : Region.wanted (nth l j) (yielded l.toArray a.tmps) = true
    · rw [if_pos hw] at h ⊢
      exact .inl (Oper.wp_mono (fun a' w' h' => ⟨hS _ _ hw0 h'.1, wpAnyE_of_seq hr0 ht hs hQ hN r _ _ _ hB h'.2 S hS (hS _ _ hw0 h'.1)⟩) h)
    · rw [if_neg hw] at h ⊢
      exact ⟨hw0, wpAnyE_of_seq hr0 ht hs hQ hN r _ _ _ hB h S hS hw0⟩
theorem wpAnyE_done {listed : Array Bool} {a : Act} {w : World} (hB : (Region.ready md ops listed).isEmpty = true) (h : Q .normal a w) : wpAnyE P md ops Q R 0 listed a w :=
  fun S _ _ => ⟨by simpa using hB, h⟩

/-- May the operations come up so, to the last? -/
def orderB (md : Region.Mode) (ops : Array Oper) (π : List (Nat × Bool)) (listed : Array Bool) : Bool :=
  match afterB md ops π listed with
  | some fin => (Region.ready md ops fin).isEmpty
  | none => false
theorem orderB_spec {π : List (Nat × Bool)} {listed : Array Bool} (h : orderB md ops π listed = true) : ∃ fin, afterB md ops π listed = some fin ∧ (Region.ready md ops fin).isEmpty = true := by
  unfold orderB at h
  split at h
  · rename_i fin hf; exact ⟨fin, hf, h⟩
  · cases h

/-- Q, but 'False' at a panic: the region is shown not to panic. -/
def Calm (Q : Exit → Act → World → Prop) : Exit → Act → World → Prop
  | .panic _, _, _ => False
  | e, a, w => Q e a w
theorem Calm.imp {Q : Exit → Act → World → Prop} : ∀ (e : Exit) (a : Act) (w : World), Calm Q e a w → Q e a w := fun e a w h => by
  cases e <;> first | exact h | exact (h : False).elim

/-- **ONE WALK, IN THE ORDER π.** -/
theorem wp_region_seq (π : List (Nat × Bool)) (R : World → World → Prop) {id : Nat} {Q : Exit → Act → World → Prop} {a : Act} {w : World} {l : List Oper} (hm : P.follows .mixedOrders = true)
    (hB : (Region.noSelect l.toArray && (π.length == l.length) && orderB .any l.toArray π (Array.replicate l.length false)) = true)
    (hr0 : ∀ x, R x x) (ht : ∀ x y z, R x y → R y z → R x z)
    (h : wpSeq P l.toArray R (Calm Q) (Q .normal) (π.map fun p => (nth l p.1, p.2)) a w.drew) : (Code.region id l.toArray true).wp P Q a w := by
  simp only [Bool.and_eq_true, beq_iff_eq] at hB
  obtain ⟨⟨hs, hl⟩, ho⟩ := hB
  refine Code.wp_mono Calm.imp (wp_region_held (S := fun _ => True) hm ?_)
  obtain ⟨fin, hf, he⟩ := orderB_spec ho
  have := wpAnyE_of_seq (P := P) (md := .any) (Q := Calm Q) (n := 0) (fin := fin) hr0 ht hs (fun _ _ _ _ _ h => (h : False).elim) (fun a w hn => wpAnyE_done he hn) π _ a w.drew hf h (fun _ => True) (fun _ _ _ _ => trivial) trivial
  rw [Nat.add_zero, hl] at this
  simpa using this
/-- **TWO WALKS BEHIND A COMMON BEGINNING: where two operations may come up.** -/
theorem wp_region_fork (π : List (Nat × Bool)) (i : Nat) (π1 : List (Nat × Bool)) (j : Nat) (π2 : List (Nat × Bool)) (R : World → World → Prop) {id : Nat} {Q : Exit → Act → World → Prop} {a : Act} {w : World} {l : List Oper} (hm : P.follows .mixedOrders = true)
    (hB : (Region.noSelect l.toArray && (π.length + (π1.length + 1) == l.length) && (π1.length == π2.length) && (match afterB .any l.toArray π (Array.replicate l.length false) with
      | some mid => (Region.ready .any l.toArray mid == [i, j]) && orderB .any l.toArray π1 (mid.setIfInBounds i true) && orderB .any l.toArray π2 (mid.setIfInBounds j true)
      | none => false)) = true)
    (hr0 : ∀ x, R x x) (ht : ∀ x y z, R x y → R y z → R x z)
    (h : wpSeq P l.toArray R (Calm Q) (fun a w => wpSeq P l.toArray R (Calm Q) (Q .normal) (((i, true) :: π1).map fun p => (nth l p.1, p.2)) a w ∧
      wpSeq P l.toArray R (Calm Q) (Q .normal) (((j, true) :: π2).map fun p => (nth l p.1, p.2)) a w) (π.map fun p => (nth l p.1, p.2)) a w.drew) : (Code.region id l.toArray true).wp P Q a w := by
  simp only [Bool.and_eq_true, beq_iff_eq] at hB
  obtain ⟨⟨⟨hs, hl⟩, hl2⟩, ho⟩ := hB
  refine Code.wp_mono Calm.imp (wp_region_held (S := fun _ => True) hm ?_)
  cases hmid : afterB .any l.toArray π (Array.replicate l.length false) with
  | none => rw [hmid] at ho; cases ho
  | some mid =>
    rw [hmid] at ho
    simp only [Bool.and_eq_true, beq_iff_eq] at ho
    obtain ⟨⟨hr, h1⟩, h2⟩ := ho
    have key : ∀ (k : Nat) (πk : List (Nat × Bool)) (a : Act) (w : World), k ∈ Region.ready .any l.toArray mid → πk.length = π1.length → orderB .any l.toArray πk (mid.setIfInBounds k true) = true →
        wpSeq P l.toArray R (Calm Q) (Q .normal) (((k, true) :: πk).map fun p => (nth l p.1, p.2)) a w → ∀ S : World → Prop, (∀ x y, S x → R x y → S y) → S w →
        wpOp P l.toArray (Calm Q) k (fun a' w' => S w' ∧ wpAnyH P .any l.toArray (Calm Q) S π1.length (mid.setIfInBounds k true) a' w') a w := by
      intro k πk a w hk hlk hok hseq S hS hw0
      obtain ⟨fin, hf, he⟩ := orderB_spec hok
      have hi := nth_of l k (by simpa using ready_lt hk)
      simp only [List.map_cons, wpSeq] at hseq
      have go := fun (a : Act) (w : World) hh (hSw : S w) => wpAnyE_of_seq (P := P) (md := .any) (Q := Calm Q) (R := R) (n := 0) (fin := fin) hr0 ht hs (fun _ _ _ _ _ h => (h : False).elim) (fun a w hn => wpAnyE_done he hn) πk _ a w hf hh S hS hSw
      rw [Nat.add_zero, hlk] at go
      unfold wpOp
      simp only [hi]
      by_cases hw : Region.wanted (nth l k) (yielded l.toArray a.tmps) = true
      · rw [if_pos hw] at hseq ⊢
        exact .inl (Oper.wp_mono (fun a' w' h' => ⟨hS _ _ hw0 h'.1, go a' w' h'.2 (hS _ _ hw0 h'.1)⟩) hseq)
      · rw [if_neg hw] at hseq ⊢
        exact ⟨hw0, go _ _ hseq hw0⟩
    have := wpAnyE_of_seq (P := P) (md := .any) (Q := Calm Q) (n := π1.length + 1) (fin := mid) hr0 ht hs (fun _ _ _ _ _ h => (h : False).elim) (fun a w hn S hS hw0 => by
      refine wpAnyH_all hr (by simp) fun k hk => ?_
      have hk' : k ∈ Region.ready .any l.toArray mid := by rw [hr]; exact hk
      rcases List.mem_cons.1 hk with rfl | hk2
      · exact key _ π1 a w hk' rfl h1 hn.1 S hS hw0
      · obtain rfl : k = j := by simpa using hk2
        exact key _ π2 a w hk' hl2.symm h2 hn.2 S hS hw0) π _ a w.drew hmid h (fun _ => True) (fun _ _ _ _ => trivial) trivial
    rw [hl] at this
    simpa using this
theorem seq_done {a : Act} {w : World} (h : N a w) : wpSeq P ops R Q N [] a w := h

/-! ### The steps -/
/-- Operations that yield a value and never a call. -/
def readOp : Op → Bool
  | .move _ | .assign _ | .pick .. | .load .. | .binOp .. | .unOp .. | .convert .. | .indexAddr .. | .index .. | .fieldAddr .. | .field .. | .slice .. | .extract .. | .lookup .. => true
  | .call c => match c.callee with
    | .builtin .len | .builtin .cap | .builtin .min | .builtin .max => true
    | _ => false
  | _ => false

theorem run_value {s : Sem Value} {w w' : World} {n : Next} (h : (do let x ← s; pure (Next.value x) : Sem Next).run P w = .ok n w') : ∃ v, n = .value v := by
  rw [Sem.run_bind] at h
  cases hs : s.run P w with
  | ok x w1 => rw [hs] at h; simp [Result.andThen, Sem.run_pure] at h; exact ⟨x, h.1.symm⟩
  | halt x w1 => rw [hs] at h; simp [Result.andThen] at h

theorem readOp_value {ρ : Operand → Value} {o : Oper} (hr : readOp o.op = true) {w w' : World} {n : Next} (h : (execOp ρ o).run P w = .ok n w') : ∃ v, n = .value v := by
  obtain ⟨dst, op, type, pos, after, guard⟩ := o
  cases op <;> simp only [readOp, Bool.false_eq_true] at hr <;> simp only [execOp] at h
  case call c =>
    obtain ⟨callee, args, ats⟩ := c
    cases callee <;> simp only at hr
    case builtin b =>
      cases b <;> simp only [Bool.false_eq_true] at hr
      all_goals
        simp only [resolve, Sem.run_bind, Sem.run_pure, Result.andThen, invoke, builtin] at h
        exact run_value (P := P) (w := w) (w' := w') (by rw [Sem.run_bind]; exact h)
    all_goals exact absurd hr (by simp)
  case pick c x y =>
    rw [Sem.run_bind] at h
    cases hs : (asBool (ρ c)).run P w with
    | ok b w1 => rw [hs] at h; simp [Result.andThen, Sem.run_pure] at h; exact ⟨_, h.1.symm⟩
    | halt e w1 => rw [hs] at h; simp [Result.andThen] at h
  all_goals first
    | exact run_value h
    | (simp [Sem.run_pure] at h; exact ⟨_, h.1.symm⟩)

theorem seq_read {o : Oper} {r : List (Oper × Bool)} {a : Act} {w : World} (hr : readOp o.op = true) (hw : Region.wanted o (yielded ops a.tmps) = true)
    (h : ∀ K : Act → Prop, (∀ a', wpSeq P ops R Q N r a' w → K a') → o.quiet P a (R w) K) : wpSeq P ops R Q N ((o, false) :: r) a w := by
  obtain ⟨v, h1, h2⟩ := h _ (fun _ h => h)
  simp only [wpSeq]
  rw [if_pos hw]
  refine ⟨v, fun w' hw' => ?_, h2⟩
  have h3 := h1 w' hw'
  unfold Oper.quietAt at h3
  cases hrun : (execOp a.eval o).run P w' with
  | ok n w1 =>
    rw [hrun] at h3
    obtain ⟨u, rfl⟩ := readOp_value hr hrun
    obtain ⟨rfl, rfl⟩ := h3
    rfl
  | halt x w1 => rw [hrun] at h3; exact h3.elim
theorem seq_value {o : Oper} {r : List (Oper × Bool)} {a : Act} {w : World} (v : Value) (hw : Region.wanted o (yielded ops a.tmps) = true)
    (h : ∀ w', R w w' → (execOp a.eval o).run P w' = .ok (.value v) w') (k : ∀ K : Act → Prop, (∀ a', wpSeq P ops R Q N r a' w → K a') → K (a.put o.dst v)) : wpSeq P ops R Q N ((o, false) :: r) a w := by
  simp only [wpSeq]
  rw [if_pos hw]
  exact ⟨v, h, k _ fun _ h => h⟩
theorem seq_convert {o : Oper} {r : List (Oper × Bool)} {a : Act} {w : World} {src dst : TypeId} {x : Operand} (u v : Value) (hop : o.op = .convert src dst x) (hx : a.eval x = u) (hw : Region.wanted o (yielded ops a.tmps) = true)
    (h : ∀ w', R w w' → (convert src dst u).run P w' = .ok v w') (k : ∀ K : Act → Prop, (∀ a', wpSeq P ops R Q N r a' w → K a') → K (a.put o.dst v)) : wpSeq P ops R Q N ((o, false) :: r) a w :=
  seq_value v hw (fun w' hw' => by
    obtain ⟨d, op, type, pos, after, guard⟩ := o
    subst hop hx
    simp only [execOp, Sem.run_bind, h w' hw', Result.andThen, Sem.run_pure]) k
theorem seq_skip {o : Oper} {r : List (Oper × Bool)} {a : Act} {w : World} (hw : Region.wanted o (yielded ops a.tmps) = false) (k : ∀ K : Act → Prop, (∀ a', wpSeq P ops R Q N r a' w → K a') → K (a.put o.dst undef)) :
    wpSeq P ops R Q N ((o, false) :: r) a w := by
  simp only [wpSeq, hw, Bool.false_eq_true, if_false]; exact k _ fun _ h => h
theorem seq_skipc {o : Oper} {r : List (Oper × Bool)} {a : Act} {w : World} (hw : Region.wanted o (yielded ops a.tmps) = false) (k : ∀ K : Act → Prop, (∀ a', wpSeq P ops R Q N r a' w → K a') → K (a.put o.dst undef)) :
    wpSeq P ops R Q N ((o, true) :: r) a w := by
  simp only [wpSeq, hw, Bool.false_eq_true, if_false]; exact k _ fun _ h => h
theorem run_callFunc {f : FuncId} {fn : Func} (hf : P.funcs[f]? = some fn) (hn : (fn.name == "runtime.NumGoroutine") = false) (hb : fn.body.isNone = false) (args : Array Value) (w : World) :
    (callFunc f args).run P w = .ok (.enter f args) w := by
  have hn' : fn.name ≠ "runtime.NumGoroutine" := by simpa using hn
  have hb' : fn.body ≠ none := by intro e; rw [e] at hb; simp at hb
  simp [callFunc, hf, hn', hb']
theorem seq_call {o : Oper} {r : List (Oper × Bool)} {a : Act} {w : World} {f : FuncId} {xs : Array Operand} {ats : Array TypeId} {fn : Func} {args : Array Value} {T : Ending → World → Prop} (hc : Calls P f args w T)
    (hop : o.op = .call { callee := .value (.func f), args := xs, argTypes := ats })
    (hf : P.funcs[f]? = some fn) (hn : (fn.name == "runtime.NumGoroutine") = false) (hb : fn.body.isNone = false) (hargs0 : xs.toList.map a.eval = args.toList) (hw : Region.wanted o (yielded ops a.tmps) = true)
    (h : ∀ (K : Act → World → Prop), (∀ a' w', wpSeq P ops R Q N r a' w' → K a' w') → ∀ e w', T e w' → ∃ v, e = .returned v ∧ R w w' ∧ K (a.put o.dst v) w') : wpSeq P ops R Q N ((o, true) :: r) a w := by
  simp only [wpSeq]
  rw [if_pos hw]
  unfold Oper.wp
  obtain ⟨d, op, type, pos, after, guard⟩ := o
  have hargs : xs.map a.eval = args := by apply Array.ext'; rw [← hargs0]; simp
  subst hop hargs
  rw [execOp_call_go, run_callFunc hf hn hb]
  simp only [Oper.upon]
  have e : (#[] ++ xs.map a.eval ++ #[] : Array Value) = xs.map a.eval := by simp
  rw [e]
  exact hc.mono fun e w' ht => by
    obtain ⟨v, he, h1, h2⟩ := h _ (fun _ _ h => h) e w' ht
    subst he
    exact ⟨h1, h2⟩
/-- a call of a function value (a closure with what it holds) -/
theorem seq_callv {o : Oper} {r : List (Oper × Bool)} {a : Act} {w : World} {f : FuncId} {c : Operand} {xs : Array Operand} {ats : Array TypeId} {fn : Func} {args held all : Array Value} {T : Ending → World → Prop} (hc : Calls P f all w T)
    (hop : o.op = .call { callee := .value c, args := xs, argTypes := ats }) (hcv : a.eval c = .func (.func f) #[] held)
    (hf : P.funcs[f]? = some fn) (hn : (fn.name == "runtime.NumGoroutine") = false) (hb : fn.body.isNone = false) (hargs0 : xs.toList.map a.eval = args.toList) (hall : all = args ++ held) (hw : Region.wanted o (yielded ops a.tmps) = true)
    (h : ∀ (K : Act → World → Prop), (∀ a' w', wpSeq P ops R Q N r a' w' → K a' w') → ∀ e w', T e w' → ∃ v, e = .returned v ∧ R w w' ∧ K (a.put o.dst v) w') : wpSeq P ops R Q N ((o, true) :: r) a w := by
  simp only [wpSeq]
  rw [if_pos hw]
  unfold Oper.wp
  obtain ⟨d, op, type, pos, after, guard⟩ := o
  have hargs : xs.map a.eval = args := by apply Array.ext'; rw [← hargs0]; simp
  subst hop hargs hall
  have e : (execOp a.eval { dst := d, op := .call { callee := .value c, args := xs, argTypes := ats }, type := type, pos := pos, after := after, guard := guard }).run P w = .ok (.enter f (xs.map a.eval ++ held)) w := by
    have e0 := run_callFunc hf hn hb (xs.map a.eval ++ held) w
    simpa [execOp, resolve, Deferred.ofValue, hcv, invoke] using e0
  rw [e]
  simp only [Oper.upon]
  exact hc.mono fun e w' ht => by
    obtain ⟨v, he, h1, h2⟩ := h _ (fun _ _ h => h) e w' ht
    subst he
    exact ⟨h1, h2⟩
/-- a step that comes up alone and hands on a value, in the world as it then is -/
theorem seq_run {o : Oper} {r : List (Oper × Bool)} {a : Act} {w : World} (v : Value) (w1 : World) (hw : Region.wanted o (yielded ops a.tmps) = true) (hrun : (execOp a.eval o).run P w = .ok (.value v) w1) (hR : R w w1)
    (k : ∀ K : Act → World → Prop, (∀ a' w', wpSeq P ops R Q N r a' w' → K a' w') → K (a.put o.dst v) w1) : wpSeq P ops R Q N ((o, true) :: r) a w := by
  simp only [wpSeq]
  rw [if_pos hw]
  unfold Oper.wp
  rw [hrun]
  simp only [Oper.upon]
  exact ⟨hR, k _ fun _ _ h => h⟩
/-- the same, of a store -/
theorem seq_store {o : Oper} {r : List (Oper × Bool)} {a : Act} {w : World} (w1 : World) (hw : Region.wanted o (yielded ops a.tmps) = true) (hrun : (execOp a.eval o).run P w = .ok .skip w1) (hR : R w w1)
    (k : ∀ K : Act → World → Prop, (∀ a' w', wpSeq P ops R Q N r a' w' → K a' w') → K (a.put o.dst undef) w1) : wpSeq P ops R Q N ((o, true) :: r) a w := by
  simp only [wpSeq]
  rw [if_pos hw]
  unfold Oper.wp
  rw [hrun]
  simp only [Oper.upon]
  exact ⟨hR, k _ fun _ _ h => h⟩
/-- the same, of the builtin copy -/
theorem seq_copy {o : Oper} {r : List (Oper × Bool)} {a : Act} {w : World} (v : Value) (w1 : World) {s x : Operand} {t1 t2 : TypeId} (u y : Value) (hop : o.op = .call { callee := .builtin .copy, args := #[s, x], argTypes := #[t1, t2] })
    (hs : a.eval s = u) (hx : a.eval x = y) (hw : Region.wanted o (yielded ops a.tmps) = true) (hrun : ∀ ty, (Builtin.copy_ #[t1, t2] ty #[u, y]).run P w = .ok v w1) (hR : R w w1)
    (k : ∀ K : Act → World → Prop, (∀ a' w', wpSeq P ops R Q N r a' w' → K a' w') → K (a.put o.dst v) w1) : wpSeq P ops R Q N ((o, true) :: r) a w :=
  seq_run v w1 hw (by
    unfold execOp
    simp only [hop, resolve, invoke, builtin, Sem.run_bind, Sem.run_pure, Result.andThen_ok, List.map_toArray, List.map_cons, List.map_nil, hs, hx, hrun]) hR k
end
attribute [irreducible] wpSeq
/-- nothing that was there has turned -/
def Ext (w w' : World) : Prop := Below w.heap.size w w'
theorem Ext.refl (w : World) : Ext w w := Below.refl _ _
theorem Ext.trans {a b c : World} (h : Ext a b) (k : Ext b c) : Ext a c := Below.trans h (Below.mono k h.size)
theorem Ext.drew {a b : World} (h : Ext a b) : Ext a b.drew := Below.drew h
theorem Ext.of_drew {a b : World} (h : Ext a.drew b) : Ext a b := ⟨h.os, h.tape, h.output, h.size, h.block⟩
end Go.Proofs.YtngioemeplllhaaDoor
