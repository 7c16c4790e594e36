/- Layer 16's laws: what they share (harts that calls answer are in order; a hart without sets). -/
import Derived.Test.YtledkljbegpdpaaGreatDoorLaw16a
import Derived.Test.YtledkljbegpdpaaGreatDoorGchart
import Derived.Test.YtledkljbegpdpaaGreatDoorGag
namespace Go.Proofs.YtledkljbegpdpaaGreatDoor
open Go.ChangeShapes Go.WideShapes Go.ChangeAt Go.RowKit
set_option linter.unusedVariables false
set_option linter.unusedSimpArgs false
set_option maxRecDepth 10000

theorem may_ok {e : En} (h : mayE e = true) : e.ok := by
  unfold mayE at h
  unfold En.ok Pm.ok
  split at h
  · rw [decide_eq_true_iff] at h
    exact ⟨by omega, by omega, by omega, by omega, trivial⟩
  · rw [decide_eq_true_iff] at h
    subst h
    unfold e0
    simp
theorem rt_ok {L : List St} (h : rightT L = true) {i : Nat} (hi : i < L.length) : (sT L i).ok :=
  ⟨⟨may_ok (rt_may h hi (w := 0) (by decide)), may_ok (rt_may h hi (w := 1) (by decide)), may_ok (rt_may h hi (w := 2) (by decide)), may_ok (rt_may h hi (w := 3) (by decide))⟩, by have := right_t (rt_s h hi); omega⟩
theorem acc_vi (S : Nat) (M : List (Nat × Nat)) (h : Hr) (k a s : Nat) : (accH S M h k a s).vi = h.vi ∨ (accH S M h k a s).vi = -1 := by
  unfold accH
  split
  · exact .inl rfl
  · unfold hH
    split
    · split
      · exact .inl rfl
      · exact .inr rfl
    · exact .inl rfl
theorem acc_ok {S : Nat} {M : List (Nat × Nat)} {h : Hr} {k a : Nat} (hr : rightH h = true) (hok : h.ok) (hM : RL (S / 8) M) (h8 : S % 8 = 0) (ha : a < 18446744073709551616) (s : Nat) : (accH S M h k a s).ok := by
  obtain ⟨e1, e2, e3, e4, e5, e6, -⟩ := acc_right (k := k) hr hM h8 ha s 0
  have hv := acc_vi S M h k a s
  obtain ⟨h1, h2, h3, -⟩ := hok
  refine ⟨by rw [e2]; exact h1, by rw [e3]; exact h2, ?_, fun i hi => rt_ok (right_split e1).1 hi⟩
  rcases hv with e | e <;> rw [e]
  · exact h3
  · decide
theorem bare_eq (h : Hr) : bareH h = { h with L := [] } := by unfold bareH; rfl
theorem bare_L (h : Hr) : (bareH h).L = [] := by rw [bare_eq]
theorem bare_right {h : Hr} (hr : rightH h = true) : rightH (bareH h) = true := by
  obtain ⟨-, h2, h3⟩ := right_split hr
  exact right_join (by rw [bare_L]; exact rt_rep (n := 0) (by decide)) (by rw [bare_eq]; exact h2) (by rw [bare_eq]; exact h3)
theorem bare_ok {h : Hr} (hok : h.ok) : (bareH h).ok := by
  obtain ⟨h1, h2, h3, -⟩ := hok
  refine ⟨by rw [bare_eq]; exact h1, by rw [bare_eq]; exact h2, by rw [bare_eq]; exact h3, fun i hi => ?_⟩
  rw [bare_L] at hi
  exact absurd hi (by simp)
theorem bare_row (w : World) (h : Hr) : RowV KS w none (bareH h).L 0 := by rw [bare_L]; exact RowV.nil w
theorem rng_pre {w : World} {b o : Nat} {xs ys : List Value} (h : w.rangeAt b o (xs ++ ys)) : w.rangeAt b o xs := fun j v hj => h j v (by
  have hl : j < xs.length := (List.getElem?_eq_some_iff.1 hj).1
  rw [List.getElem?_append_left hl]; exact hj)
theorem rng_ws {w : World} {b o : Nat} {s : St} (h : w.rangeAt b o (stC s).toList) : w.rangeAt b o (wsC s.ws).toList := by
  rw [stC_eq, Array.toList_append] at h
  exact rng_pre h
theorem sm_on {p : Sp} (h : smB p = true) : p.md = 0 ∨ p.md = 8 := by
  unfold smB at h
  by_cases h0 : p.md = 0
  · exact .inl h0
  · rw [if_neg h0] at h
    simp only [Bool.and_eq_true, decide_eq_true_iff] at h
    exact .inr h.1.1
theorem rs_build0 (x : Nat) : Tryz.prog.built 39 [(0, .int .u64 (x : Int))] = some (rsC ⟨x, ⟨false, 0, 0⟩⟩) := by simp only [rsC_eq, ftC_eq]; kernel_rfl
theorem ftC_0 (f : Ft) : (ftC f)[0]? = some (.bool f.b) := by rw [ftC_eq]; rfl
theorem ftC_1 (f : Ft) : (ftC f)[1]? = some (.int .i64 f.c) := by rw [ftC_eq]; rfl
theorem ftC_2 (f : Ft) : (ftC f)[2]? = some (.int .u64 (f.a : Int)) := by rw [ftC_eq]; rfl
/-- three boxes made and stored into, in a row -/
theorem nh3 (w : World) (H Mc R : Array Value) : Blk (((w.alloc (.cells #[.slice none 0 0, .int .u64 0, .int .u64 0, .int .u64 0, .int .i64 0, .bool false, .bool false, .int .i64 0] 29)).alloc (.cells #[.int .u64 0, .slice none 0 0] 32)).alloc (.cells #[.int .u64 0, .bool false, .int .i64 0, .int .u64 0] 39)) w.heap.size 29 #[.slice none 0 0, .int .u64 0, .int .u64 0, .int .u64 0, .int .i64 0, .bool false, .bool false, .int .i64 0] ∧ Blk ((((w.alloc (.cells #[.slice none 0 0, .int .u64 0, .int .u64 0, .int .u64 0, .int .i64 0, .bool false, .bool false, .int .i64 0] 29)).alloc (.cells #[.int .u64 0, .slice none 0 0] 32)).alloc (.cells #[.int .u64 0, .bool false, .int .i64 0, .int .u64 0] 39)).setRow w.heap.size H) (w.heap.size + 1) 32 #[.int .u64 0, .slice none 0 0] ∧ Blk (((((w.alloc (.cells #[.slice none 0 0, .int .u64 0, .int .u64 0, .int .u64 0, .int .i64 0, .bool false, .bool false, .int .i64 0] 29)).alloc (.cells #[.int .u64 0, .slice none 0 0] 32)).alloc (.cells #[.int .u64 0, .bool false, .int .i64 0, .int .u64 0] 39)).setRow w.heap.size H).setRow (w.heap.size + 1) Mc) (w.heap.size + 1 + 1) 39 #[.int .u64 0, .bool false, .int .i64 0, .int .u64 0] ∧
    Ext w ((((((w.alloc (.cells #[.slice none 0 0, .int .u64 0, .int .u64 0, .int .u64 0, .int .i64 0, .bool false, .bool false, .int .i64 0] 29)).alloc (.cells #[.int .u64 0, .slice none 0 0] 32)).alloc (.cells #[.int .u64 0, .bool false, .int .i64 0, .int .u64 0] 39)).setRow w.heap.size H).setRow (w.heap.size + 1) Mc).setRow (w.heap.size + 1 + 1) R) ∧ Blk ((((((w.alloc (.cells #[.slice none 0 0, .int .u64 0, .int .u64 0, .int .u64 0, .int .i64 0, .bool false, .bool false, .int .i64 0] 29)).alloc (.cells #[.int .u64 0, .slice none 0 0] 32)).alloc (.cells #[.int .u64 0, .bool false, .int .i64 0, .int .u64 0] 39)).setRow w.heap.size H).setRow (w.heap.size + 1) Mc).setRow (w.heap.size + 1 + 1) R) w.heap.size 29 H ∧ Blk ((((((w.alloc (.cells #[.slice none 0 0, .int .u64 0, .int .u64 0, .int .u64 0, .int .i64 0, .bool false, .bool false, .int .i64 0] 29)).alloc (.cells #[.int .u64 0, .slice none 0 0] 32)).alloc (.cells #[.int .u64 0, .bool false, .int .i64 0, .int .u64 0] 39)).setRow w.heap.size H).setRow (w.heap.size + 1) Mc).setRow (w.heap.size + 1 + 1) R) (w.heap.size + 1) 32 Mc ∧ Blk ((((((w.alloc (.cells #[.slice none 0 0, .int .u64 0, .int .u64 0, .int .u64 0, .int .i64 0, .bool false, .bool false, .int .i64 0] 29)).alloc (.cells #[.int .u64 0, .slice none 0 0] 32)).alloc (.cells #[.int .u64 0, .bool false, .int .i64 0, .int .u64 0] 39)).setRow w.heap.size H).setRow (w.heap.size + 1) Mc).setRow (w.heap.size + 1 + 1) R) (w.heap.size + 1 + 1) 39 R := by
  have zz1 : Blk (((w.alloc (.cells #[.slice none 0 0, .int .u64 0, .int .u64 0, .int .u64 0, .int .i64 0, .bool false, .bool false, .int .i64 0] 29)).alloc (.cells #[.int .u64 0, .slice none 0 0] 32)).alloc (.cells #[.int .u64 0, .bool false, .int .i64 0, .int .u64 0] 39)) w.heap.size 29 #[.slice none 0 0, .int .u64 0, .int .u64 0, .int .u64 0, .int .i64 0, .bool false, .bool false, .int .i64 0] := ((Blk.new _ _ _).alloc _).alloc _
  have zz2 : Blk ((((w.alloc (.cells #[.slice none 0 0, .int .u64 0, .int .u64 0, .int .u64 0, .int .i64 0, .bool false, .bool false, .int .i64 0] 29)).alloc (.cells #[.int .u64 0, .slice none 0 0] 32)).alloc (.cells #[.int .u64 0, .bool false, .int .i64 0, .int .u64 0] 39)).setRow w.heap.size H) (w.heap.size + 1) 32 #[.int .u64 0, .slice none 0 0] := Blk.apart ((blk_at (by simp)).alloc _) (by omega) _
  have zz3 : Blk (((((w.alloc (.cells #[.slice none 0 0, .int .u64 0, .int .u64 0, .int .u64 0, .int .i64 0, .bool false, .bool false, .int .i64 0] 29)).alloc (.cells #[.int .u64 0, .slice none 0 0] 32)).alloc (.cells #[.int .u64 0, .bool false, .int .i64 0, .int .u64 0] 39)).setRow w.heap.size H).setRow (w.heap.size + 1) Mc) (w.heap.size + 1 + 1) 39 #[.int .u64 0, .bool false, .int .i64 0, .int .u64 0] := Blk.apart (Blk.apart (blk_at (by simp)) (by omega) _) (by omega) _
  exact ⟨zz1, zz2, zz3, ((((((Ext.refl w).alloc _).alloc _).alloc _).row (Nat.le_refl _) _).row (by omega) _).row (by omega) _, ((zz1.row _).apart (by omega) _).apart (by omega) _, (zz2.row _).apart (by omega) _, zz3.row _⟩
/-- what awake answers -/
def Awk : Prop := ∀ w, Layh w → Calls Tryz.prog 8 #[] w fun r w' => r = .returned (.bool true) ∧ Ext w w'
end Go.Proofs.YtledkljbegpdpaaGreatDoor
