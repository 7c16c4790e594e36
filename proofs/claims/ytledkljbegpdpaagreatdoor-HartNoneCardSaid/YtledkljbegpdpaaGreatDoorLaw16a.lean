/- Layer 16's laws: fits. -/
import Derived.Test.YtledkljbegpdpaaGreatDoorRhart
import Derived.Test.YtledkljbegpdpaaGreatDoorGrme
import Derived.Test.YtledkljbegpdpaaGreatDoorMem
namespace Go.Proofs.YtledkljbegpdpaaGreatDoor
open Go.ChangeShapes Go.WideShapes Go.ChangeAt Go.RowKit
set_option linter.unusedVariables false
set_option linter.unusedSimpArgs false
set_option maxRecDepth 10000

/-- a right hart and a right memory of few cells -/
def fitH (h : Hr) (S : Nat) (M : List (Nat × Nat)) : Bool := decide (h.L.length ≤ 16) && (rightH h && (decide (M.length ≤ 300) && decide (RightM S M)))
set_option maxHeartbeats 1000000 in
theorem fits16_c (A : Option Addr) (h : Hr) (c S : Nat) (B : Option Addr) (M : List (Nat × Nat)) (d : Nat) (hS : S < 18446744073709551616) (hM : IsCells M) (w : World) (hr : RowV KS w A h.L c) (hm : RowL w B M d) :
    Calls Tryz.prog 9 #[.agg (hrC ⟨A, c, h⟩), .agg #[.int .u64 (S : Int), .slice B M.length d]] w fun r w' => r = .returned (.bool (fitH h S M)) ∧ Ext w w' := by
  have h1 : Blk ((w.alloc (.cells (hrC ⟨A, c, h⟩) 29)).alloc (.cells #[.int .u64 (S : Int), .slice B M.length d] 32)) w.heap.size 29 (hrC ⟨A, c, h⟩) := (Blk.new w _ _).alloc _
  have h2 : Blk ((w.alloc (.cells (hrC ⟨A, c, h⟩) 29)).alloc (.cells #[.int .u64 (S : Int), .slice B M.length d] 32)) (w.heap.size + 1) 32 #[.int .u64 (S : Int), .slice B M.length d] := blk_at (by simp)
  have HE := Lib.hid (((Ext.refl w).alloc (.cells (hrC ⟨A, c, h⟩) 29)).alloc (.cells #[.int .u64 (S : Int), .slice B M.length d] 32))
  have x0 := h1.hr.s
  have hq : fitH h S M = (decide (h.L.length ≤ 16) && (rightH h && (decide (M.length ≤ 300) && decide (RightM S M)))) := by unfold fitH; rfl
  have crt := fun w k => rright16_c A h c w k
  have cfw := fun w => few_c S B M d w
  by_cases h16 : h.L.length ≤ 16
  case neg =>
    have d0 : decide ((h.L.length : Int) ≤ 16) = false := by simp; omega
    rw [show decide (h.L.length ≤ 16) = false by simp; omega] at hq
    clear h16 crt cfw
    go_enter Tryz.func9, Tryz.ntmps9
    go_wp2
    go_ret
    refine ⟨?_, HE.out⟩
    rw [hq]
    first | rfl | simp
  have d0 : decide ((h.L.length : Int) ≤ 16) = true := by simp; omega
  rw [show decide (h.L.length ≤ 16) = true by simp; omega] at hq
  generalize rightH h = R at *
  clear h16
  go_enter Tryz.func9, Tryz.ntmps9
  go_wp2_with (refine wpList_load_blk (by rfl) 29 _ rfl rfl h1 Tryz.underlying29 rfl (by kernel_rfl) ?_)
  refine (crt _ (hr.ext HE.out)).mono ?_
  rintro e w' ⟨rfl, hE⟩
  (try replace hm := hm.ext hE); (try replace h1 := h1.ext hE); (try replace h2 := h2.ext hE); (try replace h3 := h3.ext hE); (try replace hM := hM.ext hE); (try replace HE := Lib.hid (HE.out.trans hE)); (try replace r0 := r0.ext hE); (try replace r1 := r1.ext hE); (try replace r2 := r2.ext hE); (try replace r3 := r3.ext hE); (try replace r4 := r4.ext hE); (try replace r5 := r5.ext hE); (try replace r6 := r6.ext hE)
  clear hE crt x0
  cases R
  · skip
    go_wp2
    go_ret
    refine ⟨?_, HE.out⟩
    rw [hq]
    first | rfl | simp
  by_cases h3 : M.length ≤ 300
  case neg =>
    rw [show decide (M.length ≤ 300) = false by simpa using h3] at hq cfw
    go_wp2_with ((refine wpList_load_blk (by rfl) 32 _ rfl rfl h2 Tryz.underlying32 rfl (by kernel_rfl) ?_)); refine (cfw _).mono ?_; rintro e w' ⟨rfl, hE⟩; (try replace hm := hm.ext hE); (try replace h1 := h1.ext hE); (try replace h2 := h2.ext hE); (try replace h3 := h3.ext hE); (try replace hM := hM.ext hE); (try replace HE := Lib.hid (HE.out.trans hE)); (try replace r0 := r0.ext hE); (try replace r1 := r1.ext hE); (try replace r2 := r2.ext hE); (try replace r3 := r3.ext hE); (try replace r4 := r4.ext hE); (try replace r5 := r5.ext hE); (try replace r6 := r6.ext hE); clear hE
    clear cfw
    go_wp2
    go_ret
    refine ⟨?_, HE.out⟩
    rw [hq]
    first | rfl | simp
  rw [show decide (M.length ≤ 300) = true by simpa using h3] at hq cfw
  have crm := fun w k => rright_c S B M d hS hM (by omega) w k
  go_wp2_with ((refine wpList_load_blk (by rfl) 32 _ rfl rfl h2 Tryz.underlying32 rfl (by kernel_rfl) ?_)); refine (cfw _).mono ?_; rintro e w' ⟨rfl, hE⟩; (try replace hm := hm.ext hE); (try replace h1 := h1.ext hE); (try replace h2 := h2.ext hE); (try replace h3 := h3.ext hE); (try replace hM := hM.ext hE); (try replace HE := Lib.hid (HE.out.trans hE)); (try replace r0 := r0.ext hE); (try replace r1 := r1.ext hE); (try replace r2 := r2.ext hE); (try replace r3 := r3.ext hE); (try replace r4 := r4.ext hE); (try replace r5 := r5.ext hE); (try replace r6 := r6.ext hE); clear hE
  clear cfw
  go_wp2_with ((refine wpList_load_blk (by rfl) 32 _ rfl rfl h2 Tryz.underlying32 rfl (by kernel_rfl) ?_)); refine (crm _ (hm.1.ext HE.out)).mono ?_; rintro e w' ⟨rfl, hE⟩; (try replace hm := hm.ext hE); (try replace h1 := h1.ext hE); (try replace h2 := h2.ext hE); (try replace h3 := h3.ext hE); (try replace hM := hM.ext hE); (try replace HE := Lib.hid (HE.out.trans hE)); (try replace r0 := r0.ext hE); (try replace r1 := r1.ext hE); (try replace r2 := r2.ext hE); (try replace r3 := r3.ext hE); (try replace r4 := r4.ext hE); (try replace r5 := r5.ext hE); (try replace r6 := r6.ext hE); clear hE
  clear crm
  go_wp2
  go_ret
  refine ⟨?_, HE.out⟩
  rw [hq]
  first | rfl | simp
theorem fit_h {h : Hr} {S : Nat} {M : List (Nat × Nat)} (hf : fitH h S M = true) : h.L.length ≤ 16 ∧ rightH h = true ∧ M.length ≤ 300 ∧ RightM S M := by
  unfold fitH at hf
  simp only [Bool.and_eq_true, decide_eq_true_eq] at hf
  exact hf
theorem fit_m {w : World} {h : Hr} {S : Nat} {B : Option Addr} {M : List (Nat × Nat)} {d : Nat} (hf : fitH h S M = true) (hM : IsCells M) (hm : RowL w B M d) : Mem w S B M d := by
  obtain ⟨-, -, h3, h4⟩ := fit_h hf
  have h2 : SizeOk S := by have := h4; unfold RightM at this; exact this.1
  exact ⟨hm, h4.rl hM, h2, by omega⟩
attribute [irreducible] fitH
end Go.Proofs.YtledkljbegpdpaaGreatDoor
