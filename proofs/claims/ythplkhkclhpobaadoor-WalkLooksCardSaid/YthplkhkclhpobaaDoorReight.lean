/- The document's answers for package perm (atlasref08). -/
import Derived.Test.YthplkhkclhpobaaDoorCeigb
namespace Go.Proofs.YthplkhkclhpobaaDoor
open Go.ChangeShapes Go.WideShapes Go.ChangeAt Go.RowKit
set_option linter.unusedVariables false
set_option linter.unusedSimpArgs false

theorem nmP_cells (n : Nat) : pmC (nmP n) = #[.bool ((n : Int) % 2 == 1), .bool ((n : Int) / 2 % 2 == 1), .bool ((n : Int) / 4 % 2 == 1), .bool ((n : Int) / 8 % 2 == 1)] := by
  have e : ∀ a b : Nat, ((a : Int) / (b : Int) % 2 == 1) = decide (a / b % 2 = 1) := fun a b => by
    rw [Bool.eq_iff_iff, beq_iff_eq, decide_eq_true_iff]; omega
  have e1 : ((n : Int) % 2 == 1) = decide (n % 2 = 1) := by rw [Bool.eq_iff_iff, beq_iff_eq, decide_eq_true_iff]; omega
  unfold nmP
  rw [pmC_def, e1, ← e n 2, ← e n 4, ← e n 8]; rfl
theorem nmW_cells (n : Nat) : wyC (nmW n) = #[.int .i64 ((n : Int) % 3), .int .i64 ((n : Int) / 3 % 2), .bool ((n : Int) / 6 % 2 == 1), .bool ((n : Int) / 12 % 2 == 1)] := by
  have e : ∀ a b : Nat, ((a : Int) / (b : Int) % 2 == 1) = decide (a / b % 2 = 1) := fun a b => by
    rw [Bool.eq_iff_iff, beq_iff_eq, decide_eq_true_iff]; omega
  have e1 : ((n % 3 : Nat) : Int) = (n : Int) % 3 := by omega
  have e2 : ((n / 3 % 2 : Nat) : Int) = (n : Int) / 3 % 2 := by omega
  unfold nmW
  rw [wyC_def, e1, e2, ← e n 6, ← e n 12]; rfl
set_option maxHeartbeats 1000000 in
theorem ral8_c (p : Pm) (y : Wy) (hy : wyIs y = true) (w : World) :
    Calls Tryd.prog 23 #[.agg (pmC p), .agg (wyC y)] w fun e w' => e = .returned (.bool (pmAl p y)) ∧ Ext w w' := by
  have HE := Lib.hid (((Ext.refl w).alloc (.cells (pmC p) 51)).alloc (.cells (wyC y) 39))
  obtain ⟨hk, hv⟩ := wy_cases hy
  clear hy
  rw [al_lit]
  obtain ⟨r, y0, x, u⟩ := p
  obtain ⟨k, v, s, m⟩ := y
  simp only at hk hv
  rw [ad_lit, ask_lit]
  rw [pmC_def, wyC_def] at HE ⊢
  rcases hk with rfl | rfl | rfl
  · rcases hv with rfl | rfl <;> cases u
    · go_enter Tryd.func23, Tryd.ntmps23; go_wp2; go_ret; exact ⟨by first | rfl | (simp; done), HE.out⟩
    · go_enter Tryd.func23, Tryd.ntmps23; go_wp2; go_ret; exact ⟨by first | rfl | (simp; done), HE.out⟩
    · go_enter Tryd.func23, Tryd.ntmps23; go_wp2; go_ret; exact ⟨by first | rfl | (simp; done), HE.out⟩
    · go_enter Tryd.func23, Tryd.ntmps23; go_wp2; go_ret; exact ⟨by first | rfl | (simp; done), HE.out⟩
  · rcases hv with rfl | rfl <;> cases u
    · go_enter Tryd.func23, Tryd.ntmps23; go_wp2; go_ret; exact ⟨by first | rfl | (simp; done), HE.out⟩
    · cases r
      · cases x
        · go_enter Tryd.func23, Tryd.ntmps23; go_wp2; go_ret; exact ⟨by first | rfl | (simp; done), HE.out⟩
        · go_enter Tryd.func23, Tryd.ntmps23; go_wp2; go_ret; exact ⟨by first | rfl | (simp; done), HE.out⟩
      · go_enter Tryd.func23, Tryd.ntmps23; go_wp2; go_ret; exact ⟨by first | rfl | (simp; done), HE.out⟩
    · cases r
      · cases x
        · go_enter Tryd.func23, Tryd.ntmps23; go_wp2; go_ret; exact ⟨by first | rfl | (simp; done), HE.out⟩
        · go_enter Tryd.func23, Tryd.ntmps23; go_wp2; go_ret; exact ⟨by first | rfl | (simp; done), HE.out⟩
      · go_enter Tryd.func23, Tryd.ntmps23; go_wp2; go_ret; exact ⟨by first | rfl | (simp; done), HE.out⟩
    · cases s
      · go_enter Tryd.func23, Tryd.ntmps23; go_wp2; go_ret; exact ⟨by first | rfl | (simp; done), HE.out⟩
      · cases r
        · cases x
          · go_enter Tryd.func23, Tryd.ntmps23; go_wp2; go_ret; exact ⟨by first | rfl | (simp; done), HE.out⟩
          · go_enter Tryd.func23, Tryd.ntmps23; go_wp2; go_ret; exact ⟨by first | rfl | (simp; done), HE.out⟩
        · go_enter Tryd.func23, Tryd.ntmps23; go_wp2; go_ret; exact ⟨by first | rfl | (simp; done), HE.out⟩
  · rcases hv with rfl | rfl <;> cases u
    · go_enter Tryd.func23, Tryd.ntmps23; go_wp2; go_ret; exact ⟨by first | rfl | (simp; done), HE.out⟩
    · go_enter Tryd.func23, Tryd.ntmps23; go_wp2; go_ret; exact ⟨by first | rfl | (simp; done), HE.out⟩
    · go_enter Tryd.func23, Tryd.ntmps23; go_wp2; go_ret; exact ⟨by first | rfl | (simp; done), HE.out⟩
    · cases s
      · go_enter Tryd.func23, Tryd.ntmps23; go_wp2; go_ret; exact ⟨by first | rfl | (simp; done), HE.out⟩
      · go_enter Tryd.func23, Tryd.ntmps23; go_wp2; go_ret; exact ⟨by first | rfl | (simp; done), HE.out⟩
end Go.Proofs.YthplkhkclhpobaaDoor
