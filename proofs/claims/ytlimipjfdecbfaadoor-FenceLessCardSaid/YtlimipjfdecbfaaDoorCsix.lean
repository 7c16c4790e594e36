/- Package pte: Leaf, Link, Perm, Make, has, narrow, May. -/
import Derived.Test.YtlimipjfdecbfaaDoorCsig
import Derived.Test.YtlimipjfdecbfaaDoorRone
import Derived.Test.YtlimipjfdecbfaaDoorCfive
import Derived.Test.YtlimipjfdecbfaaDoorMsix
namespace Go.Proofs.YtlimipjfdecbfaaDoor
open Go.ChangeShapes Go.WideShapes Go.ChangeAt Go.RowKit
set_option linter.unusedVariables false
set_option linter.unusedSimpArgs false

theorem permP_eq (p : Pt) : pmC (permP p) = #[.bool p.r, .bool p.w, .bool p.x, .bool p.u] := by unfold permP; rw [pmC_def]
theorem makeP_eq (f : Nat) (m : Pm) (g : Bool) : ptC (makeP f m g) = #[.bool true, .bool m.r, .bool m.w, .bool m.x, .bool m.u, .bool g, .bool false, .bool false, .int .u64 0, .int .u64 (f : Int), .int .u64 0] := by unfold makeP; rw [ptC_def]; rfl
theorem Blk.pt {w : World} {g : Nat} {t : TypeId} {c0 c1 c2 c3 c4 c5 c6 c7 c8 c9 c10 : Value} (h : Blk w g t #[c0, c1, c2, c3, c4, c5, c6, c7, c8, c9, c10]) :
    w.cell? ⟨g, 0, none⟩ = some c0 ∧ w.cell? ⟨g, 1, none⟩ = some c1 ∧ w.cell? ⟨g, 2, none⟩ = some c2 ∧ w.cell? ⟨g, 3, none⟩ = some c3 ∧ w.cell? ⟨g, 4, none⟩ = some c4 ∧ w.cell? ⟨g, 5, none⟩ = some c5 ∧ w.cell? ⟨g, 6, none⟩ = some c6 ∧ w.cell? ⟨g, 7, none⟩ = some c7 ∧ w.cell? ⟨g, 8, none⟩ = some c8 ∧ w.cell? ⟨g, 9, none⟩ = some c9 ∧ w.cell? ⟨g, 10, none⟩ = some c10 :=
  ⟨h.cell 0, h.cell 1, h.cell 2, h.cell 3, h.cell 4, h.cell 5, h.cell 6, h.cell 7, h.cell 8, h.cell 9, h.cell 10⟩
theorem bit_eq {x i : Int} (x0 : 0 ≤ x) (i0 : 0 ≤ i) (i1 : i < 64) : (getI x i 1 == 1) = bitB x i := by
  obtain ⟨n, rfl⟩ := Int.eq_ofNat_of_zero_le i0
  obtain ⟨m, rfl⟩ := Int.eq_ofNat_of_zero_le x0
  rw [bitB_in (by omega) (by omega), Bool.eq_iff_iff, beq_iff_eq, Int.toNat_natCast, Int.toNat_natCast, ← tb_one]
  unfold getI
  rw [Int.toNat_natCast, Int.toNat_natCast]
  show ((getN m n 1 : Nat) : Int) = 1 ↔ _
  omega
theorem narrow_eq (x n : Nat) : ((x : Int) == getI (x : Int) 0 (n : Int)) = decide (x < 2 ^ n) := by
  rw [Bool.eq_iff_iff, beq_iff_eq, decide_eq_true_iff]
  unfold getI getN
  rw [Int.toNat_natCast, Int.toNat_natCast]
  show (x : Int) = ((x % 2 ^ n : Nat) : Int) ↔ _
  have hp := Nat.two_pow_pos n
  constructor
  · intro h
    have h1 : x % 2 ^ n = x := by omega
    rw [← h1]; exact Nat.mod_lt _ hp
  · intro h; rw [Nat.mod_eq_of_lt h]
end Go.Proofs.YtlimipjfdecbfaaDoor
