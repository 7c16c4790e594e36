/- Package pte: Leaf, Link, Perm, Make, has, narrow, May. -/
import Derived.Test.YtdifjgppnfcnnaaDoorCsig
import Derived.Test.YtdifjgppnfcnnaaDoorRone
import Derived.Test.YtdifjgppnfcnnaaDoorCfive
import Derived.Test.YtdifjgppnfcnnaaDoorMsix
namespace Go.Proofs.YtdifjgppnfcnnaaDoor
open Go.ChangeShapes Go.WideShapes Go.ChangeAt Go.RowKit
set_option linter.unusedVariables false
set_option linter.unusedSimpArgs false

theorem leaf_c (p : Pt) (w : World) :
    Calls Tryd.prog 15 #[.agg (ptC p)] w fun e w' => e = .returned (.bool (leafB p)) ∧ Ext w w' := by
  have HE := Lib.hid ((Ext.refl w).alloc (.cells (ptC p) 24))
  rw [ptC_eq] at HE ⊢
  have H : Hid (leafB p = (p.v && (p.r || p.x))) := Lib.hid (by unfold leafB; rfl)
  cases hv : p.v <;> cases hr : p.r
  all_goals
    rw [hv, hr] at HE H
    go_enter Tryd.func15, Tryd.ntmps15
    go_wp2
    go_ret
    exact ⟨by rw [H.out]; rfl, HE.out⟩
theorem link_c (p : Pt) (w : World) :
    Calls Tryd.prog 17 #[.agg (ptC p)] w fun e w' => e = .returned (.bool (linkB p)) ∧ Ext w w' := by
  have HE := Lib.hid ((Ext.refl w).alloc (.cells (ptC p) 24))
  rw [ptC_eq] at HE ⊢
  have H : Hid (linkB p = (p.v && !p.r && !p.x)) := Lib.hid (by unfold linkB; rfl)
  cases hv : p.v <;> cases hr : p.r
  all_goals
    rw [hv, hr] at HE H
    go_enter Tryd.func17, Tryd.ntmps17
    go_wp2
    go_ret
    exact ⟨by rw [H.out]; rfl, HE.out⟩
theorem permP_eq (p : Pt) : pmC (permP p) = #[.bool p.r, .bool p.w, .bool p.x, .bool p.u] := by unfold permP; rw [pmC_def]
theorem makeP_eq (f : Nat) (m : Pm) (g : Bool) : ptC (makeP f m g) = #[.bool true, .bool m.r, .bool m.w, .bool m.x, .bool m.u, .bool g, .bool false, .bool false, .int .u64 0, .int .u64 (f : Int), .int .u64 0] := by unfold makeP; rw [ptC_def]; rfl
theorem blk_at {w : World} {g : Nat} {t : TypeId} {cs : Array Value} (h : g = w.heap.size) : Blk (w.alloc (.cells cs t)) g t cs := by subst h; exact Blk.new w t cs
theorem Blk.pt {w : World} {g : Nat} {t : TypeId} {c0 c1 c2 c3 c4 c5 c6 c7 c8 c9 c10 : Value} (h : Blk w g t #[c0, c1, c2, c3, c4, c5, c6, c7, c8, c9, c10]) :
    w.cell? ⟨g, 0, none⟩ = some c0 ∧ w.cell? ⟨g, 1, none⟩ = some c1 ∧ w.cell? ⟨g, 2, none⟩ = some c2 ∧ w.cell? ⟨g, 3, none⟩ = some c3 ∧ w.cell? ⟨g, 4, none⟩ = some c4 ∧ w.cell? ⟨g, 5, none⟩ = some c5 ∧ w.cell? ⟨g, 6, none⟩ = some c6 ∧ w.cell? ⟨g, 7, none⟩ = some c7 ∧ w.cell? ⟨g, 8, none⟩ = some c8 ∧ w.cell? ⟨g, 9, none⟩ = some c9 ∧ w.cell? ⟨g, 10, none⟩ = some c10 :=
  ⟨h.cell 0, h.cell 1, h.cell 2, h.cell 3, h.cell 4, h.cell 5, h.cell 6, h.cell 7, h.cell 8, h.cell 9, h.cell 10⟩
theorem perm_c (p : Pt) (w : World) :
    Calls Tryd.prog 23 #[.agg (ptC p)] w fun e w' => e = .returned (.agg (pmC (permP p))) ∧ Ext w w' := by
  rw [ptC_eq, permP_eq]
  go_enter Tryd.func23, Tryd.ntmps23
  go_wp2
  (try simp only [Exit.inBlock, Exit.then]); refine bodyPost_ret (results_cell_row rfl _ _ _ _ _ _ _ rfl ((blk_at (by simp))) Tryd.underlying34 rfl (by kernel_rfl)) rfl ?_
  exact ⟨rfl, ((Ext.refl w).alloc _).alloc _⟩
theorem make_c (f : Nat) (m : Pm) (g : Bool) (w : World) :
    Calls Tryd.prog 21 #[.int .u64 (f : Int), .agg (pmC m), .bool g] w fun e w' => e = .returned (.agg (ptC (makeP f m g))) ∧ Ext w w' := by
  rw [pmC_eq, makeP_eq]
  go_enter Tryd.func21, Tryd.ntmps21
  go_wp2
  (try simp only [Exit.inBlock, Exit.then]); refine bodyPost_ret (results_cell_row rfl _ _ _ _ _ _ _ rfl ((blk_at (by simp))) Tryd.underlying24 rfl (by kernel_rfl)) rfl ?_
  exact ⟨rfl, ((Ext.refl w).alloc _).alloc _⟩
theorem bit_eq {x i : Int} (x0 : 0 ≤ x) (i0 : 0 ≤ i) (i1 : i < 64) : (getI x i 1 == 1) = bitB x i := by
  obtain ⟨n, rfl⟩ := Int.eq_ofNat_of_zero_le i0
  obtain ⟨m, rfl⟩ := Int.eq_ofNat_of_zero_le x0
  rw [bitB_in (by omega) (by omega), Bool.eq_iff_iff, beq_iff_eq, Int.toNat_natCast, Int.toNat_natCast, ← tb_one]
  unfold getI
  rw [Int.toNat_natCast, Int.toNat_natCast]
  show ((getN m n 1 : Nat) : Int) = 1 ↔ _
  omega
theorem has_c (x i : Int) (x0 : 0 ≤ x) (x1 : x < 18446744073709551616) (i0 : 0 ≤ i) (i1 : i < 64) (w : World) :
    Calls Tryd.prog 28 #[.int .u64 x, .int .i64 i] w fun e w' => e = .returned (.bool (bitB x i)) ∧ w = w' := by
  have H := Lib.hid (bit_eq x0 i0 i1)
  go_enter Tryd.func28, Tryd.ntmps28
  go_wp2_with (go_at_call 29; refine (get_c _ _ _ (by first | omega | exact getI_ge _ _ _ | exact setI_ge _ _ _ _ | exact signI_ge _ _) (by first | omega | exact getI_lt _ _ (by first | omega | exact getI_ge _ _ _ | exact setI_ge _ _ _ _ | exact signI_ge _ _) (by omega) | exact setI_lt _ _ _ (by first | omega | exact getI_ge _ _ _ | exact setI_ge _ _ _ _ | exact signI_ge _ _) (by omega) | exact signI_lt (by first | omega | exact getI_ge _ _ _ | exact setI_ge _ _ _ _ | exact signI_ge _ _) (by omega) (by omega) (by omega)) (by omega) (by omega) (by omega) (by omega) _).mono ?_; rintro e w' ⟨rfl, rfl⟩)
  go_ret
  exact ⟨by rw [← H.out]; rfl, rfl⟩
theorem narrow_c (x n : Int) (x0 : 0 ≤ x) (x1 : x < 18446744073709551616) (n0 : 0 ≤ n) (n1 : n ≤ 64) (w : World) :
    Calls Tryd.prog 27 #[.int .u64 x, .int .i64 n] w fun e w' => e = .returned (.bool (x == getI x 0 n)) ∧ w = w' := by
  go_enter Tryd.func27, Tryd.ntmps27
  go_wp2_with (go_at_call 29; refine (get_c _ _ _ (by first | omega | exact getI_ge _ _ _ | exact setI_ge _ _ _ _ | exact signI_ge _ _) (by first | omega | exact getI_lt _ _ (by first | omega | exact getI_ge _ _ _ | exact setI_ge _ _ _ _ | exact signI_ge _ _) (by omega) | exact setI_lt _ _ _ (by first | omega | exact getI_ge _ _ _ | exact setI_ge _ _ _ _ | exact signI_ge _ _) (by omega) | exact signI_lt (by first | omega | exact getI_ge _ _ _ | exact setI_ge _ _ _ _ | exact signI_ge _ _) (by omega) (by omega) (by omega)) (by omega) (by omega) (by omega) (by omega) _).mono ?_; rintro e w' ⟨rfl, rfl⟩)
  go_ret
  exact ⟨rfl, rfl⟩
theorem narrow_eq (x n : Nat) : ((x : Int) == getI (x : Int) 0 (n : Int)) = decide (x < 2 ^ n) := by
  rw [Bool.eq_iff_iff, beq_iff_eq, decide_eq_true_iff]
  unfold getI getN
  rw [Int.toNat_natCast, Int.toNat_natCast]
  show (x : Int) = ((x % 2 ^ n : Nat) : Int) ↔ _
  have hp := Nat.two_pow_pos n
  constructor
  · intro h
    have h1 : x % 2 ^ n = x := by omega
    rw [← h1]; exact Nat.mod_lt _ hp
  · intro h; rw [Nat.mod_eq_of_lt h]
theorem may_c (p : Pt) (hp : p.ok) (w : World) :
    Calls Tryd.prog 10 #[.agg (ptC p)] w fun e w' => e = .returned (.bool (mayB p)) ∧ Ext w w' := by
  obtain ⟨h0, h1, h2⟩ := hp
  have HE := Lib.hid ((Ext.refl w).alloc (.cells (ptC p) 24))
  rw [ptC_eq] at HE ⊢
  have H : Hid (mayB p = (decide (p.rs < 4) && decide (p.pp < 17592186044416) && decide (p.hi < 1024))) := Lib.hid (by unfold mayB; rfl)
  have e0 : ((p.rs : Int) == getI (p.rs : Int) 0 2) = decide (p.rs < 4) := narrow_eq p.rs 2
  have e1 : ((p.pp : Int) == getI (p.pp : Int) 0 44) = decide (p.pp < 17592186044416) := narrow_eq p.pp 44
  have e2 : ((p.hi : Int) == getI (p.hi : Int) 0 10) = decide (p.hi < 1024) := narrow_eq p.hi 10
  cases h3 : decide (p.rs < 4) <;> cases h4 : decide (p.pp < 17592186044416) <;> cases h5 : decide (p.hi < 1024)
  all_goals
    rw [h3] at H e0
    rw [h4] at H e1
    rw [h5] at H e2
    clear h3 h4 h5
    go_enter Tryd.func10, Tryd.ntmps10
    go_wp2_with (go_at_call 27; refine (narrow_c _ _ (by omega) (by omega) (by omega) (by omega) _).mono ?_; rintro e w' ⟨rfl, rfl⟩)
    go_ret
    exact ⟨by rw [H.out]; rfl, HE.out⟩
end Go.Proofs.YtdifjgppnfcnnaaDoor
