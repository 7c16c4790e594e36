/- The document's answers for layer 6 (package atlasref06): the same entries and numbers. -/
import Derived.Test.YticbjiddbjgikaaDoorGpte
namespace Go.Proofs.YticbjiddbjgikaaDoor
open Go.ChangeShapes Go.WideShapes Go.ChangeAt Go.RowKit
set_option linter.unusedVariables false
set_option linter.unusedSimpArgs false

theorem rmake_c (f : Nat) (m : Pm) (g : Bool) (w : World) :
    Calls Tryd.prog 24 #[.int .u64 (f : Int), .agg (pmC m), .bool g] w fun e w' => e = .returned (.agg (ptC (makeP f m g))) ∧ Ext w w' := by
  rw [pmC_eq, makeP_eq]
  go_enter Tryd.func24, Tryd.ntmps24
  go_wp2
  (try simp only [Exit.inBlock, Exit.then]); refine bodyPost_ret (results_cell_row rfl _ _ _ _ _ _ _ rfl ((blk_at (by simp))) Tryd.underlying32 rfl (by kernel_rfl)) rfl ?_
  exact ⟨rfl, ((Ext.refl w).alloc _).alloc _⟩
theorem rperm_c (p : Pt) (w : World) :
    Calls Tryd.prog 48 #[.agg (ptC p)] w fun e w' => e = .returned (.agg (pmC (permP p))) ∧ Ext w w' := by
  rw [ptC_eq, permP_eq]
  go_enter Tryd.func48, Tryd.ntmps48
  go_wp2
  refine bodyPost_ret (results_cell_row rfl _ _ _ _ _ _ _ rfl ((blk_at (by simp))) Tryd.underlying58 rfl (by kernel_rfl)) rfl ?_
  exact ⟨rfl, ((Ext.refl w).alloc _).alloc _⟩
theorem rleaf_c (p : Pt) (w : World) :
    Calls Tryd.prog 16 #[.agg (ptC p)] w fun e w' => e = .returned (.bool (leafB p)) ∧ Ext w w' := by
  have HE := Lib.hid ((Ext.refl w).alloc (.cells (ptC p) 32))
  rw [ptC_eq] at HE ⊢
  have H : Hid (leafB p = (p.v && (p.r || p.x))) := Lib.hid (by unfold leafB; rfl)
  cases hv : p.v <;> cases hr : p.r
  all_goals
    rw [hv, hr] at HE H
    go_enter Tryd.func16, Tryd.ntmps16
    go_wp2
    go_ret
    exact ⟨by rw [H.out]; rfl, HE.out⟩
theorem link_leaf (p : Pt) : linkB p = (p.v && !leafB p) := by
  unfold linkB leafB; cases p.v <;> cases p.r <;> cases p.x <;> rfl
theorem rlink_c (p : Pt) (w : World) :
    Calls Tryd.prog 41 #[.agg (ptC p)] w fun e w' => e = .returned (.bool (linkB p)) ∧ Ext w w' := by
  have HE := Lib.hid ((Ext.refl w).alloc (.cells (ptC p) 32))
  have hleaf := rleaf_c p
  rw [ptC_eq] at HE hleaf ⊢
  have H := Lib.hid (link_leaf p)
  cases hv : p.v
  · rw [hv] at HE H
    clear hleaf
    go_enter Tryd.func41, Tryd.ntmps41
    go_wp2
    go_ret
    exact ⟨by rw [H.out]; rfl, HE.out⟩
  · rw [hv] at HE H hleaf
    go_enter Tryd.func41, Tryd.ntmps41
    go_wp2_with fail; refine (hleaf _).mono ?_; rintro e w1 ⟨rfl, hE⟩; replace HE := Lib.hid (HE.out.trans hE)
    clear hE hleaf
    go_wp2
    go_ret
    exact ⟨by rw [H.out]; rfl, HE.out⟩
theorem getP_eq2 {x : Nat} (hx : x < 18446744073709551616) : ptC (getP x) = #[.bool (bitB x 0), .bool (bitB x 1), .bool (bitB x 2), .bool (bitB x 3), .bool (bitB x 4), .bool (bitB x 5), .bool (bitB x 6), .bool (bitB x 7), .int .u64 ((x : Int) / 256 % 4), .int .u64 ((x : Int) / 1024 % 17592186044416), .int .u64 ((x : Int) / 18014398509481984)] := by
  rw [getP_eq hx]
  have g0 : getI (x : Int) 8 2 = ((x / 256 % 4 : Nat) : Int) := (getI_nat x 8 2).trans (by rw [get8])
  have g1 : getI (x : Int) 10 44 = ((x / 1024 % 17592186044416 : Nat) : Int) := (getI_nat x 10 44).trans (by rw [get10])
  have g2 : getI (x : Int) 54 10 = ((x / 18014398509481984 : Nat) : Int) := (getI_nat x 54 10).trans (by rw [get54 hx])
  rw [g0, g1, g2]
  rfl
theorem rget_pte (x : Nat) (hx : x < 18446744073709551616) (w : World) :
    Calls Tryd.prog 63 #[.int .u64 (x : Int)] w fun e w' => e = .returned (.agg (ptC (getP x))) ∧ Ext w w' := by
  rw [getP_eq2 hx]
  go_enter Tryd.func63, Tryd.ntmps63
  go_wp2_with (go_at_call 73; refine (bit_c _ _ (by omega) (by omega) _).mono ?_; rintro e w' ⟨rfl, rfl⟩)
  refine bodyPost_ret (results_cell_row rfl _ _ _ _ _ _ _ rfl ((blk_at (by simp))) Tryd.underlying32 rfl (by kernel_rfl)) rfl ?_
  exact ⟨rfl, (Ext.refl w).alloc _⟩
end Go.Proofs.YticbjiddbjgikaaDoor
/- The document's answers for layer 6: Put, Bad. -/
namespace Go.Proofs.YticbjiddbjgikaaDoor
open Go.ChangeShapes Go.WideShapes Go.ChangeAt Go.RowKit
set_option linter.unusedVariables false
set_option linter.unusedSimpArgs false

def rowC (f : Nat → Bool) : Array Value := #[.bool (f 0), .bool (f 1), .bool (f 2), .bool (f 3), .bool (f 4), .bool (f 5), .bool (f 6), .bool (f 7)]
theorem rowC_at (f : Nat → Bool) {k : Nat} (h : k < 8) : (rowC f)[k]? = some (.bool (f k)) := by
  match k, h with
  | 0, _ | 1, _ | 2, _ | 3, _ | 4, _ | 5, _ | 6, _ | 7, _ => rfl
theorem rput_c (p : Pt) (hm : mayB p = true) (w : World) :
    Calls Tryd.prog 38 #[.agg (ptC p)] w fun e w' => e = .returned (.int .u64 ((putN p : Nat) : Int)) ∧ Ext w w' := by
  obtain ⟨m0, m1, m2⟩ := (may_iff p).1 hm
  have HP : Hid (putN p = bsum (ptB p) 8 + 256 * p.rs + 1024 * p.pp + 18014398509481984 * p.hi) := Lib.hid (by unfold putN; rfl)
  have hrow : ∀ w : World, Blk (w.alloc (.cells #[.bool p.v, .bool p.r, .bool p.w, .bool p.x, .bool p.u, .bool p.g, .bool p.a, .bool p.d] 4)) w.heap.size 4 (rowC (ptB p)) := fun w => Blk.new w _ _
  generalize ptB p = f at HP hrow
  rw [ptC_eq]
  go_enter Tryd.func38, Tryd.ntmps38
  go_wp2
  have hB := hrow (w.alloc (.cells #[.bool p.v, .bool p.r, .bool p.w, .bool p.x, .bool p.u, .bool p.g, .bool p.a, .bool p.d, .int .u64 (p.rs : Int), .int .u64 (p.pp : Int), .int .u64 (p.hi : Int)] 32))
  rw [World.size_alloc] at hB
  have HE := Lib.hid (((Ext.refl w).alloc (.cells #[.bool p.v, .bool p.r, .bool p.w, .bool p.x, .bool p.u, .bool p.g, .bool p.a, .bool p.d, .int .u64 (p.rs : Int), .int .u64 (p.pp : Int), .int .u64 (p.hi : Int)] 32)).alloc (.cells #[.bool p.v, .bool p.r, .bool p.w, .bool p.x, .bool p.u, .bool p.g, .bool p.a, .bool p.d] 4))
  generalize (w.alloc (.cells #[.bool p.v, .bool p.r, .bool p.w, .bool p.x, .bool p.u, .bool p.g, .bool p.a, .bool p.d, .int .u64 (p.rs : Int), .int .u64 (p.pp : Int), .int .u64 (p.hi : Int)] 32)).alloc (.cells #[.bool p.v, .bool p.r, .bool p.w, .bool p.x, .bool p.u, .bool p.g, .bool p.a, .bool p.d] 4) = W at hB HE ⊢
  obtain ⟨B, eB⟩ : ∃ B : Nat, B = 256 * p.rs + 1024 * p.pp + 18014398509481984 * p.hi := ⟨_, rfl⟩
  have hBl : B + 256 ≤ 18446744073709551616 := by omega
  have HB := Lib.hid eB
  have HM : Hid (p.rs < 4 ∧ p.pp < 17592186044416 ∧ p.hi < 1024) := Lib.hid ⟨m0, m1, m2⟩
  clear hrow m0 m1 m2
  go_loop [3, 5, 6] (fun a b c => ∃ k : Nat, k ≤ 8 ∧ c = .int .i64 k ∧ b = .int .u64 ((2 ^ k : Nat) : Int) ∧ a = .int .u64 ((B + bsum f k : Nat) : Int)) (fun _ _ c => 8 - (intOf c).toNat)
  case atStart => exact ⟨0, by omega, rfl, rfl, congrArg (Value.int .u64) (by rw [eB, bsum_zero]; omega)⟩
  case round =>
    obtain ⟨k, hk, rfl, rfl, rfl⟩ := hrel
    clear eB
    by_cases hlt : k < 8
    · have hc := (hB.cell k).trans (rowC_at f hlt)
      have hS := bsum_lt f k
      have hn : 2 ^ k ≤ 2 ^ 7 := Nat.pow_le_pow_right (by decide) (by omega)
      have H1 : Hid (B + bsum f (k + 1) = B + bsum f k + 2 ^ k * (f k).toNat) := Lib.hid (by rw [bsum_succ]; omega)
      have H2 : Hid (2 ^ (k + 1) = 2 * 2 ^ k) := Lib.hid (by rw [Nat.pow_succ]; omega)
      have hz : B + bsum f k + 2 ^ k < 18446744073709551616 := by omega
      clear hBl hS hB
      generalize bsum f k = S at H1 hz ⊢
      generalize 2 ^ k = n at H1 H2 hn hz ⊢
      generalize B + S = z at H1 hz ⊢
      have hn2 : n ≤ 128 := hn
      clear hn
      have hd : decide ((k : Int) < 8) = true := by simp; omega
      cases hb : f k
      all_goals
        rw [hb] at hc H1
        clear hb
        go_wp2
        go_round
        case rel => exact ⟨k + 1, by omega, by go_num, congrArg (Value.int .u64) (by rw [H2.out]; omega), congrArg (Value.int .u64) (by rw [H1.out]; simp)⟩
        case measure => simp [intOf]; omega
    · obtain rfl : k = 8 := by omega
      clear hB
      go_wp2
      go_ret
      exact ⟨congrArg (fun i => Ending.returned (.int .u64 i)) (by rw [HP.out, HB.out]; omega), HE.out⟩

theorem lv0 (p : Nat) : (!decide (p % manyN 0 = 0)) = false := by rw [show manyN 0 = 1 from rfl, Nat.mod_one]; rfl
theorem lv1 (p : Nat) : (!decide (p % manyN 1 = 0)) = decide ((0 : Int) < (p : Int) % 512) := by
  rw [show manyN 1 = 512 from rfl, Bool.eq_iff_iff, Bool.not_eq_true', decide_eq_false_iff_not, decide_eq_true_iff]; omega
theorem lv2 (p : Nat) : (!decide (p % manyN 2 = 0)) = decide ((0 : Int) < (p : Int) % 262144) := by
  rw [show manyN 2 = 262144 from rfl, Bool.eq_iff_iff, Bool.not_eq_true', decide_eq_false_iff_not, decide_eq_true_iff]; omega
theorem bad_eq' (p : Pt) (l : Int) : badB p l = ((!p.v) || (p.w && !p.r) || !decide (p.hi = 0) || (if p.r || p.x then !decide (p.pp % manyN l = 0) else (l == 0) || p.a || p.d || p.u)) := by unfold badB; rfl
set_option maxRecDepth 100000 in
set_option maxHeartbeats 2000000 in
theorem rbad_c (p : Pt) (l : Int) (l0 : 0 ≤ l) (l2 : l ≤ 2) (w : World) :
    Calls Tryd.prog 45 #[.agg (ptC p), .int .i64 l] w fun e w' => e = .returned (.bool (badB p l)) ∧ Ext w w' := by
  have HE := Lib.hid ((Ext.refl w).alloc (.cells (ptC p) 32))
  have H := Lib.hid (bad_eq' p l)
  rw [ptC_eq] at HE ⊢
  cases hv : p.v
  case false =>
    rw [hv] at HE H
    go_enter Tryd.func45, Tryd.ntmps45
    go_wp2
    go_ret
    exact ⟨by rw [H.out]; rfl, HE.out⟩
  cases hw : p.w <;> cases hr : p.r <;> cases hh : decide (0 < p.hi)
  all_goals
    have hh2 : (!decide (p.hi = 0)) = decide (0 < p.hi) := by rw [Bool.eq_iff_iff]; simp; omega
    rw [hh2, hh] at H
    clear hh2
    rw [hv, hw, hr] at HE H
    try
      go_enter Tryd.func45, Tryd.ntmps45
      go_wp2
      go_ret
      exact ⟨by rw [H.out]; rfl, HE.out⟩
      done
  · cases hx : p.x
    · rw [hx] at HE H
      cases h0 : (l == 0) <;> cases ha : p.a <;> cases hd : p.d
      all_goals
        rw [h0, ha, hd] at H
        rw [ha, hd] at HE
        go_enter Tryd.func45, Tryd.ntmps45
        go_wp2
        go_ret
        exact ⟨by rw [H.out]; rfl, HE.out⟩
    · rw [hx] at HE H
      rcases level_lt l0 l2 with rfl | rfl | rfl
      all_goals
        go_enter Tryd.func45, Tryd.ntmps45
        go_wp2
        go_ret
        exact ⟨congrArg (fun b => Ending.returned (.bool b)) (H.out.trans (by (first | rw [lv0] | rw [lv1] | rw [lv2]); rfl)).symm, HE.out⟩
  all_goals
    rcases level_lt l0 l2 with rfl | rfl | rfl
    all_goals
      go_enter Tryd.func45, Tryd.ntmps45
      go_wp2
      go_ret
      exact ⟨congrArg (fun b => Ending.returned (.bool b)) (H.out.trans (by (first | rw [lv0] | rw [lv1] | rw [lv2]); rfl)).symm, HE.out⟩
end Go.Proofs.YticbjiddbjgikaaDoor
