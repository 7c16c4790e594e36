/- The document's answers for layer 6: Put, Bad. -/
import Derived.Test.YtdifjgppnfcnnaaDoorCpte
namespace Go.Proofs.YtdifjgppnfcnnaaDoor
open Go.ChangeShapes Go.WideShapes Go.ChangeAt Go.RowKit
set_option linter.unusedVariables false
set_option linter.unusedSimpArgs false

def rowC (f : Nat → Bool) : Array Value := #[.bool (f 0), .bool (f 1), .bool (f 2), .bool (f 3), .bool (f 4), .bool (f 5), .bool (f 6), .bool (f 7)]
theorem rowC_at (f : Nat → Bool) {k : Nat} (h : k < 8) : (rowC f)[k]? = some (.bool (f k)) := by
  match k, h with
  | 0, _ | 1, _ | 2, _ | 3, _ | 4, _ | 5, _ | 6, _ | 7, _ => rfl
theorem rput_c (p : Pt) (hm : mayB p = true) (w : World) :
    Calls Tryd.prog 14 #[.agg (ptC p)] w fun e w' => e = .returned (.int .u64 ((putN p : Nat) : Int)) ∧ Ext w w' := by
  obtain ⟨m0, m1, m2⟩ := (may_iff p).1 hm
  have HP : Hid (putN p = bsum (ptB p) 8 + 256 * p.rs + 1024 * p.pp + 18014398509481984 * p.hi) := Lib.hid (by unfold putN; rfl)
  have hrow : ∀ w : World, Blk (w.alloc (.cells #[.bool p.v, .bool p.r, .bool p.w, .bool p.x, .bool p.u, .bool p.g, .bool p.a, .bool p.d] 4)) w.heap.size 4 (rowC (ptB p)) := fun w => Blk.new w _ _
  generalize ptB p = f at HP hrow
  rw [ptC_eq]
  go_enter Tryd.func14, Tryd.ntmps14
  go_wp2
  have hB := hrow (w.alloc (.cells #[.bool p.v, .bool p.r, .bool p.w, .bool p.x, .bool p.u, .bool p.g, .bool p.a, .bool p.d, .int .u64 (p.rs : Int), .int .u64 (p.pp : Int), .int .u64 (p.hi : Int)] 24))
  rw [World.size_alloc] at hB
  have HE := Lib.hid (((Ext.refl w).alloc (.cells #[.bool p.v, .bool p.r, .bool p.w, .bool p.x, .bool p.u, .bool p.g, .bool p.a, .bool p.d, .int .u64 (p.rs : Int), .int .u64 (p.pp : Int), .int .u64 (p.hi : Int)] 24)).alloc (.cells #[.bool p.v, .bool p.r, .bool p.w, .bool p.x, .bool p.u, .bool p.g, .bool p.a, .bool p.d] 4))
  generalize (w.alloc (.cells #[.bool p.v, .bool p.r, .bool p.w, .bool p.x, .bool p.u, .bool p.g, .bool p.a, .bool p.d, .int .u64 (p.rs : Int), .int .u64 (p.pp : Int), .int .u64 (p.hi : Int)] 24)).alloc (.cells #[.bool p.v, .bool p.r, .bool p.w, .bool p.x, .bool p.u, .bool p.g, .bool p.a, .bool p.d] 4) = W at hB HE ⊢
  obtain ⟨B, eB⟩ : ∃ B : Nat, B = 256 * p.rs + 1024 * p.pp + 18014398509481984 * p.hi := ⟨_, rfl⟩
  have hBl : B + 256 ≤ 18446744073709551616 := by omega
  have HB := Lib.hid eB
  have HM : Hid (p.rs < 4 ∧ p.pp < 17592186044416 ∧ p.hi < 1024) := Lib.hid ⟨m0, m1, m2⟩
  clear hrow m0 m1 m2
  go_loop [3, 5, 6] (fun a b c => ∃ k : Nat, k ≤ 8 ∧ c = .int .i64 k ∧ b = .int .u64 ((2 ^ k : Nat) : Int) ∧ a = .int .u64 ((B + bsum f k : Nat) : Int)) (fun _ _ c => 8 - (intOf c).toNat)
  case atStart => exact ⟨0, by omega, rfl, rfl, congrArg (Value.int .u64) (by rw [eB, bsum_zero]; omega)⟩
  case round =>
    obtain ⟨k, hk, rfl, rfl, rfl⟩ := hrel
    clear eB
    by_cases hlt : k < 8
    · have hc := (hB.cell k).trans (rowC_at f hlt)
      have hS := bsum_lt f k
      have hn : 2 ^ k ≤ 2 ^ 7 := Nat.pow_le_pow_right (by decide) (by omega)
      have H1 : Hid (B + bsum f (k + 1) = B + bsum f k + 2 ^ k * (f k).toNat) := Lib.hid (by rw [bsum_succ]; omega)
      have H2 : Hid (2 ^ (k + 1) = 2 * 2 ^ k) := Lib.hid (by rw [Nat.pow_succ]; omega)
      have hz : B + bsum f k + 2 ^ k < 18446744073709551616 := by omega
      clear hBl hS hB
      generalize bsum f k = S at H1 hz ⊢
      generalize 2 ^ k = n at H1 H2 hn hz ⊢
      generalize B + S = z at H1 hz ⊢
      have hn2 : n ≤ 128 := hn
      clear hn
      have hd : decide ((k : Int) < 8) = true := by simp; omega
      cases hb : f k
      all_goals
        rw [hb] at hc H1
        clear hb
        go_wp2
        go_round
        case rel => exact ⟨k + 1, by omega, by go_num, congrArg (Value.int .u64) (by rw [H2.out]; omega), congrArg (Value.int .u64) (by rw [H1.out]; simp)⟩
        case measure => simp [intOf]; omega
    · obtain rfl : k = 8 := by omega
      clear hB
      go_wp2
      go_ret
      exact ⟨congrArg (fun i => Ending.returned (.int .u64 i)) (by rw [HP.out, HB.out]; omega), HE.out⟩

theorem lv0 (p : Nat) : (!decide (p % manyN 0 = 0)) = false := by rw [show manyN 0 = 1 from rfl, Nat.mod_one]; rfl
theorem lv1 (p : Nat) : (!decide (p % manyN 1 = 0)) = decide ((0 : Int) < (p : Int) % 512) := by
  rw [show manyN 1 = 512 from rfl, Bool.eq_iff_iff, Bool.not_eq_true', decide_eq_false_iff_not, decide_eq_true_iff]; omega
theorem lv2 (p : Nat) : (!decide (p % manyN 2 = 0)) = decide ((0 : Int) < (p : Int) % 262144) := by
  rw [show manyN 2 = 262144 from rfl, Bool.eq_iff_iff, Bool.not_eq_true', decide_eq_false_iff_not, decide_eq_true_iff]; omega
theorem bad_eq' (p : Pt) (l : Int) : badB p l = ((!p.v) || (p.w && !p.r) || !decide (p.hi = 0) || (if p.r || p.x then !decide (p.pp % manyN l = 0) else (l == 0) || p.a || p.d || p.u)) := by unfold badB; rfl
set_option maxRecDepth 100000 in
set_option maxHeartbeats 2000000 in
theorem rbad_c (p : Pt) (l : Int) (l0 : 0 ≤ l) (l2 : l ≤ 2) (w : World) :
    Calls Tryd.prog 20 #[.agg (ptC p), .int .i64 l] w fun e w' => e = .returned (.bool (badB p l)) ∧ Ext w w' := by
  have HE := Lib.hid ((Ext.refl w).alloc (.cells (ptC p) 24))
  have H := Lib.hid (bad_eq' p l)
  rw [ptC_eq] at HE ⊢
  cases hv : p.v
  case false =>
    rw [hv] at HE H
    go_enter Tryd.func20, Tryd.ntmps20
    go_wp2
    go_ret
    exact ⟨by rw [H.out]; rfl, HE.out⟩
  cases hw : p.w <;> cases hr : p.r <;> cases hh : decide (0 < p.hi)
  all_goals
    have hh2 : (!decide (p.hi = 0)) = decide (0 < p.hi) := by rw [Bool.eq_iff_iff]; simp; omega
    rw [hh2, hh] at H
    clear hh2
    rw [hv, hw, hr] at HE H
    try
      go_enter Tryd.func20, Tryd.ntmps20
      go_wp2
      go_ret
      exact ⟨by rw [H.out]; rfl, HE.out⟩
      done
  · cases hx : p.x
    · rw [hx] at HE H
      cases h0 : (l == 0) <;> cases ha : p.a <;> cases hd : p.d
      all_goals
        rw [h0, ha, hd] at H
        rw [ha, hd] at HE
        go_enter Tryd.func20, Tryd.ntmps20
        go_wp2
        go_ret
        exact ⟨by rw [H.out]; rfl, HE.out⟩
    · rw [hx] at HE H
      rcases level_lt l0 l2 with rfl | rfl | rfl
      all_goals
        go_enter Tryd.func20, Tryd.ntmps20
        go_wp2
        go_ret
        exact ⟨congrArg (fun b => Ending.returned (.bool b)) (H.out.trans (by (first | rw [lv0] | rw [lv1] | rw [lv2]); rfl)).symm, HE.out⟩
  all_goals
    rcases level_lt l0 l2 with rfl | rfl | rfl
    all_goals
      go_enter Tryd.func20, Tryd.ntmps20
      go_wp2
      go_ret
      exact ⟨congrArg (fun b => Ending.returned (.bool b)) (H.out.trans (by (first | rw [lv0] | rw [lv1] | rw [lv2]); rfl)).symm, HE.out⟩
end Go.Proofs.YtdifjgppnfcnnaaDoor
