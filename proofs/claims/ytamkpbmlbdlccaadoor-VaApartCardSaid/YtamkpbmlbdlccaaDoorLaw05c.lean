/- Layer 5: canonical addresses of one page number are of one page; of unlike ones they aren't, and their greater pages are the same just if the higher indexes are. -/
import Derived.Test.YtamkpbmlbdlccaaDoorLaw05b
namespace Go.Proofs.YtamkpbmlbdlccaaDoor
open Go.ChangeShapes Go.WideShapes Go.ChangeAt Go.RowKit
set_option linter.unusedVariables false
set_option linter.unusedSimpArgs false

/-- are n indexes from the level l on the same? -/
def sameN (a b l : Int) : Nat → Bool
  | 0 => true
  | n + 1 => sameN a b l n && (idxI a (l + n) == idxI b (l + n))
theorem sameN_0 (a b l : Int) : sameN a b l 0 = true := rfl
theorem sameN_s (a b l : Int) (n : Nat) : sameN a b l (n + 1) = (sameN a b l n && (idxI a (l + n) == idxI b (l + n))) := rfl

/-- the page numbers, cut: canonical addresses, of the same indexes from the level 2, 1, 0 on -/
theorem cut2 {p q : Int} (hp : p < 256 ∨ 17179868928 ≤ p) (hq : q < 256 ∨ 17179868928 ≤ q) (p0 : 0 ≤ p) (q0 : 0 ≤ q) (p1 : p < 17179869184) (q1 : q < 17179869184) : p % 512 = q % 512 ↔ p = q := by omega
theorem cut1 {p q : Int} (p0 : 0 ≤ p) (q0 : 0 ≤ q) : p = q ↔ p / 512 = q / 512 ∧ p % 512 = q % 512 := by omega
theorem top {a : Int} (a0 : 0 ≤ a) (a1 : a < 18446744073709551616) (h : vaB a = true) : (a / 1073741824 < 256 ∨ 17179868928 ≤ a / 1073741824) ∧ 0 ≤ a / 1073741824 ∧ a / 1073741824 < 17179869184 := by
  rw [vaB_iff] at h; omega
theorem same2 {a b : Int} (a0 : 0 ≤ a) (a1 : a < 18446744073709551616) (b0 : 0 ≤ b) (b1 : b < 18446744073709551616) (ha : vaB a = true) (hb : vaB b = true) :
    idxI a 2 = idxI b 2 ↔ a / 1073741824 = b / 1073741824 := by
  obtain ⟨h1, h2, h3⟩ := top a0 a1 ha
  obtain ⟨h4, h5, h6⟩ := top b0 b1 hb
  rw [(idx_ar a).2.2, (idx_ar b).2.2]
  exact cut2 h1 h4 h2 h5 h3 h6
theorem same1 {a b : Int} (a0 : 0 ≤ a) (a1 : a < 18446744073709551616) (b0 : 0 ≤ b) (b1 : b < 18446744073709551616) (ha : vaB a = true) (hb : vaB b = true) :
    (idxI a 1 = idxI b 1 ∧ idxI a 2 = idxI b 2) ↔ a / 2097152 = b / 2097152 := by
  rw [same2 a0 a1 b0 b1 ha hb, (idx_ar a).2.1, (idx_ar b).2.1]
  have h := cut1 (p := a / 2097152) (q := b / 2097152) (by omega) (by omega)
  rw [h, show a / 2097152 / 512 = a / 1073741824 by omega, show b / 2097152 / 512 = b / 1073741824 by omega]
  exact And.comm
theorem same0 {a b : Int} (a0 : 0 ≤ a) (a1 : a < 18446744073709551616) (b0 : 0 ≤ b) (b1 : b < 18446744073709551616) (ha : vaB a = true) (hb : vaB b = true) :
    (idxI a 0 = idxI b 0 ∧ idxI a 1 = idxI b 1 ∧ idxI a 2 = idxI b 2) ↔ a / 4096 = b / 4096 := by
  rw [same1 a0 a1 b0 b1 ha hb, (idx_ar a).1, (idx_ar b).1]
  have h := cut1 (p := a / 4096) (q := b / 4096) (by omega) (by omega)
  rw [h, show a / 4096 / 512 = a / 2097152 by omega, show b / 4096 / 512 = b / 2097152 by omega]
  exact And.comm
theorem bas_same (a b s : Int) (hs : 0 < s) : a / s * s = b / s * s ↔ a / s = b / s :=
  ⟨fun h => Int.eq_of_mul_eq_mul_right (by omega) h, fun h => by rw [h]⟩
theorem apart_same {a b l : Int} {n : Nat} (a0 : 0 ≤ a) (a1 : a < 18446744073709551616) (b0 : 0 ≤ b) (b1 : b < 18446744073709551616) (ha : vaB a = true) (hb : vaB b = true) (l0 : 0 ≤ l) (l2 : l ≤ 2) (hn : l + n = 3) :
    sameN a b l n = (basI a l == basI b l) := by
  rcases level_lt l0 l2 with rfl | rfl | rfl
  · obtain rfl : n = 3 := by omega
    rw [Bool.eq_iff_iff, beq_iff_eq, (bas_r a).1, (bas_r b).1, bas_same a b 4096 (by decide), ← same0 a0 a1 b0 b1 ha hb]
    simp [sameN, and_assoc]
  · obtain rfl : n = 2 := by omega
    rw [Bool.eq_iff_iff, beq_iff_eq, (bas_r a).2.1, (bas_r b).2.1, bas_same a b 2097152 (by decide), ← same1 a0 a1 b0 b1 ha hb]
    simp [sameN]
  · obtain rfl : n = 1 := by omega
    rw [Bool.eq_iff_iff, beq_iff_eq, (bas_r a).2.2, (bas_r b).2.2, bas_same a b 1073741824 (by decide), ← same2 a0 a1 b0 b1 ha hb]
    simp [sameN]
theorem num_same {a b : Int} (a0 : 0 ≤ a) (a1 : a < 18446744073709551616) (b0 : 0 ≤ b) (b1 : b < 18446744073709551616) (ha : vaB a = true) (hb : vaB b = true) :
    (numI a == numI b) = (basI a 0 == basI b 0) := by
  rw [Bool.eq_iff_iff, beq_iff_eq, beq_iff_eq, (bas_r a).1, (bas_r b).1, bas_same a b 4096 (by decide), num_r, num_r]
  rw [vaB_iff] at ha hb
  omega
attribute [irreducible] sameN

theorem VaApart_w (a b lv : Int) (a0 : 0 ≤ a) (a1 : a < 18446744073709551616) (b0 : 0 ≤ b) (b1 : b < 18446744073709551616) (v0 : 0 ≤ lv) (w : World) (hT : Siz w) :
    Calls Tryd.prog 5 #[.int .u64 a, .int .u64 b, .int .u8 lv] w fun e w' => e = .returned (.bool true) ∧ w = w' := by
  obtain ⟨l, hl⟩ : ∃ l, lv % 3 = l := ⟨_, rfl⟩
  have l0 : 0 ≤ l := by omega
  have l2 : l ≤ 2 := by omega
  cases ha : vaB a
  · go_enter Tryd.func5, Tryd.ntmps5
    go_wp2_with first | (go_at_call 8; refine (size5_c _ (by omega) (by omega) _ (by assumption)).mono ?_; rintro e w' ⟨rfl, rfl⟩) | (go_at_call 10; refine (is5_c _ (by omega) (by omega) _).mono ?_; rintro e w' ⟨rfl, rfl⟩) | (go_at_call 12; refine (index5_c _ _ (by omega) (by omega) (by omega) (by omega) _).mono ?_; rintro e w' ⟨rfl, rfl⟩) | (go_at_call 14; refine (number5_c _ (by omega) (by omega) _).mono ?_; rintro e w' ⟨rfl, rfl⟩) | (go_at_call 16; refine (of5_c _ (by omega) (by omega) _).mono ?_; rintro e w' ⟨rfl, rfl⟩) | (go_at_call 20; refine (offset5_c _ _ (by omega) (by omega) (by omega) (by omega) _ (by assumption)).mono ?_; rintro e w' ⟨rfl, rfl⟩) | (go_at_call 18; refine (base5_c _ _ (by omega) (by omega) (by omega) (by omega) _ (by assumption)).mono ?_; rintro e w' ⟨rfl, rfl⟩) | (go_at_call 22; refine (fits5_c _ _ (by omega) (by omega) (by omega) (by omega) _ (by assumption)).mono ?_; rintro e w' ⟨rfl, rfl⟩) | (go_at_call 7; refine (awake5_c _ (by assumption)).mono ?_; rintro e w' ⟨rfl, rfl⟩) | (go_at_call 11; refine (ris5_c _ (by omega) (by omega) _).mono ?_; rintro e w' ⟨rfl, rfl⟩)
    go_ret
    exact ⟨rfl, rfl⟩
  · cases hb : vaB b
    · go_enter Tryd.func5, Tryd.ntmps5
      go_wp2_with first | (go_at_call 8; refine (size5_c _ (by omega) (by omega) _ (by assumption)).mono ?_; rintro e w' ⟨rfl, rfl⟩) | (go_at_call 10; refine (is5_c _ (by omega) (by omega) _).mono ?_; rintro e w' ⟨rfl, rfl⟩) | (go_at_call 12; refine (index5_c _ _ (by omega) (by omega) (by omega) (by omega) _).mono ?_; rintro e w' ⟨rfl, rfl⟩) | (go_at_call 14; refine (number5_c _ (by omega) (by omega) _).mono ?_; rintro e w' ⟨rfl, rfl⟩) | (go_at_call 16; refine (of5_c _ (by omega) (by omega) _).mono ?_; rintro e w' ⟨rfl, rfl⟩) | (go_at_call 20; refine (offset5_c _ _ (by omega) (by omega) (by omega) (by omega) _ (by assumption)).mono ?_; rintro e w' ⟨rfl, rfl⟩) | (go_at_call 18; refine (base5_c _ _ (by omega) (by omega) (by omega) (by omega) _ (by assumption)).mono ?_; rintro e w' ⟨rfl, rfl⟩) | (go_at_call 22; refine (fits5_c _ _ (by omega) (by omega) (by omega) (by omega) _ (by assumption)).mono ?_; rintro e w' ⟨rfl, rfl⟩) | (go_at_call 7; refine (awake5_c _ (by assumption)).mono ?_; rintro e w' ⟨rfl, rfl⟩) | (go_at_call 11; refine (ris5_c _ (by omega) (by omega) _).mono ?_; rintro e w' ⟨rfl, rfl⟩)
      go_ret
      exact ⟨rfl, rfl⟩
    · have hS := Lib.hid fun (n : Nat) => apart_same (l := l) (n := n) a0 a1 b0 b1 ha hb l0 l2
      have hM := Lib.hid (num_same a0 a1 b0 b1 ha hb)
      go_enter Tryd.func5, Tryd.ntmps5
      go_wp2_with first | (go_at_call 8; refine (size5_c _ (by omega) (by omega) _ (by assumption)).mono ?_; rintro e w' ⟨rfl, rfl⟩) | (go_at_call 10; refine (is5_c _ (by omega) (by omega) _).mono ?_; rintro e w' ⟨rfl, rfl⟩) | (go_at_call 12; refine (index5_c _ _ (by omega) (by omega) (by omega) (by omega) _).mono ?_; rintro e w' ⟨rfl, rfl⟩) | (go_at_call 14; refine (number5_c _ (by omega) (by omega) _).mono ?_; rintro e w' ⟨rfl, rfl⟩) | (go_at_call 16; refine (of5_c _ (by omega) (by omega) _).mono ?_; rintro e w' ⟨rfl, rfl⟩) | (go_at_call 20; refine (offset5_c _ _ (by omega) (by omega) (by omega) (by omega) _ (by assumption)).mono ?_; rintro e w' ⟨rfl, rfl⟩) | (go_at_call 18; refine (base5_c _ _ (by omega) (by omega) (by omega) (by omega) _ (by assumption)).mono ?_; rintro e w' ⟨rfl, rfl⟩) | (go_at_call 22; refine (fits5_c _ _ (by omega) (by omega) (by omega) (by omega) _ (by assumption)).mono ?_; rintro e w' ⟨rfl, rfl⟩) | (go_at_call 7; refine (awake5_c _ (by assumption)).mono ?_; rintro e w' ⟨rfl, rfl⟩) | (go_at_call 11; refine (ris5_c _ (by omega) (by omega) _).mono ?_; rintro e w' ⟨rfl, rfl⟩)
      clear hl
      go_loop [8, 9] (fun s c => ∃ n : Nat, l + n ≤ 3 ∧ c = .int .i64 (l + n) ∧ s = .bool (sameN a b l n)) (fun _ c => 4 - (intOf c).toNat)
      case atStart => exact ⟨0, by omega, by simp, by rw [sameN_0]⟩
      case round =>
        obtain ⟨n, hn, rfl, rfl⟩ := hrel
        by_cases hk : l + n < 3
        · have hs := Lib.hid (sameN_s a b l n)
          cases hq : sameN a b l n
          · go_wp2_with first | (go_at_call 8; refine (size5_c _ (by omega) (by omega) _ (by assumption)).mono ?_; rintro e w' ⟨rfl, rfl⟩) | (go_at_call 10; refine (is5_c _ (by omega) (by omega) _).mono ?_; rintro e w' ⟨rfl, rfl⟩) | (go_at_call 12; refine (index5_c _ _ (by omega) (by omega) (by omega) (by omega) _).mono ?_; rintro e w' ⟨rfl, rfl⟩) | (go_at_call 14; refine (number5_c _ (by omega) (by omega) _).mono ?_; rintro e w' ⟨rfl, rfl⟩) | (go_at_call 16; refine (of5_c _ (by omega) (by omega) _).mono ?_; rintro e w' ⟨rfl, rfl⟩) | (go_at_call 20; refine (offset5_c _ _ (by omega) (by omega) (by omega) (by omega) _ (by assumption)).mono ?_; rintro e w' ⟨rfl, rfl⟩) | (go_at_call 18; refine (base5_c _ _ (by omega) (by omega) (by omega) (by omega) _ (by assumption)).mono ?_; rintro e w' ⟨rfl, rfl⟩) | (go_at_call 22; refine (fits5_c _ _ (by omega) (by omega) (by omega) (by omega) _ (by assumption)).mono ?_; rintro e w' ⟨rfl, rfl⟩)
            go_round
            case rel => exact ⟨n + 1, by omega, by go_num, by rw [hs.out, hq]; rfl⟩
            case measure => simp [intOf]; omega
          · cases hi : (idxI a (l + n) == idxI b (l + n))
            all_goals
              rw [hq, hi] at hs
              clear hq
              go_wp2_with first | (go_at_call 8; refine (size5_c _ (by omega) (by omega) _ (by assumption)).mono ?_; rintro e w' ⟨rfl, rfl⟩) | (go_at_call 10; refine (is5_c _ (by omega) (by omega) _).mono ?_; rintro e w' ⟨rfl, rfl⟩) | (go_at_call 12; refine (index5_c _ _ (by omega) (by omega) (by omega) (by omega) _).mono ?_; rintro e w' ⟨rfl, rfl⟩) | (go_at_call 14; refine (number5_c _ (by omega) (by omega) _).mono ?_; rintro e w' ⟨rfl, rfl⟩) | (go_at_call 16; refine (of5_c _ (by omega) (by omega) _).mono ?_; rintro e w' ⟨rfl, rfl⟩) | (go_at_call 20; refine (offset5_c _ _ (by omega) (by omega) (by omega) (by omega) _ (by assumption)).mono ?_; rintro e w' ⟨rfl, rfl⟩) | (go_at_call 18; refine (base5_c _ _ (by omega) (by omega) (by omega) (by omega) _ (by assumption)).mono ?_; rintro e w' ⟨rfl, rfl⟩) | (go_at_call 22; refine (fits5_c _ _ (by omega) (by omega) (by omega) (by omega) _ (by assumption)).mono ?_; rintro e w' ⟨rfl, rfl⟩)
              go_round
              case rel => exact ⟨n + 1, by omega, by go_num, by rw [hs.out]; rfl⟩
              case measure => simp [intOf]; omega
        · have hq := hS.out n (by omega)
          rw [hq]
          go_wp2_with first | (go_at_call 8; refine (size5_c _ (by omega) (by omega) _ (by assumption)).mono ?_; rintro e w' ⟨rfl, rfl⟩) | (go_at_call 10; refine (is5_c _ (by omega) (by omega) _).mono ?_; rintro e w' ⟨rfl, rfl⟩) | (go_at_call 12; refine (index5_c _ _ (by omega) (by omega) (by omega) (by omega) _).mono ?_; rintro e w' ⟨rfl, rfl⟩) | (go_at_call 14; refine (number5_c _ (by omega) (by omega) _).mono ?_; rintro e w' ⟨rfl, rfl⟩) | (go_at_call 16; refine (of5_c _ (by omega) (by omega) _).mono ?_; rintro e w' ⟨rfl, rfl⟩) | (go_at_call 20; refine (offset5_c _ _ (by omega) (by omega) (by omega) (by omega) _ (by assumption)).mono ?_; rintro e w' ⟨rfl, rfl⟩) | (go_at_call 18; refine (base5_c _ _ (by omega) (by omega) (by omega) (by omega) _ (by assumption)).mono ?_; rintro e w' ⟨rfl, rfl⟩) | (go_at_call 22; refine (fits5_c _ _ (by omega) (by omega) (by omega) (by omega) _ (by assumption)).mono ?_; rintro e w' ⟨rfl, rfl⟩)
          go_ret
          exact ⟨by rw [hM.out]; simp, rfl⟩
end Go.Proofs.YtamkpbmlbdlccaaDoor
