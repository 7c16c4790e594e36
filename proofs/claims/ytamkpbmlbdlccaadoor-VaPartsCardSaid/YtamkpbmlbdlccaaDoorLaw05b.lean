/- Layer 5: an address is put together of its parts, and is canonical just if it is what its page number and its offset make. -/
import Derived.Test.YtamkpbmlbdlccaaDoorLaw05a
namespace Go.Proofs.YtamkpbmlbdlccaaDoor
open Go.ChangeShapes Go.WideShapes Go.ChangeAt Go.RowKit
set_option linter.unusedVariables false
set_option linter.unusedSimpArgs false

theorem idx_ar (a : Int) : idxI a 0 = a / 4096 % 512 ∧ idxI a 1 = a / 2097152 % 512 ∧ idxI a 2 = a / 1073741824 % 512 := by
  unfold idxI; rw [siz0, siz1, siz2]; exact ⟨rfl, rfl, rfl⟩
theorem off_r (a : Int) : offI a 0 = a % 4096 ∧ offI a 1 = a % 2097152 ∧ offI a 2 = a % 1073741824 := by
  unfold offI; rw [siz0, siz1, siz2]; exact ⟨rfl, rfl, rfl⟩
theorem bas_r (a : Int) : basI a 0 = a / 4096 * 4096 ∧ basI a 1 = a / 2097152 * 2097152 ∧ basI a 2 = a / 1073741824 * 1073741824 := by
  unfold basI; rw [siz0, siz1, siz2]; exact ⟨rfl, rfl, rfl⟩
theorem num_r (a : Int) : numI a = a / 4096 % 134217728 := by unfold numI; rfl
theorem of_r (n : Int) : ofI n = if n % 134217728 < 67108864 then n % 134217728 * 4096 else n % 134217728 * 4096 + 18446743523953737728 := by unfold ofI; rfl
theorem vaB_iff (a : Int) : vaB a = true ↔ a < 274877906944 ∨ 18446743798831644672 ≤ a := by
  rw [vaB_eq, Bool.or_eq_true, decide_eq_true_iff, decide_eq_true_iff]

theorem parts_num (a : Int) (a0 : 0 ≤ a) : numI a = idxI a 2 * 512 * 512 + idxI a 1 * 512 + idxI a 0 := by
  rw [num_r, (idx_ar a).1, (idx_ar a).2.1, (idx_ar a).2.2]
  omega
theorem parts_is (a : Int) (a0 : 0 ≤ a) (a1 : a < 18446744073709551616) : vaB a = (ofI (numI a) + offI a 0 == a) ∧ ofI (numI a) + offI a 0 < 18446744073709551616 := by
  rw [Bool.eq_iff_iff, vaB_iff, beq_iff_eq, of_r, num_r, (off_r a).1]
  split
  · omega
  · omega
theorem off_base (a : Int) {l k : Int} (k0 : 0 ≤ k) (kl : k ≤ l) (l2 : l ≤ 2) : offI (basI a l) k = 0 := by
  rcases level_lt (by omega) l2 with rfl | rfl | rfl
  · obtain rfl : k = 0 := by omega
    rw [(off_r _).1, (bas_r a).1]; omega
  · rcases level_lt k0 (by omega) with rfl | rfl | rfl
    · rw [(off_r _).1, (bas_r a).2.1]; omega
    · rw [(off_r _).2.1, (bas_r a).2.1]; omega
    · omega
  · rcases level_lt k0 (by omega) with rfl | rfl | rfl
    · rw [(off_r _).1, (bas_r a).2.2]; omega
    · rw [(off_r _).2.1, (bas_r a).2.2]; omega
    · rw [(off_r _).2.2, (bas_r a).2.2]; omega
theorem idx_base (a : Int) {l k : Int} (k0 : 0 ≤ k) (kl : k < l) (l2 : l ≤ 2) : idxI (basI a l) k = 0 := by
  rcases level_lt (by omega) l2 with rfl | rfl | rfl
  · omega
  · obtain rfl : k = 0 := by omega
    rw [(idx_ar _).1, (bas_r a).2.1]; omega
  · rcases level_lt k0 (by omega) with rfl | rfl | rfl
    · rw [(idx_ar _).1, (bas_r a).2.2]; omega
    · rw [(idx_ar _).2.1, (bas_r a).2.2]; omega
    · omega
/-- a canonical address's page: its first and its last address -/
theorem base_is (a : Int) {l : Int} (a0 : 0 ≤ a) (a1 : a < 18446744073709551616) (l0 : 0 ≤ l) (l2 : l ≤ 2) (h : vaB a = true) :
    vaB (basI a l) = true ∧ vaB (basI a l + sizI l - 1) = true ∧ basI a l + sizI l - 1 < 18446744073709551616 := by
  rw [vaB_iff] at *
  rw [vaB_iff]
  rcases level_lt l0 l2 with rfl | rfl | rfl
  · rw [(bas_r a).1, siz0]; omega
  · rw [(bas_r a).2.1, siz1]; omega
  · rw [(bas_r a).2.2, siz2]; omega
theorem wrap_last {b s : Int} (h0 : 1 ≤ b + s) (h1 : b + s - 1 < 18446744073709551616) : IntKind.u64.wrap (IntKind.u64.wrap (b + s) - 1) = b + s - 1 := by
  rw [IntKind.wrap_u64, IntKind.wrap_u64]; omega

theorem VaParts_w (a lv : Int) (a0 : 0 ≤ a) (a1 : a < 18446744073709551616) (v0 : 0 ≤ lv) (w : World) (hT : Siz w) :
    Calls Tryd.prog 4 #[.int .u64 a, .int .u8 lv] w fun e w' => e = .returned (.bool true) ∧ w = w' := by
  obtain ⟨l, hl⟩ : ∃ l, lv % 3 = l := ⟨_, rfl⟩
  have l0 : 0 ≤ l := by omega
  have l2 : l ≤ 2 := by omega
  cases hv : vaB a
  ·
    have hi0 := idx_lt a 0
    have hi1 := idx_lt a 1
    have hi2 := idx_lt a 2
    obtain ⟨hi00, hi01⟩ := hi0
    obtain ⟨hi10, hi11⟩ := hi1
    obtain ⟨hi20, hi21⟩ := hi2
    obtain ⟨hn0, hn1⟩ := num_lt a
    obtain ⟨ho0, ho1⟩ := of_lt (numI a)
    obtain ⟨hf0, hf1⟩ := off_lt a 0
    obtain ⟨hg0, hg1⟩ := off_lt a l
    obtain ⟨hb0, hb1⟩ := bas_lt (l := l) a0
    obtain ⟨hs0, hs1⟩ := siz_lt l0 l2
    have hN := bne_eq_false_iff_eq.2 (parts_num a a0)
    obtain ⟨hV, hW⟩ := parts_is a a0 a1
    rw [hv] at hV
    replace hV := hV.symm
    have hA := bne_eq_false_iff_eq.2 (bas_off a l)
    have hB : basI a l + offI a l < 18446744073709551616 := by rw [bas_off]; exact a1
    go_enter Tryd.func4, Tryd.ntmps4
    go_wp2_with first | (go_at_call 8; refine (size5_c _ (by omega) (by omega) _ (by assumption)).mono ?_; rintro e w' ⟨rfl, rfl⟩) | (go_at_call 10; refine (is5_c _ (by omega) (by omega) _).mono ?_; rintro e w' ⟨rfl, rfl⟩) | (go_at_call 12; refine (index5_c _ _ (by omega) (by omega) (by omega) (by omega) _).mono ?_; rintro e w' ⟨rfl, rfl⟩) | (go_at_call 14; refine (number5_c _ (by omega) (by omega) _).mono ?_; rintro e w' ⟨rfl, rfl⟩) | (go_at_call 16; refine (of5_c _ (by omega) (by omega) _).mono ?_; rintro e w' ⟨rfl, rfl⟩) | (go_at_call 20; refine (offset5_c _ _ (by omega) (by omega) (by omega) (by omega) _ (by assumption)).mono ?_; rintro e w' ⟨rfl, rfl⟩) | (go_at_call 18; refine (base5_c _ _ (by omega) (by omega) (by omega) (by omega) _ (by assumption)).mono ?_; rintro e w' ⟨rfl, rfl⟩) | (go_at_call 22; refine (fits5_c _ _ (by omega) (by omega) (by omega) (by omega) _ (by assumption)).mono ?_; rintro e w' ⟨rfl, rfl⟩) | (go_at_call 7; refine (awake5_c _ (by assumption)).mono ?_; rintro e w' ⟨rfl, rfl⟩)
    go_loop [8] (fun c => ∃ k : Int, 0 ≤ k ∧ k ≤ l + 1 ∧ c = .int .i64 k) (fun c => 4 - (intOf c).toNat)
    case atStart => exact ⟨0, by omega, by omega, rfl⟩
    case round =>
      obtain ⟨k, hk0, hk1, rfl⟩ := hrel
      by_cases hk : k ≤ l
      ·
        have hz := off_base a hk0 hk l2
        by_cases hkl : k < l
        · have hx := idx_base a hk0 hkl l2
          go_wp2_with first | (go_at_call 8; refine (size5_c _ (by omega) (by omega) _ (by assumption)).mono ?_; rintro e w' ⟨rfl, rfl⟩) | (go_at_call 10; refine (is5_c _ (by omega) (by omega) _).mono ?_; rintro e w' ⟨rfl, rfl⟩) | (go_at_call 12; refine (index5_c _ _ (by omega) (by omega) (by omega) (by omega) _).mono ?_; rintro e w' ⟨rfl, rfl⟩) | (go_at_call 14; refine (number5_c _ (by omega) (by omega) _).mono ?_; rintro e w' ⟨rfl, rfl⟩) | (go_at_call 16; refine (of5_c _ (by omega) (by omega) _).mono ?_; rintro e w' ⟨rfl, rfl⟩) | (go_at_call 20; refine (offset5_c _ _ (by omega) (by omega) (by omega) (by omega) _ (by assumption)).mono ?_; rintro e w' ⟨rfl, rfl⟩) | (go_at_call 18; refine (base5_c _ _ (by omega) (by omega) (by omega) (by omega) _ (by assumption)).mono ?_; rintro e w' ⟨rfl, rfl⟩) | (go_at_call 22; refine (fits5_c _ _ (by omega) (by omega) (by omega) (by omega) _ (by assumption)).mono ?_; rintro e w' ⟨rfl, rfl⟩)
          go_round
          case rel => exact ⟨k + 1, by omega, by omega, by go_num⟩
          case measure => simp [intOf]; omega
        · go_wp2_with first | (go_at_call 8; refine (size5_c _ (by omega) (by omega) _ (by assumption)).mono ?_; rintro e w' ⟨rfl, rfl⟩) | (go_at_call 10; refine (is5_c _ (by omega) (by omega) _).mono ?_; rintro e w' ⟨rfl, rfl⟩) | (go_at_call 12; refine (index5_c _ _ (by omega) (by omega) (by omega) (by omega) _).mono ?_; rintro e w' ⟨rfl, rfl⟩) | (go_at_call 14; refine (number5_c _ (by omega) (by omega) _).mono ?_; rintro e w' ⟨rfl, rfl⟩) | (go_at_call 16; refine (of5_c _ (by omega) (by omega) _).mono ?_; rintro e w' ⟨rfl, rfl⟩) | (go_at_call 20; refine (offset5_c _ _ (by omega) (by omega) (by omega) (by omega) _ (by assumption)).mono ?_; rintro e w' ⟨rfl, rfl⟩) | (go_at_call 18; refine (base5_c _ _ (by omega) (by omega) (by omega) (by omega) _ (by assumption)).mono ?_; rintro e w' ⟨rfl, rfl⟩) | (go_at_call 22; refine (fits5_c _ _ (by omega) (by omega) (by omega) (by omega) _ (by assumption)).mono ?_; rintro e w' ⟨rfl, rfl⟩)
          go_round
          case rel => exact ⟨k + 1, by omega, by omega, by go_num⟩
          case measure => simp [intOf]; omega
      · go_wp2_with first | (go_at_call 8; refine (size5_c _ (by omega) (by omega) _ (by assumption)).mono ?_; rintro e w' ⟨rfl, rfl⟩) | (go_at_call 10; refine (is5_c _ (by omega) (by omega) _).mono ?_; rintro e w' ⟨rfl, rfl⟩) | (go_at_call 12; refine (index5_c _ _ (by omega) (by omega) (by omega) (by omega) _).mono ?_; rintro e w' ⟨rfl, rfl⟩) | (go_at_call 14; refine (number5_c _ (by omega) (by omega) _).mono ?_; rintro e w' ⟨rfl, rfl⟩) | (go_at_call 16; refine (of5_c _ (by omega) (by omega) _).mono ?_; rintro e w' ⟨rfl, rfl⟩) | (go_at_call 20; refine (offset5_c _ _ (by omega) (by omega) (by omega) (by omega) _ (by assumption)).mono ?_; rintro e w' ⟨rfl, rfl⟩) | (go_at_call 18; refine (base5_c _ _ (by omega) (by omega) (by omega) (by omega) _ (by assumption)).mono ?_; rintro e w' ⟨rfl, rfl⟩) | (go_at_call 22; refine (fits5_c _ _ (by omega) (by omega) (by omega) (by omega) _ (by assumption)).mono ?_; rintro e w' ⟨rfl, rfl⟩)
        go_ret
        exact ⟨rfl, rfl⟩
  ·
    have hi0 := idx_lt a 0
    have hi1 := idx_lt a 1
    have hi2 := idx_lt a 2
    obtain ⟨hi00, hi01⟩ := hi0
    obtain ⟨hi10, hi11⟩ := hi1
    obtain ⟨hi20, hi21⟩ := hi2
    obtain ⟨hn0, hn1⟩ := num_lt a
    obtain ⟨ho0, ho1⟩ := of_lt (numI a)
    obtain ⟨hf0, hf1⟩ := off_lt a 0
    obtain ⟨hg0, hg1⟩ := off_lt a l
    obtain ⟨hb0, hb1⟩ := bas_lt (l := l) a0
    obtain ⟨hs0, hs1⟩ := siz_lt l0 l2
    have hN := bne_eq_false_iff_eq.2 (parts_num a a0)
    obtain ⟨hV, hW⟩ := parts_is a a0 a1
    rw [hv] at hV
    replace hV := hV.symm
    have hA := bne_eq_false_iff_eq.2 (bas_off a l)
    have hB : basI a l + offI a l < 18446744073709551616 := by rw [bas_off]; exact a1
    go_enter Tryd.func4, Tryd.ntmps4
    go_wp2_with first | (go_at_call 8; refine (size5_c _ (by omega) (by omega) _ (by assumption)).mono ?_; rintro e w' ⟨rfl, rfl⟩) | (go_at_call 10; refine (is5_c _ (by omega) (by omega) _).mono ?_; rintro e w' ⟨rfl, rfl⟩) | (go_at_call 12; refine (index5_c _ _ (by omega) (by omega) (by omega) (by omega) _).mono ?_; rintro e w' ⟨rfl, rfl⟩) | (go_at_call 14; refine (number5_c _ (by omega) (by omega) _).mono ?_; rintro e w' ⟨rfl, rfl⟩) | (go_at_call 16; refine (of5_c _ (by omega) (by omega) _).mono ?_; rintro e w' ⟨rfl, rfl⟩) | (go_at_call 20; refine (offset5_c _ _ (by omega) (by omega) (by omega) (by omega) _ (by assumption)).mono ?_; rintro e w' ⟨rfl, rfl⟩) | (go_at_call 18; refine (base5_c _ _ (by omega) (by omega) (by omega) (by omega) _ (by assumption)).mono ?_; rintro e w' ⟨rfl, rfl⟩) | (go_at_call 22; refine (fits5_c _ _ (by omega) (by omega) (by omega) (by omega) _ (by assumption)).mono ?_; rintro e w' ⟨rfl, rfl⟩) | (go_at_call 7; refine (awake5_c _ (by assumption)).mono ?_; rintro e w' ⟨rfl, rfl⟩)
    go_loop [8] (fun c => ∃ k : Int, 0 ≤ k ∧ k ≤ l + 1 ∧ c = .int .i64 k) (fun c => 4 - (intOf c).toNat)
    case atStart => exact ⟨0, by omega, by omega, rfl⟩
    case round =>
      obtain ⟨k, hk0, hk1, rfl⟩ := hrel
      by_cases hk : k ≤ l
      ·
        have hz := off_base a hk0 hk l2
        by_cases hkl : k < l
        · have hx := idx_base a hk0 hkl l2
          go_wp2_with first | (go_at_call 8; refine (size5_c _ (by omega) (by omega) _ (by assumption)).mono ?_; rintro e w' ⟨rfl, rfl⟩) | (go_at_call 10; refine (is5_c _ (by omega) (by omega) _).mono ?_; rintro e w' ⟨rfl, rfl⟩) | (go_at_call 12; refine (index5_c _ _ (by omega) (by omega) (by omega) (by omega) _).mono ?_; rintro e w' ⟨rfl, rfl⟩) | (go_at_call 14; refine (number5_c _ (by omega) (by omega) _).mono ?_; rintro e w' ⟨rfl, rfl⟩) | (go_at_call 16; refine (of5_c _ (by omega) (by omega) _).mono ?_; rintro e w' ⟨rfl, rfl⟩) | (go_at_call 20; refine (offset5_c _ _ (by omega) (by omega) (by omega) (by omega) _ (by assumption)).mono ?_; rintro e w' ⟨rfl, rfl⟩) | (go_at_call 18; refine (base5_c _ _ (by omega) (by omega) (by omega) (by omega) _ (by assumption)).mono ?_; rintro e w' ⟨rfl, rfl⟩) | (go_at_call 22; refine (fits5_c _ _ (by omega) (by omega) (by omega) (by omega) _ (by assumption)).mono ?_; rintro e w' ⟨rfl, rfl⟩)
          go_round
          case rel => exact ⟨k + 1, by omega, by omega, by go_num⟩
          case measure => simp [intOf]; omega
        · go_wp2_with first | (go_at_call 8; refine (size5_c _ (by omega) (by omega) _ (by assumption)).mono ?_; rintro e w' ⟨rfl, rfl⟩) | (go_at_call 10; refine (is5_c _ (by omega) (by omega) _).mono ?_; rintro e w' ⟨rfl, rfl⟩) | (go_at_call 12; refine (index5_c _ _ (by omega) (by omega) (by omega) (by omega) _).mono ?_; rintro e w' ⟨rfl, rfl⟩) | (go_at_call 14; refine (number5_c _ (by omega) (by omega) _).mono ?_; rintro e w' ⟨rfl, rfl⟩) | (go_at_call 16; refine (of5_c _ (by omega) (by omega) _).mono ?_; rintro e w' ⟨rfl, rfl⟩) | (go_at_call 20; refine (offset5_c _ _ (by omega) (by omega) (by omega) (by omega) _ (by assumption)).mono ?_; rintro e w' ⟨rfl, rfl⟩) | (go_at_call 18; refine (base5_c _ _ (by omega) (by omega) (by omega) (by omega) _ (by assumption)).mono ?_; rintro e w' ⟨rfl, rfl⟩) | (go_at_call 22; refine (fits5_c _ _ (by omega) (by omega) (by omega) (by omega) _ (by assumption)).mono ?_; rintro e w' ⟨rfl, rfl⟩)
          go_round
          case rel => exact ⟨k + 1, by omega, by omega, by go_num⟩
          case measure => simp [intOf]; omega
      · obtain ⟨hc1, hc2, hc3⟩ := base_is a a0 a1 l0 l2 hv
        have hF : fitB (basI a l) l = true := by rw [fitB_eq, hc1, off_base a l0 (Int.le_refl _) l2]; rfl
        have hw := wrap_last (b := basI a l) (s := sizI l) (by omega) hc3
        obtain ⟨e, he⟩ : ∃ e, e = basI a l + sizI l - 1 := ⟨_, rfl⟩
        rw [← he] at hw hc2 hc3
        have he0 : 0 ≤ e := by omega
        clear he
        go_wp2_with first | (go_at_call 8; refine (size5_c _ (by omega) (by omega) _ (by assumption)).mono ?_; rintro e w' ⟨rfl, rfl⟩) | (go_at_call 10; refine (is5_c _ (by omega) (by omega) _).mono ?_; rintro e w' ⟨rfl, rfl⟩) | (go_at_call 12; refine (index5_c _ _ (by omega) (by omega) (by omega) (by omega) _).mono ?_; rintro e w' ⟨rfl, rfl⟩) | (go_at_call 14; refine (number5_c _ (by omega) (by omega) _).mono ?_; rintro e w' ⟨rfl, rfl⟩) | (go_at_call 16; refine (of5_c _ (by omega) (by omega) _).mono ?_; rintro e w' ⟨rfl, rfl⟩) | (go_at_call 20; refine (offset5_c _ _ (by omega) (by omega) (by omega) (by omega) _ (by assumption)).mono ?_; rintro e w' ⟨rfl, rfl⟩) | (go_at_call 18; refine (base5_c _ _ (by omega) (by omega) (by omega) (by omega) _ (by assumption)).mono ?_; rintro e w' ⟨rfl, rfl⟩) | (go_at_call 22; refine (fits5_c _ _ (by omega) (by omega) (by omega) (by omega) _ (by assumption)).mono ?_; rintro e w' ⟨rfl, rfl⟩)
        go_ret
        exact ⟨rfl, rfl⟩
end Go.Proofs.YtamkpbmlbdlccaaDoor
