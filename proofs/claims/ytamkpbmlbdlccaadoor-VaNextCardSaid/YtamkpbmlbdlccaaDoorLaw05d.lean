/- Layer 5: the address behind a page begins the next page, whose page number is as many more as the page has small pages. -/
import Derived.Test.YtamkpbmlbdlccaaDoorLaw05b
namespace Go.Proofs.YtamkpbmlbdlccaaDoor
open Go.ChangeShapes Go.WideShapes Go.ChangeAt Go.RowKit
set_option linter.unusedVariables false
set_option linter.unusedSimpArgs false

theorem next_facts {a l : Int} (a0 : 0 ≤ a) (a1 : a < 18446744073709551616) (l0 : 0 ≤ l) (l2 : l ≤ 2) (ha : vaB a = true) :
    ∃ n m : Int, IntKind.u64.wrap (basI a l + sizI l) = n ∧ IntKind.u64.wrap (n - 1) = m ∧ 0 ≤ n ∧ n < 18446744073709551616 ∧ 0 ≤ m ∧ m < 18446744073709551616 ∧
      offI n l = 0 ∧ numI n = (numI (basI a l) + sizI l / 4096) % 134217728 ∧ basI m l = basI a l ∧ ofI (numI (basI a l)) = basI a l := by
  rw [vaB_iff] at ha
  refine ⟨_, _, rfl, rfl, ?_⟩
  rw [IntKind.wrap_u64, IntKind.wrap_u64, num_r, num_r, of_r]
  rcases level_lt l0 l2 with rfl | rfl | rfl
  · rw [(bas_r a).1, (off_r _).1, (bas_r _).1, siz0]
    refine ⟨by omega, by omega, by omega, by omega, by omega, by omega, by omega, ?_⟩
    split
    · omega
    · omega
  · rw [(bas_r a).2.1, (off_r _).2.1, (bas_r _).2.1, siz1]
    refine ⟨by omega, by omega, by omega, by omega, by omega, by omega, by omega, ?_⟩
    split
    · omega
    · omega
  · rw [(bas_r a).2.2, (off_r _).2.2, (bas_r _).2.2, siz2]
    refine ⟨by omega, by omega, by omega, by omega, by omega, by omega, by omega, ?_⟩
    split
    · omega
    · omega
theorem siz_up {l : Int} (l0 : 0 < l) (l2 : l ≤ 2) : sizI l = 512 * sizI (l - 1) := by
  rcases level_lt (by omega) l2 with rfl | rfl | rfl
  · omega
  · rw [siz1, show (1 : Int) - 1 = 0 by rfl, siz0]; rfl
  · rw [siz2, show (2 : Int) - 1 = 1 by rfl, siz1]; rfl

theorem VaNext_w (a lv : Int) (a0 : 0 ≤ a) (a1 : a < 18446744073709551616) (v0 : 0 ≤ lv) (w : World) (hT : Siz w) :
    Calls Tryd.prog 6 #[.int .u64 a, .int .u8 lv] w fun e w' => e = .returned (.bool true) ∧ w = w' := by
  obtain ⟨l, hl⟩ : ∃ l, lv % 3 = l := ⟨_, rfl⟩
  have l0 : 0 ≤ l := by omega
  have l2 : l ≤ 2 := by omega
  cases ha : vaB a
  · go_enter Tryd.func6, Tryd.ntmps6
    go_wp2_with first | (go_at_call 8; refine (size5_c _ (by omega) (by omega) _ (by assumption)).mono ?_; rintro e w' ⟨rfl, rfl⟩) | (go_at_call 10; refine (is5_c _ (by omega) (by omega) _).mono ?_; rintro e w' ⟨rfl, rfl⟩) | (go_at_call 12; refine (index5_c _ _ (by omega) (by omega) (by omega) (by omega) _).mono ?_; rintro e w' ⟨rfl, rfl⟩) | (go_at_call 14; refine (number5_c _ (by omega) (by omega) _).mono ?_; rintro e w' ⟨rfl, rfl⟩) | (go_at_call 16; refine (of5_c _ (by omega) (by omega) _).mono ?_; rintro e w' ⟨rfl, rfl⟩) | (go_at_call 20; refine (offset5_c _ _ (by omega) (by omega) (by omega) (by omega) _ (by assumption)).mono ?_; rintro e w' ⟨rfl, rfl⟩) | (go_at_call 18; refine (base5_c _ _ (by omega) (by omega) (by omega) (by omega) _ (by assumption)).mono ?_; rintro e w' ⟨rfl, rfl⟩) | (go_at_call 22; refine (fits5_c _ _ (by omega) (by omega) (by omega) (by omega) _ (by assumption)).mono ?_; rintro e w' ⟨rfl, rfl⟩) | (go_at_call 7; refine (awake5_c _ (by assumption)).mono ?_; rintro e w' ⟨rfl, rfl⟩) | (go_at_call 11; refine (ris5_c _ (by omega) (by omega) _).mono ?_; rintro e w' ⟨rfl, rfl⟩)
    go_ret
    exact ⟨rfl, rfl⟩
  · by_cases hz : 0 < l
    · have g5 : (sizI l != 512 * sizI (l - 1)) = false := bne_eq_false_iff_eq.2 (siz_up hz l2)
      obtain ⟨ht0, ht1⟩ := siz_lt (l := l - 1) (by omega) (by omega)
      obtain ⟨n, m, hn, hm, hn0, hn1, hm0, hm1, f1, f2, f3, f4⟩ := next_facts a0 a1 l0 l2 ha
      obtain ⟨hb0, hb1⟩ := bas_lt (l := l) a0
      obtain ⟨hs0, hs1⟩ := siz_lt l0 l2
      obtain ⟨hq0, hq1⟩ := num_lt (basI a l)
      have g1 : (offI n l != 0) = false := bne_eq_false_iff_eq.2 f1
      have g2 : (numI n != (numI (basI a l) + sizI l / 4096) % 134217728) = false := bne_eq_false_iff_eq.2 f2
      have g3 : (basI m l != basI a l) = false := bne_eq_false_iff_eq.2 f3
      have g4 := Lib.hid (beq_iff_eq.2 f4)
      clear f1 f2 f3 f4
      go_enter Tryd.func6, Tryd.ntmps6
      go_wp2_with first | (go_at_call 8; refine (size5_c _ (by omega) (by omega) _ (by assumption)).mono ?_; rintro e w' ⟨rfl, rfl⟩) | (go_at_call 10; refine (is5_c _ (by omega) (by omega) _).mono ?_; rintro e w' ⟨rfl, rfl⟩) | (go_at_call 12; refine (index5_c _ _ (by omega) (by omega) (by omega) (by omega) _).mono ?_; rintro e w' ⟨rfl, rfl⟩) | (go_at_call 14; refine (number5_c _ (by omega) (by omega) _).mono ?_; rintro e w' ⟨rfl, rfl⟩) | (go_at_call 16; refine (of5_c _ (by omega) (by omega) _).mono ?_; rintro e w' ⟨rfl, rfl⟩) | (go_at_call 20; refine (offset5_c _ _ (by omega) (by omega) (by omega) (by omega) _ (by assumption)).mono ?_; rintro e w' ⟨rfl, rfl⟩) | (go_at_call 18; refine (base5_c _ _ (by omega) (by omega) (by omega) (by omega) _ (by assumption)).mono ?_; rintro e w' ⟨rfl, rfl⟩) | (go_at_call 22; refine (fits5_c _ _ (by omega) (by omega) (by omega) (by omega) _ (by assumption)).mono ?_; rintro e w' ⟨rfl, rfl⟩) | (go_at_call 7; refine (awake5_c _ (by assumption)).mono ?_; rintro e w' ⟨rfl, rfl⟩) | (go_at_call 11; refine (ris5_c _ (by omega) (by omega) _).mono ?_; rintro e w' ⟨rfl, rfl⟩)
      go_ret
      exact ⟨congrArg (fun b => Ending.returned (.bool b)) g4.out, rfl⟩
    ·
      obtain ⟨n, m, hn, hm, hn0, hn1, hm0, hm1, f1, f2, f3, f4⟩ := next_facts a0 a1 l0 l2 ha
      obtain ⟨hb0, hb1⟩ := bas_lt (l := l) a0
      obtain ⟨hs0, hs1⟩ := siz_lt l0 l2
      obtain ⟨hq0, hq1⟩ := num_lt (basI a l)
      have g1 : (offI n l != 0) = false := bne_eq_false_iff_eq.2 f1
      have g2 : (numI n != (numI (basI a l) + sizI l / 4096) % 134217728) = false := bne_eq_false_iff_eq.2 f2
      have g3 : (basI m l != basI a l) = false := bne_eq_false_iff_eq.2 f3
      have g4 := Lib.hid (beq_iff_eq.2 f4)
      clear f1 f2 f3 f4
      go_enter Tryd.func6, Tryd.ntmps6
      go_wp2_with first | (go_at_call 8; refine (size5_c _ (by omega) (by omega) _ (by assumption)).mono ?_; rintro e w' ⟨rfl, rfl⟩) | (go_at_call 10; refine (is5_c _ (by omega) (by omega) _).mono ?_; rintro e w' ⟨rfl, rfl⟩) | (go_at_call 12; refine (index5_c _ _ (by omega) (by omega) (by omega) (by omega) _).mono ?_; rintro e w' ⟨rfl, rfl⟩) | (go_at_call 14; refine (number5_c _ (by omega) (by omega) _).mono ?_; rintro e w' ⟨rfl, rfl⟩) | (go_at_call 16; refine (of5_c _ (by omega) (by omega) _).mono ?_; rintro e w' ⟨rfl, rfl⟩) | (go_at_call 20; refine (offset5_c _ _ (by omega) (by omega) (by omega) (by omega) _ (by assumption)).mono ?_; rintro e w' ⟨rfl, rfl⟩) | (go_at_call 18; refine (base5_c _ _ (by omega) (by omega) (by omega) (by omega) _ (by assumption)).mono ?_; rintro e w' ⟨rfl, rfl⟩) | (go_at_call 22; refine (fits5_c _ _ (by omega) (by omega) (by omega) (by omega) _ (by assumption)).mono ?_; rintro e w' ⟨rfl, rfl⟩) | (go_at_call 7; refine (awake5_c _ (by assumption)).mono ?_; rintro e w' ⟨rfl, rfl⟩) | (go_at_call 11; refine (ris5_c _ (by omega) (by omega) _).mono ?_; rintro e w' ⟨rfl, rfl⟩)
      go_ret
      exact ⟨congrArg (fun b => Ending.returned (.bool b)) g4.out, rfl⟩
end Go.Proofs.YtamkpbmlbdlccaaDoor
