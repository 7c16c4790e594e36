/- Layer 5: awake answers true; the document's answers are package va's. -/
import Derived.Test.YtamkpbmlbdlccaaDoorRfive
namespace Go.Proofs.YtamkpbmlbdlccaaDoor
open Go.ChangeShapes Go.WideShapes Go.ChangeAt Go.RowKit
set_option linter.unusedVariables false
set_option linter.unusedSimpArgs false

theorem awake5_c (w : World) (hT : Siz w) :
    Calls Tryd.prog 7 #[] w fun e w' => e = .returned (.bool true) ∧ w = w' := by
  have h1 : (idxI 1075843072 2 == 1) = true := by decide +kernel
  have h2 : (idxI 1075843072 1 == 1) = true := by decide +kernel
  have h3 : (idxI 1075843072 0 == 1) = true := by decide +kernel
  have h4 : (sizI 1 == 2097152) = true := by decide +kernel
  have h5 : vaB 274877906943 = true := by decide +kernel
  have h6 : vaB 274877906944 = false := by decide +kernel
  have h7 : vaB 18446743798831644672 = true := by decide +kernel
  have h8 : (numI 20771 == 5) = true := by decide +kernel
  have h9 : (ofI 5 == 20480) = true := by decide +kernel
  have h10 : (basI 20771 0 == 20480) = true := by decide +kernel
  have h11 : (offI 20771 0 == 291) = true := by decide +kernel
  have h12 : fitB 2097152 1 = true := by decide +kernel
  have h13 : fitB 2101248 1 = false := by decide +kernel
  go_enter Tryd.func7, Tryd.ntmps7
  go_wp2_with first | (go_at_call 8; refine (size5_c _ (by omega) (by omega) _ (by assumption)).mono ?_; rintro e w' ⟨rfl, rfl⟩) | (go_at_call 10; refine (is5_c _ (by omega) (by omega) _).mono ?_; rintro e w' ⟨rfl, rfl⟩) | (go_at_call 12; refine (index5_c _ _ (by omega) (by omega) (by omega) (by omega) _).mono ?_; rintro e w' ⟨rfl, rfl⟩) | (go_at_call 14; refine (number5_c _ (by omega) (by omega) _).mono ?_; rintro e w' ⟨rfl, rfl⟩) | (go_at_call 16; refine (of5_c _ (by omega) (by omega) _).mono ?_; rintro e w' ⟨rfl, rfl⟩) | (go_at_call 20; refine (offset5_c _ _ (by omega) (by omega) (by omega) (by omega) _ (by assumption)).mono ?_; rintro e w' ⟨rfl, rfl⟩) | (go_at_call 18; refine (base5_c _ _ (by omega) (by omega) (by omega) (by omega) _ (by assumption)).mono ?_; rintro e w' ⟨rfl, rfl⟩) | (go_at_call 22; refine (fits5_c _ _ (by omega) (by omega) (by omega) (by omega) _ (by assumption)).mono ?_; rintro e w' ⟨rfl, rfl⟩)
  go_ret
  exact ⟨rfl, rfl⟩

theorem VaAsks_w (a n lv : Int) (a0 : 0 ≤ a) (a1 : a < 18446744073709551616) (n0 : 0 ≤ n) (n1 : n < 18446744073709551616) (v0 : 0 ≤ lv) (w : World) (hT : Siz w) :
    Calls Tryd.prog 3 #[.int .u64 a, .int .u64 n, .int .u8 lv] w fun e w' => e = .returned (.bool true) ∧ Ext w w' := by
  go_enter Tryd.func3, Tryd.ntmps3
  go_wp2_with first | (go_at_call 8; refine (size5_c _ (by omega) (by omega) _ (by assumption)).mono ?_; rintro e w' ⟨rfl, rfl⟩) | (go_at_call 10; refine (is5_c _ (by omega) (by omega) _).mono ?_; rintro e w' ⟨rfl, rfl⟩) | (go_at_call 12; refine (index5_c _ _ (by omega) (by omega) (by omega) (by omega) _).mono ?_; rintro e w' ⟨rfl, rfl⟩) | (go_at_call 14; refine (number5_c _ (by omega) (by omega) _).mono ?_; rintro e w' ⟨rfl, rfl⟩) | (go_at_call 16; refine (of5_c _ (by omega) (by omega) _).mono ?_; rintro e w' ⟨rfl, rfl⟩) | (go_at_call 20; refine (offset5_c _ _ (by omega) (by omega) (by omega) (by omega) _ (by assumption)).mono ?_; rintro e w' ⟨rfl, rfl⟩) | (go_at_call 18; refine (base5_c _ _ (by omega) (by omega) (by omega) (by omega) _ (by assumption)).mono ?_; rintro e w' ⟨rfl, rfl⟩) | (go_at_call 22; refine (fits5_c _ _ (by omega) (by omega) (by omega) (by omega) _ (by assumption)).mono ?_; rintro e w' ⟨rfl, rfl⟩) | (go_at_call 7; refine (awake5_c _ (by assumption)).mono ?_; rintro e w' ⟨rfl, rfl⟩) | (go_at_call 11; refine (ris5_c _ (by omega) (by omega) _).mono ?_; rintro e w' ⟨rfl, rfl⟩) | (go_at_call 9; refine (rsize5_c _ (by omega) (by omega) _).mono ?_; rintro e w' ⟨rfl, rfl⟩) | (go_at_call 13; refine (rindex5_c _ _ (by omega) (by omega) (by omega) (by omega) _).mono ?_; rintro e w' ⟨rfl, rfl⟩) | (go_at_call 15; refine (rnumber5_c _ (by omega) (by omega) _).mono ?_; rintro e w' ⟨rfl, rfl⟩) | (go_at_call 17; refine (rof5_c _ (by omega) (by omega) _).mono ?_; rintro e w1 ⟨rfl, hE1⟩; replace hT := hT.ext hE1) | (go_at_call 19; refine (rbase5_c _ _ (by omega) (by omega) (by omega) (by omega) _).mono ?_; rintro e w2 ⟨rfl, hE2⟩; replace hT := hT.ext hE2) | (go_at_call 21; refine (roffset5_c _ _ (by omega) (by omega) (by omega) (by omega) _).mono ?_; rintro e w' ⟨rfl, rfl⟩) | (go_at_call 23; refine (rfits5_c _ _ (by omega) (by omega) (by omega) (by omega) _).mono ?_; rintro e w' ⟨rfl, rfl⟩)
  go_ret
  exact ⟨rfl, hE1.trans hE2⟩
end Go.Proofs.YtamkpbmlbdlccaaDoor
