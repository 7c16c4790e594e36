/- Layer 11: awake answers true; PlruTrees, PlruAway, PlruAll, PlruPair. -/
import Derived.Test.YtmkiogimbnjdeaaDoorCelev
import Derived.Test.YtmkiogimbnjdeaaDoorGtwo
import Derived.Lib.Hide
namespace Go.Proofs.YtmkiogimbnjdeaaDoor
open Go.ChangeShapes Go.WideShapes Go.ChangeAt Go.RowKit
set_option linter.unusedVariables false
set_option linter.unusedSimpArgs false

set_option maxRecDepth 100000 in
theorem awake11_c (w : World) (hT : Tous w) :
    Calls Tryd.prog 7 #[] w fun e w' => e = .returned (.bool true) ∧ Ext w w' := by
  obtain ⟨v0, v3, v7, t0, t7⟩ := vi_val
  have c0 := vic_c 0 (by decide)
  have c3 := vic_c 3 (by decide)
  have c7 := vic_c 7 (by decide)
  have d0 := fun w h => tou_c 0 0 (by decide) (by decide) w h
  have d7 := fun w h => tou_c 7 3 (by decide) (by decide) w h
  have i7 := is11_c 7
  have i8 := is11_c 8
  rw [v0] at c0
  rw [v3] at c3
  rw [v7] at c7
  rw [t0] at d0
  rw [t7] at d7
  clear v0 v3 v7 t0 t7
  have HE := Lib.hid (Ext.refl w)
  have HT := Lib.hid hT
  clear hT
  go_enter Tryd.func7, Tryd.ntmps7
  go_wp2_with fail
  refine (c0 _).mono ?_
  rintro e w' ⟨rfl, rfl⟩
  go_wp2_with fail
  refine (d0 _ HT.out).mono ?_
  rintro e w' ⟨rfl, hE⟩
  replace HE := Lib.hid (HE.out.trans hE)
  replace HT := Lib.hid (HT.out.ext hE)
  clear hE
  go_wp2_with fail
  refine (c3 _).mono ?_
  rintro e w' ⟨rfl, rfl⟩
  go_wp2_with fail
  refine (i7 _).mono ?_
  rintro e w' ⟨rfl, rfl⟩
  go_wp2_with fail
  refine (i8 _).mono ?_
  rintro e w' ⟨rfl, rfl⟩
  go_wp2_with fail
  refine (c7 _).mono ?_
  rintro e w' ⟨rfl, rfl⟩
  go_wp2_with fail
  refine (d7 _ HT.out).mono ?_
  rintro e w' ⟨rfl, hE⟩
  replace HE := Lib.hid (HE.out.trans hE)
  replace HT := Lib.hid (HT.out.ext hE)
  clear hE
  go_wp2
  go_ret
  exact ⟨rfl, HE.out⟩

set_option maxRecDepth 100000 in
theorem PlruTrees_w (n m : Nat) (hn : n < 256) (hm : m < 256) (w : World) (hT : Tous w) :
    Calls Tryd.prog 3 #[.int .u8 (n : Int), .int .u8 (m : Int)] w fun e w' => e = .returned (.bool true) ∧ Ext w w' := by
  have h8 : n % 8 < 8 := Nat.mod_lt _ (by decide)
  have h4 : m % 4 < 4 := Nat.mod_lt _ (by decide)
  have e8 : ((n % 8 : Nat) : Int) = (n : Int) % 8 := by omega
  have e4 : ((m % 4 : Nat) : Int) = (m : Int) % 4 := by omega
  have hv := vic_c _ h8
  have hrv := rvic_c _ h8
  have ht := fun w h => tou_c _ _ h8 h4 w h
  have hrt := rtou_c _ _ h8 h4
  have hi := is11_c n
  rw [e8] at hv hrv ht hrt
  rw [e4] at ht hrt
  generalize toN (n % 8) (m % 4) = x at ht hrt
  generalize viN (n % 8) = y at hv hrv
  clear h8 h4 e8 e4
  have HE := Lib.hid (Ext.refl w)
  have HT := Lib.hid hT
  clear hT
  go_enter Tryd.func3, Tryd.ntmps3
  go_wp2_with fail
  refine (awake11_c _ HT.out).mono ?_
  rintro e w' ⟨rfl, hE⟩
  replace HE := Lib.hid (HE.out.trans hE)
  replace HT := Lib.hid (HT.out.ext hE)
  clear hE
  go_wp2_with fail
  refine (hi _).mono ?_
  rintro e w' ⟨rfl, rfl⟩
  go_wp2_with fail
  refine (hv _).mono ?_
  rintro e w' ⟨rfl, rfl⟩
  go_wp2_with fail
  refine (hrv _).mono ?_
  rintro e w' ⟨rfl, rfl⟩
  go_wp2_with fail
  refine (ht _ HT.out).mono ?_
  rintro e w' ⟨rfl, hE⟩
  replace HE := Lib.hid (HE.out.trans hE)
  replace HT := Lib.hid (HT.out.ext hE)
  clear hE
  go_wp2_with fail
  refine (hrt _).mono ?_
  rintro e w' ⟨rfl, rfl⟩
  go_wp2
  go_ret
  exact ⟨rfl, HE.out⟩
set_option maxRecDepth 100000 in
theorem PlruPair_w (n m o : Nat) (hn : n < 256) (hm : m < 256) (ho : o < 256) (w : World) (hT : Tous w) :
    Calls Tryd.prog 6 #[.int .u8 (n : Int), .int .u8 (m : Int), .int .u8 (o : Int)] w fun e w' => e = .returned (.bool true) ∧ Ext w w' := by
  have h8 : n % 8 < 8 := Nat.mod_lt _ (by decide)
  have h4 : m % 4 < 4 := Nat.mod_lt _ (by decide)
  have h2 : o % 2 < 2 := Nat.mod_lt _ (by decide)
  have e8 : ((n % 8 : Nat) : Int) = (n : Int) % 8 := by omega
  have e4 : ((m % 4 : Nat) : Int) = (m : Int) % 4 := by omega
  have hp := vi_pair h8 h4 h2
  have hq := vi_to h8 h4
  have ha := to_lt h8 (m % 4)
  have ht := fun w h => tou_c _ _ h8 h4 w h
  rw [e8, e4] at ht
  generalize toN (n % 8) (m % 4) = a at hp hq ha ht
  have h5 : o % 2 + m % 4 / 2 * 2 < 4 := by omega
  have e5 : ((o % 2 + m % 4 / 2 * 2 : Nat) : Int) = (o : Int) % 2 + (m : Int) % 4 / 2 * 2 := by omega
  have hb := to_lt ha (o % 2 + m % 4 / 2 * 2)
  have ht2 := fun w h => tou_c _ _ ha h5 w h
  rw [e5] at ht2
  generalize toN a (o % 2 + m % 4 / 2 * 2) = b at hp hb ht2
  have hc := to_lt hb (m % 4)
  have ht3 := fun w h => tou_c _ _ hb h4 w h
  rw [e4] at ht3
  generalize toN b (m % 4) = c at hp hc ht3
  have hvl := vi_lt ha
  have hv := vic_c _ ha
  have hv2 := vic_c _ hc
  rw [hp] at hv2
  generalize viN a = v at hq hv hv2 hvl
  have g0 : (((v : Int)) / 2 == ((m : Int)) % 4 / 2) = false := by simp; omega
  clear hp hq h8 h4 h2 e8 e4 h5 e5
  have HE := Lib.hid (Ext.refl w)
  have HT := Lib.hid hT
  clear hT
  go_enter Tryd.func6, Tryd.ntmps6
  go_wp2_with fail
  refine (awake11_c _ HT.out).mono ?_
  rintro e w' ⟨rfl, hE⟩
  replace HE := Lib.hid (HE.out.trans hE)
  replace HT := Lib.hid (HT.out.ext hE)
  clear hE
  go_wp2_with fail
  refine (ht _ HT.out).mono ?_
  rintro e w' ⟨rfl, hE⟩
  replace HE := Lib.hid (HE.out.trans hE)
  replace HT := Lib.hid (HT.out.ext hE)
  clear hE
  go_wp2_with fail
  refine (hv _).mono ?_
  rintro e w' ⟨rfl, rfl⟩
  go_wp2_with fail
  refine (ht2 _ HT.out).mono ?_
  rintro e w' ⟨rfl, hE⟩
  replace HE := Lib.hid (HE.out.trans hE)
  replace HT := Lib.hid (HT.out.ext hE)
  clear hE
  go_wp2_with fail
  refine (ht3 _ HT.out).mono ?_
  rintro e w' ⟨rfl, hE⟩
  replace HE := Lib.hid (HE.out.trans hE)
  replace HT := Lib.hid (HT.out.ext hE)
  clear hE
  go_wp2_with fail
  refine (hv2 _).mono ?_
  rintro e w' ⟨rfl, rfl⟩
  go_wp2
  go_ret
  exact ⟨rfl, HE.out⟩
end Go.Proofs.YtmkiogimbnjdeaaDoor
