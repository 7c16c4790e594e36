/- PlruAway. -/
import Derived.Test.YtmkiogimbnjdeaaDoorLaw11b
namespace Go.Proofs.YtmkiogimbnjdeaaDoor
open Go.ChangeShapes Go.WideShapes Go.ChangeAt Go.RowKit
set_option linter.unusedVariables false
set_option linter.unusedSimpArgs false

set_option maxRecDepth 100000 in
set_option maxHeartbeats 4000000 in
theorem PlruAway_w (n : Nat) (hn : n < 256) (A : Option Addr) (l : List Nat) (c : Nat) (hl : IsBytes l) (hm : l.length ≤ 9223372036854775807) (w : World) (hs : SlB w A l) (hT : Tous w) :
    Calls Tryd.prog 4 #[.int .u8 (n : Int), .slice A l.length c] w fun e w' => e = .returned (.bool true) ∧ Ext w w' := by
  have h8 : n % 8 < 8 := Nat.mod_lt _ (by decide)
  have e8 : ((n % 8 : Nat) : Int) = (n : Int) % 8 := by omega
  have HE := Lib.hid (Ext.refl w)
  have HT := Lib.hid hT
  clear hT
  by_cases h200 : l.length ≤ 200
  · have hd : decide ((200 : Int) < (l.length : Int)) = false := by simp; omega
    go_enter Tryd.func4, Tryd.ntmps4
    go_wp2_with fail
    refine (awake11_c _ HT.out).mono ?_
    rintro e w1 ⟨rfl, hE⟩
    replace HE := Lib.hid (HE.out.trans hE)
    replace HT := Lib.hid (HT.out.ext hE)
    clear hE
    have hb := Blk.new w1 3 #[.int .i64 (-1), .int .i64 (-1)]
    have HT2 := Lib.hid (HT.out.ext ((Ext.refl w1).alloc (.cells #[.int .i64 (-1), .int .i64 (-1)] 3)))
    have HE2 := Lib.hid (HE.out.alloc (.cells #[.int .i64 (-1), .int .i64 (-1)] 3))
    have hsz := HE.out.size
    have hne : w1.heap.size ≠ 0 := Nat.ne_of_gt HT.out.lt
    have hst := Lib.hid e8.symm
    clear e8
    go_wp2
    go_loopw [5, 7] (fun x i wr => ∃ k : Nat, k ≤ l.length ∧ i = .int .i64 k ∧ (∃ t : Nat, t < 8 ∧ x = .int .u8 (t : Int) ∧ ∃ a b : Int, lastI t a b ∧ Blk wr w1.heap.size 3 #[.int .i64 a, .int .i64 b]) ∧ Tous wr ∧ Ext w wr) (fun _ i _ => (l.length - intOf i).toNat)
    case atStart => exact ⟨0, by omega, rfl, ⟨n % 8, h8, by rw [hst.out], -1, -1, last_start _, hb⟩, HT2.out, HE2.out⟩
    case round =>
      clear hb HT HE HT2 HE2 hst h8
      obtain ⟨k, hk, rfl, ⟨t, h8, rfl, a, b, hla, hb⟩, hT, hE0⟩ := hrel
      have HT := Lib.hid hT
      have HE := Lib.hid hE0
      have hB := Lib.hid hb
      by_cases hlt : k < l.length
      · have hs2 := hs.below (B := 0) hE0
        obtain ⟨bb, off, rfl, hbl, hcell⟩ := hs2 (by omega)
        have hck := hcell k hlt
        have hbk := bAt_lt hl k
        clear hcell hT hE0
        generalize bAt l k = m at hck hbk
        have h4 : m % 4 < 4 := Nat.mod_lt _ (by decide)
        have e4 : ((m % 4 : Nat) : Int) = (m : Int) % 4 := by omega
        have ht := fun w h => tou_c _ _ h8 h4 w h
        have ha := to_lt h8 (m % 4)
        have hv := vic_c _ ha
        have hi := is11_c (toN t (m % 4))
        have ht2 := fun w h => tou_c _ _ ha h4 w h
        rw [to_to h8 h4] at ht2
        have d8 : decide (((toN t (m % 4) : Nat) : Int) < 8) = true := by simp; omega
        rw [e4] at ht ht2
        by_cases h2 : m % 4 < 2
        · obtain ⟨hla2, hvv, hvn⟩ := last_0 h8 hla h2
          generalize toN t (m % 4) = y at ht hv hi ht2 hla2 hvv hvn d8 ha
          have q0 : (m : Int) % 4 / 2 = 0 := by omega
          rw [e4] at hla2
          have HL := Lib.hid hla2
          have hvd : (((viN y : Nat) : Int) == b) = false := by simpa using hvn
          clear hla hla2 hvn e4
          rcases hvv with hvv | hvv
          all_goals
            rw [hvv] at hv hvd
            simp only [show ((0 : Nat) : Int) = 0 from rfl, show ((1 : Nat) : Int) = 1 from rfl, show ((2 : Nat) : Int) = 2 from rfl, show ((3 : Nat) : Int) = 3 from rfl] at hv hvd
            clear hvv
            clear hb
            go_wp2_with fail
            refine (ht _ HT.out).mono ?_
            rintro e w2 ⟨rfl, hE⟩
            have c0 := (hB.out.ext hE).cell 0
            have c1 := (hB.out.ext hE).cell 1
            have f0 := (hB.out.ext hE).frozen 0
            have f1 := (hB.out.ext hE).frozen 1
            have hl2 := (hB.out.ext hE).lt
            replace HE := Lib.hid (HE.out.trans hE)
            replace HT := Lib.hid (HT.out.ext hE)
            replace hB := Lib.hid (hB.out.ext hE)
            clear hE
            go_wp2_with fail
            refine (hv _).mono ?_
            rintro e w' ⟨rfl, rfl⟩
            go_wp2_with fail
            refine (hi _).mono ?_
            rintro e w' ⟨rfl, rfl⟩
            have HT3 := Lib.hid (HT.out.set1 hne 0 (.int .i64 ((m : Int) % 4)))
            have HE3 := Lib.hid (Ext.set1 HE.out hsz 0 (.int .i64 ((m : Int) % 4)))
            have HB3 := Lib.hid (hB.out.set_ 0 (.int .i64 ((m : Int) % 4)))
            go_wp2_with fail
            refine (ht2 _ HT3.out).mono ?_
            rintro e w' ⟨rfl, hE⟩
            replace HE3 := Lib.hid (HE3.out.trans hE)
            replace HT3 := Lib.hid (HT3.out.ext hE)
            replace HB3 := Lib.hid (HB3.out.ext hE)
            clear hE
            go_wp2
            go_roundw
            case rel => exact ⟨k + 1, by omega, by go_num, ⟨y, ha, rfl, _, _, HL.out, HB3.out⟩, HT3.out, HE3.out⟩
            case measure => simp [intOf]; omega
        · obtain ⟨hla2, hvv, hvn⟩ := last_1 h8 hla h4 (by omega)
          generalize toN t (m % 4) = y at ht hv hi ht2 hla2 hvv hvn d8 ha
          have q0 : (m : Int) % 4 / 2 = 1 := by omega
          rw [e4] at hla2
          have HL := Lib.hid hla2
          have hvd : (((viN y : Nat) : Int) == a) = false := by simpa using hvn
          clear hla hla2 hvn e4
          rcases hvv with hvv | hvv
          all_goals
            rw [hvv] at hv hvd
            simp only [show ((0 : Nat) : Int) = 0 from rfl, show ((1 : Nat) : Int) = 1 from rfl, show ((2 : Nat) : Int) = 2 from rfl, show ((3 : Nat) : Int) = 3 from rfl] at hv hvd
            clear hvv
            clear hb
            go_wp2_with fail
            refine (ht _ HT.out).mono ?_
            rintro e w2 ⟨rfl, hE⟩
            have c0 := (hB.out.ext hE).cell 0
            have c1 := (hB.out.ext hE).cell 1
            have f0 := (hB.out.ext hE).frozen 0
            have f1 := (hB.out.ext hE).frozen 1
            have hl2 := (hB.out.ext hE).lt
            replace HE := Lib.hid (HE.out.trans hE)
            replace HT := Lib.hid (HT.out.ext hE)
            replace hB := Lib.hid (hB.out.ext hE)
            clear hE
            go_wp2_with fail
            refine (hv _).mono ?_
            rintro e w' ⟨rfl, rfl⟩
            go_wp2_with fail
            refine (hi _).mono ?_
            rintro e w' ⟨rfl, rfl⟩
            have HT3 := Lib.hid (HT.out.set1 hne 1 (.int .i64 ((m : Int) % 4)))
            have HE3 := Lib.hid (Ext.set1 HE.out hsz 1 (.int .i64 ((m : Int) % 4)))
            have HB3 := Lib.hid (hB.out.set_ 1 (.int .i64 ((m : Int) % 4)))
            go_wp2_with fail
            refine (ht2 _ HT3.out).mono ?_
            rintro e w' ⟨rfl, hE⟩
            replace HE3 := Lib.hid (HE3.out.trans hE)
            replace HT3 := Lib.hid (HT3.out.ext hE)
            replace HB3 := Lib.hid (HB3.out.ext hE)
            clear hE
            go_wp2
            go_roundw
            case rel => exact ⟨k + 1, by omega, by go_num, ⟨y, ha, rfl, _, _, HL.out, HB3.out⟩, HT3.out, HE3.out⟩
            case measure => simp [intOf]; omega
      · obtain rfl : k = l.length := by omega
        clear hT hE0 hb hs
        go_wp2
        go_ret
        exact ⟨rfl, HE.out⟩
  · have hd : decide ((200 : Int) < (l.length : Int)) = true := by simp; omega
    go_enter Tryd.func4, Tryd.ntmps4
    go_wp2_with fail
    refine (awake11_c _ HT.out).mono ?_
    rintro e w1 ⟨rfl, hE⟩
    replace HE := Lib.hid (HE.out.trans hE)
    replace HT := Lib.hid (HT.out.ext hE)
    clear hE
    go_wp2_with fail
    refine (awake11_c _ HT.out).mono ?_
    rintro e w1 ⟨rfl, hE⟩
    replace HE := Lib.hid (HE.out.trans hE)
    replace HT := Lib.hid (HT.out.ext hE)
    clear hE
    go_wp2
    go_ret
    exact ⟨rfl, HE.out⟩
end Go.Proofs.YtmkiogimbnjdeaaDoor
