/- PlruAll, PlruAway. -/
import Derived.Test.YtmkiogimbnjdeaaDoorLaw11a
namespace Go.Proofs.YtmkiogimbnjdeaaDoor
open Go.ChangeShapes Go.WideShapes Go.ChangeAt Go.RowKit
set_option linter.unusedVariables false
set_option linter.unusedSimpArgs false

/-- four bools -/
def fourB (f : Nat → Bool) : Array Value := #[.bool (f 0), .bool (f 1), .bool (f 2), .bool (f 3)]
theorem fourB_get (f : Nat → Bool) {j : Nat} (h : j < 4) : (fourB f)[j]? = some (.bool (f j)) := by
  rcases four h with rfl | rfl | rfl | rfl <;> rfl
theorem fourB_set (f : Nat → Bool) {j : Nat} (h : j < 4) : (fourB f).setIfInBounds j (.bool true) = fourB (fun i => if i = j then true else f i) := by
  rcases four h with rfl | rfl | rfl | rfl <;> simp [fourB]
theorem fourB_none : fourB (fun _ => false) = #[.bool false, .bool false, .bool false, .bool false] := rfl
theorem Tous.set1 {w : World} (h : Tous w) {g : Nat} (hg : g ≠ 0) (i : Nat) (u : Value) : Tous (w.setCell ⟨g, i, none⟩ u) := h.imp fun _ hb => hb.other (a := ⟨g, i, none⟩) hg u
theorem Tous.lt {w : World} (h : Tous w) : 0 < w.heap.size := h.elim fun _ hb => hb.lt
theorem make_four (W : World) : (Instr.makeSlice 30 (.int .i64 4) (.int .i64 4)).run Tryd.prog W = .ok (.slice (some ⟨W.heap.size, 0, none⟩) 4 4) (W.alloc (.cells (fourB fun _ => false) 4)) := by
  kernel_rfl
attribute [irreducible] fourB
set_option maxRecDepth 100000 in
set_option maxHeartbeats 4000000 in
theorem PlruAll_w (n : Nat) (hn : n < 256) (w : World) (hT : Tous w) :
    Calls Tryd.prog 5 #[.int .u8 (n : Int)] w fun e w' => e = .returned (.bool true) ∧ Ext w w' := by
  have h8 : n % 8 < 8 := Nat.mod_lt _ (by decide)
  have e8 : ((n % 8 : Nat) : Int) = (n : Int) % 8 := by omega
  generalize n % 8 = t at h8 e8
  have hend : (((trN t 4 : Nat) : Int) == (n : Int) % 8) = true := by rw [tr_all h8, e8]; simp
  have hst : (.int .u8 ((n : Int) % 8) : Value) = .int .u8 ((trN t 0 : Nat) : Int) := by rw [tr_none, e8]
  have hs := Lib.hid hst
  have hmk := make_four
  have HE := Lib.hid (Ext.refl w)
  have HT := Lib.hid hT
  clear hT hst e8
  go_enter Tryd.func5, Tryd.ntmps5
  go_wp2_with fail
  refine (awake11_c _ HT.out).mono ?_
  rintro e w1 ⟨rfl, hE⟩
  replace HE := Lib.hid (HE.out.trans hE)
  replace HT := Lib.hid (HT.out.ext hE)
  clear hE
  have hb := Blk.new w1 4 (fourB fun _ => false)
  have HT2 := Lib.hid (HT.out.ext ((Ext.refl w1).alloc (.cells (fourB fun _ => false) 4)))
  have HE2 := Lib.hid (HE.out.alloc (.cells (fourB fun _ => false) 4))
  have hsz := HE.out.size
  have hne : w1.heap.size ≠ 0 := Nat.ne_of_gt HT.out.lt
  go_wp2
  go_loopw [3, 5] (fun x i wr => ∃ k : Nat, k ≤ 4 ∧ i = .int .i64 k ∧ x = .int .u8 ((trN t k : Nat) : Int) ∧ Blk wr w1.heap.size 4 (fourB (snB t k)) ∧ Tous wr ∧ Ext w wr) (fun _ i _ => 4 - (intOf i).toNat)
  case atStart => exact ⟨0, by omega, rfl, hs.out, by rw [sn_none]; exact hb, HT2.out, HE2.out⟩
  case round =>
    clear hb HT HE HT2 HE2
    obtain ⟨k, hk, rfl, rfl, hb, hT, hE0⟩ := hrel
    have HT := Lib.hid hT
    have HE := Lib.hid hE0
    clear hT hE0
    by_cases hlt : k < 4
    · have hv := vic_c _ (tr_lt h8 k)
      have hvl := vi_lt (tr_lt h8 k)
      have ht := fun w h => tou_c _ _ (tr_lt h8 k) hvl w h
      have hnx := sn_next t k
      rw [← tr_next] at ht
      have hno := sn_not h8 hlt
      generalize viN (trN t k) = v at hv hvl ht hno hnx
      have hc := hb.cell v
      rw [fourB_get _ hvl, hno] at hc
      have hf := hb.frozen v
      have hb2 := hb.set_ v (.bool true)
      rw [fourB_set _ hvl, hnx] at hb2
      have HE2 := Lib.hid (Ext.set1 HE.out hsz v (.bool true))
      have HT2 := Lib.hid (HT.out.set1 hne v (.bool true))
      clear hb hno hnx HT HE
      go_wp2_with fail
      refine (hv _).mono ?_
      rintro e w' ⟨rfl, rfl⟩
      go_wp2_with fail
      refine (ht _ HT2.out).mono ?_
      rintro e w' ⟨rfl, hE⟩
      replace hb2 := hb2.ext hE
      replace HE2 := Lib.hid (HE2.out.trans hE)
      replace HT2 := Lib.hid (HT2.out.ext hE)
      clear hE
      go_wp2
      go_roundw
      case rel => exact ⟨k + 1, by omega, by go_num, rfl, hb2, HT2.out, HE2.out⟩
      case measure => simp [intOf]; omega
    · obtain rfl : k = 4 := by omega
      go_wp2
      go_ret
      exact ⟨rfl, HE.out⟩
end Go.Proofs.YtmkiogimbnjdeaaDoor
