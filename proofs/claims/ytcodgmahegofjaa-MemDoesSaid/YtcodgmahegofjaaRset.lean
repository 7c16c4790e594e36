/- The document's answers for layer 3: a word set, words cleared. -/
import Derived.Test.YtcodgmahegofjaaRlod
namespace Go.Proofs.Ytcodgmahegofjaa
open Go.ChangeShapes Go.WideShapes Go.ChangeAt Go.RowKit
set_option linter.unusedVariables false
set_option linter.unusedSimpArgs false

theorem lit_row (w : World) (p v : Nat) : RowL (w.alloc (.cells #[.int .u64 (p : Int), .int .u64 (v : Int)] 48)) (some ⟨w.heap.size, 0, none⟩) [(p, v)] 1 := by
  refine ⟨fun _ => ⟨_, _, rfl, by rw [World.size_alloc]; omega, fun i hi => ?_⟩, fun e => (by cases e), by simp, by omega⟩
  obtain rfl : i = 0 := by simpa using hi
  exact ⟨(cell_of_row _ _ _ _ _ _ (heap_alloc_new w _)).trans (by simp [atN]), (cell_of_row _ _ _ _ _ _ (heap_alloc_new w _)).trans (by simp [vlN])⟩
theorem run_append_one (w : World) (base : Nat) (x : Value) (n : Nat) (L : List (Nat × Nat)) (hown : w.ownsRow base 48 2 x n (cellVs L)) (p v : Nat) (hn : n ≤ 90000) (hb : base ≤ w.heap.size) (ty : TypeId) :
    ∃ v' w', (Builtin.append_ #[23, 23] ty #[x, .slice (some ⟨w.heap.size, 0, none⟩) 1 1]).run Try.prog (w.alloc (.cells #[.int .u64 (p : Int), .int .u64 (v : Int)] 48)) = .ok v' w' ∧
      w'.ownsRow base 48 2 v' (n + 1) (cellVs (L ++ [(p, v)])) ∧ Below base w w' := by
  obtain ⟨v', w', h1, h2, h3⟩ := run_append_cl (w.alloc (.cells #[.int .u64 (p : Int), .int .u64 (v : Int)] 48)) base x n (cellVs L) (hown.alloc _) (some ⟨w.heap.size, 0, none⟩) [(p, v)] 1 (lit_row w p v) (by simp; omega) (by rw [World.size_alloc]; omega) ty
  exact ⟨v', w', h1, by rw [cellVs_app]; exact h2, Below.grown (Below.alloc (Below.refl _ _) hb _) h3 (by rw [World.size_alloc]; omega) (fun g h => (hown.lt g h).1)⟩

def sL (p v : Nat) (L : List (Nat × Nat)) (k : Nat) : List (Nat × Nat) := (runS p v L k).1
def sD (p v : Nat) (L : List (Nat × Nat)) (k : Nat) : Bool := (runS p v L k).2
theorem sL_0 (p v : Nat) (L : List (Nat × Nat)) : sL p v L 0 = [] := by unfold sL; rw [runS_0]
theorem sD_0 (p v : Nat) (L : List (Nat × Nat)) : sD p v L 0 = (v == 0) := by unfold sD; rw [runS_0]
theorem s_insert {p v : Nat} {L : List (Nat × Nat)} {k : Nat} (hk : k < L.length) (hd : sD p v L k = false) (h : p < atN L k) : sL p v L (k + 1) = sL p v L k ++ [(p, v)] ++ [(atN L k, vlN L k)] ∧ sD p v L (k + 1) = true := by
  unfold sL sD at *
  rw [runS_succ p v L hk, stepS, hd]
  simp [h, show ¬ atN L k = p by omega]
theorem s_same {p v : Nat} {L : List (Nat × Nat)} {k : Nat} (hk : k < L.length) (h : sD p v L k = true ∨ ¬ p < atN L k) : sL p v L (k + 1) = (if atN L k = p then sL p v L k else sL p v L k ++ [(atN L k, vlN L k)]) ∧ sD p v L (k + 1) = sD p v L k := by
  unfold sL sD at *
  rw [runS_succ p v L hk, stepS]
  rcases h with h | h
  · simp [h]
  · simp [h]
theorem s_len (p v : Nat) (L : List (Nat × Nat)) (k : Nat) (hk : k ≤ L.length) : (sL p v L k).length ≤ 2 * k := by
  induction k with
  | zero => rw [sL_0]; simp
  | succ k ih =>
    have := ih (by omega)
    by_cases h : sD p v L k = false ∧ p < atN L k
    · rw [(s_insert (by omega) h.1 h.2).1]; simp; omega
    · have h' : sD p v L k = true ∨ ¬ p < atN L k := by
        cases hd : sD p v L k
        · exact .inr (fun g => h ⟨hd, g⟩)
        · exact .inl rfl
      rw [(s_same (by omega) h').1]
      split
      · omega
      · simp; omega
theorem s_v0 {p v : Nat} {L : List (Nat × Nat)} (hv : v = 0) {k : Nat} (hk : k ≤ L.length) : sD p v L k = true := by
  induction k with
  | zero => rw [sD_0, hv]; rfl
  | succ k ih => rw [(s_same (by omega) (.inl (ih (by omega)))).2]; exact ih (by omega)
theorem s_end {n p v : Nat} {L : List (Nat × Nat)} (h : RL n L) : (if sD p v L L.length = true then sL p v L L.length else sL p v L L.length ++ [(p, v)]) = cutL L p (p + 1) (if v = 0 then [] else [(p, v)]) := by
  rw [← setS h]; unfold endS sL sD; rfl
attribute [irreducible] sL sD

theorem own_row_n {w : World} {base n : Nat} {v : Value} {L : List (Nat × Nat)} (h : w.ownsRow base 48 2 v n (cellVs L)) (hl : L.length = n) : ∃ A c, v = .slice A n c ∧ RowL w A L c := by
  subst hl; exact own_row h
theorem set_own {w w' : World} {b : Nat} (hb : w.heap.size + 1 < b) {x : Value} {n : Nat} {xs : List Value} (hown : w'.ownsRow b 48 2 x n xs) (y u v : Value) :
    (((w'.setCell ⟨w.heap.size, 1, none⟩ y).setCell ⟨w.heap.size + 1, 0, none⟩ u).setCell ⟨w.heap.size + 1, 1, none⟩ v).ownsRow w.heap.size 48 2 x n xs :=
  own_mono (ownsRow_setCell_below (a := ⟨w.heap.size + 1, 1, none⟩) (ownsRow_setCell_below (a := ⟨w.heap.size + 1, 0, none⟩) (ownsRow_setCell_below (a := ⟨w.heap.size, 1, none⟩) hown (by show w.heap.size < b; omega) y) hb u) hb v) (by omega)
theorem set_ext {w w' : World} (h : Ext w w') (y u v : Value) : Ext w (((w'.setCell ⟨w.heap.size, 1, none⟩ y).setCell ⟨w.heap.size + 1, 0, none⟩ u).setCell ⟨w.heap.size + 1, 1, none⟩ v) :=
  ext_set (Below.setCell (p := ⟨w.heap.size, 1, none⟩) h (Nat.le_refl _) y) u v

set_option maxRecDepth 100000 in
set_option maxHeartbeats 4000000 in
theorem rset_c (S : Nat) (A : Option Addr) (L : List (Nat × Nat)) (c p v m : Nat) (p1 : p < 18446744073709551616) (v1 : v < 18446744073709551616) (hL : RL m L) (hn : L.length ≤ 40000) (R : List (Nat × Nat)) (hR : R = cutL L p (p + 1) (if v = 0 then [] else [(p, v)])) (w : World) (hr : RowL w A L c) :
    Calls Try.prog 34 #[.agg #[.int .u64 (S : Int), .slice A L.length c], .int .u64 (p : Int), .int .u64 (v : Int)] w (MadeM S R w) := by
  have hE0 : Hid (Ext w ((w.alloc (.cells #[.int .u64 (S : Int), .slice A L.length c] 25)).alloc (.cells #[.int .u64 0, .slice none 0 0] 25))) := Lib.hid (((Ext.refl w).alloc _).alloc _)
  obtain ⟨W, hW⟩ : ∃ W, W = (w.alloc (.cells #[.int .u64 (S : Int), .slice A L.length c] 25)).alloc (.cells #[.int .u64 0, .slice none 0 0] 25) := ⟨_, rfl⟩
  rw [← hW] at hE0
  have hs0 : W.heap.size = w.heap.size + 2 := by rw [hW, World.size_alloc, World.size_alloc]
  have HW := Lib.hid hW
  clear hW
  have hend0 : Hid ((if sD p v L L.length = true then sL p v L L.length else sL p v L L.length ++ [(p, v)]) = R) := Lib.hid (by rw [hR]; exact s_end hL)
  clear hR
  have hz0 : Hid (sD p v L 0 = (v == 0)) := Lib.hid (sD_0 p v L)
  by_cases hv : v = 0
  all_goals
    have hz1 : Hid (sD p v L 0 = decide (v = 0)) := Lib.hid (by rw [hz0.out]; cases v <;> rfl)
    go_enter Try.func34, Try.ntmps34
    go_wp2
    try (rename_i h; have : v = 0 := h; clear this h)
    have Hv := Lib.hid hv
    clear hv
    rw [← HW.out]
    go_loopw [7, 8, 9] (fun out dn i wr => ∃ k : Nat, k ≤ L.length ∧ i = .int .i64 k ∧ dn = .bool (sD p v L k) ∧ wr.ownsRow W.heap.size 48 2 out (sL p v L k).length (cellVs (sL p v L k)) ∧ Ext W wr) (fun _ _ i _ => (L.length - intOf i).toNat)
    case atStart => exact ⟨0, by omega, rfl, by rw [hz1.out]; simp [Hv.out], by rw [sL_0]; exact World.ownsRow_nil _ _ _ _, Ext.refl _⟩
    case round =>
      obtain ⟨k, hk, rfl, rfl, hown, hE⟩ := hrel
      obtain ⟨⟨hb0, hb1⟩, hb2, hb3⟩ := box_two (show Ext ((w.alloc _).alloc _) wr by rw [← HW.out]; exact hE)
      have hbW : W.heap.size ≤ wr.heap.size := hE.size
      have hlen := s_len p v L k hk
      by_cases hlt : k < L.length
      · obtain ⟨b, off, rfl, hb, hc⟩ := hr.1 (by omega)
        obtain ⟨hc1, hc2⟩ := hc k hlt
        have hEw := hE0.out.trans hE
        replace hc1 := (hEw.cell (p := ⟨b, off + k * 2, none⟩) hb).trans hc1
        replace hc2 := (hEw.cell (p := ⟨b, off + k * 2 + 1, none⟩) hb).trans hc2
        have hz : (k : Int) < (L.length : Int) := by omega
        have hAt := hL.vl_lt hlt
        clear hc hEw
        by_cases hins : sD p v L k = false ∧ p < atN L k
        · first
          | exact absurd hins.1 (by rw [s_v0 Hv.out hk]; simp)
          | obtain ⟨hD, hp⟩ := hins
            have hst := Lib.hid (s_insert hlt hD hp)
            have hd1 : decide (p < atN L k) = true := by simpa using hp
            have hd2 : (((atN L k : Nat) : Int) != (p : Int)) = true := by simp; omega
            have hd3 : (atN L k != p) = true := by simp; omega
            rw [hD]
            clear hD
            go_wp2_with (at_builtin; refine wpList_append_run' _ rfl _ _ _ rfl _ _ rfl rfl _ (run_append_one _ W.heap.size _ _ _ (by assumption) _ _ (by omega) (by omega) _) ?_; rintro v3 w3 ⟨hown3, hB3⟩; have hE := Below.trans hE hB3; have hbW := Nat.le_trans hbW hB3.size; have hb0 := (Below.cell hB3 (p := ⟨w.heap.size, 0, none⟩) (by simp; omega)).trans hb0; have hb1 := (Below.cell hB3 (p := ⟨w.heap.size, 1, none⟩) (by simp; omega)).trans hb1; have hb2 := (Below.cell hB3 (p := ⟨w.heap.size + 1, 0, none⟩) (by simp; omega)).trans hb2; have hb3 := (Below.cell hB3 (p := ⟨w.heap.size + 1, 1, none⟩) (by simp; omega)).trans hb3; have hc1 := (Below.cell hB3 (p := ⟨b, off + k * 2, none⟩) (by simp; omega)).trans hc1; have hc2 := (Below.cell hB3 (p := ⟨b, off + k * 2 + 1, none⟩) (by simp; omega)).trans hc2)
            go_roundw
            case rel => exact ⟨k + 1, by omega, by go_num, by rw [hst.out.2], by rw [hst.out.1]; simpa using hown3, hE⟩
            case measure => simp [intOf]; omega
        · have hs' : sD p v L k = true ∨ ¬ p < atN L k := by
            cases hd : sD p v L k
            · exact .inr (fun g => hins ⟨hd, g⟩)
            · exact .inl rfl
          have hst := Lib.hid (s_same hlt hs')
          by_cases he : atN L k = p
          · have hd2 : (((atN L k : Nat) : Int) != (p : Int)) = false := by simp; omega
            have hd3 : (atN L k != p) = false := by simp; omega
            have hd1 : decide (p < atN L k) = false := by simp; omega
            have hst1 : Hid (sL p v L (k + 1) = sL p v L k) := Lib.hid (by rw [hst.out.1, if_pos he])
            have hst2 := Lib.hid hst.out.2
            clear hst he hs' hins
            generalize hD : sD p v L k = D at *
            cases D
            all_goals
              go_wp2
              go_roundw
              case rel => exact ⟨k + 1, by omega, by go_num, by rw [hst2.out], by rw [hst1.out]; exact hown, hE⟩
              case measure => simp [intOf]; omega
          · have hd2 : (((atN L k : Nat) : Int) != (p : Int)) = true := by simp; omega
            have hd3 : (atN L k != p) = true := by simp; omega
            have hst1 : Hid (sL p v L (k + 1) = sL p v L k ++ [(atN L k, vlN L k)]) := Lib.hid (by rw [hst.out.1, if_neg he])
            have hst2 := Lib.hid hst.out.2
            clear hst he hins
            rcases hs' with hD | hD
            · rw [hD] at hst2
              rw [hD]
              clear hD
              go_wp2_with (at_builtin; refine wpList_append_run' _ rfl _ _ _ rfl _ _ rfl rfl _ (run_append_one _ W.heap.size _ _ _ (by assumption) _ _ (by omega) (by omega) _) ?_; rintro v3 w3 ⟨hown3, hB3⟩; have hE := Below.trans hE hB3; have hbW := Nat.le_trans hbW hB3.size; have hb0 := (Below.cell hB3 (p := ⟨w.heap.size, 0, none⟩) (by simp; omega)).trans hb0; have hb1 := (Below.cell hB3 (p := ⟨w.heap.size, 1, none⟩) (by simp; omega)).trans hb1; have hb2 := (Below.cell hB3 (p := ⟨w.heap.size + 1, 0, none⟩) (by simp; omega)).trans hb2; have hb3 := (Below.cell hB3 (p := ⟨w.heap.size + 1, 1, none⟩) (by simp; omega)).trans hb3; have hc1 := (Below.cell hB3 (p := ⟨b, off + k * 2, none⟩) (by simp; omega)).trans hc1; have hc2 := (Below.cell hB3 (p := ⟨b, off + k * 2 + 1, none⟩) (by simp; omega)).trans hc2)
              go_roundw
              case rel => exact ⟨k + 1, by omega, by go_num, by rw [hst2.out], by rw [hst1.out]; simpa using hown3, hE⟩
              case measure => simp [intOf]; omega
            · have hd1 : decide (p < atN L k) = false := by simpa using hD
              generalize hD2 : sD p v L k = D at *
              clear hD
              cases D
              all_goals
                go_wp2_with (at_builtin; refine wpList_append_run' _ rfl _ _ _ rfl _ _ rfl rfl _ (run_append_one _ W.heap.size _ _ _ (by assumption) _ _ (by omega) (by omega) _) ?_; rintro v3 w3 ⟨hown3, hB3⟩; have hE := Below.trans hE hB3; have hbW := Nat.le_trans hbW hB3.size; have hb0 := (Below.cell hB3 (p := ⟨w.heap.size, 0, none⟩) (by simp; omega)).trans hb0; have hb1 := (Below.cell hB3 (p := ⟨w.heap.size, 1, none⟩) (by simp; omega)).trans hb1; have hb2 := (Below.cell hB3 (p := ⟨w.heap.size + 1, 0, none⟩) (by simp; omega)).trans hb2; have hb3 := (Below.cell hB3 (p := ⟨w.heap.size + 1, 1, none⟩) (by simp; omega)).trans hb3; have hc1 := (Below.cell hB3 (p := ⟨b, off + k * 2, none⟩) (by simp; omega)).trans hc1; have hc2 := (Below.cell hB3 (p := ⟨b, off + k * 2 + 1, none⟩) (by simp; omega)).trans hc2)
                go_roundw
                case rel => exact ⟨k + 1, by omega, by go_num, by rw [hst2.out], by rw [hst1.out]; simpa using hown3, hE⟩
                case measure => simp [intOf]; omega
      · have hk' : k = L.length := by omega
        subst hk'
        have hend := hend0
        cases hD : sD p v L L.length
        · first
          | exact absurd hD (by rw [s_v0 Hv.out (Nat.le_refl _)]; simp)
          | rw [hD] at hend
            go_wp2_with (at_builtin; refine wpList_append_run' _ rfl _ _ _ rfl _ _ rfl rfl _ (run_append_one _ W.heap.size _ _ _ (by assumption) _ _ (by omega) (by omega) _) ?_; rintro v3 w3 ⟨hown3, hB3⟩; have hE := Below.trans hE hB3; have hbW := Nat.le_trans hbW hB3.size; have hb0 := (Below.cell hB3 (p := ⟨w.heap.size, 0, none⟩) (by simp; omega)).trans hb0; have hb1 := (Below.cell hB3 (p := ⟨w.heap.size, 1, none⟩) (by simp; omega)).trans hb1; have hb2 := (Below.cell hB3 (p := ⟨w.heap.size + 1, 0, none⟩) (by simp; omega)).trans hb2; have hb3 := (Below.cell hB3 (p := ⟨w.heap.size + 1, 1, none⟩) (by simp; omega)).trans hb3; obtain ⟨A4, c4, rfl, hr4⟩ := own_row_n hown3 (by simp); have hx0 := ext_blk0 (show Ext ((w.alloc _).alloc _) w3 by rw [← HW.out]; exact hE); have hx1 := ext_blk (show Ext ((w.alloc _).alloc _) w3 by rw [← HW.out]; exact hE); have hf01 := frozen_of_row w3 _ 1 _ _ hx0; have hf10 := frozen_of_row w3 _ 0 _ _ hx1; have hf11 := frozen_of_row w3 _ 1 _ _ hx1)
            have Hown : Hid (w3.ownsRow W.heap.size 48 2 (.slice A4 ((sL p v L L.length).length + 1) c4) R.length (cellVs R)) := Lib.hid (by rw [← hend.out]; simpa using hown3)
            (try simp only [Exit.inBlock, Exit.then]); refine bodyPost_ret (results_cell_row rfl _ _ _ _ _ _ _ rfl (set_two ((Below.heap_setCell _ _ _ _ (by simp)).trans hx1) _ _) Try.underlying25 rfl (by kernel_rfl)) rfl ?_; exact ⟨_, rfl, set_own (w := w) (b := W.heap.size) (by omega) (Hown.out) _ _ _, set_ext (hE0.out.trans hE) _ _ _⟩
        · rw [hD] at hend
          obtain ⟨A4, c4, rfl, hr4⟩ := own_row hown
          have hx0 := ext_blk0 (show Ext ((w.alloc _).alloc _) wr by rw [← HW.out]; exact hE); have hx1 := ext_blk (show Ext ((w.alloc _).alloc _) wr by rw [← HW.out]; exact hE); have hf01 := frozen_of_row wr _ 1 _ _ hx0; have hf10 := frozen_of_row wr _ 0 _ _ hx1; have hf11 := frozen_of_row wr _ 1 _ _ hx1
          have Hown : Hid (wr.ownsRow W.heap.size 48 2 (.slice A4 (sL p v L L.length).length c4) R.length (cellVs R)) := Lib.hid (by rw [← hend.out]; simpa using hown)
          go_wp2
          (try simp only [Exit.inBlock, Exit.then]); refine bodyPost_ret (results_cell_row rfl _ _ _ _ _ _ _ rfl (set_two ((Below.heap_setCell _ _ _ _ (by simp)).trans hx1) _ _) Try.underlying25 rfl (by kernel_rfl)) rfl ?_; exact ⟨_, rfl, set_own (w := w) (b := W.heap.size) (by omega) (Hown.out) _ _ _, set_ext (hE0.out.trans hE) _ _ _⟩
end Go.Proofs.Ytcodgmahegofjaa
