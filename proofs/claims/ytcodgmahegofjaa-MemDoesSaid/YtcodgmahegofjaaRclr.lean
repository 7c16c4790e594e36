/- The document's answers for layer 3: Clear, Right. -/
import Derived.Test.YtcodgmahegofjaaRset
namespace Go.Proofs.Ytcodgmahegofjaa
open Go.ChangeShapes Go.WideShapes Go.ChangeAt Go.RowKit
set_option linter.unusedVariables false
set_option linter.unusedSimpArgs false

/-- the cells that stay, of the first k -/
def kL (a b : Nat) (L : List (Nat × Nat)) (k : Nat) : List (Nat × Nat) := (L.take k).filter fun c => decide (8 * c.1 < a) || decide (b ≤ 8 * c.1)
theorem kL_0 (a b : Nat) (L : List (Nat × Nat)) : kL a b L 0 = [] := by simp [kL]
theorem kL_yes {a b : Nat} {L : List (Nat × Nat)} {k : Nat} (hk : k < L.length) (h : 8 * atN L k < a ∨ b ≤ 8 * atN L k) : kL a b L (k + 1) = kL a b L k ++ [(atN L k, vlN L k)] := by
  unfold kL
  rw [List.take_succ_eq_append_getElem hk, List.filter_append, cell_get hk]
  simp [h]
theorem kL_no {a b : Nat} {L : List (Nat × Nat)} {k : Nat} (hk : k < L.length) (h : ¬ (8 * atN L k < a ∨ b ≤ 8 * atN L k)) : kL a b L (k + 1) = kL a b L k := by
  unfold kL
  rw [List.take_succ_eq_append_getElem hk, List.filter_append, cell_get hk]
  simp [h]
theorem kL_len (a b : Nat) (L : List (Nat × Nat)) (k : Nat) (hk : k ≤ L.length) : (kL a b L k).length ≤ k := by
  unfold kL
  refine Nat.le_trans (List.length_filter_le _ _) ?_
  simp; omega
theorem kL_end {n p q : Nat} {L : List (Nat × Nat)} (h : RL n L) (hpq : p ≤ q) : kL (8 * p) (8 * q) L L.length = clearL L p q := by
  unfold kL; rw [List.take_length]; exact clearS h hpq
attribute [irreducible] kL

set_option maxRecDepth 100000 in
set_option maxHeartbeats 4000000 in
theorem rclear_c (S : Nat) (A : Option Addr) (L : List (Nat × Nat)) (c p d m : Nat) (hp : 8 * p + 8 * d < 1152921504606846976) (hm : m ≤ 1152921504606846976) (hL : RL m L) (hn : L.length ≤ 40000) (w : World) (hr : RowL w A L c) :
    Calls Try.prog 23 #[.agg #[.int .u64 (S : Int), .slice A L.length c], .int .u64 ((8 * p : Nat) : Int), .int .u64 ((8 * d : Nat) : Int)] w (MadeM S (clearL L p (p + d)) w) := by
  have hE0 : Hid (Ext w ((w.alloc (.cells #[.int .u64 (S : Int), .slice A L.length c] 25)).alloc (.cells #[.int .u64 0, .slice none 0 0] 25))) := Lib.hid (((Ext.refl w).alloc _).alloc _)
  obtain ⟨W, hW⟩ : ∃ W, W = (w.alloc (.cells #[.int .u64 (S : Int), .slice A L.length c] 25)).alloc (.cells #[.int .u64 0, .slice none 0 0] 25) := ⟨_, rfl⟩
  rw [← hW] at hE0
  have hs0 : W.heap.size = w.heap.size + 2 := by rw [hW, World.size_alloc, World.size_alloc]
  have HW := Lib.hid hW
  clear hW
  obtain ⟨a, ha⟩ : ∃ a, a = 8 * p := ⟨_, rfl⟩
  obtain ⟨b0, hb0⟩ : ∃ b0, b0 = 8 * d := ⟨_, rfl⟩
  obtain ⟨R, hR⟩ : ∃ R, R = clearL L p (p + d) := ⟨_, rfl⟩
  have hend : Hid (kL a (a + b0) L L.length = R) := Lib.hid (by rw [hR, ha, hb0, show 8 * p + 8 * d = 8 * (p + d) by omega]; exact kL_end hL (by omega))
  rw [← hR, ← ha, ← hb0]
  have hab : a + b0 < 1152921504606846976 := by omega
  clear hR ha hb0 hp
  go_enter Try.func23, Try.ntmps23
  go_wp2
  rw [← HW.out]
  go_loopw [7, 8] (fun out i wr => ∃ k : Nat, k ≤ L.length ∧ i = .int .i64 k ∧ wr.ownsRow W.heap.size 48 2 out (kL a (a + b0) L k).length (cellVs (kL a (a + b0) L k)) ∧ Ext W wr) (fun _ i _ => (L.length - intOf i).toNat)
  case atStart => exact ⟨0, by omega, rfl, by rw [kL_0]; exact World.ownsRow_nil _ _ _ _, Ext.refl _⟩
  case round =>
    obtain ⟨k, hk, rfl, hown, hE⟩ := hrel
    obtain ⟨⟨hb0, hb1⟩, hb2, hb3⟩ := box_two (show Ext ((w.alloc _).alloc _) wr by rw [← HW.out]; exact hE)
    have hbW : W.heap.size ≤ wr.heap.size := hE.size
    have hlen := kL_len a (a + b0) L k hk
    by_cases hlt : k < L.length
    · obtain ⟨b, off, rfl, hb, hc⟩ := hr.1 (by omega)
      obtain ⟨hc1, hc2⟩ := hc k hlt
      have hEw := hE0.out.trans hE
      replace hc1 := (hEw.cell (p := ⟨b, off + k * 2, none⟩) hb).trans hc1
      replace hc2 := (hEw.cell (p := ⟨b, off + k * 2 + 1, none⟩) hb).trans hc2
      have hz : (k : Int) < (L.length : Int) := by omega
      have hVl := hL.vl_lt hlt
      have hAt := Nat.lt_of_lt_of_le (hL.at_lt hlt) hm
      clear hc hEw
      by_cases h1 : 8 * atN L k < a
      · have hst := Lib.hid (kL_yes (a := a) (b := a + b0) hlt (.inl h1))
        have hd1 : decide (8 * ((atN L k : Nat) : Int) < (a : Int)) = true := by simp; omega
        go_wp2_with (at_builtin; refine wpList_append_run' _ rfl _ _ _ rfl _ _ rfl rfl _ (run_append_one _ W.heap.size _ _ _ (by assumption) _ _ (by omega) (by omega) _) ?_; rintro v3 w3 ⟨hown3, hB3⟩; have hE := Below.trans hE hB3; have hbW := Nat.le_trans hbW hB3.size; have hb0 := (Below.cell hB3 (p := ⟨w.heap.size, 0, none⟩) (by simp; omega)).trans hb0; have hb1 := (Below.cell hB3 (p := ⟨w.heap.size, 1, none⟩) (by simp; omega)).trans hb1; have hb2 := (Below.cell hB3 (p := ⟨w.heap.size + 1, 0, none⟩) (by simp; omega)).trans hb2; have hb3 := (Below.cell hB3 (p := ⟨w.heap.size + 1, 1, none⟩) (by simp; omega)).trans hb3; have hc1 := (Below.cell hB3 (p := ⟨b, off + k * 2, none⟩) (by simp; omega)).trans hc1; have hc2 := (Below.cell hB3 (p := ⟨b, off + k * 2 + 1, none⟩) (by simp; omega)).trans hc2)
        go_roundw
        case rel => exact ⟨k + 1, by omega, by go_num, by rw [hst.out]; simpa using hown3, hE⟩
        case measure => simp [intOf]; omega
      · have hd1 : decide (8 * ((atN L k : Nat) : Int) < (a : Int)) = false := by simp; omega
        by_cases h2 : a + b0 ≤ 8 * atN L k
        · have hst := Lib.hid (kL_yes (a := a) (b := a + b0) hlt (.inr h2))
          have hd2 : decide ((a : Int) + (b0 : Int) ≤ 8 * ((atN L k : Nat) : Int)) = true := by simp; omega
          go_wp2_with (at_builtin; refine wpList_append_run' _ rfl _ _ _ rfl _ _ rfl rfl _ (run_append_one _ W.heap.size _ _ _ (by assumption) _ _ (by omega) (by omega) _) ?_; rintro v3 w3 ⟨hown3, hB3⟩; have hE := Below.trans hE hB3; have hbW := Nat.le_trans hbW hB3.size; have hb0 := (Below.cell hB3 (p := ⟨w.heap.size, 0, none⟩) (by simp; omega)).trans hb0; have hb1 := (Below.cell hB3 (p := ⟨w.heap.size, 1, none⟩) (by simp; omega)).trans hb1; have hb2 := (Below.cell hB3 (p := ⟨w.heap.size + 1, 0, none⟩) (by simp; omega)).trans hb2; have hb3 := (Below.cell hB3 (p := ⟨w.heap.size + 1, 1, none⟩) (by simp; omega)).trans hb3; have hc1 := (Below.cell hB3 (p := ⟨b, off + k * 2, none⟩) (by simp; omega)).trans hc1; have hc2 := (Below.cell hB3 (p := ⟨b, off + k * 2 + 1, none⟩) (by simp; omega)).trans hc2)
          go_roundw
          case rel => exact ⟨k + 1, by omega, by go_num, by rw [hst.out]; simpa using hown3, hE⟩
          case measure => simp [intOf]; omega
        · have hst := Lib.hid (kL_no (a := a) (b := a + b0) hlt (by omega))
          have hd2 : decide ((a : Int) + (b0 : Int) ≤ 8 * ((atN L k : Nat) : Int)) = false := by simp; omega
          go_wp2
          go_roundw
          case rel => exact ⟨k + 1, by omega, by go_num, by rw [hst.out]; exact hown, hE⟩
          case measure => simp [intOf]; omega
    · have hk' : k = L.length := by omega
      subst hk'
      obtain ⟨A4, c4, rfl, hr4⟩ := own_row hown
      have hx0 := ext_blk0 (show Ext ((w.alloc _).alloc _) wr by rw [← HW.out]; exact hE); have hx1 := ext_blk (show Ext ((w.alloc _).alloc _) wr by rw [← HW.out]; exact hE); have hf01 := frozen_of_row wr _ 1 _ _ hx0; have hf10 := frozen_of_row wr _ 0 _ _ hx1; have hf11 := frozen_of_row wr _ 1 _ _ hx1
      have Hown : Hid (wr.ownsRow W.heap.size 48 2 (.slice A4 (kL a (a + b0) L L.length).length c4) R.length (cellVs R)) := Lib.hid (by rw [← hend.out]; exact hown)
      clear hown hr4
      go_wp2
      (try simp only [Exit.inBlock, Exit.then]); refine bodyPost_ret (results_cell_row rfl _ _ _ _ _ _ _ rfl (set_two ((Below.heap_setCell _ _ _ _ (by simp)).trans hx1) _ _) Try.underlying25 rfl (by kernel_rfl)) rfl ?_; exact ⟨_, rfl, set_own (w := w) (b := W.heap.size) (by omega) (Hown.out) _ _ _, set_ext (hE0.out.trans hE) _ _ _⟩

theorem not_ok4 {S : Nat} {L : List (Nat × Nat)} {j : Nat} (h : atN L (j + 1) ≤ atN L j) : ¬ okAt S L (j + 1) := fun g => by
  unfold okAt at g
  have := g.2.2
  simp at this; omega
theorem yes_ok0 {S : Nat} {L : List (Nat × Nat)} (h1 : ¬ vlN L 0 = 0) (h3 : ¬ S / 8 ≤ atN L 0) : okAt S L 0 := by
  unfold okAt; exact ⟨h1, by omega, .inl rfl⟩
theorem yes_ok1 {S : Nat} {L : List (Nat × Nat)} {j : Nat} (h1 : ¬ vlN L (j + 1) = 0) (h3 : ¬ S / 8 ≤ atN L (j + 1)) (h : ¬ atN L (j + 1) ≤ atN L j) : okAt S L (j + 1) := by
  unfold okAt; exact ⟨h1, by omega, .inr (by simp; omega)⟩

set_option maxRecDepth 100000 in
set_option maxHeartbeats 4000000 in
theorem rright_c (S : Nat) (A : Option Addr) (L : List (Nat × Nat)) (c : Nat) (hS : S < 18446744073709551616) (hL : IsCells L) (hn : L.length ≤ 4611686018427387904) (w : World) (hs : ClB w A L) :
    Calls Try.prog 12 #[.agg #[.int .u64 (S : Int), .slice A L.length c]] w fun e w' => e = .returned (.bool (decide (RightM S L))) ∧ Ext w w' := by
  have hE0 : Hid (Ext w (w.alloc (.cells #[.int .u64 (S : Int), .slice A L.length c] 25))) := Lib.hid ((Ext.refl w).alloc _)
  by_cases h1 : S % 4096 = 0
  case neg =>
    have H := Lib.hid (not_size (L := L) (S := S) (fun g => h1 g.1))
    have hd : ((S : Int) % 4096 != 0) = true := by simp; omega
    go_enter Try.func12, Try.ntmps12
    go_wp2
    go_ret
    exact ⟨by rw [H.out]; rfl, hE0.out⟩
  have hd : ((S : Int) % 4096 != 0) = false := by simp; omega
  by_cases h2 : S ≤ 1099511627776
  case neg =>
    have H := Lib.hid (not_size (L := L) (S := S) (fun g => h2 g.2))
    have hd2 : decide ((1099511627776 : Int) < (S : Int)) = true := by simp; omega
    go_enter Try.func12, Try.ntmps12
    go_wp2
    go_ret
    exact ⟨by rw [H.out]; rfl, hE0.out⟩
  have hd2 : decide ((1099511627776 : Int) < (S : Int)) = false := by simp; omega
  have hSz : Hid (SizeOk S) := Lib.hid ⟨h1, h2⟩
  clear h1
  go_enter Try.func12, Try.ntmps12
  go_wp2
  go_loopw [3] (fun i wr => ∃ k : Nat, k ≤ L.length ∧ i = .int .i64 k ∧ Hid (∀ i, i < k → okAt S L i) ∧ Ext (w.alloc (.cells #[.int .u64 (S : Int), .slice A L.length c] 25)) wr) (fun i _ => (L.length - intOf i).toNat)
  case atStart => exact ⟨0, by omega, rfl, Lib.hid (fun i hi => by omega), Ext.refl _⟩
  case round =>
    obtain ⟨k, hk, rfl, hok, hE⟩ := hrel
    obtain ⟨hb0, hb1⟩ := box_mem hE
    by_cases hlt : k < L.length
    · obtain ⟨b, off, rfl, hb, hc⟩ := (hs.ext (hE0.out.trans hE)) (by omega)
      obtain ⟨hc1, hc2⟩ := hc k hlt
      have hAt := (hL k hlt).1
      have hVl := (hL k hlt).2
      have hz : (k : Int) < (L.length : Int) := by omega
      have HE := Lib.hid hE
      clear hE hs
      by_cases hv : vlN L k = 0
      · have H := Lib.hid (not_at (S := S) hlt (not_ok1 hv))
        have hdv : (((vlN L k : Nat) : Int) == 0) = true := by simp; omega
        clear hc
        go_wp2
        go_quiet (fail)
        go_wp2
        go_ret
        exact ⟨by rw [H.out]; rfl, (hE0.out.trans HE.out).drewN _⟩
      have hdv : (((vlN L k : Nat) : Int) == 0) = false := by simp; omega
      by_cases h4 : S / 8 ≤ atN L k
      · have H := Lib.hid (not_at (S := S) hlt (not_ok3 h4))
        have hd4 : decide ((S : Int) / 8 ≤ ((atN L k : Nat) : Int)) = true := by simp; omega
        clear hv h4 hc
        go_wp2
        go_quiet (fail)
        go_wp2
        go_ret
        exact ⟨by rw [H.out]; rfl, (hE0.out.trans HE.out).drewN _⟩
      have hd4 : decide ((S : Int) / 8 ≤ ((atN L k : Nat) : Int)) = false := by simp; omega
      rcases k with _ | j
      · have hk1 : Hid (∀ i, i < 0 + 1 → okAt S L i) := Lib.hid fun i hi => by
          obtain rfl : i = 0 := by omega
          exact yes_ok0 hv h4
        clear hv h4 hc
        rw [Nat.zero_mul, Nat.add_zero] at hc1 hc2
        go_wp2
        go_quiet (fail)
        go_wp2
        go_roundw
        case rel => exact ⟨0 + 1, by omega, by go_num, hk1, HE.out.drewN _⟩
        case measure => simp [intOf]; omega
      · obtain ⟨hc3, hc4⟩ := hc j (by omega)
        have hw1 : IntKind.i64.wrap ((j : Int) + 1 - 1) = (j : Int) := by rw [IntKind.wrap_i64]; omega
        have hw2 : ((j : Int) + 1 - 1) = (j : Int) := by omega
        by_cases h5 : atN L (j + 1) ≤ atN L j
        · have H := Lib.hid (not_at (S := S) hlt (not_ok4 h5))
          have hd5 : decide (atN L (j + 1) ≤ atN L j) = true := by simpa using h5
          clear hv h4 hc
          go_wp2
          go_quiet (fail)
          go_wp2
          go_ret
          exact ⟨by rw [H.out]; rfl, (hE0.out.trans HE.out).drewN _⟩
        · have hk1 : Hid (∀ i, i < j + 1 + 1 → okAt S L i) := Lib.hid fun i hi => by
            by_cases e : i = j + 1
            · subst e; exact yes_ok1 hv h4 h5
            · exact hok.out i (by omega)
          have hd5 : decide (atN L (j + 1) ≤ atN L j) = false := by simpa using h5
          clear hv h4 hc h5
          go_wp2
          go_quiet (fail)
          go_wp2
          go_roundw
          case rel => exact ⟨j + 1 + 1, by omega, by go_num, hk1, HE.out.drewN _⟩
          case measure => simp [intOf]; omega
    · have hk' : k = L.length := by omega
      subst hk'
      have H := Lib.hid (is_right hSz.out hok.out)
      have HE := Lib.hid hE
      clear hE hlt hk
      go_wp2
      go_ret
      exact ⟨by rw [H.out]; rfl, hE0.out.trans HE.out⟩
end Go.Proofs.Ytcodgmahegofjaa
