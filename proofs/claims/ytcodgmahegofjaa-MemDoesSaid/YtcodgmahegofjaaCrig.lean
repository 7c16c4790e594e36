/- Package mem: Right, New; Store's errors. -/
import Derived.Test.YtcodgmahegofjaaCstr
namespace Go.Proofs.Ytcodgmahegofjaa
open Go.ChangeShapes Go.WideShapes Go.ChangeAt Go.RowKit
set_option linter.unusedVariables false
set_option linter.unusedSimpArgs false

def SizeOk (S : Nat) : Prop := S % 4096 = 0 ∧ S ≤ 1099511627776
instance (S : Nat) : Decidable (SizeOk S) := by unfold SizeOk; infer_instance
def okAt (S : Nat) (L : List (Nat × Nat)) (i : Nat) : Prop := vlN L i ≠ 0 ∧ atN L i < S / 8 ∧ (i = 0 ∨ atN L (i - 1) < atN L i)
instance (S : Nat) (L : List (Nat × Nat)) (i : Nat) : Decidable (okAt S L i) := by unfold okAt; infer_instance
def RightM (S : Nat) (L : List (Nat × Nat)) : Prop := SizeOk S ∧ ∀ i, i < L.length → okAt S L i
instance (S : Nat) (L : List (Nat × Nat)) : Decidable (RightM S L) := by unfold RightM; infer_instance
def IsCells (L : List (Nat × Nat)) : Prop := ∀ i, i < L.length → atN L i < 18446744073709551616 ∧ vlN L i < 18446744073709551616
theorem RightM.rl {S : Nat} {L : List (Nat × Nat)} (h : RightM S L) (hc : IsCells L) : RL (S / 8) L := by
  have key : ∀ j i, i < j → j < L.length → atN L i < atN L j := by
    intro j
    induction j with
    | zero => intro i hi; omega
    | succ j ih =>
      intro i hi hj
      have h1 := (h.2 (j + 1) hj).2.2
      rw [Nat.add_sub_cancel] at h1
      by_cases e : i = j
      · subst e; omega
      · have := ih i (by omega) (by omega); omega
  refine ⟨List.pairwise_iff_getElem.2 fun i j hi hj hij => ?_, fun c hcm => ?_⟩
  · rw [← atN_get hi, ← atN_get hj]; exact key j i hij hj
  · obtain ⟨i, hi, rfl⟩ := List.mem_iff_getElem.1 hcm
    rw [← atN_get hi, ← vlN_get hi]
    have h1 := h.2 i hi
    exact ⟨h1.1, (hc i hi).2, h1.2.1⟩
theorem RL.rightM {S : Nat} {L : List (Nat × Nat)} (h : RL (S / 8) L) (hS : SizeOk S) : RightM S L := by
  refine ⟨hS, fun i hi => ⟨?_, h.at_lt hi, ?_⟩⟩
  · rw [vlN_get hi]; exact (h.2 _ (List.getElem_mem hi)).1
  · by_cases e : i = 0
    · exact .inl e
    · exact .inr (h.rise (by omega) hi)
theorem RL.isCells {n : Nat} {L : List (Nat × Nat)} (h : RL n L) (hn : n ≤ 18446744073709551616) : IsCells L := fun i hi => ⟨Nat.lt_of_lt_of_le (h.at_lt hi) hn, h.vl_lt hi⟩

theorem not_size {S : Nat} {L : List (Nat × Nat)} (h : ¬ SizeOk S) : decide (RightM S L) = false := by simp; exact fun g => h g.1
theorem not_at {S : Nat} {L : List (Nat × Nat)} {i : Nat} (hi : i < L.length) (h : ¬ okAt S L i) : decide (RightM S L) = false := by simp; exact fun g => h (g.2 i hi)
theorem is_right {S : Nat} {L : List (Nat × Nat)} (hS : SizeOk S) (h : ∀ i, i < L.length → okAt S L i) : decide (RightM S L) = true := by simp; exact ⟨hS, h⟩
attribute [irreducible] RightM okAt

/-- the lowest place that the next cell may have -/
def nextN (L : List (Nat × Nat)) (k : Nat) : Nat := if k = 0 then 0 else atN L (k - 1) + 1

theorem not_ok1 {S : Nat} {L : List (Nat × Nat)} {k : Nat} (h : vlN L k = 0) : ¬ okAt S L k := fun g => by unfold okAt at g; exact g.1 h
theorem not_ok2 {S : Nat} {L : List (Nat × Nat)} {k : Nat} (h : atN L k < nextN L k) : ¬ okAt S L k := fun g => by
  unfold okAt at g; unfold nextN at h
  have := g.2.2
  split at h <;> omega
theorem not_ok3 {S : Nat} {L : List (Nat × Nat)} {k : Nat} (h : S / 8 ≤ atN L k) : ¬ okAt S L k := fun g => by unfold okAt at g; have := g.2.1; omega
theorem yes_ok {S : Nat} {L : List (Nat × Nat)} {k : Nat} (h1 : ¬ vlN L k = 0) (h2 : ¬ atN L k < nextN L k) (h3 : ¬ S / 8 ≤ atN L k) : okAt S L k := by
  unfold okAt; unfold nextN at h2
  refine ⟨h1, by omega, ?_⟩
  split at h2 <;> omega
attribute [irreducible] nextN

set_option maxRecDepth 100000 in
set_option maxHeartbeats 4000000 in
theorem right_c (S : Nat) (A : Option Addr) (L : List (Nat × Nat)) (c : Nat) (hS : S < 18446744073709551616) (hL : IsCells L) (hn : L.length ≤ 4611686018427387904) (w : World) (hs : ClB w A L) :
    Calls Try.prog 14 #[.agg #[.int .u64 (S : Int), .slice A L.length c]] w fun e w' => e = .returned (.bool (decide (RightM S L))) ∧ Ext w w' := by
  have hE0 : Hid (Ext w (w.alloc (.cells #[.int .u64 (S : Int), .slice A L.length c] 25))) := Lib.hid ((Ext.refl w).alloc _)
  by_cases h1 : S % 4096 = 0
  case neg =>
    have H := Lib.hid (not_size (L := L) (S := S) (fun g => h1 g.1))
    have hd : ((S : Int) % 4096 != 0) = true := by simp; omega
    go_enter Try.func14, Try.ntmps14
    go_wp2
    go_ret
    exact ⟨by rw [H.out]; rfl, hE0.out⟩
  have hd : ((S : Int) % 4096 != 0) = false := by simp; omega
  by_cases h2 : S ≤ 1099511627776
  case neg =>
    have H := Lib.hid (not_size (L := L) (S := S) (fun g => h2 g.2))
    have hd2 : decide ((1099511627776 : Int) < (S : Int)) = true := by simp; omega
    go_enter Try.func14, Try.ntmps14
    go_wp2
    go_ret
    exact ⟨by rw [H.out]; rfl, hE0.out⟩
  have hd2 : decide ((1099511627776 : Int) < (S : Int)) = false := by simp; omega
  have hSz : Hid (SizeOk S) := Lib.hid ⟨h1, h2⟩
  have hS8 : S / 8 ≤ 137438953472 := by omega
  clear h1
  go_enter Try.func14, Try.ntmps14
  go_wp2
  go_loopw [3, 18] (fun nx i wr => ∃ k : Nat, k ≤ L.length ∧ i = .int .i64 k ∧ nx = .int .u64 ((nextN L k : Nat) : Int) ∧ Hid (∀ i, i < k → okAt S L i) ∧ Ext (w.alloc (.cells #[.int .u64 (S : Int), .slice A L.length c] 25)) wr) (fun _ i _ => (L.length - intOf i).toNat)
  case atStart => exact ⟨0, by omega, rfl, by unfold nextN; rfl, Lib.hid (fun i hi => by omega), Ext.refl _⟩
  case round =>
    obtain ⟨k, hk, rfl, rfl, hok, hE⟩ := hrel
    obtain ⟨hb0, hb1⟩ := box_mem hE
    by_cases hlt : k < L.length
    · obtain ⟨b, off, rfl, hb, hc⟩ := (hs.ext (hE0.out.trans hE)) (by omega)
      obtain ⟨hc1, hc2⟩ := hc k hlt
      have hAt := (hL k hlt).1
      have hVl := (hL k hlt).2
      have hz : (k : Int) < (L.length : Int) := by omega
      have HE := Lib.hid hE
      clear hE hc hs
      have hlw : w.heap.size < wr.heap.size := by have h := HE.out.size; rw [World.size_alloc] at h; omega
      by_cases hv : vlN L k = 0
      · have H := Lib.hid (not_at (S := S) hlt (not_ok1 hv))
        have hdv : (((vlN L k : Nat) : Int) == 0) = true := by simp; omega
        go_wp2
        go_ret
        exact ⟨by rw [H.out]; rfl, (hE0.out.trans HE.out).alloc _⟩
      have hdv : (((vlN L k : Nat) : Int) == 0) = false := by simp; omega
      by_cases h3 : atN L k < nextN L k
      · have H := Lib.hid (not_at (S := S) hlt (not_ok2 h3))
        have hd3 : decide (atN L k < nextN L k) = true := by simpa using h3
        clear hv h3
        go_wp2
        go_ret
        exact ⟨by rw [H.out]; rfl, (hE0.out.trans HE.out).alloc _⟩
      have hd3 : decide (atN L k < nextN L k) = false := by simpa using h3
      by_cases h4 : S / 8 ≤ atN L k
      · have H := Lib.hid (not_at (S := S) hlt (not_ok3 h4))
        have hd4 : decide ((S : Int) / 8 ≤ ((atN L k : Nat) : Int)) = true := by simp; omega
        clear hv h3 h4
        go_wp2
        go_ret
        exact ⟨by rw [H.out]; rfl, (hE0.out.trans HE.out).alloc _⟩
      · have hd4 : decide ((S : Int) / 8 ≤ ((atN L k : Nat) : Int)) = false := by simp; omega
        have hk1 : Hid (∀ i, i < k + 1 → okAt S L i) := Lib.hid fun i hi => by
          by_cases e : i = k
          · subst e; exact yes_ok hv h3 h4
          · exact hok.out i (by omega)
        have hn1 : Hid (nextN L (k + 1) = atN L k + 1) := Lib.hid (by unfold nextN; simp)
        have hAt2 : atN L k < 137438953472 := by omega
        clear hv h3 h4
        go_wp2
        go_roundw
        case rel => exact ⟨k + 1, by omega, by go_num, by rw [hn1.out]; go_num, hk1, HE.out.alloc _⟩
        case measure => simp [intOf]; omega
    · have hk' : k = L.length := by omega
      subst hk'
      have H := Lib.hid (is_right hSz.out hok.out)
      have HE := Lib.hid hE
      clear hE hlt hk
      go_wp2
      go_ret
      exact ⟨by rw [H.out]; rfl, hE0.out.trans HE.out⟩

theorem ext_blk0 {w w' : World} {o1 o2 : Obj} (h : Ext ((w.alloc o1).alloc o2) w') : w'.heap[w.heap.size]? = some o1 := by
  rw [h.block w.heap.size (by rw [World.size_alloc, World.size_alloc]; omega)]
  exact (Below.heap_alloc (w.alloc o1) o2 w.heap.size (by rw [World.size_alloc]; omega)).trans (heap_alloc_new w o1)
theorem rightM_nil {S : Nat} (h : SizeOk S) : decide (RightM S []) = true := is_right h (fun i hi => by simp at hi)
/-- New -/
theorem new_c (n : Nat) (n1 : n < 18446744073709551616) (w : World) :
    Calls Try.prog 11 #[.int .u64 (n : Int)] w fun e w' => e = .returned (.tuple #[.agg #[.int .u64 (((if SizeOk n then n else 0) : Nat) : Int), .slice none 0 0], .int .i64 (((if SizeOk n then 0 else 1) : Nat) : Int)]) ∧ Ext w w' := by
  have hc0 : IsCells [] := fun i hi => by simp at hi
  by_cases h : SizeOk n
  · rw [if_pos h, if_pos h]
    have hR := rightM_nil h
    go_enter Try.func11, Try.ntmps11
    go_wp2_with fail
    refine (right_c n none [] 0 n1 hc0 (by simp) _ (fun h => absurd h (by simp))).mono ?_
    rintro e w1 ⟨rfl, hE⟩
    rw [hR]
    have hW : w1.heap[w.heap.size]? = some (.cells #[.int .u64 0, .slice none 0 0] 25) := ext_blk0 hE
    have hW2 : w1.heap[w.heap.size + 1]? = some (.cells #[.int .u64 (n : Int), .slice none 0 0] 25) := ext_blk hE
    have hz0 := (cell_of_row w1 _ 0 _ _ _ hW).trans rfl
    have hz1 := (cell_of_row w1 _ 1 _ _ _ hW).trans rfl
    have hf0 := frozen_of_row w1 _ 0 _ _ hW
    have hf1 := frozen_of_row w1 _ 1 _ _ hW
    have hy0 := (cell_of_row w1 _ 0 _ _ _ hW2).trans rfl
    have hy1 := (cell_of_row w1 _ 1 _ _ _ hW2).trans rfl
    have HE := Lib.hid ((((Ext.refl w).alloc _).alloc _).trans hE)
    clear hE
    go_wp2
    (try simp only [Exit.inBlock, Exit.then]); refine bodyPost_ret (results_two rfl _ _ _ _ _ _ _ rfl (set_two hW _ _) rfl Try.underlying25 (by kernel_rfl)) rfl ?_
    exact ⟨rfl, (HE.out.setCell (Nat.le_refl _) _).setCell (Nat.le_refl _) _⟩
  · rw [if_neg h, if_neg h]
    have hR := not_size (L := []) h
    go_enter Try.func11, Try.ntmps11
    go_wp2_with fail
    refine (right_c n none [] 0 n1 hc0 (by simp) _ (fun h => absurd h (by simp))).mono ?_
    rintro e w1 ⟨rfl, hE⟩
    rw [hR]
    have hW : w1.heap[w.heap.size]? = some (.cells #[.int .u64 0, .slice none 0 0] 25) := ext_blk0 hE
    have hz0 := (cell_of_row w1 _ 0 _ _ _ hW).trans rfl
    have hz1 := (cell_of_row w1 _ 1 _ _ _ hW).trans rfl
    have hf0 := frozen_of_row w1 _ 0 _ _ hW
    have hf1 := frozen_of_row w1 _ 1 _ _ hW
    have HE := Lib.hid ((((Ext.refl w).alloc _).alloc _).trans hE)
    clear hE
    go_wp2
    (try simp only [Exit.inBlock, Exit.then]); refine bodyPost_ret (results_two rfl _ _ _ _ _ _ _ rfl (set_two hW _ _) rfl Try.underlying25 (by kernel_rfl)) rfl ?_
    exact ⟨rfl, (HE.out.setCell (Nat.le_refl _) _).setCell (Nat.le_refl _) _⟩

set_option maxRecDepth 100000 in
/-- Store where there are no bytes: the memory itself -/
theorem store_no (S : Nat) (A : Option Addr) (L : List (Nat × Nat)) (c a v : Nat) (n : Int) (a1 : a < 18446744073709551616) (h0 : errN n a S ≠ 0) (w : World) :
    Calls Try.prog 17 #[.agg #[.int .u64 (S : Int), .slice A L.length c], .int .u64 (a : Int), .int .i64 n, .int .u64 (v : Int)] w fun e w' =>
      e = .returned (.tuple #[.agg #[.int .u64 (S : Int), .slice A L.length c], .int .i64 ((errN n a S : Nat) : Int)]) ∧ Ext w w' := by
  have hd : (((errN n a S : Nat) : Int) != 0) = true := by simp; omega
  go_enter Try.func17, Try.ntmps17
  go_wp2_with fail
  refine (wrong_c S A L.length c a n a1 _).mono ?_
  rintro e w1 ⟨rfl, hE⟩
  have hb0 : w1.cell? ⟨w.heap.size, 0, none⟩ = some (.int .u64 (S : Int)) := (hE.cell (p := ⟨w.heap.size, 0, none⟩) (by simp; omega)).trans (by simp)
  have hb1 : w1.cell? ⟨w.heap.size, 1, none⟩ = some (.slice A L.length c) := (hE.cell (p := ⟨w.heap.size, 1, none⟩) (by simp; omega)).trans (by simp)
  have hW := ext_blk hE
  have hz0 := (cell_of_row w1 _ 0 _ _ _ hW).trans rfl
  have hz1 := (cell_of_row w1 _ 1 _ _ _ hW).trans rfl
  have hf0 := frozen_of_row w1 _ 0 _ _ hW
  have hf1 := frozen_of_row w1 _ 1 _ _ hW
  have HE := Lib.hid ((((Ext.refl w).alloc _).alloc _).trans hE)
  clear hE
  go_wp2
  (try simp only [Exit.inBlock, Exit.then]); refine bodyPost_ret (results_two rfl _ _ _ _ _ _ _ rfl (set_two hW _ _) rfl Try.underlying25 (by kernel_rfl)) rfl ?_
  exact ⟨rfl, ext_set HE.out _ _⟩
end Go.Proofs.Ytcodgmahegofjaa
