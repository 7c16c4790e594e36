/- The document's answers for layer 2 (package atlasref02): a size picked, sizes, bytes put, read, low. -/
import Derived.Test.YticbjiddbjgikaaDoorGtwo
import Derived.Maps.AppendAt
import Derived.OwnWalk
import Derived.Test.YticbjiddbjgikaaDoorCrig
import Derived.Test.YticbjiddbjgikaaDoorGmem
namespace Go.Proofs.YticbjiddbjgikaaDoor
open Go.ChangeShapes Go.WideShapes Go.ChangeAt Go.RowKit
set_option linter.unusedVariables false
set_option maxRecDepth 10000

/-- the cells of those bytes -/
def byteVs (l : List Nat) : List Value := l.map fun (b : Nat) => Value.int .u8 (b : Int)
theorem byteVs_get (l : List Nat) {i : Nat} (h : i < l.length) : (byteVs l)[i]? = some (.int .u8 ((bAt l i : Nat) : Int)) := by
  simp [byteVs, bAt, h]
/-- what a call that makes bytes leaves: a slice of its own that holds them, and nothing that was there turned -/
def MadeB (l : List Nat) (w : World) (e : Ending) (w' : World) : Prop :=
  ∃ v, e = .returned v ∧ w'.ownsRow w.heap.size 5 1 v l.length (byteVs l) ∧ Below w.heap.size w w'

theorem own_slb {w : World} {base : Nat} {v : Value} {l : List Nat} (h : w.ownsRow base 5 1 v l.length (byteVs l)) : ∃ A c, v = .slice A l.length c ∧ SlB w A l := by
  rcases h.2 with ⟨rfl, h0⟩ | ⟨g, cap, cur, rfl, hbg, hh, _, _, _, ht⟩
  · have : l = [] := List.eq_nil_of_length_eq_zero h0
    subst this
    exact ⟨none, 0, rfl, fun h => absurd h (by simp)⟩
  · refine ⟨_, cap, rfl, fun hl => ⟨g, 0, rfl, (h.lt g rfl).2, fun i hi => ?_⟩⟩
    rw [h.cellAt (0 + i) (by omega), Nat.zero_add, byteVs_get l hi]

/-- the same, said as a slice that reads as those bytes -/
def MadeS (l : List Nat) (w : World) (e : Ending) (w' : World) : Prop :=
  ∃ A c, e = .returned (.slice A l.length c) ∧ SlB w' A l ∧ Below w.heap.size w w'
theorem MadeB.s {l : List Nat} {w : World} {e : Ending} {w' : World} (h : MadeB l w e w') : MadeS l w e w' := by
  obtain ⟨v, rfl, ho, hb⟩ := h
  obtain ⟨A, c, rfl, hs⟩ := own_slb ho
  exact ⟨A, c, rfl, hs, hb⟩
end Go.Proofs.YticbjiddbjgikaaDoor
/- The document's answers for layer 3 (package atlasref03): same memories, words, bytes, right ones. -/
namespace Go.Proofs.YticbjiddbjgikaaDoor
open Go.ChangeShapes Go.WideShapes Go.ChangeAt Go.RowKit
set_option linter.unusedVariables false
set_option maxRecDepth 10000
set_option linter.unusedSimpArgs false

theorem box_two {w w1 : World} {t : TypeId} {u v x y : Value} (h : Ext ((w.alloc (.cells #[u, v] t)).alloc (.cells #[x, y] t)) w1) :
    (w1.cell? ⟨w.heap.size, 0, none⟩ = some u ∧ w1.cell? ⟨w.heap.size, 1, none⟩ = some v) ∧ w1.cell? ⟨w.heap.size + 1, 0, none⟩ = some x ∧ w1.cell? ⟨w.heap.size + 1, 1, none⟩ = some y := by
  have h1 := ext_blk0 h
  have h2 := ext_blk h
  exact ⟨⟨(cell_of_row w1 _ 0 _ _ _ h1).trans rfl, (cell_of_row w1 _ 1 _ _ _ h1).trans rfl⟩, (cell_of_row w1 _ 0 _ _ _ h2).trans rfl, (cell_of_row w1 _ 1 _ _ _ h2).trans rfl⟩

theorem list_ne {L K : List (Nat × Nat)} {k : Nat} (h : ¬ (atN L k = atN K k ∧ vlN L k = vlN K k)) : L ≠ K := fun e => by subst e; exact h ⟨rfl, rfl⟩
theorem list_eq {L K : List (Nat × Nat)} (hl : L.length = K.length) (h : ∀ i, i < L.length → atN L i = atN K i ∧ vlN L i = vlN K i) : L = K := by
  apply List.ext_getElem hl
  intro i h1 h2
  obtain ⟨a, b⟩ := h i h1
  rw [cell_get h1, cell_get h2, a, b]

def sameB (S T : Nat) (L K : List (Nat × Nat)) : Bool := decide (S = T ∧ L = K)
theorem sameB_yes {S : Nat} {L K : List (Nat × Nat)} (h : L = K) : sameB S S L K = true := by simp [sameB, h]
theorem sameB_no1 {S T : Nat} {L K : List (Nat × Nat)} (h : ¬ S = T) : sameB S T L K = false := by simp [sameB, h]
theorem sameB_no2 {S T : Nat} {L K : List (Nat × Nat)} (h : ¬ L = K) : sameB S T L K = false := by simp [sameB, h]
attribute [irreducible] sameB

set_option maxRecDepth 100000 in
set_option maxHeartbeats 4000000 in
theorem same_c (S T : Nat) (A B : Option Addr) (L K : List (Nat × Nat)) (c d : Nat) (hn : L.length ≤ 4611686018427387904) (w : World) (hs : ClB w A L) (hk : ClB w B K) :
    Calls Tryd.prog 12 #[.agg #[.int .u64 (S : Int), .slice A L.length c], .agg #[.int .u64 (T : Int), .slice B K.length d]] w fun e w' => e = .returned (.bool (sameB S T L K)) ∧ Ext w w' := by
  have hE0 : Hid (Ext w ((w.alloc (.cells #[.int .u64 (S : Int), .slice A L.length c] 25)).alloc (.cells #[.int .u64 (T : Int), .slice B K.length d] 25))) := Lib.hid (((Ext.refl w).alloc _).alloc _)
  by_cases h1 : S = T
  case neg =>
    have H := Lib.hid (sameB_no1 (L := L) (K := K) h1)
    have hd : ((S : Int) != (T : Int)) = true := by simp; omega
    have hd' : (S != T) = true := by simp; omega
    go_enter Tryd.func12, Tryd.ntmps12
    go_wp2
    go_ret
    exact ⟨by rw [H.out]; rfl, hE0.out⟩
  subst h1
  by_cases h2 : L.length = K.length
  case neg =>
    have H := Lib.hid (sameB_no2 (S := S) (T := S) (fun e : L = K => h2 (by rw [e])))
    have hd : ((L.length : Int) != (K.length : Int)) = true := by simp; omega
    have hd' : (L.length != K.length) = true := by simp; omega
    go_enter Tryd.func12, Tryd.ntmps12
    go_wp2
    go_ret
    exact ⟨by rw [H.out]; rfl, hE0.out⟩
  have hd : ((L.length : Int) != (K.length : Int)) = false := by simp; omega
  have hd' : (L.length != K.length) = false := by simp; omega
  have H2 := Lib.hid h2
  clear h2
  go_enter Tryd.func12, Tryd.ntmps12
  go_wp2
  go_loopw [5] (fun i wr => ∃ k : Nat, k ≤ L.length ∧ i = .int .i64 k ∧ Hid (∀ i, i < k → atN L i = atN K i ∧ vlN L i = vlN K i) ∧ Ext ((w.alloc (.cells #[.int .u64 (S : Int), .slice A L.length c] 25)).alloc (.cells #[.int .u64 (S : Int), .slice B K.length d] 25)) wr) (fun i _ => (L.length - intOf i).toNat)
  case atStart => exact ⟨0, by omega, rfl, Lib.hid (fun i hi => by omega), Ext.refl _⟩
  case round =>
    obtain ⟨k, hk1, rfl, hok, hE⟩ := hrel
    obtain ⟨⟨hb0, hb1⟩, hb2, hb3⟩ := box_two hE
    by_cases hlt : k < L.length
    · obtain ⟨b, off, rfl, hb, hc⟩ := (hs.ext (hE0.out.trans hE)) (by omega)
      obtain ⟨hc1, hc2⟩ := hc k hlt
      obtain ⟨b', off', rfl, hb', hc'⟩ := (hk.ext (hE0.out.trans hE)) (by rw [← H2.out]; omega)
      obtain ⟨hc3, hc4⟩ := hc' k (by rw [← H2.out]; omega)
      have hz : (k : Int) < (L.length : Int) := by omega
      have hz' : (k : Int) < (K.length : Int) := by rw [← H2.out]; omega
      have HE := Lib.hid hE
      clear hE hc hs hc' hk
      by_cases hv : atN L k = atN K k ∧ vlN L k = vlN K k
      · obtain ⟨e1, e2⟩ := hv
        rw [← e1] at hc3
        rw [← e2] at hc4
        have hk2 : Hid (∀ i, i < k + 1 → atN L i = atN K i ∧ vlN L i = vlN K i) := Lib.hid fun i hi => by
          by_cases e : i = k
          · subst e; exact ⟨e1, e2⟩
          · exact hok.out i (by omega)
        clear e1 e2
        go_wp2
        go_quiet (fail)
        go_wp2
        go_roundw
        case rel => exact ⟨k + 1, by omega, by go_num, hk2, HE.out.drewN _⟩
        case measure => simp [intOf]; omega
      · have H := Lib.hid (sameB_no2 (S := S) (T := S) (list_ne hv))
        by_cases e1 : atN L k = atN K k
        · have e2 : ¬ vlN L k = vlN K k := fun e => hv ⟨e1, e⟩
          rw [← e1] at hc3
          have f2 : (((vlN L k : Nat) : Int) == ((vlN K k : Nat) : Int)) = false := by simp; omega
          have f3 : (vlN L k == vlN K k) = false := by simpa using e2
          clear e1 hv
          go_wp2
          go_quiet (fail)
          go_wp2
          go_ret
          exact ⟨by rw [H.out]; rfl, (hE0.out.trans HE.out).drewN _⟩
        · have f2 : (((atN L k : Nat) : Int) == ((atN K k : Nat) : Int)) = false := by simp; omega
          have f3 : (atN L k == atN K k) = false := by simpa using e1
          clear hv
          go_wp2
          go_quiet (fail)
          go_wp2
          go_ret
          exact ⟨by rw [H.out]; rfl, (hE0.out.trans HE.out).drewN _⟩
    · have hk' : k = L.length := by omega
      subst hk'
      have H := Lib.hid (sameB_yes (S := S) (list_eq H2.out hok.out))
      have HE := Lib.hid hE
      clear hE hlt hk1
      go_wp2
      go_ret
      exact ⟨by rw [H.out]; rfl, hE0.out.trans HE.out⟩
end Go.Proofs.YticbjiddbjgikaaDoor
/- The document's answers for layer 3: words, bytes, loads. -/
namespace Go.Proofs.YticbjiddbjgikaaDoor
open Go.ChangeShapes Go.WideShapes Go.ChangeAt Go.RowKit
set_option linter.unusedVariables false
set_option maxRecDepth 10000
set_option linter.unusedSimpArgs false

theorem word_found {n : Nat} {L : List (Nat × Nat)} (hL : RL n L) {k p : Nat} (hk : k < L.length) (h : atN L k = p) : wordL L p = vlN L k := by rw [← h]; exact hL.word_at hk
theorem word_lost {L : List (Nat × Nat)} {p k : Nat} (h1 : ∀ t, t < k → t < L.length → atN L t < p) (h2 : ∀ t, k ≤ t → t < L.length → p < atN L t) : wordL L p = 0 := by
  apply wordL_none
  intro c hc
  obtain ⟨i, hi, rfl⟩ := List.mem_iff_getElem.1 hc
  rw [← atN_get hi]
  by_cases h : i < k
  · have := h1 i h hi; omega
  · have := h2 i (by omega) hi; omega

set_option maxRecDepth 100000 in
set_option maxHeartbeats 4000000 in
theorem rword_c (S : Nat) (A : Option Addr) (L : List (Nat × Nat)) (c a : Nat) (a1 : a < 18446744073709551616) (hL : RL (S / 8) L) (hS : S % 8 = 0) (hn : L.length ≤ 1152921504606846976) (w : World) (hs : ClB w A L) :
    Calls Tryd.prog 64 #[.agg #[.int .u64 (S : Int), .slice A L.length c], .int .u64 (a : Int)] w fun e w' => e = .returned (.int .u64 ((wordL L (a / 8) : Nat) : Int)) ∧ Ext w w' := by
  have hE0 : Hid (Ext w (w.alloc (.cells #[.int .u64 (S : Int), .slice A L.length c] 25))) := Lib.hid ((Ext.refl w).alloc _)
  by_cases h1 : S ≤ a
  · have H := Lib.hid (wordL_out hL (p := a / 8) (by omega))
    go_enter Tryd.func64, Tryd.ntmps64
    go_wp2
    go_ret
    exact ⟨by rw [H.out]; rfl, hE0.out⟩
  go_enter Tryd.func64, Tryd.ntmps64
  go_wp2
  go_loopw [5, 6] (fun lo hi wr => ∃ l h : Nat, lo = .int .i64 l ∧ hi = .int .i64 h ∧ l ≤ h ∧ h ≤ L.length ∧ wr = w.alloc (.cells #[.int .u64 (S : Int), .slice A L.length c] 25) ∧ Hid ((∀ t, t < l → t < L.length → atN L t < a / 8) ∧ (∀ t, h ≤ t → t < L.length → a / 8 < atN L t))) (fun lo hi _ => (intOf hi - intOf lo).toNat)
  case atStart => exact ⟨0, L.length, rfl, rfl, by omega, by omega, rfl, Lib.hid ⟨fun t ht => by omega, fun t h1 h2 => by omega⟩⟩
  case round =>
    obtain ⟨l, h, rfl, rfl, hlh, hh, rfl, I⟩ := hrel
    by_cases hlt : l < h
    · obtain ⟨b, off, rfl, hb, hc⟩ := (hs.ext hE0.out) (by omega)
      have hmid : (l + h) / 2 < L.length := by omega
      obtain ⟨hc1, hc2⟩ := hc ((l + h) / 2) hmid
      have hm : (((l + h) / 2 : Nat) : Int) = ((l : Int) + (h : Int)) / 2 := by omega
      have hz : ((l : Int) + (h : Int)) / 2 < (L.length : Int) := by omega
      have htn : (((l : Int) + (h : Int)) / 2).toNat = (l + h) / 2 := by omega
      clear hc hs
      rcases Nat.lt_trichotomy (atN L ((l + h) / 2)) (a / 8) with e | e | e
      · have hd1 : (((atN L ((l + h) / 2) : Nat) : Int) == (a : Int) / 8) = false := by simp; omega
        have hd2 : decide (((atN L ((l + h) / 2) : Nat) : Int) < (a : Int) / 8) = true := by simp; omega
        have I2 : Hid ((∀ t, t < (l + h) / 2 + 1 → t < L.length → atN L t < a / 8) ∧ (∀ t, h ≤ t → t < L.length → a / 8 < atN L t)) := Lib.hid ⟨fun t ht ht2 => by
          by_cases e2 : t = (l + h) / 2
          · subst e2; exact e
          · have := hL.rise (show t < (l + h) / 2 by omega) hmid; omega, I.out.2⟩
        have HI := Lib.hid e
        clear e
        go_wp2
        go_roundw
        case rel => exact ⟨(l + h) / 2 + 1, h, by rw [show ((l : Int) + (h : Int)) / 2 + 1 = (((l + h) / 2 + 1 : Nat) : Int) by omega], rfl, by omega, hh, trivial, I2⟩
        case measure => simp [intOf]; omega
      · have H := Lib.hid (word_found hL hmid e)
        have hd1 : (((atN L ((l + h) / 2) : Nat) : Int) == (a : Int) / 8) = true := by simp; omega
        clear e
        go_wp2
        go_ret
        exact ⟨by rw [H.out]; rfl, hE0.out⟩
      · have hd1 : (((atN L ((l + h) / 2) : Nat) : Int) == (a : Int) / 8) = false := by simp; omega
        have hd2 : decide (((atN L ((l + h) / 2) : Nat) : Int) < (a : Int) / 8) = false := by simp; omega
        have I2 : Hid ((∀ t, t < l → t < L.length → atN L t < a / 8) ∧ (∀ t, (l + h) / 2 ≤ t → t < L.length → a / 8 < atN L t)) := Lib.hid ⟨I.out.1, fun t ht ht2 => by
          by_cases e2 : t = (l + h) / 2
          · subst e2; exact e
          · have := hL.rise (show (l + h) / 2 < t by omega) ht2; omega⟩
        clear e
        go_wp2
        go_roundw
        case rel => exact ⟨l, (l + h) / 2, rfl, by rw [show ((l : Int) + (h : Int)) / 2 = (((l + h) / 2 : Nat) : Int) by omega], by omega, by omega, trivial, I2⟩
        case measure => simp [intOf]; omega
    · obtain rfl : h = l := by omega
      have H := Lib.hid (word_lost I.out.1 I.out.2)
      go_wp2
      go_ret
      exact ⟨by rw [H.out]; rfl, hE0.out⟩

end Go.Proofs.YticbjiddbjgikaaDoor
/- The document's answer for layer 3: Load. -/
namespace Go.Proofs.YticbjiddbjgikaaDoor
open Go.ChangeShapes Go.WideShapes Go.ChangeAt Go.RowKit
set_option linter.unusedVariables false
set_option maxRecDepth 10000
set_option linter.unusedSimpArgs false

end Go.Proofs.YticbjiddbjgikaaDoor
/- The document's answers for layer 3: a word set, words cleared. -/
namespace Go.Proofs.YticbjiddbjgikaaDoor
open Go.ChangeShapes Go.WideShapes Go.ChangeAt Go.RowKit
set_option linter.unusedVariables false
set_option maxRecDepth 10000
set_option linter.unusedSimpArgs false

theorem lit_row (w : World) (p v : Nat) : RowL (w.alloc (.cells #[.int .u64 (p : Int), .int .u64 (v : Int)] 68)) (some ⟨w.heap.size, 0, none⟩) [(p, v)] 1 := by
  refine ⟨fun _ => ⟨_, _, rfl, by rw [World.size_alloc]; omega, fun i hi => ?_⟩, fun e => (by cases e), by simp, by omega⟩
  obtain rfl : i = 0 := by simpa using hi
  exact ⟨(cell_of_row _ _ _ _ _ _ (heap_alloc_new w _)).trans (by simp [atN]), (cell_of_row _ _ _ _ _ _ (heap_alloc_new w _)).trans (by simp [vlN])⟩
theorem run_append_one (w : World) (base : Nat) (x : Value) (n : Nat) (L : List (Nat × Nat)) (hown : w.ownsRow base 68 2 x n (cellVs L)) (p v : Nat) (hn : n ≤ 90000) (hb : base ≤ w.heap.size) (ty : TypeId) :
    ∃ v' w', (Builtin.append_ #[23, 23] ty #[x, .slice (some ⟨w.heap.size, 0, none⟩) 1 1]).run Tryd.prog (w.alloc (.cells #[.int .u64 (p : Int), .int .u64 (v : Int)] 68)) = .ok v' w' ∧
      w'.ownsRow base 68 2 v' (n + 1) (cellVs (L ++ [(p, v)])) ∧ Below base w w' := by
  obtain ⟨v', w', h1, h2, h3⟩ := run_append_cl (w.alloc (.cells #[.int .u64 (p : Int), .int .u64 (v : Int)] 68)) base x n (cellVs L) (hown.alloc _) (some ⟨w.heap.size, 0, none⟩) [(p, v)] 1 (lit_row w p v) (by simp; omega) (by rw [World.size_alloc]; omega) ty
  exact ⟨v', w', h1, by rw [cellVs_app]; exact h2, Below.grown (Below.alloc (Below.refl _ _) hb _) h3 (by rw [World.size_alloc]; omega) (fun g h => (hown.lt g h).1)⟩

def sL (p v : Nat) (L : List (Nat × Nat)) (k : Nat) : List (Nat × Nat) := (runS p v L k).1
def sD (p v : Nat) (L : List (Nat × Nat)) (k : Nat) : Bool := (runS p v L k).2
theorem sL_0 (p v : Nat) (L : List (Nat × Nat)) : sL p v L 0 = [] := by unfold sL; rw [runS_0]
theorem sD_0 (p v : Nat) (L : List (Nat × Nat)) : sD p v L 0 = (v == 0) := by unfold sD; rw [runS_0]
theorem s_insert {p v : Nat} {L : List (Nat × Nat)} {k : Nat} (hk : k < L.length) (hd : sD p v L k = false) (h : p < atN L k) : sL p v L (k + 1) = sL p v L k ++ [(p, v)] ++ [(atN L k, vlN L k)] ∧ sD p v L (k + 1) = true := by
  unfold sL sD at *
  rw [runS_succ p v L hk, stepS, hd]
  simp [h, show ¬ atN L k = p by omega]
theorem s_same {p v : Nat} {L : List (Nat × Nat)} {k : Nat} (hk : k < L.length) (h : sD p v L k = true ∨ ¬ p < atN L k) : sL p v L (k + 1) = (if atN L k = p then sL p v L k else sL p v L k ++ [(atN L k, vlN L k)]) ∧ sD p v L (k + 1) = sD p v L k := by
  unfold sL sD at *
  rw [runS_succ p v L hk, stepS]
  rcases h with h | h
  · simp [h]
  · simp [h]
theorem s_len (p v : Nat) (L : List (Nat × Nat)) (k : Nat) (hk : k ≤ L.length) : (sL p v L k).length ≤ 2 * k := by
  induction k with
  | zero => rw [sL_0]; simp
  | succ k ih =>
    have := ih (by omega)
    by_cases h : sD p v L k = false ∧ p < atN L k
    · rw [(s_insert (by omega) h.1 h.2).1]; simp; omega
    · have h' : sD p v L k = true ∨ ¬ p < atN L k := by
        cases hd : sD p v L k
        · exact .inr (fun g => h ⟨hd, g⟩)
        · exact .inl rfl
      rw [(s_same (by omega) h').1]
      split
      · omega
      · simp; omega
theorem s_v0 {p v : Nat} {L : List (Nat × Nat)} (hv : v = 0) {k : Nat} (hk : k ≤ L.length) : sD p v L k = true := by
  induction k with
  | zero => rw [sD_0, hv]; rfl
  | succ k ih => rw [(s_same (by omega) (.inl (ih (by omega)))).2]; exact ih (by omega)
theorem s_end {n p v : Nat} {L : List (Nat × Nat)} (h : RL n L) : (if sD p v L L.length = true then sL p v L L.length else sL p v L L.length ++ [(p, v)]) = cutL L p (p + 1) (if v = 0 then [] else [(p, v)]) := by
  rw [← setS h]; unfold endS sL sD; rfl
attribute [irreducible] sL sD

theorem own_row_n {w : World} {base n : Nat} {v : Value} {L : List (Nat × Nat)} (h : w.ownsRow base 68 2 v n (cellVs L)) (hl : L.length = n) : ∃ A c, v = .slice A n c ∧ RowL w A L c := by
  subst hl; exact own_row h
theorem set_own {w w' : World} {b : Nat} (hb : w.heap.size + 1 < b) {x : Value} {n : Nat} {xs : List Value} (hown : w'.ownsRow b 68 2 x n xs) (y u v : Value) :
    (((w'.setCell ⟨w.heap.size, 1, none⟩ y).setCell ⟨w.heap.size + 1, 0, none⟩ u).setCell ⟨w.heap.size + 1, 1, none⟩ v).ownsRow w.heap.size 68 2 x n xs :=
  own_mono (ownsRow_setCell_below (a := ⟨w.heap.size + 1, 1, none⟩) (ownsRow_setCell_below (a := ⟨w.heap.size + 1, 0, none⟩) (ownsRow_setCell_below (a := ⟨w.heap.size, 1, none⟩) hown (by show w.heap.size < b; omega) y) hb u) hb v) (by omega)
theorem set_ext {w w' : World} (h : Ext w w') (y u v : Value) : Ext w (((w'.setCell ⟨w.heap.size, 1, none⟩ y).setCell ⟨w.heap.size + 1, 0, none⟩ u).setCell ⟨w.heap.size + 1, 1, none⟩ v) :=
  ext_set (Below.setCell (p := ⟨w.heap.size, 1, none⟩) h (Nat.le_refl _) y) u v

set_option maxRecDepth 100000 in
set_option maxHeartbeats 4000000 in
theorem rset_c (S : Nat) (A : Option Addr) (L : List (Nat × Nat)) (c p v m : Nat) (p1 : p < 18446744073709551616) (v1 : v < 18446744073709551616) (hL : RL m L) (hn : L.length ≤ 40000) (R : List (Nat × Nat)) (hR : R = cutL L p (p + 1) (if v = 0 then [] else [(p, v)])) (w : World) (hr : RowL w A L c) :
    Calls Tryd.prog 49 #[.agg #[.int .u64 (S : Int), .slice A L.length c], .int .u64 (p : Int), .int .u64 (v : Int)] w (MadeM S R w) := by
  have hE0 : Hid (Ext w ((w.alloc (.cells #[.int .u64 (S : Int), .slice A L.length c] 25)).alloc (.cells #[.int .u64 0, .slice none 0 0] 25))) := Lib.hid (((Ext.refl w).alloc _).alloc _)
  obtain ⟨W, hW⟩ : ∃ W, W = (w.alloc (.cells #[.int .u64 (S : Int), .slice A L.length c] 25)).alloc (.cells #[.int .u64 0, .slice none 0 0] 25) := ⟨_, rfl⟩
  rw [← hW] at hE0
  have hs0 : W.heap.size = w.heap.size + 2 := by rw [hW, World.size_alloc, World.size_alloc]
  have HW := Lib.hid hW
  clear hW
  have hend0 : Hid ((if sD p v L L.length = true then sL p v L L.length else sL p v L L.length ++ [(p, v)]) = R) := Lib.hid (by rw [hR]; exact s_end hL)
  clear hR
  have hz0 : Hid (sD p v L 0 = (v == 0)) := Lib.hid (sD_0 p v L)
  by_cases hv : v = 0
  all_goals
    have hz1 : Hid (sD p v L 0 = decide (v = 0)) := Lib.hid (by rw [hz0.out]; cases v <;> rfl)
    go_enter Tryd.func49, Tryd.ntmps49
    go_wp2
    try (rename_i h; have : v = 0 := h; clear this h)
    have Hv := Lib.hid hv
    clear hv
    rw [← HW.out]
    go_loopw [7, 8, 9] (fun out dn i wr => ∃ k : Nat, k ≤ L.length ∧ i = .int .i64 k ∧ dn = .bool (sD p v L k) ∧ wr.ownsRow W.heap.size 68 2 out (sL p v L k).length (cellVs (sL p v L k)) ∧ Ext W wr) (fun _ _ i _ => (L.length - intOf i).toNat)
    case atStart => exact ⟨0, by omega, rfl, by rw [hz1.out]; simp [Hv.out], by rw [sL_0]; exact World.ownsRow_nil _ _ _ _, Ext.refl _⟩
    case round =>
      obtain ⟨k, hk, rfl, rfl, hown, hE⟩ := hrel
      obtain ⟨⟨hb0, hb1⟩, hb2, hb3⟩ := box_two (show Ext ((w.alloc _).alloc _) wr by rw [← HW.out]; exact hE)
      have hbW : W.heap.size ≤ wr.heap.size := hE.size
      have hlen := s_len p v L k hk
      by_cases hlt : k < L.length
      · obtain ⟨b, off, rfl, hb, hc⟩ := hr.1 (by omega)
        obtain ⟨hc1, hc2⟩ := hc k hlt
        have hEw := hE0.out.trans hE
        replace hc1 := (hEw.cell (p := ⟨b, off + k * 2, none⟩) hb).trans hc1
        replace hc2 := (hEw.cell (p := ⟨b, off + k * 2 + 1, none⟩) hb).trans hc2
        have hz : (k : Int) < (L.length : Int) := by omega
        have hAt := hL.vl_lt hlt
        clear hc hEw
        by_cases hins : sD p v L k = false ∧ p < atN L k
        · first
          | exact absurd hins.1 (by rw [s_v0 Hv.out hk]; simp)
          | obtain ⟨hD, hp⟩ := hins
            have hst := Lib.hid (s_insert hlt hD hp)
            have hd1 : decide (p < atN L k) = true := by simpa using hp
            have hd2 : (((atN L k : Nat) : Int) != (p : Int)) = true := by simp; omega
            have hd3 : (atN L k != p) = true := by simp; omega
            rw [hD]
            clear hD
            go_wp2_with (at_builtin; refine wpList_append_run' _ rfl _ _ _ rfl _ _ rfl rfl _ (run_append_one _ W.heap.size _ _ _ (by assumption) _ _ (by omega) (by omega) _) ?_; rintro v3 w3 ⟨hown3, hB3⟩; have hE := Below.trans hE hB3; have hbW := Nat.le_trans hbW hB3.size; have hb0 := (Below.cell hB3 (p := ⟨w.heap.size, 0, none⟩) (by simp; omega)).trans hb0; have hb1 := (Below.cell hB3 (p := ⟨w.heap.size, 1, none⟩) (by simp; omega)).trans hb1; have hb2 := (Below.cell hB3 (p := ⟨w.heap.size + 1, 0, none⟩) (by simp; omega)).trans hb2; have hb3 := (Below.cell hB3 (p := ⟨w.heap.size + 1, 1, none⟩) (by simp; omega)).trans hb3; have hc1 := (Below.cell hB3 (p := ⟨b, off + k * 2, none⟩) (by simp; omega)).trans hc1; have hc2 := (Below.cell hB3 (p := ⟨b, off + k * 2 + 1, none⟩) (by simp; omega)).trans hc2)
            go_roundw
            case rel => exact ⟨k + 1, by omega, by go_num, by rw [hst.out.2], by rw [hst.out.1]; simpa using hown3, hE⟩
            case measure => simp [intOf]; omega
        · have hs' : sD p v L k = true ∨ ¬ p < atN L k := by
            cases hd : sD p v L k
            · exact .inr (fun g => hins ⟨hd, g⟩)
            · exact .inl rfl
          have hst := Lib.hid (s_same hlt hs')
          by_cases he : atN L k = p
          · have hd2 : (((atN L k : Nat) : Int) != (p : Int)) = false := by simp; omega
            have hd3 : (atN L k != p) = false := by simp; omega
            have hd1 : decide (p < atN L k) = false := by simp; omega
            have hst1 : Hid (sL p v L (k + 1) = sL p v L k) := Lib.hid (by rw [hst.out.1, if_pos he])
            have hst2 := Lib.hid hst.out.2
            clear hst he hs' hins
            generalize hD : sD p v L k = D at *
            cases D
            all_goals
              go_wp2
              go_roundw
              case rel => exact ⟨k + 1, by omega, by go_num, by rw [hst2.out], by rw [hst1.out]; exact hown, hE⟩
              case measure => simp [intOf]; omega
          · have hd2 : (((atN L k : Nat) : Int) != (p : Int)) = true := by simp; omega
            have hd3 : (atN L k != p) = true := by simp; omega
            have hst1 : Hid (sL p v L (k + 1) = sL p v L k ++ [(atN L k, vlN L k)]) := Lib.hid (by rw [hst.out.1, if_neg he])
            have hst2 := Lib.hid hst.out.2
            clear hst he hins
            rcases hs' with hD | hD
            · rw [hD] at hst2
              rw [hD]
              clear hD
              go_wp2_with (at_builtin; refine wpList_append_run' _ rfl _ _ _ rfl _ _ rfl rfl _ (run_append_one _ W.heap.size _ _ _ (by assumption) _ _ (by omega) (by omega) _) ?_; rintro v3 w3 ⟨hown3, hB3⟩; have hE := Below.trans hE hB3; have hbW := Nat.le_trans hbW hB3.size; have hb0 := (Below.cell hB3 (p := ⟨w.heap.size, 0, none⟩) (by simp; omega)).trans hb0; have hb1 := (Below.cell hB3 (p := ⟨w.heap.size, 1, none⟩) (by simp; omega)).trans hb1; have hb2 := (Below.cell hB3 (p := ⟨w.heap.size + 1, 0, none⟩) (by simp; omega)).trans hb2; have hb3 := (Below.cell hB3 (p := ⟨w.heap.size + 1, 1, none⟩) (by simp; omega)).trans hb3; have hc1 := (Below.cell hB3 (p := ⟨b, off + k * 2, none⟩) (by simp; omega)).trans hc1; have hc2 := (Below.cell hB3 (p := ⟨b, off + k * 2 + 1, none⟩) (by simp; omega)).trans hc2)
              go_roundw
              case rel => exact ⟨k + 1, by omega, by go_num, by rw [hst2.out], by rw [hst1.out]; simpa using hown3, hE⟩
              case measure => simp [intOf]; omega
            · have hd1 : decide (p < atN L k) = false := by simpa using hD
              generalize hD2 : sD p v L k = D at *
              clear hD
              cases D
              all_goals
                go_wp2_with (at_builtin; refine wpList_append_run' _ rfl _ _ _ rfl _ _ rfl rfl _ (run_append_one _ W.heap.size _ _ _ (by assumption) _ _ (by omega) (by omega) _) ?_; rintro v3 w3 ⟨hown3, hB3⟩; have hE := Below.trans hE hB3; have hbW := Nat.le_trans hbW hB3.size; have hb0 := (Below.cell hB3 (p := ⟨w.heap.size, 0, none⟩) (by simp; omega)).trans hb0; have hb1 := (Below.cell hB3 (p := ⟨w.heap.size, 1, none⟩) (by simp; omega)).trans hb1; have hb2 := (Below.cell hB3 (p := ⟨w.heap.size + 1, 0, none⟩) (by simp; omega)).trans hb2; have hb3 := (Below.cell hB3 (p := ⟨w.heap.size + 1, 1, none⟩) (by simp; omega)).trans hb3; have hc1 := (Below.cell hB3 (p := ⟨b, off + k * 2, none⟩) (by simp; omega)).trans hc1; have hc2 := (Below.cell hB3 (p := ⟨b, off + k * 2 + 1, none⟩) (by simp; omega)).trans hc2)
                go_roundw
                case rel => exact ⟨k + 1, by omega, by go_num, by rw [hst2.out], by rw [hst1.out]; simpa using hown3, hE⟩
                case measure => simp [intOf]; omega
      · have hk' : k = L.length := by omega
        subst hk'
        have hend := hend0
        cases hD : sD p v L L.length
        · first
          | exact absurd hD (by rw [s_v0 Hv.out (Nat.le_refl _)]; simp)
          | rw [hD] at hend
            go_wp2_with (at_builtin; refine wpList_append_run' _ rfl _ _ _ rfl _ _ rfl rfl _ (run_append_one _ W.heap.size _ _ _ (by assumption) _ _ (by omega) (by omega) _) ?_; rintro v3 w3 ⟨hown3, hB3⟩; have hE := Below.trans hE hB3; have hbW := Nat.le_trans hbW hB3.size; have hb0 := (Below.cell hB3 (p := ⟨w.heap.size, 0, none⟩) (by simp; omega)).trans hb0; have hb1 := (Below.cell hB3 (p := ⟨w.heap.size, 1, none⟩) (by simp; omega)).trans hb1; have hb2 := (Below.cell hB3 (p := ⟨w.heap.size + 1, 0, none⟩) (by simp; omega)).trans hb2; have hb3 := (Below.cell hB3 (p := ⟨w.heap.size + 1, 1, none⟩) (by simp; omega)).trans hb3; obtain ⟨A4, c4, rfl, hr4⟩ := own_row_n hown3 (by simp); have hx0 := ext_blk0 (show Ext ((w.alloc _).alloc _) w3 by rw [← HW.out]; exact hE); have hx1 := ext_blk (show Ext ((w.alloc _).alloc _) w3 by rw [← HW.out]; exact hE); have hf01 := frozen_of_row w3 _ 1 _ _ hx0; have hf10 := frozen_of_row w3 _ 0 _ _ hx1; have hf11 := frozen_of_row w3 _ 1 _ _ hx1)
            have Hown : Hid (w3.ownsRow W.heap.size 68 2 (.slice A4 ((sL p v L L.length).length + 1) c4) R.length (cellVs R)) := Lib.hid (by rw [← hend.out]; simpa using hown3)
            (try simp only [Exit.inBlock, Exit.then]); refine bodyPost_ret (results_cell_row rfl _ _ _ _ _ _ _ rfl (set_two ((Below.heap_setCell _ _ _ _ (by simp)).trans hx1) _ _) Tryd.underlying25 rfl (by kernel_rfl)) rfl ?_; exact ⟨_, rfl, set_own (w := w) (b := W.heap.size) (by omega) (Hown.out) _ _ _, set_ext (hE0.out.trans hE) _ _ _⟩
        · rw [hD] at hend
          obtain ⟨A4, c4, rfl, hr4⟩ := own_row hown
          have hx0 := ext_blk0 (show Ext ((w.alloc _).alloc _) wr by rw [← HW.out]; exact hE); have hx1 := ext_blk (show Ext ((w.alloc _).alloc _) wr by rw [← HW.out]; exact hE); have hf01 := frozen_of_row wr _ 1 _ _ hx0; have hf10 := frozen_of_row wr _ 0 _ _ hx1; have hf11 := frozen_of_row wr _ 1 _ _ hx1
          have Hown : Hid (wr.ownsRow W.heap.size 68 2 (.slice A4 (sL p v L L.length).length c4) R.length (cellVs R)) := Lib.hid (by rw [← hend.out]; simpa using hown)
          go_wp2
          (try simp only [Exit.inBlock, Exit.then]); refine bodyPost_ret (results_cell_row rfl _ _ _ _ _ _ _ rfl (set_two ((Below.heap_setCell _ _ _ _ (by simp)).trans hx1) _ _) Tryd.underlying25 rfl (by kernel_rfl)) rfl ?_; exact ⟨_, rfl, set_own (w := w) (b := W.heap.size) (by omega) (Hown.out) _ _ _, set_ext (hE0.out.trans hE) _ _ _⟩
end Go.Proofs.YticbjiddbjgikaaDoor
/- The document's answers for layer 3: Clear, Right. -/
namespace Go.Proofs.YticbjiddbjgikaaDoor
open Go.ChangeShapes Go.WideShapes Go.ChangeAt Go.RowKit
set_option linter.unusedVariables false
set_option maxRecDepth 10000
set_option linter.unusedSimpArgs false

/-- the cells that stay, of the first k -/
def kL (a b : Nat) (L : List (Nat × Nat)) (k : Nat) : List (Nat × Nat) := (L.take k).filter fun c => decide (8 * c.1 < a) || decide (b ≤ 8 * c.1)
theorem kL_0 (a b : Nat) (L : List (Nat × Nat)) : kL a b L 0 = [] := by simp [kL]
theorem kL_yes {a b : Nat} {L : List (Nat × Nat)} {k : Nat} (hk : k < L.length) (h : 8 * atN L k < a ∨ b ≤ 8 * atN L k) : kL a b L (k + 1) = kL a b L k ++ [(atN L k, vlN L k)] := by
  unfold kL
  rw [List.take_succ_eq_append_getElem hk, List.filter_append, cell_get hk]
  simp [h]
theorem kL_no {a b : Nat} {L : List (Nat × Nat)} {k : Nat} (hk : k < L.length) (h : ¬ (8 * atN L k < a ∨ b ≤ 8 * atN L k)) : kL a b L (k + 1) = kL a b L k := by
  unfold kL
  rw [List.take_succ_eq_append_getElem hk, List.filter_append, cell_get hk]
  simp [h]
theorem kL_len (a b : Nat) (L : List (Nat × Nat)) (k : Nat) (hk : k ≤ L.length) : (kL a b L k).length ≤ k := by
  unfold kL
  refine Nat.le_trans (List.length_filter_le _ _) ?_
  simp; omega
theorem kL_end {n p q : Nat} {L : List (Nat × Nat)} (h : RL n L) (hpq : p ≤ q) : kL (8 * p) (8 * q) L L.length = clearL L p q := by
  unfold kL; rw [List.take_length]; exact clearS h hpq
attribute [irreducible] kL

set_option maxRecDepth 100000 in
set_option maxHeartbeats 4000000 in
theorem rclear_c (S : Nat) (A : Option Addr) (L : List (Nat × Nat)) (c p d m : Nat) (hp : 8 * p + 8 * d < 1152921504606846976) (hm : m ≤ 1152921504606846976) (hL : RL m L) (hn : L.length ≤ 40000) (w : World) (hr : RowL w A L c) :
    Calls Tryd.prog 66 #[.agg #[.int .u64 (S : Int), .slice A L.length c], .int .u64 ((8 * p : Nat) : Int), .int .u64 ((8 * d : Nat) : Int)] w (MadeM S (clearL L p (p + d)) w) := by
  have hE0 : Hid (Ext w ((w.alloc (.cells #[.int .u64 (S : Int), .slice A L.length c] 25)).alloc (.cells #[.int .u64 0, .slice none 0 0] 25))) := Lib.hid (((Ext.refl w).alloc _).alloc _)
  obtain ⟨W, hW⟩ : ∃ W, W = (w.alloc (.cells #[.int .u64 (S : Int), .slice A L.length c] 25)).alloc (.cells #[.int .u64 0, .slice none 0 0] 25) := ⟨_, rfl⟩
  rw [← hW] at hE0
  have hs0 : W.heap.size = w.heap.size + 2 := by rw [hW, World.size_alloc, World.size_alloc]
  have HW := Lib.hid hW
  clear hW
  obtain ⟨a, ha⟩ : ∃ a, a = 8 * p := ⟨_, rfl⟩
  obtain ⟨b0, hb0⟩ : ∃ b0, b0 = 8 * d := ⟨_, rfl⟩
  obtain ⟨R, hR⟩ : ∃ R, R = clearL L p (p + d) := ⟨_, rfl⟩
  have hend : Hid (kL a (a + b0) L L.length = R) := Lib.hid (by rw [hR, ha, hb0, show 8 * p + 8 * d = 8 * (p + d) by omega]; exact kL_end hL (by omega))
  rw [← hR, ← ha, ← hb0]
  have hab : a + b0 < 1152921504606846976 := by omega
  clear hR ha hb0 hp
  go_enter Tryd.func66, Tryd.ntmps66
  go_wp2
  rw [← HW.out]
  go_loopw [7, 8] (fun out i wr => ∃ k : Nat, k ≤ L.length ∧ i = .int .i64 k ∧ wr.ownsRow W.heap.size 68 2 out (kL a (a + b0) L k).length (cellVs (kL a (a + b0) L k)) ∧ Ext W wr) (fun _ i _ => (L.length - intOf i).toNat)
  case atStart => exact ⟨0, by omega, rfl, by rw [kL_0]; exact World.ownsRow_nil _ _ _ _, Ext.refl _⟩
  case round =>
    obtain ⟨k, hk, rfl, hown, hE⟩ := hrel
    obtain ⟨⟨hb0, hb1⟩, hb2, hb3⟩ := box_two (show Ext ((w.alloc _).alloc _) wr by rw [← HW.out]; exact hE)
    have hbW : W.heap.size ≤ wr.heap.size := hE.size
    have hlen := kL_len a (a + b0) L k hk
    by_cases hlt : k < L.length
    · obtain ⟨b, off, rfl, hb, hc⟩ := hr.1 (by omega)
      obtain ⟨hc1, hc2⟩ := hc k hlt
      have hEw := hE0.out.trans hE
      replace hc1 := (hEw.cell (p := ⟨b, off + k * 2, none⟩) hb).trans hc1
      replace hc2 := (hEw.cell (p := ⟨b, off + k * 2 + 1, none⟩) hb).trans hc2
      have hz : (k : Int) < (L.length : Int) := by omega
      have hVl := hL.vl_lt hlt
      have hAt := Nat.lt_of_lt_of_le (hL.at_lt hlt) hm
      clear hc hEw
      by_cases h1 : 8 * atN L k < a
      · have hst := Lib.hid (kL_yes (a := a) (b := a + b0) hlt (.inl h1))
        have hd1 : decide (8 * ((atN L k : Nat) : Int) < (a : Int)) = true := by simp; omega
        go_wp2_with (at_builtin; refine wpList_append_run' _ rfl _ _ _ rfl _ _ rfl rfl _ (run_append_one _ W.heap.size _ _ _ (by assumption) _ _ (by omega) (by omega) _) ?_; rintro v3 w3 ⟨hown3, hB3⟩; have hE := Below.trans hE hB3; have hbW := Nat.le_trans hbW hB3.size; have hb0 := (Below.cell hB3 (p := ⟨w.heap.size, 0, none⟩) (by simp; omega)).trans hb0; have hb1 := (Below.cell hB3 (p := ⟨w.heap.size, 1, none⟩) (by simp; omega)).trans hb1; have hb2 := (Below.cell hB3 (p := ⟨w.heap.size + 1, 0, none⟩) (by simp; omega)).trans hb2; have hb3 := (Below.cell hB3 (p := ⟨w.heap.size + 1, 1, none⟩) (by simp; omega)).trans hb3; have hc1 := (Below.cell hB3 (p := ⟨b, off + k * 2, none⟩) (by simp; omega)).trans hc1; have hc2 := (Below.cell hB3 (p := ⟨b, off + k * 2 + 1, none⟩) (by simp; omega)).trans hc2)
        go_roundw
        case rel => exact ⟨k + 1, by omega, by go_num, by rw [hst.out]; simpa using hown3, hE⟩
        case measure => simp [intOf]; omega
      · have hd1 : decide (8 * ((atN L k : Nat) : Int) < (a : Int)) = false := by simp; omega
        by_cases h2 : a + b0 ≤ 8 * atN L k
        · have hst := Lib.hid (kL_yes (a := a) (b := a + b0) hlt (.inr h2))
          have hd2 : decide ((a : Int) + (b0 : Int) ≤ 8 * ((atN L k : Nat) : Int)) = true := by simp; omega
          go_wp2_with (at_builtin; refine wpList_append_run' _ rfl _ _ _ rfl _ _ rfl rfl _ (run_append_one _ W.heap.size _ _ _ (by assumption) _ _ (by omega) (by omega) _) ?_; rintro v3 w3 ⟨hown3, hB3⟩; have hE := Below.trans hE hB3; have hbW := Nat.le_trans hbW hB3.size; have hb0 := (Below.cell hB3 (p := ⟨w.heap.size, 0, none⟩) (by simp; omega)).trans hb0; have hb1 := (Below.cell hB3 (p := ⟨w.heap.size, 1, none⟩) (by simp; omega)).trans hb1; have hb2 := (Below.cell hB3 (p := ⟨w.heap.size + 1, 0, none⟩) (by simp; omega)).trans hb2; have hb3 := (Below.cell hB3 (p := ⟨w.heap.size + 1, 1, none⟩) (by simp; omega)).trans hb3; have hc1 := (Below.cell hB3 (p := ⟨b, off + k * 2, none⟩) (by simp; omega)).trans hc1; have hc2 := (Below.cell hB3 (p := ⟨b, off + k * 2 + 1, none⟩) (by simp; omega)).trans hc2)
          go_roundw
          case rel => exact ⟨k + 1, by omega, by go_num, by rw [hst.out]; simpa using hown3, hE⟩
          case measure => simp [intOf]; omega
        · have hst := Lib.hid (kL_no (a := a) (b := a + b0) hlt (by omega))
          have hd2 : decide ((a : Int) + (b0 : Int) ≤ 8 * ((atN L k : Nat) : Int)) = false := by simp; omega
          go_wp2
          go_roundw
          case rel => exact ⟨k + 1, by omega, by go_num, by rw [hst.out]; exact hown, hE⟩
          case measure => simp [intOf]; omega
    · have hk' : k = L.length := by omega
      subst hk'
      obtain ⟨A4, c4, rfl, hr4⟩ := own_row hown
      have hx0 := ext_blk0 (show Ext ((w.alloc _).alloc _) wr by rw [← HW.out]; exact hE); have hx1 := ext_blk (show Ext ((w.alloc _).alloc _) wr by rw [← HW.out]; exact hE); have hf01 := frozen_of_row wr _ 1 _ _ hx0; have hf10 := frozen_of_row wr _ 0 _ _ hx1; have hf11 := frozen_of_row wr _ 1 _ _ hx1
      have Hown : Hid (wr.ownsRow W.heap.size 68 2 (.slice A4 (kL a (a + b0) L L.length).length c4) R.length (cellVs R)) := Lib.hid (by rw [← hend.out]; exact hown)
      clear hown hr4
      go_wp2
      (try simp only [Exit.inBlock, Exit.then]); refine bodyPost_ret (results_cell_row rfl _ _ _ _ _ _ _ rfl (set_two ((Below.heap_setCell _ _ _ _ (by simp)).trans hx1) _ _) Tryd.underlying25 rfl (by kernel_rfl)) rfl ?_; exact ⟨_, rfl, set_own (w := w) (b := W.heap.size) (by omega) (Hown.out) _ _ _, set_ext (hE0.out.trans hE) _ _ _⟩

theorem not_ok4 {S : Nat} {L : List (Nat × Nat)} {j : Nat} (h : atN L (j + 1) ≤ atN L j) : ¬ okAt S L (j + 1) := fun g => by
  unfold okAt at g
  have := g.2.2
  simp at this; omega
theorem yes_ok0 {S : Nat} {L : List (Nat × Nat)} (h1 : ¬ vlN L 0 = 0) (h3 : ¬ S / 8 ≤ atN L 0) : okAt S L 0 := by
  unfold okAt; exact ⟨h1, by omega, .inl rfl⟩
theorem yes_ok1 {S : Nat} {L : List (Nat × Nat)} {j : Nat} (h1 : ¬ vlN L (j + 1) = 0) (h3 : ¬ S / 8 ≤ atN L (j + 1)) (h : ¬ atN L (j + 1) ≤ atN L j) : okAt S L (j + 1) := by
  unfold okAt; exact ⟨h1, by omega, .inr (by simp; omega)⟩

set_option maxRecDepth 100000 in
set_option maxHeartbeats 4000000 in
theorem rright_c (S : Nat) (A : Option Addr) (L : List (Nat × Nat)) (c : Nat) (hS : S < 18446744073709551616) (hL : IsCells L) (hn : L.length ≤ 4611686018427387904) (w : World) (hs : ClB w A L) :
    Calls Tryd.prog 50 #[.agg #[.int .u64 (S : Int), .slice A L.length c]] w fun e w' => e = .returned (.bool (decide (RightM S L))) ∧ Ext w w' := by
  have hE0 : Hid (Ext w (w.alloc (.cells #[.int .u64 (S : Int), .slice A L.length c] 25))) := Lib.hid ((Ext.refl w).alloc _)
  by_cases h1 : S % 4096 = 0
  case neg =>
    have H := Lib.hid (not_size (L := L) (S := S) (fun g => h1 g.1))
    have hd : ((S : Int) % 4096 != 0) = true := by simp; omega
    go_enter Tryd.func50, Tryd.ntmps50
    go_wp2
    go_ret
    exact ⟨by rw [H.out]; rfl, hE0.out⟩
  have hd : ((S : Int) % 4096 != 0) = false := by simp; omega
  by_cases h2 : S ≤ 1099511627776
  case neg =>
    have H := Lib.hid (not_size (L := L) (S := S) (fun g => h2 g.2))
    have hd2 : decide ((1099511627776 : Int) < (S : Int)) = true := by simp; omega
    go_enter Tryd.func50, Tryd.ntmps50
    go_wp2
    go_ret
    exact ⟨by rw [H.out]; rfl, hE0.out⟩
  have hd2 : decide ((1099511627776 : Int) < (S : Int)) = false := by simp; omega
  have hSz : Hid (SizeOk S) := Lib.hid ⟨h1, h2⟩
  clear h1
  go_enter Tryd.func50, Tryd.ntmps50
  go_wp2
  go_loopw [3] (fun i wr => ∃ k : Nat, k ≤ L.length ∧ i = .int .i64 k ∧ Hid (∀ i, i < k → okAt S L i) ∧ Ext (w.alloc (.cells #[.int .u64 (S : Int), .slice A L.length c] 25)) wr) (fun i _ => (L.length - intOf i).toNat)
  case atStart => exact ⟨0, by omega, rfl, Lib.hid (fun i hi => by omega), Ext.refl _⟩
  case round =>
    obtain ⟨k, hk, rfl, hok, hE⟩ := hrel
    obtain ⟨hb0, hb1⟩ := box_mem hE
    by_cases hlt : k < L.length
    · obtain ⟨b, off, rfl, hb, hc⟩ := (hs.ext (hE0.out.trans hE)) (by omega)
      obtain ⟨hc1, hc2⟩ := hc k hlt
      have hAt := (hL k hlt).1
      have hVl := (hL k hlt).2
      have hz : (k : Int) < (L.length : Int) := by omega
      have HE := Lib.hid hE
      clear hE hs
      by_cases hv : vlN L k = 0
      · have H := Lib.hid (not_at (S := S) hlt (not_ok1 hv))
        have hdv : (((vlN L k : Nat) : Int) == 0) = true := by simp; omega
        clear hc
        go_wp2
        go_quiet (fail)
        go_wp2
        go_ret
        exact ⟨by rw [H.out]; rfl, (hE0.out.trans HE.out).drewN _⟩
      have hdv : (((vlN L k : Nat) : Int) == 0) = false := by simp; omega
      by_cases h4 : S / 8 ≤ atN L k
      · have H := Lib.hid (not_at (S := S) hlt (not_ok3 h4))
        have hd4 : decide ((S : Int) / 8 ≤ ((atN L k : Nat) : Int)) = true := by simp; omega
        clear hv h4 hc
        go_wp2
        go_quiet (fail)
        go_wp2
        go_ret
        exact ⟨by rw [H.out]; rfl, (hE0.out.trans HE.out).drewN _⟩
      have hd4 : decide ((S : Int) / 8 ≤ ((atN L k : Nat) : Int)) = false := by simp; omega
      rcases k with _ | j
      · have hk1 : Hid (∀ i, i < 0 + 1 → okAt S L i) := Lib.hid fun i hi => by
          obtain rfl : i = 0 := by omega
          exact yes_ok0 hv h4
        clear hv h4 hc
        rw [Nat.zero_mul, Nat.add_zero] at hc1 hc2
        go_wp2
        go_quiet (fail)
        go_wp2
        go_roundw
        case rel => exact ⟨0 + 1, by omega, by go_num, hk1, HE.out.drewN _⟩
        case measure => simp [intOf]; omega
      · obtain ⟨hc3, hc4⟩ := hc j (by omega)
        have hw1 : IntKind.i64.wrap ((j : Int) + 1 - 1) = (j : Int) := by rw [IntKind.wrap_i64]; omega
        have hw2 : ((j : Int) + 1 - 1) = (j : Int) := by omega
        by_cases h5 : atN L (j + 1) ≤ atN L j
        · have H := Lib.hid (not_at (S := S) hlt (not_ok4 h5))
          have hd5 : decide (atN L (j + 1) ≤ atN L j) = true := by simpa using h5
          clear hv h4 hc
          go_wp2
          go_quiet (fail)
          go_wp2
          go_ret
          exact ⟨by rw [H.out]; rfl, (hE0.out.trans HE.out).drewN _⟩
        · have hk1 : Hid (∀ i, i < j + 1 + 1 → okAt S L i) := Lib.hid fun i hi => by
            by_cases e : i = j + 1
            · subst e; exact yes_ok1 hv h4 h5
            · exact hok.out i (by omega)
          have hd5 : decide (atN L (j + 1) ≤ atN L j) = false := by simpa using h5
          clear hv h4 hc h5
          go_wp2
          go_quiet (fail)
          go_wp2
          go_roundw
          case rel => exact ⟨j + 1 + 1, by omega, by go_num, hk1, HE.out.drewN _⟩
          case measure => simp [intOf]; omega
    · have hk' : k = L.length := by omega
      subst hk'
      have H := Lib.hid (is_right hSz.out hok.out)
      have HE := Lib.hid hE
      clear hE hlt hk
      go_wp2
      go_ret
      exact ⟨by rw [H.out]; rfl, hE0.out.trans HE.out⟩
end Go.Proofs.YticbjiddbjgikaaDoor
