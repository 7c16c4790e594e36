/- The document's answers for layer 3 (package atlasref03): same memories, words, bytes, right ones. -/
import Derived.Test.YtcodgmahegofjaaCrig
import Derived.Test.YtcodgmahegofjaaRtwo
namespace Go.Proofs.Ytcodgmahegofjaa
open Go.ChangeShapes Go.WideShapes Go.ChangeAt Go.RowKit
set_option linter.unusedVariables false
set_option linter.unusedSimpArgs false

theorem box_two {w w1 : World} {t : TypeId} {u v x y : Value} (h : Ext ((w.alloc (.cells #[u, v] t)).alloc (.cells #[x, y] t)) w1) :
    (w1.cell? ⟨w.heap.size, 0, none⟩ = some u ∧ w1.cell? ⟨w.heap.size, 1, none⟩ = some v) ∧ w1.cell? ⟨w.heap.size + 1, 0, none⟩ = some x ∧ w1.cell? ⟨w.heap.size + 1, 1, none⟩ = some y := by
  have h1 := ext_blk0 h
  have h2 := ext_blk h
  exact ⟨⟨(cell_of_row w1 _ 0 _ _ _ h1).trans rfl, (cell_of_row w1 _ 1 _ _ _ h1).trans rfl⟩, (cell_of_row w1 _ 0 _ _ _ h2).trans rfl, (cell_of_row w1 _ 1 _ _ _ h2).trans rfl⟩

theorem list_ne {L K : List (Nat × Nat)} {k : Nat} (h : ¬ (atN L k = atN K k ∧ vlN L k = vlN K k)) : L ≠ K := fun e => by subst e; exact h ⟨rfl, rfl⟩
theorem list_eq {L K : List (Nat × Nat)} (hl : L.length = K.length) (h : ∀ i, i < L.length → atN L i = atN K i ∧ vlN L i = vlN K i) : L = K := by
  apply List.ext_getElem hl
  intro i h1 h2
  obtain ⟨a, b⟩ := h i h1
  rw [cell_get h1, cell_get h2, a, b]

def sameB (S T : Nat) (L K : List (Nat × Nat)) : Bool := decide (S = T ∧ L = K)
theorem sameB_yes {S : Nat} {L K : List (Nat × Nat)} (h : L = K) : sameB S S L K = true := by simp [sameB, h]
theorem sameB_no1 {S T : Nat} {L K : List (Nat × Nat)} (h : ¬ S = T) : sameB S T L K = false := by simp [sameB, h]
theorem sameB_no2 {S T : Nat} {L K : List (Nat × Nat)} (h : ¬ L = K) : sameB S T L K = false := by simp [sameB, h]
theorem sameB_iff {S T : Nat} {L K : List (Nat × Nat)} : sameB S T L K = true ↔ S = T ∧ L = K := by simp [sameB]
attribute [irreducible] sameB

set_option maxRecDepth 100000 in
set_option maxHeartbeats 4000000 in
theorem same_c (S T : Nat) (A B : Option Addr) (L K : List (Nat × Nat)) (c d : Nat) (hn : L.length ≤ 4611686018427387904) (w : World) (hs : ClB w A L) (hk : ClB w B K) :
    Calls Try.prog 13 #[.agg #[.int .u64 (S : Int), .slice A L.length c], .agg #[.int .u64 (T : Int), .slice B K.length d]] w fun e w' => e = .returned (.bool (sameB S T L K)) ∧ Ext w w' := by
  have hE0 : Hid (Ext w ((w.alloc (.cells #[.int .u64 (S : Int), .slice A L.length c] 25)).alloc (.cells #[.int .u64 (T : Int), .slice B K.length d] 25))) := Lib.hid (((Ext.refl w).alloc _).alloc _)
  by_cases h1 : S = T
  case neg =>
    have H := Lib.hid (sameB_no1 (L := L) (K := K) h1)
    have hd : ((S : Int) != (T : Int)) = true := by simp; omega
    have hd' : (S != T) = true := by simp; omega
    go_enter Try.func13, Try.ntmps13
    go_wp2
    go_ret
    exact ⟨by rw [H.out]; rfl, hE0.out⟩
  subst h1
  by_cases h2 : L.length = K.length
  case neg =>
    have H := Lib.hid (sameB_no2 (S := S) (T := S) (fun e : L = K => h2 (by rw [e])))
    have hd : ((L.length : Int) != (K.length : Int)) = true := by simp; omega
    have hd' : (L.length != K.length) = true := by simp; omega
    go_enter Try.func13, Try.ntmps13
    go_wp2
    go_ret
    exact ⟨by rw [H.out]; rfl, hE0.out⟩
  have hd : ((L.length : Int) != (K.length : Int)) = false := by simp; omega
  have hd' : (L.length != K.length) = false := by simp; omega
  have H2 := Lib.hid h2
  clear h2
  go_enter Try.func13, Try.ntmps13
  go_wp2
  go_loopw [5] (fun i wr => ∃ k : Nat, k ≤ L.length ∧ i = .int .i64 k ∧ Hid (∀ i, i < k → atN L i = atN K i ∧ vlN L i = vlN K i) ∧ Ext ((w.alloc (.cells #[.int .u64 (S : Int), .slice A L.length c] 25)).alloc (.cells #[.int .u64 (S : Int), .slice B K.length d] 25)) wr) (fun i _ => (L.length - intOf i).toNat)
  case atStart => exact ⟨0, by omega, rfl, Lib.hid (fun i hi => by omega), Ext.refl _⟩
  case round =>
    obtain ⟨k, hk1, rfl, hok, hE⟩ := hrel
    obtain ⟨⟨hb0, hb1⟩, hb2, hb3⟩ := box_two hE
    by_cases hlt : k < L.length
    · obtain ⟨b, off, rfl, hb, hc⟩ := (hs.ext (hE0.out.trans hE)) (by omega)
      obtain ⟨hc1, hc2⟩ := hc k hlt
      obtain ⟨b', off', rfl, hb', hc'⟩ := (hk.ext (hE0.out.trans hE)) (by rw [← H2.out]; omega)
      obtain ⟨hc3, hc4⟩ := hc' k (by rw [← H2.out]; omega)
      have hz : (k : Int) < (L.length : Int) := by omega
      have hz' : (k : Int) < (K.length : Int) := by rw [← H2.out]; omega
      have HE := Lib.hid hE
      clear hE hc hs hc' hk
      by_cases hv : atN L k = atN K k ∧ vlN L k = vlN K k
      · obtain ⟨e1, e2⟩ := hv
        rw [← e1] at hc3
        rw [← e2] at hc4
        have hk2 : Hid (∀ i, i < k + 1 → atN L i = atN K i ∧ vlN L i = vlN K i) := Lib.hid fun i hi => by
          by_cases e : i = k
          · subst e; exact ⟨e1, e2⟩
          · exact hok.out i (by omega)
        clear e1 e2
        go_wp2
        go_quiet (fail)
        go_wp2
        go_roundw
        case rel => exact ⟨k + 1, by omega, by go_num, hk2, HE.out.drewN _⟩
        case measure => simp [intOf]; omega
      · have H := Lib.hid (sameB_no2 (S := S) (T := S) (list_ne hv))
        by_cases e1 : atN L k = atN K k
        · have e2 : ¬ vlN L k = vlN K k := fun e => hv ⟨e1, e⟩
          rw [← e1] at hc3
          have f2 : (((vlN L k : Nat) : Int) == ((vlN K k : Nat) : Int)) = false := by simp; omega
          have f3 : (vlN L k == vlN K k) = false := by simpa using e2
          clear e1 hv
          go_wp2
          go_quiet (fail)
          go_wp2
          go_ret
          exact ⟨by rw [H.out]; rfl, (hE0.out.trans HE.out).drewN _⟩
        · have f2 : (((atN L k : Nat) : Int) == ((atN K k : Nat) : Int)) = false := by simp; omega
          have f3 : (atN L k == atN K k) = false := by simpa using e1
          clear hv
          go_wp2
          go_quiet (fail)
          go_wp2
          go_ret
          exact ⟨by rw [H.out]; rfl, (hE0.out.trans HE.out).drewN _⟩
    · have hk' : k = L.length := by omega
      subst hk'
      have H := Lib.hid (sameB_yes (S := S) (list_eq H2.out hok.out))
      have HE := Lib.hid hE
      clear hE hlt hk1
      go_wp2
      go_ret
      exact ⟨by rw [H.out]; rfl, hE0.out.trans HE.out⟩
end Go.Proofs.Ytcodgmahegofjaa
