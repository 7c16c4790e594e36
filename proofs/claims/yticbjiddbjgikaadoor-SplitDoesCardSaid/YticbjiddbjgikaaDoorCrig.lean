/- Package mem: Right, New; Store's errors. -/
import Derived.Test.YticbjiddbjgikaaDoorGmem
namespace Go.Proofs.YticbjiddbjgikaaDoor
open Go.ChangeShapes Go.WideShapes Go.ChangeAt Go.RowKit
set_option linter.unusedVariables false
set_option maxRecDepth 10000
set_option linter.unusedSimpArgs false

def SizeOk (S : Nat) : Prop := S % 4096 = 0 ∧ S ≤ 1099511627776
instance (S : Nat) : Decidable (SizeOk S) := by unfold SizeOk; infer_instance
def okAt (S : Nat) (L : List (Nat × Nat)) (i : Nat) : Prop := vlN L i ≠ 0 ∧ atN L i < S / 8 ∧ (i = 0 ∨ atN L (i - 1) < atN L i)
instance (S : Nat) (L : List (Nat × Nat)) (i : Nat) : Decidable (okAt S L i) := by unfold okAt; infer_instance
def RightM (S : Nat) (L : List (Nat × Nat)) : Prop := SizeOk S ∧ ∀ i, i < L.length → okAt S L i
instance (S : Nat) (L : List (Nat × Nat)) : Decidable (RightM S L) := by unfold RightM; infer_instance
def IsCells (L : List (Nat × Nat)) : Prop := ∀ i, i < L.length → atN L i < 18446744073709551616 ∧ vlN L i < 18446744073709551616
theorem RightM.rl {S : Nat} {L : List (Nat × Nat)} (h : RightM S L) (hc : IsCells L) : RL (S / 8) L := by
  have key : ∀ j i, i < j → j < L.length → atN L i < atN L j := by
    intro j
    induction j with
    | zero => intro i hi; omega
    | succ j ih =>
      intro i hi hj
      have h1 := (h.2 (j + 1) hj).2.2
      rw [Nat.add_sub_cancel] at h1
      by_cases e : i = j
      · subst e; omega
      · have := ih i (by omega) (by omega); omega
  refine ⟨List.pairwise_iff_getElem.2 fun i j hi hj hij => ?_, fun c hcm => ?_⟩
  · rw [← atN_get hi, ← atN_get hj]; exact key j i hij hj
  · obtain ⟨i, hi, rfl⟩ := List.mem_iff_getElem.1 hcm
    rw [← atN_get hi, ← vlN_get hi]
    have h1 := h.2 i hi
    exact ⟨h1.1, (hc i hi).2, h1.2.1⟩
theorem RL.rightM {S : Nat} {L : List (Nat × Nat)} (h : RL (S / 8) L) (hS : SizeOk S) : RightM S L := by
  refine ⟨hS, fun i hi => ⟨?_, h.at_lt hi, ?_⟩⟩
  · rw [vlN_get hi]; exact (h.2 _ (List.getElem_mem hi)).1
  · by_cases e : i = 0
    · exact .inl e
    · exact .inr (h.rise (by omega) hi)
theorem RL.isCells {n : Nat} {L : List (Nat × Nat)} (h : RL n L) (hn : n ≤ 18446744073709551616) : IsCells L := fun i hi => ⟨Nat.lt_of_lt_of_le (h.at_lt hi) hn, h.vl_lt hi⟩

theorem not_size {S : Nat} {L : List (Nat × Nat)} (h : ¬ SizeOk S) : decide (RightM S L) = false := by simp; exact fun g => h g.1
theorem not_at {S : Nat} {L : List (Nat × Nat)} {i : Nat} (hi : i < L.length) (h : ¬ okAt S L i) : decide (RightM S L) = false := by simp; exact fun g => h (g.2 i hi)
theorem is_right {S : Nat} {L : List (Nat × Nat)} (hS : SizeOk S) (h : ∀ i, i < L.length → okAt S L i) : decide (RightM S L) = true := by simp; exact ⟨hS, h⟩
attribute [irreducible] RightM okAt

theorem not_ok1 {S : Nat} {L : List (Nat × Nat)} {k : Nat} (h : vlN L k = 0) : ¬ okAt S L k := fun g => by unfold okAt at g; exact g.1 h
theorem not_ok3 {S : Nat} {L : List (Nat × Nat)} {k : Nat} (h : S / 8 ≤ atN L k) : ¬ okAt S L k := fun g => by unfold okAt at g; have := g.2.1; omega
theorem ext_blk0 {w w' : World} {o1 o2 : Obj} (h : Ext ((w.alloc o1).alloc o2) w') : w'.heap[w.heap.size]? = some o1 := by
  rw [h.block w.heap.size (by rw [World.size_alloc, World.size_alloc]; omega)]
  exact (Below.heap_alloc (w.alloc o1) o2 w.heap.size (by rw [World.size_alloc]; omega)).trans (heap_alloc_new w o1)
end Go.Proofs.YticbjiddbjgikaaDoor
