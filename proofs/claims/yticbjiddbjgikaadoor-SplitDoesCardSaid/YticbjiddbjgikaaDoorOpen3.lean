/- A memory that came in: its value and its list of cells. -/
import Derived.Test.YticbjiddbjgikaaDoorMem
import Derived.Deep.SlicePairs
import Derived.Lib.SmallJoins
import Derived.ChangeArms
import Derived.ChangeOld
import Derived.Carry
namespace Go.Proofs.YticbjiddbjgikaaDoor
open Go.ChangeShapes Go.WideShapes Go.ChangeAt Go.RowKit Go.Joins Go.Deep
set_option linter.unusedVariables false
set_option maxRecDepth 10000
set_option linter.unusedSimpArgs false

theorem add_off (b off j : Nat) : (⟨b, off, none⟩ : Addr).add j = ⟨b, off + j, none⟩ := by unfold Addr.add; split <;> simp_all
def valN : Value → Nat
  | .int _ z => z.toNat
  | _ => 0
def pairL (V0 V1 : Nat → Value) (len : Nat) : List (Nat × Nat) := (List.range len).map fun i => (valN (V0 i), valN (V1 i))
theorem pairL_len (V0 V1 : Nat → Value) (len : Nat) : (pairL V0 V1 len).length = len := by simp [pairL]
theorem pairL_at (V0 V1 : Nat → Value) {len i : Nat} (h : i < len) : atN (pairL V0 V1 len) i = valN (V0 i) := by unfold atN pairL; simp [h]
theorem pairL_vl (V0 V1 : Nat → Value) {len i : Nat} (h : i < len) : vlN (pairL V0 V1 len) i = valN (V1 i) := by unfold vlN pairL; simp [h]

section
variable {H : Type} {enc : TypeId × Value → H}
theorem u64_val {W : World} {base : Nat} {spare : Nat → Bool} {held : Bool} {n : Nat} {v : Value} {x : DataW H × List MemPlace} (h : DataW.trod enc Tryd.prog W base spare held n 22 [v] = some x) :
    v = .int .u64 ((valN v : Nat) : Int) ∧ valN v < 18446744073709551616 := by
  obtain ⟨z, hz, -, hw⟩ := DataW.trod_int Tryd.underlying22 h
  have hb := bounds_u64 hw
  simp only [List.cons.injEq, and_true] at hz
  subst hz
  have e : ((valN (.int .u64 z) : Nat) : Int) = z := by show ((z.toNat : Nat) : Int) = z; omega
  exact ⟨by rw [e], by show z.toNat < _; omega⟩

theorem open_mem {W : World} {b0 : Nat} {v : Value} {d : DataW H} {p : List MemPlace} (hv : Value.okWide Tryd.prog W .any b0 25 v) (h : DataW.Trod enc Tryd.prog W 0 (fun _ => true) true 25 v d p) :
    ∃ (S : Nat) (A : Option Addr) (L : List (Nat × Nat)) (c : Nat), v = .agg #[.int .u64 (S : Int), .slice A L.length c] ∧ S < 18446744073709551616 ∧ IsCells L ∧ RowL W A L c := by
  obtain ⟨v0, v1, y0, y1, n, rfl, -, -, h0, h1⟩ := open_agg2 Tryd.underlying25 (by kernel_rfl) (by kernel_rfl) hv h
  obtain ⟨e0, hS⟩ := u64_val h0
  rcases open_slice_pairs Tryd.underlying23 Tryd.underlying68 (by kernel_rfl) rfl rfl (by kernel_rfl) (by kernel_rfl) h1 with ⟨hcs, -⟩ | ⟨a, len, cap, m, k, V0, V1, D0, D1, P0, P1, hcs, -, hl, hm, hmm, -, hx⟩
  · simp only [List.cons.injEq, and_true] at hcs
    subst hcs
    exact ⟨valN v0, none, [], 0, by rw [← e0]; rfl, hS, fun i hi => absurd hi (by simp), RowL.nil W⟩
  · simp only [List.cons.injEq, and_true] at hcs
    subst hcs
    have hlm : len ≤ m := by rw [hmm]; split <;> omega
    refine ⟨valN v0, some a, pairL V0 V1 len, cap, by rw [← e0, pairL_len], hS, fun i hi => ?_, ⟨fun hp => ?_, fun e => (by cases e), by rw [pairL_len]; exact hl, by unfold maxLen at hm; omega⟩⟩
    · rw [pairL_len] at hi
      obtain ⟨-, -, g0, g1⟩ := hx i (by omega)
      rw [pairL_at V0 V1 hi, pairL_vl V0 V1 hi]
      exact ⟨(u64_val g0).2, (u64_val g1).2⟩
    · rw [pairL_len] at hp ⊢
      obtain ⟨b, off, spot⟩ := a
      have hc0 := (hx 0 (by omega)).1
      have hspot : spot = none := by simpa [Addr.add] using World.cell?_spot hc0
      subst hspot
      refine ⟨b, off, rfl, by simpa [Addr.add] using block_lt_of_cell hc0, fun i hi => ?_⟩
      obtain ⟨f0, f1, g0, g1⟩ := hx i (by omega)
      have a0 : (⟨b, off, none⟩ : Addr).add (i * 2) = ⟨b, off + i * 2, none⟩ := add_off _ _ _
      have a1 : (⟨b, off, none⟩ : Addr).add (i * 2 + 1) = ⟨b, off + i * 2 + 1, none⟩ := (add_off _ _ _).trans (by rw [Nat.add_assoc])
      rw [a0] at f0
      rw [a1] at f1
      rw [f0, f1, pairL_at V0 V1 hi, pairL_vl V0 V1 hi, ← (u64_val g0).1, ← (u64_val g1).1]
      exact ⟨rfl, rfl⟩
end
end Go.Proofs.YticbjiddbjgikaaDoor
