/- Lists of fences, as they come in. -/
import Derived.Test.YtlimipjfdecbfaaDoorOpen14
import Derived.Test.YtlimipjfdecbfaaDoorRfena
namespace Go.Proofs.YtlimipjfdecbfaaDoor
open Go.ChangeShapes Go.WideShapes Go.ChangeAt Go.RowKit Go.Joins Go.Deep
set_option linter.unusedVariables false
set_option linter.unusedSimpArgs false
set_option maxRecDepth 10000

section
variable {H : Type} {enc : TypeId × Value → H}
theorem fc_leaves {W : World} {base : Nat} {sp : Nat → Bool} {held : Bool} {n : Nat} {cs : List Value} {y : DataW H × List MemPlace} (h : DataW.trod enc Tryd.prog W base sp held n 24 cs = some y) : ∃ P : Fc, cs = (fcC P).toList ∧ P.ok := by
  have ha := leaves_of_trod 6 24 _ _ _ [4, 22, 4, 22] (by kernel_rfl) h
  match cs, ha with
  | [c0, c1, c2, c3], ha =>
  obtain ⟨⟨_, _, h0⟩, ⟨_, _, h1⟩, ⟨_, _, h2⟩, ⟨_, _, h3⟩, _⟩ := ha
  obtain ⟨z0, rfl⟩ := open_boolf Tryd.underlying4 h0
  obtain ⟨z1, rfl, w1⟩ := open_u64f Tryd.underlying22 h1
  obtain ⟨z2, rfl⟩ := open_boolf Tryd.underlying4 h2
  obtain ⟨z3, rfl, w3⟩ := open_u64f Tryd.underlying22 h3
  exact ⟨⟨z0, z1, z2, z3⟩, by rw [fcC_def], w1, w3⟩
theorem open_fcr {W : World} {b0 : Nat} {v : Value} {d : DataW H} {p : List MemPlace} (hv : Value.okWide Tryd.prog W .any b0 38 v) (h : DataW.Trod enc Tryd.prog W 0 (fun _ => true) true 38 v d p) :
    ∃ (A : Option Addr) (L : List Fc) (c : Nat), v = .slice A L.length c ∧ (∀ i, i < L.length → (L.getD i fc0).ok) ∧ RowV KF W A L c := by
  obtain ⟨a2, len2, cap2, rfl⟩ := okWide_slice Tryd.underlying38 hv
  obtain ⟨fuel, hf⟩ := h
  have hf2 : DataW.trod enc Tryd.prog W 0 (fun _ => true) true fuel 38 [.slice a2 len2 cap2] = some (d, p) := by simpa [Value.cells] using hf
  exact open_rowv kf_ok Fc.ok (by show Tryd.prog.cellsOf 24 = 4; kernel_rfl) (fun n cs y hy => fc_leaves hy) hf2
end
end Go.Proofs.YtlimipjfdecbfaaDoor
