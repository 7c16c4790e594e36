/- Leaves and entries of the buffer (api.Leaf, api.Entry), as they come in. -/
import Derived.Test.YtlhoedpencmikaaDoorPlain
import Derived.Test.YtlhoedpencmikaaDoorGst
namespace Go.Proofs.YtlhoedpencmikaaDoor
open Go.ChangeShapes Go.WideShapes Go.ChangeAt Go.RowKit Go.Joins Go.Deep
set_option linter.unusedVariables false
set_option linter.unusedSimpArgs false
set_option maxRecDepth 10000

theorem open_lf {H : Type} {enc : TypeId × Value → H} {W : World} {b0 : Nat} {v : Value} {d : DataW H} {p : List MemPlace} (hv : Value.okWide Tryd.prog W .any b0 61 v) (h : DataW.Trod enc Tryd.prog W 0 (fun _ => true) true 61 v d p) :
    ∃ P : Lf, v = .agg (lfC P) ∧ P.ok := by
  obtain ⟨l, rfl, ha⟩ := open_plain (ls := [3, 25, 4, 4, 4, 4, 4, 4, 4, 4, 25, 25, 25]) 6 Tryd.underlying61 (by kernel_rfl) hv h
  match l, ha with
  | [c0, c1, c2, c3, c4, c5, c6, c7, c8, c9, c10, c11, c12], ha =>
  obtain ⟨⟨_, _, h0⟩, ⟨_, _, h1⟩, ⟨_, _, h2⟩, ⟨_, _, h3⟩, ⟨_, _, h4⟩, ⟨_, _, h5⟩, ⟨_, _, h6⟩, ⟨_, _, h7⟩, ⟨_, _, h8⟩, ⟨_, _, h9⟩, ⟨_, _, h10⟩, ⟨_, _, h11⟩, ⟨_, _, h12⟩, _⟩ := ha
  obtain ⟨z0, rfl, w0⟩ := open_intf Tryd.underlying3 h0
  obtain ⟨z1, rfl, w1⟩ := open_u64f Tryd.underlying25 h1
  obtain ⟨z2, rfl⟩ := open_boolf Tryd.underlying4 h2
  obtain ⟨z3, rfl⟩ := open_boolf Tryd.underlying4 h3
  obtain ⟨z4, rfl⟩ := open_boolf Tryd.underlying4 h4
  obtain ⟨z5, rfl⟩ := open_boolf Tryd.underlying4 h5
  obtain ⟨z6, rfl⟩ := open_boolf Tryd.underlying4 h6
  obtain ⟨z7, rfl⟩ := open_boolf Tryd.underlying4 h7
  obtain ⟨z8, rfl⟩ := open_boolf Tryd.underlying4 h8
  obtain ⟨z9, rfl⟩ := open_boolf Tryd.underlying4 h9
  obtain ⟨z10, rfl, w10⟩ := open_u64f Tryd.underlying25 h10
  obtain ⟨z11, rfl, w11⟩ := open_u64f Tryd.underlying25 h11
  obtain ⟨z12, rfl, w12⟩ := open_u64f Tryd.underlying25 h12
  exact ⟨⟨z0, z1, ⟨z2, z3, z4, z5, z6, z7, z8, z9, z10, z11, z12⟩⟩, by simp only [lfC_def, ptC_def]; rfl, ⟨bounds_i64 w0, w1, ⟨w10, w11, w12⟩⟩⟩
theorem open_en {H : Type} {enc : TypeId × Value → H} {W : World} {b0 : Nat} {v : Value} {d : DataW H} {p : List MemPlace} (hv : Value.okWide Tryd.prog W .any b0 52 v) (h : DataW.Trod enc Tryd.prog W 0 (fun _ => true) true 52 v d p) :
    ∃ P : En, v = .agg (enC P) ∧ P.ok := by
  obtain ⟨l, rfl, ha⟩ := open_plain (ls := [4, 25, 4, 3, 25, 25, 4, 4, 4, 4, 4]) 6 Tryd.underlying52 (by kernel_rfl) hv h
  match l, ha with
  | [c0, c1, c2, c3, c4, c5, c6, c7, c8, c9, c10], ha =>
  obtain ⟨⟨_, _, h0⟩, ⟨_, _, h1⟩, ⟨_, _, h2⟩, ⟨_, _, h3⟩, ⟨_, _, h4⟩, ⟨_, _, h5⟩, ⟨_, _, h6⟩, ⟨_, _, h7⟩, ⟨_, _, h8⟩, ⟨_, _, h9⟩, ⟨_, _, h10⟩, _⟩ := ha
  obtain ⟨z0, rfl⟩ := open_boolf Tryd.underlying4 h0
  obtain ⟨z1, rfl, w1⟩ := open_u64f Tryd.underlying25 h1
  obtain ⟨z2, rfl⟩ := open_boolf Tryd.underlying4 h2
  obtain ⟨z3, rfl, w3⟩ := open_intf Tryd.underlying3 h3
  obtain ⟨z4, rfl, w4⟩ := open_u64f Tryd.underlying25 h4
  obtain ⟨z5, rfl, w5⟩ := open_u64f Tryd.underlying25 h5
  obtain ⟨z6, rfl⟩ := open_boolf Tryd.underlying4 h6
  obtain ⟨z7, rfl⟩ := open_boolf Tryd.underlying4 h7
  obtain ⟨z8, rfl⟩ := open_boolf Tryd.underlying4 h8
  obtain ⟨z9, rfl⟩ := open_boolf Tryd.underlying4 h9
  obtain ⟨z10, rfl⟩ := open_boolf Tryd.underlying4 h10
  exact ⟨⟨z0, z1, z2, z3, z4, z5, ⟨z6, z7, z8, z9⟩, z10⟩, by simp only [enC_def, pmC_def]; rfl, ⟨w1, bounds_i64 w3, w4, w5, trivial⟩⟩
end Go.Proofs.YtlhoedpencmikaaDoor
