/- Slices of bytes as lists of numbers. -/
import Derived.Test.YtngioemeplllhaaDoorRows
import Derived.Test.YtngioemeplllhaaDoorMtwo
import Derived.Below
import Derived.WalkKit
import Derived.ProofKit
import Derived.OpenShut
import Derived.ChangeOld
import Derived.Lib.Hide
import Derived.Laws.Rows
namespace Go.Proofs.YtngioemeplllhaaDoor
open Go.ChangeShapes Go.WideShapes Go.ChangeAt Go.RowKit
set_option linter.unusedVariables false
set_option maxRecDepth 10000

/-- the byte number k of a list -/
def bAt (l : List Nat) (k : Nat) : Nat := l.getD k 0
theorem bAt_lt {l : List Nat} (hl : IsBytes l) (k : Nat) : bAt l k < 256 := by
  unfold bAt
  by_cases h : k < l.length
  · exact hl _ (by simp [h])
  · simp [h]
attribute [irreducible] bAt
/-- the slice value with that address and length reads as those bytes -/
def SlB (w : World) (A : Option Addr) (l : List Nat) : Prop :=
  0 < l.length → ∃ b off, A = some ⟨b, off, none⟩ ∧ b < w.heap.size ∧ ∀ i, i < l.length → w.cell? ⟨b, off + i, none⟩ = some (.int .u8 ((bAt l i : Nat) : Int))
theorem SlB.below {w w' : World} {B : Nat} {A : Option Addr} {l : List Nat} (h : SlB w A l) (hb : Below w.heap.size w w') : SlB w' A l := by
  intro hl
  obtain ⟨b, off, rfl, hlt, hc⟩ := h hl
  exact ⟨b, off, rfl, Nat.lt_of_lt_of_le hlt hb.size, fun i hi => (hb.cell (p := ⟨b, off + i, none⟩) hlt).trans (hc i hi)⟩


/-- a slice of bytes that came in, as the shells tell it, read as a list of bytes -/
theorem row_slb {w : World} {a : Option Addr} {len cap : Nat} {zs : List Int}
    (h : (a = none ∧ len = 0 ∧ cap = 0 ∧ zs = []) ∨ ∃ x, a = some x ∧ len ≤ cap ∧ cap ≤ maxLen ∧ zs.length = cap ∧ (∀ i, i < zs.length → w.cell? (x.add i) = some (.int .u8 (zs.getD i 0))) ∧ ∀ n ∈ zs, (Lit.int .u8 n).wf = true) :
    ∃ l : List Nat, l.length = len ∧ IsBytes l ∧ SlB w a l ∧ len ≤ 9223372036854775807 ∧ (a = none → l = [] ∧ cap = 0) ∧ len ≤ cap ∧ cap ≤ 9223372036854775807 := by
  rcases h with ⟨rfl, rfl, rfl, rfl⟩ | ⟨x, rfl, hl, hm, hz, hc, hw⟩
  · exact ⟨[], rfl, fun x hx => absurd hx (by simp), fun h => absurd h (by simp), by omega, fun _ => ⟨rfl, rfl⟩, by omega, by omega⟩
  · have hb : ∀ n ∈ zs, 0 ≤ n ∧ n ≤ 255 := fun n hn => bounds_u8 (hw n hn)
    refine ⟨(zs.take len).map Int.toNat, by simp; omega, ?_, ?_, by unfold maxLen at hm; omega, fun h => (by cases h), hl, by unfold maxLen at hm; omega⟩
    · intro y hy
      simp only [List.mem_map] at hy
      obtain ⟨n, hn, rfl⟩ := hy
      have := hb n (List.mem_of_mem_take hn)
      omega
    · intro hp
      have hlen : ((zs.take len).map Int.toNat).length = len := by simp; omega
      rw [hlen] at hp ⊢
      obtain ⟨b, off, spot⟩ := x
      have h0 := hc 0 (by omega)
      have hspot : spot = none := by simpa [Addr.add] using World.cell?_spot h0
      subst hspot
      refine ⟨b, off, rfl, by simpa [Addr.add] using block_lt_of_cell h0, fun i hi => ?_⟩
      have h1 := hc i (by omega)
      have e : (⟨b, off, none⟩ : Addr).add i = ⟨b, off + i, none⟩ := by unfold Addr.add; split <;> simp_all
      rw [e] at h1
      rw [h1]
      have hi' : i < zs.length := by omega
      have hn := hb zs[i] (List.getElem_mem hi')
      simp [bAt, hi', hi]
      omega

section
variable {H : Type} {enc : TypeId × Value → H}
theorem open_u8s {W : World} {b0 : Nat} {v : Value} {d : DataW H} {p : List MemPlace} (hv : Value.okWide Tryd.prog W .any b0 40 v) (h : DataW.Trod enc Tryd.prog W 0 (fun _ => true) true 40 v d p) :
    ∃ (A : Option Addr) (l : List Nat) (c : Nat), v = .slice A l.length c ∧ IsBytes l ∧ SlB W A l ∧ l.length ≤ 9223372036854775807 ∧ (A = none → l = [] ∧ c = 0) ∧ l.length ≤ c ∧ c ≤ 9223372036854775807 := by
  obtain ⟨a2, len2, cap2, rfl⟩ := okWide_slice Tryd.underlying40 hv
  obtain ⟨z2, w2⟩ : ∃ zs : List Int, (a2 = none ∧ len2 = 0 ∧ cap2 = 0 ∧ zs = []) ∨ ∃ x, a2 = some x ∧ len2 ≤ cap2 ∧ cap2 ≤ maxLen ∧ zs.length = cap2 ∧ (∀ i, i < zs.length → W.cell? (x.add i) = some (.int .u8 (zs.getD i 0))) ∧ ∀ n ∈ zs, (Lit.int .u8 n).wf = true := by
    obtain ⟨fuel, hf⟩ := h
    rcases open_ints Tryd.underlying40 Tryd.underlying5 (by kernel_rfl) hf with ⟨hcs, _⟩ | ⟨x, l, c, zs, hcs, _, hl, hm, hz, _, hcell, hwz⟩
    · simp [Value.cells] at hcs
      obtain ⟨rfl, rfl, rfl⟩ := hcs
      exact ⟨[], .inl ⟨rfl, rfl, rfl, rfl⟩⟩
    · simp [Value.cells] at hcs
      obtain ⟨rfl, rfl, rfl⟩ := hcs
      exact ⟨zs, .inr ⟨_, rfl, hl, hm, by simpa using hz, hcell, hwz⟩⟩
  obtain ⟨l, rfl, hl, hs, hm, hc, hlc, hcm⟩ := row_slb w2
  exact ⟨a2, l, cap2, rfl, hl, hs, hm, hc, hlc, hcm⟩
end
end Go.Proofs.YtngioemeplllhaaDoor
