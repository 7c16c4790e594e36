/- Buffers (api.Tlb), lists of entries and of small numbers, as they come in. -/
import Derived.Test.YtlhoedpencmikaaGreatDoorOpen13
import Derived.Test.YtlhoedpencmikaaGreatDoorGrtlb
import Derived.Deep.Slices
namespace Go.Proofs.YtlhoedpencmikaaGreatDoor
open Go.ChangeShapes Go.WideShapes Go.ChangeAt Go.RowKit Go.Joins Go.Deep
set_option linter.unusedVariables false
set_option linter.unusedSimpArgs false
set_option maxRecDepth 10000

section
variable {H : Type} {enc : TypeId × Value → H}
/-- a slice of wide elements that came in -/
theorem open_rowv {α : Type} {K : Wide α} (hK : WideOk K) (okP : α → Prop) {W : World} {fuel : Nat} {v : Value} {x : DataW H × List MemPlace} (hc : Tryz.prog.cellsOf K.e = K.sz)
    (hleaf : ∀ (n : Nat) (cs : List Value) (y : DataW H × List MemPlace), DataW.trod enc Tryz.prog W 0 (fun _ => true) true n K.e cs = some y → ∃ P : α, cs = (K.cf P).toList ∧ okP P)
    (hf : DataW.trod enc Tryz.prog W 0 (fun _ => true) true fuel K.sl [v] = some x) :
    ∃ (A : Option Addr) (L : List α) (c : Nat), v = .slice A L.length c ∧ (∀ i, i < L.length → okP (L.getD i K.d)) ∧ RowV K W A L c := by
  rcases open_slice hK.und hf with ⟨hcs, -⟩ | ⟨a, len, cap, m, n, D, Pl, hcs, -, hl, hm, hmm, -, hx⟩
  · simp only [List.cons.injEq, and_true] at hcs
    subst hcs
    exact ⟨none, [], 0, rfl, fun i hi => absurd hi (by simp), RowV.nil W⟩
  · simp only [List.cons.injEq, and_true] at hcs
    subst hcs
    have hlm : len ≤ m := by rw [hmm]; split <;> omega
    rw [hc] at hx
    have each : ∀ i, i < len → ∃ P : α, okP P ∧ W.cells? 0 (a.add (i * K.sz)) K.sz = some (K.cf P).toList := fun i hi => by
      obtain ⟨cs', h1, h2⟩ := hx i (by omega)
      obtain ⟨P, h3, h4⟩ := hleaf _ _ _ h2
      exact ⟨P, h4, by rw [h1, h3]⟩
    obtain ⟨f, hf⟩ : ∃ f : Nat → α, ∀ i, i < len → okP (f i) ∧ W.cells? 0 (a.add (i * K.sz)) K.sz = some (K.cf (f i)).toList :=
      ⟨fun i => if h : i < len then Classical.choose (each i h) else K.d, fun i hi => by simp only [dif_pos hi]; exact Classical.choose_spec (each i hi)⟩
    have hlen : ((List.range len).map f).length = len := by simp
    have hget : ∀ i, i < len → ((List.range len).map f).getD i K.d = f i := fun i hi => by simp [List.getD, hi]
    refine ⟨some a, (List.range len).map f, cap, by rw [hlen], fun i hi => ?_, fun hp => ?_, (fun h => by cases h), by rw [hlen]; exact hl, by unfold maxLen at hm; omega⟩
    · rw [hlen] at hi
      rw [hget i hi]
      exact (hf i hi).1
    · rw [hlen] at hp ⊢
      obtain ⟨b, off, spot⟩ := a
      have h0 := (hf 0 hp).2
      have hpos := hK.pos
      have hfirst : ∃ y : Value, W.cell? ((⟨b, off, spot⟩ : Addr).add (0 * K.sz) |>.add 0) = some y := by
        unfold World.cells? at h0
        rw [if_pos (Nat.zero_le _)] at h0
        obtain ⟨y, hy, -⟩ := mapM_at h0 0 0 (by simp [hpos])
        exact ⟨y, hy⟩
      obtain ⟨y, hy⟩ := hfirst
      have hspot : spot = none := by simpa [Addr.add] using World.cell?_spot hy
      subst hspot
      have hlt : b < W.heap.size := by
        have h1 := block_lt_of_cell hy
        rw [Addr.add_mid, Addr.add_mid] at h1
        exact h1
      refine ⟨b, off, rfl, hlt, fun i hi => ?_⟩
      have h1 := (hf i hi).2
      rw [Addr.add_mid] at h1
      rw [hget i hi]
      exact cells_rng h1 (by rw [Array.length_toList, hK.size])
theorem st_leaves {W : World} {base : Nat} {sp : Nat → Bool} {held : Bool} {n : Nat} {cs : List Value} {y : DataW H × List MemPlace} (h : DataW.trod enc Tryz.prog W base sp held n 69 cs = some y) : ∃ P : St, cs = (stC P).toList ∧ P.ok := by
  have ha := leaves_of_trod 6 69 _ _ _ ([4, 25, 4, 3, 25, 25, 4, 4, 4, 4, 4] ++ ([4, 25, 4, 3, 25, 25, 4, 4, 4, 4, 4] ++ ([4, 25, 4, 3, 25, 25, 4, 4, 4, 4, 4] ++ ([4, 25, 4, 3, 25, 25, 4, 4, 4, 4, 4] ++ [5])))) (by kernel_rfl) h
  obtain ⟨l1, r1, rfl, h1, ha1⟩ := ha.split
  obtain ⟨l2, r2, rfl, h2, ha2⟩ := ha1.split
  obtain ⟨l3, r3, rfl, h3, ha3⟩ := ha2.split
  obtain ⟨l4, r4, rfl, h4, ha4⟩ := ha3.split
  clear ha ha1 ha2 ha3 h
  obtain ⟨A, rfl, oa⟩ := en_leaves h1
  obtain ⟨B, rfl, ob⟩ := en_leaves h2
  obtain ⟨C, rfl, oc⟩ := en_leaves h3
  obtain ⟨D, rfl, od⟩ := en_leaves h4
  match r4, ha4 with
  | [c0], ha =>
  obtain ⟨⟨_, _, h0⟩, _⟩ := ha
  obtain ⟨z, rfl, w0⟩ := open_intf Tryz.underlying5 h0
  have hz := bounds_u8 w0
  obtain ⟨n, rfl⟩ := Int.eq_ofNat_of_zero_le (show 0 ≤ z by omega)
  refine ⟨⟨⟨A, B, C, D⟩, n⟩, ?_, ⟨⟨oa, ob, oc, od⟩, by show n < 256; omega⟩⟩
  simp [stC_eq, wsC_eq]
end
end Go.Proofs.YtlhoedpencmikaaGreatDoor
