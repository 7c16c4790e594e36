/- Layer 14: what the laws take of the package's calls (TlbC); TlbAsid over it. -/
import Derived.Test.YtledkljbegpdpaaGreatDoorGrtlb
import Derived.Test.YtledkljbegpdpaaGreatDoorOpen14
import Derived.Deep.Cut
import Derived.Deep.CutRange
namespace Go.Proofs.YtledkljbegpdpaaGreatDoor
open Go.ChangeShapes Go.WideShapes Go.ChangeAt Go.RowKit
set_option linter.unusedVariables false
set_option linter.unusedSimpArgs false

/-- a buffer that a call answers -/
def TlbR (L : List St) (w : World) (r : Ending) (w' : World) : Prop := ∃ A c, r = .returned (.agg #[.slice A L.length c]) ∧ RowV KS w' A L c ∧ Ext w w'
theorem all_may {L : List St} (h : rightT L = true) {e : En} (he : e ∈ allT L) : mayE e = true := by
  unfold allT at he
  rw [List.mem_flatMap] at he
  obtain ⟨s, hs, he⟩ := he
  obtain ⟨i, hi, hsi⟩ := List.getElem_of_mem hs
  obtain ⟨_, w, hw, rfl⟩ := mem_ls he
  have hst : sT L i = s := by rw [sT_eq]; simp [List.getD, hi, hsi]
  rw [← hst]
  exact rt_may h hi hw
theorem getD_mem {α : Type} {L : List α} {d : α} {i : Nat} (h : i < L.length) : L.getD i d ∈ L := by simp [List.getD, h]
end Go.Proofs.YtledkljbegpdpaaGreatDoor
/- TlbFinds, over the package's contracts (TlbC). -/
namespace Go.Proofs.YtledkljbegpdpaaGreatDoor
open Go.ChangeShapes Go.WideShapes Go.ChangeAt Go.RowKit
set_option linter.unusedVariables false
set_option linter.unusedSimpArgs false

end Go.Proofs.YtledkljbegpdpaaGreatDoor
/- TlbUnlike, over the package's contracts (TlbC). -/
namespace Go.Proofs.YtledkljbegpdpaaGreatDoor
open Go.ChangeShapes Go.WideShapes Go.ChangeAt Go.RowKit
set_option linter.unusedVariables false
set_option linter.unusedSimpArgs false

theorem sT_rep (n i : Nat) : sT (List.replicate n s0) i = s0 := by
  unfold sT
  rw [List.getD_eq_getElem?_getD, List.getElem?_replicate]
  split <;> rfl
theorem s0_at {w : Nat} (hw : w < 4) : s0.ws.at w = e0 := by rcases k_four hw with rfl | rfl | rfl | rfl <;> rfl
theorem rt_rep {n : Nat} (h : n ≤ 16) : rightT (List.replicate n s0) = true := rt_of (by simpa using h) fun i hi => by
  rw [sT_rep]
  exact rightAt_of right_s0 fun w hw => by rw [s0_at hw]; exact in_e0 _ _
end Go.Proofs.YtledkljbegpdpaaGreatDoor
/- TlbOne, over the package's contracts (TlbC). -/
namespace Go.Proofs.YtledkljbegpdpaaGreatDoor
open Go.ChangeShapes Go.WideShapes Go.ChangeAt Go.RowKit
set_option linter.unusedVariables false
set_option linter.unusedSimpArgs false

/-- what one change leaves of a buffer -/
structure OneT (L T : List St) : Prop where
  len : T.length = L.length
  right : rightT T = true
  all : (allT T).length ≤ (allT L).length + 1
  one : ∃ x, ∀ k, k < L.length → k ≠ x → sT T k = sT L k
section
variable {α : Type} {K : Wide α}
end
theorem RowV.gap {α : Type} {K : Wide α} {lo hi : Nat} {w w' : World} {A : Option Addr} {L : List α} {c : Nat} (hE : Gap lo hi w w') (h : RowV K w A L c) (hn : ∀ a, A = Option.some a → a.block < lo ∨ hi ≤ a.block) : RowV K w' A L c := by
  refine ⟨fun hp => ?_, h.2⟩
  obtain ⟨b, off, rfl, hlt, hr⟩ := h.1 hp
  exact ⟨b, off, rfl, Nat.lt_of_lt_of_le hlt hE.1, fun i hi => rgx_gap hE (hr i hi) (hn _ rfl)⟩
end Go.Proofs.YtledkljbegpdpaaGreatDoor
