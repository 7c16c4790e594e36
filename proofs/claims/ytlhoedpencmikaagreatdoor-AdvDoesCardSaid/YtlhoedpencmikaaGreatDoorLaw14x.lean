/- Layer 14: what the laws take of the package's calls (TlbC); TlbAsid over it. -/
import Derived.Test.YtlhoedpencmikaaGreatDoorGrtlb
import Derived.Test.YtlhoedpencmikaaGreatDoorOpen14
import Derived.Deep.Cut
import Derived.Deep.CutRange
namespace Go.Proofs.YtlhoedpencmikaaGreatDoor
open Go.ChangeShapes Go.WideShapes Go.ChangeAt Go.RowKit
set_option linter.unusedVariables false
set_option linter.unusedSimpArgs false

/-- a buffer that a call answers -/
def TlbR (L : List St) (w : World) (r : Ending) (w' : World) : Prop := ∃ A c, r = .returned (.agg #[.slice A L.length c]) ∧ RowV KS w' A L c ∧ Ext w w'
theorem all_may {L : List St} (h : rightT L = true) {e : En} (he : e ∈ allT L) : mayE e = true := by
  unfold allT at he
  rw [List.mem_flatMap] at he
  obtain ⟨s, hs, he⟩ := he
  obtain ⟨i, hi, hsi⟩ := List.getElem_of_mem hs
  obtain ⟨_, w, hw, rfl⟩ := mem_ls he
  have hst : sT L i = s := by rw [sT_eq]; simp [List.getD, hi, hsi]
  rw [← hst]
  exact rt_may h hi hw
theorem getD_mem {α : Type} {L : List α} {d : α} {i : Nat} (h : i < L.length) : L.getD i d ∈ L := by simp [List.getD, h]
end Go.Proofs.YtlhoedpencmikaaGreatDoor
/- TlbFinds, over the package's contracts (TlbC). -/
namespace Go.Proofs.YtlhoedpencmikaaGreatDoor
open Go.ChangeShapes Go.WideShapes Go.ChangeAt Go.RowKit
set_option linter.unusedVariables false
set_option linter.unusedSimpArgs false

end Go.Proofs.YtlhoedpencmikaaGreatDoor
/- TlbUnlike, over the package's contracts (TlbC). -/
namespace Go.Proofs.YtlhoedpencmikaaGreatDoor
open Go.ChangeShapes Go.WideShapes Go.ChangeAt Go.RowKit
set_option linter.unusedVariables false
set_option linter.unusedSimpArgs false

/-- a struct loaded where nothing else can come up -/
theorem seq_load_now {P : Program} {ops : Array Oper} {R : World → World → Prop} {Q : Exit → Act → World → Prop} {N : Act → World → Prop} {o : Oper} {r : List (Oper × Bool)} {a : Act} {w : World} {ty t : TypeId} {x : Operand} {g : Nat} {cs : Array Value} {d : TypeDesc}
    (hop : o.op = .load ty x) (hx : a.eval x = .pointer (some ⟨g, 0, none⟩)) (hb : Blk w g t cs)
    (hd : (match d with | .struct _ | .array _ _ => true | _ => false) = true) (hu : P.underlying ty = some d) (hi : (P.info? ty).map (·.size) = some cs.size) (hw : Region.wanted o (yielded ops a.tmps) = true) (hR : R w w)
    (k : ∀ K : Act → World → Prop, (∀ a' w', wpSeq P ops R Q N r a' w' → K a' w') → K (a.put o.dst (.agg cs)) w) : wpSeq P ops R Q N ((o, true) :: r) a w :=
  seq_run (.agg cs) w hw (by
    unfold execOp
    simp only [hop, hx, Instr.loadAt, Instr.sureAddr, Sem.run_bind, Sem.run_pure, Result.andThen_ok, run_loadVar_row w g t ty cs (0, 0) d hb hu (by cases d <;> first | rfl | exact hd) hi]) hR k
end Go.Proofs.YtlhoedpencmikaaGreatDoor
/- TlbOne, over the package's contracts (TlbC). -/
namespace Go.Proofs.YtlhoedpencmikaaGreatDoor
open Go.ChangeShapes Go.WideShapes Go.ChangeAt Go.RowKit
set_option linter.unusedVariables false
set_option linter.unusedSimpArgs false

/-- what one change leaves of a buffer -/
structure OneT (L T : List St) : Prop where
  len : T.length = L.length
  right : rightT T = true
  all : (allT T).length ≤ (allT L).length + 1
  one : ∃ x, ∀ k, k < L.length → k ≠ x → sT T k = sT L k
section
variable {α : Type} {K : Wide α}
end
theorem RowV.gap {α : Type} {K : Wide α} {lo hi : Nat} {w w' : World} {A : Option Addr} {L : List α} {c : Nat} (hE : Gap lo hi w w') (h : RowV K w A L c) (hn : ∀ a, A = Option.some a → a.block < lo ∨ hi ≤ a.block) : RowV K w' A L c := by
  refine ⟨fun hp => ?_, h.2⟩
  obtain ⟨b, off, rfl, hlt, hr⟩ := h.1 hp
  exact ⟨b, off, rfl, Nat.lt_of_lt_of_le hlt hE.1, fun i hi => rgx_gap hE (hr i hi) (hn _ rfl)⟩
end Go.Proofs.YtlhoedpencmikaaGreatDoor
