/- HartKeeps. -/
import Derived.Test.YtlhoedpencmikaaDoorLaw16b
import Derived.Laws.OwnMore
namespace Go.Proofs.YtlhoedpencmikaaDoor
open Go.ChangeShapes Go.WideShapes Go.ChangeAt Go.RowKit
set_option linter.unusedVariables false
set_option linter.unusedSimpArgs false
set_option maxRecDepth 100000

theorem own_empty (w : World) : (w.alloc (.cells #[] 48)).ownsRow w.heap.size 48 2 (.slice (some ⟨w.heap.size, 0, none⟩) 0 0) 0 [] :=
  World.ownsRow_lit (base := w.heap.size) (e := 48) (size := 2) w #[] 0 (Nat.le_refl _) (by unfold maxLen; omega) rfl
/-- a memory's cells appended to an empty slice that is the call's own -/
theorem copy_any {w : World} {base g0 : Nat} (h : w.ownsRow base 48 2 (.slice (some ⟨g0, 0, none⟩) 0 0) 0 []) (hb : base ≤ w.heap.size) {A : Option Addr} {L : List (Nat × Nat)} {c : Nat} (hr : RowL w A L c) (hn : L.length ≤ 1000) :
    ∃ A' c' w', (Builtin.append_ #[30, 30] 30 #[.slice (some ⟨g0, 0, none⟩) 0 0, .slice A L.length c]).run Tryd.prog w = .ok (.slice A' L.length c') w' ∧ RowL w' A' L c' ∧ Below base w w' ∧
      ∀ (g : Nat) (t : TypeId) (cs : Array Value), Blk w g t cs → g ≠ g0 → Blk w' g t cs := by
  obtain ⟨v', w', h1, h2, h3⟩ := run_append_cl w base _ 0 [] h A L c hr (by omega) hb 30
  rw [Nat.zero_add, List.nil_append] at h2
  obtain ⟨A', c', rfl, hr'⟩ := own_row h2
  exact ⟨A', c', w', h1, hr', Below.grown (Below.refl _ _) h3 hb (fun k hk => (h.lt k hk).1), fun g t cs hg hne => (h3.block g hg.lt (by simp [Value.ownBlock]; exact hne)).trans hg⟩
/-- a row of cells lies in no block of a memory -/
theorem row_out {w : World} {A : Option Addr} {L : List (Nat × Nat)} {c g : Nat} {t : TypeId} {u : Value} {B : Option Addr} {n k : Nat} (h : RowL w A L c) (hb : Blk w g t #[u, .slice B n k]) : Out g (g + 1) A L.length := fun a hl ha => by
  obtain ⟨b, off, rfl, hlt, hc⟩ := h.1 hl
  injection ha with ha
  subst ha
  show b < g ∨ g + 1 ≤ b
  by_cases e : b = g
  · subst e
    have h1 := (hb.cell (off + 0 * 2)).symm.trans (hc 0 hl).1
    have h2 := (hb.cell (off + 0 * 2 + 1)).symm.trans (hc 0 hl).2
    have h3 : off + 0 * 2 + 1 < 2 := by
      have := (Array.getElem?_eq_some_iff.1 h2).1
      simpa using this
    have h0 : off = 0 := by omega
    subst h0
    simp at h2
  · omega
theorem mem_build (S : Nat) (A : Option Addr) (n c : Nat) : Tryd.prog.built 32 [(0, .int .u64 (S : Int)), (1, .slice A n c)] = some #[.int .u64 (S : Int), .slice A n c] := by kernel_rfl
attribute [local irreducible] World.setRow World.alloc Blk
end Go.Proofs.YtlhoedpencmikaaDoor
