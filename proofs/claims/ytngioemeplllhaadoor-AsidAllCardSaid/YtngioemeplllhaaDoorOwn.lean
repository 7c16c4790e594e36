/- A slice that the call itself makes, by append: carried on to later worlds; an append of one number. -/
import Derived.Test.YtngioemeplllhaaDoorRows
import Derived.Test.YtngioemeplllhaaDoorBox
import Derived.Laws.OwnMore
import Derived.OwnWalk
import Derived.Lib.AppendZerosOnto
import Derived.ProofKit
import Derived.WalkKit
namespace Go.Proofs.YtngioemeplllhaaDoor
open Go.ChangeShapes Go.WideShapes Go.ChangeAt Go.RowKit
set_option linter.unusedVariables false
set_option linter.unusedSimpArgs false

theorem own_ext {w w' : World} {b : Nat} {e : TypeId} {size n : Nat} {v : Value} {xs : List Value} (h : w.ownsRow b e size v n xs) (hE : Ext w w') : w'.ownsRow b e size v n xs := by
  refine ⟨h.1, ?_⟩
  rcases h.2 with h0 | ⟨g, cap, cur, hv, hbg, hg, h3⟩
  · exact .inl h0
  · exact .inr ⟨g, cap, cur, hv, hbg, (hE.block g (Array.getElem?_eq_some_iff.1 hg).1).trans hg, h3⟩
theorem own_cells {w : World} {base n : Nat} {e : TypeId} {v : Value} {xs : List Value} (h : w.ownsRow base e 1 v n xs) (hn : 0 < n) :
    ∃ g cap, v = .slice (some ⟨g, 0, none⟩) n cap ∧ base ≤ g ∧ g < w.heap.size ∧ n ≤ cap ∧ cap ≤ maxLen ∧ ∀ j, j < n → w.cell? ⟨g, j, none⟩ = xs[j]? := by
  rcases h.2 with ⟨_, h0⟩ | ⟨g, cap, cur, rfl, hbg, hg, h3, h4, _⟩
  · omega
  · exact ⟨g, cap, rfl, hbg, (Array.getElem?_eq_some_iff.1 hg).1, h3, h4, fun j hj => h.cellAt j (by omega)⟩
theorem Blk.below {w w' : World} {B g : Nat} {t : TypeId} {cs : Array Value} (h : Blk w g t cs) (hE : Below B w w') (hg : g < B) : Blk w' g t cs := (hE.block g hg).trans h

theorem wpList_append_run' {P : Program} (w : World) {ops : Array Oper} {rest : List Oper} {o : Oper} {a : Act} {Q : Exit → Act → World → Prop} (hg : o.guard = none) (s x : Operand) (t : TypeId)
    (ho : o.op = .call { callee := .builtin .append, args := #[s, x], argTypes := #[t, t] }) (u y : Value) (hs : a.eval s = u) (hx : a.eval x = y) (S : Value → World → Prop)
    (hrun : ∃ v' w', (Builtin.append_ #[t, t] o.type #[u, y]).run P w = .ok v' w' ∧ S v' w') (h : ∀ v' w', S v' w' → wpList P ops Q rest (a.put o.dst v') w') : wpList P ops Q (o :: rest) a w := by
  obtain ⟨v', w', hr, hS⟩ := hrun
  exact Lib.wpList_append_run w hg s x t _ ho u y hs hx v' w' hr (h v' w' hS)

theorem Blk.kept {w w' : World} {g : Nat} {t : TypeId} {cs : Array Value} {x : Value} (h : Blk w g t cs) (hk : ∀ b, b < w.heap.size → x.ownBlock ≠ some b → w'.heap[b]? = w.heap[b]?) (hn : x.ownBlock ≠ some g) : Blk w' g t cs := (hk g h.lt hn).trans h
theorem own_below {w : World} {base n : Nat} {e : TypeId} {size : Nat} {v : Value} {xs : List Value} (h : w.ownsRow base e size v n xs) {g : Nat} (hg : g < base ∨ w.heap.size ≤ g) : v.ownBlock ≠ some g := fun e => by
  have := h.lt g e; omega

theorem u64_info : (Tryd.prog.info? 22).map (fun i => (i.zero, i.size, i.bytes)) = some (some (.int .u64 0), 1, 8) := by kernel_rfl
theorem run_append_u64 (w : World) (base : Nat) (x : Value) (n : Nat) (xs : List Value) (hown : w.ownsRow base 22 1 x n xs) (z : Int) (hn : n ≤ 90000) (hb : base ≤ w.heap.size) (ty : TypeId) :
    ∃ v' w', (Builtin.append_ #[43, 43] ty #[x, .slice (some ⟨w.heap.size, 0, none⟩) 1 1]).run Tryd.prog (w.alloc (.cells #[.int .u64 z] 22)) = .ok v' w' ∧
      w'.ownsRow base 22 1 v' (n + 1) (xs ++ [.int .u64 z]) ∧ Below base w w' ∧ ∀ b, b < w.heap.size → x.ownBlock ≠ some b → w'.heap[b]? = w.heap[b]? := by
  obtain ⟨i0, hi, hz0, hz1, hz2⟩ := info_parts u64_info
  obtain ⟨v', w', h1, h2, h3, _⟩ := run_append_own (P := Tryd.prog) (w.alloc (.cells #[.int .u64 z] 22)) base 43 ty 22 i0 _ 1 8 Tryd.underlying43 hi hz0 hz1 hz2 rfl (by decide) x n xs (hown.alloc _) ⟨w.heap.size, 0, none⟩ 1 1 [.int .u64 z]
    rfl (by
      intro j u hj
      have hj0 : j = 0 := by
        have := (List.getElem?_eq_some_iff.1 hj).1
        simpa using this
      subst hj0
      have e : (⟨w.heap.size, 0, none⟩ : Addr).add 0 = ⟨w.heap.size, 0, none⟩ := by unfold Addr.add; split <;> simp_all
      rw [e, cell_of_row _ _ _ _ _ _ (heap_alloc_new w _)]
      simpa using hj)
    (by intro u hu; simp only [List.mem_singleton] at hu; subst hu; rfl) (by unfold maxLen; omega) (by omega) (by rw [World.size_alloc]; omega)
  exact ⟨v', w', h1, h2, Below.grown (Below.alloc (Below.refl _ _) hb _) h3 (by rw [World.size_alloc]; omega) (fun g h => (hown.lt g h).1), fun b hb hn => (h3.block b (by rw [World.size_alloc]; omega) (fun e => hn e.symm)).trans (Below.heap_alloc w _ b hb)⟩
end Go.Proofs.YtngioemeplllhaaDoor
