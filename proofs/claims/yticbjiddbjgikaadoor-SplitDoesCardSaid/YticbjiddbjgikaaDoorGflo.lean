/- A region in which a block is made at whatever time beside calls that come one behind the other: one walk, in which the world may go on ahead of each call, and the block's slot may hold whatever it likes. -/
import Derived.Test.YticbjiddbjgikaaDoorGagg
import Derived.Test.YticbjiddbjgikaaDoorGwid
import Derived.Deep.MidRow
import Derived.Test.YticbjiddbjgikaaDoorMem
import Derived.Test.YticbjiddbjgikaaDoorGmem
namespace Go.Proofs.YticbjiddbjgikaaDoor
open Go.RowKit
set_option linter.unusedVariables false
set_option linter.unusedSimpArgs false

theorem seq_mono {P : Program} {ops : Array Oper} {R : World → World → Prop} {Q : Exit → Act → World → Prop} {N M : Act → World → Prop} (h : ∀ a w, N a w → M a w) :
    ∀ (π : List (Oper × Bool)) (a : Act) (w : World), wpSeq P ops R Q N π a w → wpSeq P ops R Q M π a w
  | [], a, w, H => by
    unfold wpSeq at H ⊢; exact h a w H
  | (o, false) :: r, a, w, H => by
    simp only [wpSeq] at H ⊢
    split
    · rename_i hw; rw [if_pos hw] at H; obtain ⟨v, h1, h2⟩ := H; exact ⟨v, h1, seq_mono h r _ _ h2⟩
    · rename_i hw; rw [if_neg hw] at H; exact seq_mono h r _ _ H
  | (o, true) :: r, a, w, H => by
    simp only [wpSeq] at H ⊢
    split
    · rename_i hw; rw [if_pos hw] at H; exact Oper.wp_mono (fun a' w' h' => ⟨h'.1, seq_mono h r _ _ h'.2⟩) H
    · rename_i hw; rw [if_neg hw] at H; exact seq_mono h r _ _ H
theorem seq_app {P : Program} {ops : Array Oper} {R : World → World → Prop} {Q : Exit → Act → World → Prop} {N : Act → World → Prop} (ρ : List (Oper × Bool)) :
    ∀ (π : List (Oper × Bool)) (a : Act) (w : World), wpSeq P ops R Q (fun a w => wpSeq P ops R Q N ρ a w) π a w → wpSeq P ops R Q N (π ++ ρ) a w
  | [], a, w, H => by
    unfold wpSeq at H; exact H
  | (o, false) :: r, a, w, H => by
    simp only [wpSeq, List.cons_append] at H ⊢
    split
    · rename_i hw; rw [if_pos hw] at H; obtain ⟨v, h1, h2⟩ := H; exact ⟨v, h1, seq_app ρ r _ _ h2⟩
    · rename_i hw; rw [if_neg hw] at H; exact seq_app ρ r _ _ H
  | (o, true) :: r, a, w, H => by
    simp only [wpSeq, List.cons_append] at H ⊢
    split
    · rename_i hw; rw [if_pos hw] at H; exact Oper.wp_mono (fun a' w' h' => ⟨h'.1, seq_app ρ r _ _ h'.2⟩) H
    · rename_i hw; rw [if_neg hw] at H; exact seq_app ρ r _ _ H
theorem put_self {a : Act} {s : Nat} {x : Value} (h : a.tmps[s]? = some x) : a.put (some s) x = a := by
  cases a with
  | mk tmps defers =>
    simp only [Act.put] at h ⊢
    congr 1
    apply Array.ext_getElem?
    intro i
    rw [Array.getElem?_setIfInBounds]
    by_cases e : s = i
    · subst e
      rw [if_pos rfl, h]
      split
      · rfl
      · rename_i hl; rw [Array.getElem?_eq_none (by omega)] at h; cases h
    · rw [if_neg e]
theorem put_self' (a : Act) (s : Nat) : ∃ x, a.put (some s) x = a := by
  by_cases h : s < a.tmps.size
  · exact ⟨a.tmps[s], put_self (Array.getElem?_eq_getElem h)⟩
  · refine ⟨undef, ?_⟩
    cases a with
    | mk tmps defers =>
      simp only [Act.put]
      congr 1
      exact Array.setIfInBounds_eq_of_size_le (by simpa using h)

/-- blocks with those cells stay as they are -/
def Kept (t : TypeId) (z : Array Value) (w w' : World) : Prop := (∀ g, Blk w g t z → Blk w' g t z) ∧ w.heap.size ≤ w'.heap.size
theorem kept_ext {t : TypeId} {z : Array Value} {w w' : World} (h : Ext w w') : Kept t z w w' := ⟨fun g k => k.ext h, h.size⟩
section
variable (P : Program) (l : List Oper) (Q : Exit → Act → World → Prop) (B s : Nat) (t : TypeId) (z : Array Value) (σ rest : List (Nat × Bool))
/-- the walk: each call behind its reads; σ: the last reads; the block's slot is s; E: where it does not lie -/
def floatB : List (List (Nat × Bool) × Nat) → (Nat → Prop) → Act → World → Prop
  | [], E, a, w => ∀ x w1, Ext w w1 → wpSeq P l.toArray (Below B) (Calm Q) (fun a1 v1 => v1 = w1 ∧ a1.tmps[s]? = some x ∧ ∀ g w', Ext w1 w' → Blk w' g t z → B ≤ g → E g →
      wpSeq P l.toArray (Below B) (Calm Q) (Q .normal) (rest.map fun p => (nth l p.1, p.2)) (a1.put (some s) (.pointer (some ⟨g, 0, none⟩))) w') (σ.map fun p => (nth l p.1, p.2)) (a.put (some s) x) w1
  | (ρ, i) :: π, E, a, w => ∀ x w1, Ext w w1 → wpSeq P l.toArray (Below B) (Calm Q) (fun a1 v1 => v1 = w1 ∧ a1.tmps[s]? = some x ∧ ∀ y w2, Ext w1 w2 →
      wpSeq P l.toArray (Below B) (Calm Q) (fun a2 w3 => Kept t z w2 w3 ∧ a2.tmps[s]? = some y ∧ floatB π (fun g => E g ∧ (g < w2.heap.size ∨ w3.heap.size ≤ g)) a2 w3) [(nth l i, true)] (a1.put (some s) y) w2)
      (ρ.map fun p => (nth l p.1, p.2)) (a.put (some s) x) w1
/-- all calls and what is behind them -/
def flatF : List (List (Nat × Bool) × Nat) → List (Nat × Bool)
  | [] => σ ++ rest
  | (ρ, i) :: π => ρ ++ ((i, true) :: flatF π)
def combF (j : Nat) : List (List (Nat × Bool) × Nat) → Plan
  | [] => .last (σ ++ ((j, true) :: rest))
  | (ρ, i) :: π => .fork ρ i (combF j π) j (.last ((i, true) :: flatF σ rest π))
end
section
variable {P : Program} {l : List Oper} {Q : Exit → Act → World → Prop} {B s : Nat} {t : TypeId} {z : Array Value} {σ rest : List (Nat × Bool)}
theorem float_done : ∀ (π : List (List (Nat × Bool) × Nat)) (E : Nat → Prop) (a : Act) (w0 w : World) (g : Nat), floatB P l Q B s t z σ rest π E a w0 → Ext w0 w → Blk w g t z → B ≤ g → E g →
    wpSeq P l.toArray (Below B) (Calm Q) (Q .normal) ((flatF σ rest π).map fun p => (nth l p.1, p.2)) (a.put (some s) (.pointer (some ⟨g, 0, none⟩))) w
  | [], E, a, w0, w, g, h, hE, hb, hg, he => by
    have h1 := h (.pointer (some ⟨g, 0, none⟩)) w hE
    simp only [flatF, List.map_append]
    refine seq_app _ _ _ _ (seq_mono (fun a1 v1 hn => ?_) _ _ _ h1)
    obtain ⟨rfl, hs, hk⟩ := hn
    have h2 := hk g v1 (Ext.refl v1) hb hg he
    rwa [put_self hs] at h2
  | (ρ, i) :: π, E, a, w0, w, g, h, hE, hb, hg, he => by
    have h1 := h (.pointer (some ⟨g, 0, none⟩)) w hE
    simp only [flatF, List.map_append]
    refine seq_app _ _ _ _ (seq_mono (fun a1 v1 hn => ?_) _ _ _ h1)
    obtain ⟨rfl, hs, hk⟩ := hn
    have h2 := hk (.pointer (some ⟨g, 0, none⟩)) v1 (Ext.refl v1)
    rw [put_self hs] at h2
    rw [List.map_cons]
    refine seq_app (π := [(nth l i, true)]) _ _ _ (seq_mono (fun a2 w3 hn => ?_) _ _ _ h2)
    obtain ⟨hE3, hs3, hf⟩ := hn
    have := float_done π _ a2 w3 w3 g hf (Ext.refl w3) (hE3.1 g hb) hg ⟨he, .inl hb.lt⟩
    rwa [put_self hs3] at this
theorem float_comb {j : Nat} (hal : ∀ a w, (execOp (Act.eval a) (nth l j)).run P w = .ok (.value (.pointer (some ⟨w.heap.size, 0, none⟩))) (w.alloc (.cells z t))) (hw : ∀ ys, Region.wanted (nth l j) ys = true) (hd : (nth l j).dst = some s) :
    ∀ (π : List (List (Nat × Bool) × Nat)) (E : Nat → Prop) (a : Act) (w : World), floatB P l Q B s t z σ rest π E a w → B ≤ w.heap.size → (∀ g, w.heap.size ≤ g → E g) → (combF σ rest j π).wp P l (Below B) Q a w
  | [], E, a, w, h, hB, he => by
    simp only [combF, Plan.wp, List.map_append, List.map_cons]
    obtain ⟨x, hx⟩ := put_self' a s
    have h1 := h x w (Ext.refl w)
    rw [hx] at h1
    refine seq_app _ _ _ _ (seq_mono (fun a1 v1 hn => ?_) _ _ _ h1)
    obtain ⟨rfl, hs, hk⟩ := hn
    refine seq_run (.pointer (some ⟨v1.heap.size, 0, none⟩)) (v1.alloc (.cells z t)) (hw _) (hal a1 v1) ((Below.refl _ _).alloc hB _) ?_
    intro K hK
    rw [hd]
    exact hK _ _ (hk v1.heap.size _ ((Ext.refl v1).alloc _) (Blk.new v1 t z) hB (he _ (Nat.le_refl _)))
  | (ρ, i) :: π, E, a, w, h, hB, he => by
    simp only [combF, Plan.wp]
    obtain ⟨x, hx⟩ := put_self' a s
    have h1 := h x w (Ext.refl w)
    rw [hx] at h1
    refine seq_mono (fun a1 v1 hn => ?_) _ _ _ h1
    obtain ⟨rfl, hs, hk⟩ := hn
    refine ⟨?_, ?_⟩
    · have h2 := hk x v1 (Ext.refl v1)
      rw [put_self hs] at h2
      refine seq_mono (fun a2 w3 hn => ?_) _ _ _ h2
      obtain ⟨hE3, hs3, hf⟩ := hn
      exact float_comb hal hw hd π _ a2 w3 hf (Nat.le_trans hB hE3.2) fun g hg => ⟨he g (Nat.le_trans hE3.2 hg), .inr hg⟩
    · refine seq_run (.pointer (some ⟨v1.heap.size, 0, none⟩)) (v1.alloc (.cells z t)) (hw _) (hal a1 v1) ((Below.refl _ _).alloc hB _) ?_
      intro K hK
      rw [hd]
      refine hK _ _ (seq_done ?_)
      have h2 := hk (.pointer (some ⟨v1.heap.size, 0, none⟩)) (v1.alloc (.cells z t)) ((Ext.refl v1).alloc _)
      rw [List.map_cons]
      refine seq_app (π := [(nth l i, true)]) _ _ _ (seq_mono (fun a2 w3 hn => ?_) _ _ _ h2)
      obtain ⟨hE3, hs3, hf⟩ := hn
      have hb := hE3.1 _ (Blk.new v1 t z)
      have := float_done π _ a2 w3 w3 v1.heap.size hf (Ext.refl w3) hb hB ⟨he _ (Nat.le_refl _), .inl (by simp)⟩
      rwa [put_self hs3] at this
end
/-- **A BLOCK MADE AT WHATEVER TIME BESIDE CALLS.** -/
theorem wp_region_float (s : Nat) (t : TypeId) (z : Array Value) (j : Nat) (π : List (List (Nat × Bool) × Nat)) (σ rest : List (Nat × Bool)) {id : Nat} {Q : Exit → Act → World → Prop} {a : Act} {w : World} {P : Program} {l : List Oper} (hm : P.follows .mixedOrders = true)
    (hB : (Region.noSelect l.toArray && (((combF σ rest j π).len == l.length) && (combF σ rest j π).ok l (Array.replicate l.length false))) = true)
    (hal : ∀ a w, (execOp (Act.eval a) (nth l j)).run P w = .ok (.value (.pointer (some ⟨w.heap.size, 0, none⟩))) (w.alloc (.cells z t))) (hw : ∀ ys, Region.wanted (nth l j) ys = true) (hd : (nth l j).dst = some s)
    (h : ∀ B W, Ext w W → B ≤ W.heap.size → w.heap.size ≤ B → floatB P l Q B s t z σ rest π (fun _ => True) a W) : (Code.region id l.toArray true).wp P Q a w :=
  wp_region_plan (combF σ rest j π) (Below w.drew.heap.size) hm hB (Below.refl _) (fun _ _ _ => Below.trans)
    (float_comb hal hw hd π _ a w.drew (h _ w.drew (Ext.refl w).drew (Nat.le_refl _) (Nat.le_refl _)) (Nat.le_refl _) fun _ _ => trivial)
end Go.Proofs.YticbjiddbjgikaaDoor
/- Rows of wide elements that a call makes by append, in regions that draw their order: nothing but the row's own block is changed. -/
namespace Go.Proofs.YticbjiddbjgikaaDoor
open Go.ChangeShapes Go.WideShapes Go.ChangeAt Go.RowKit
set_option linter.unusedVariables false
set_option linter.unusedSimpArgs false
set_option maxRecDepth 10000

theorem grw_ext {x y : World} (h : Ext x y) (vb : Option Nat) : x.grownBy y vb := ⟨h.os, h.tape, h.output, h.size, fun b hb _ => h.block b hb⟩
theorem grw_blk {x y : World} {vb : Option Nat} {g : Nat} {t : TypeId} {cs : Array Value} (hE : x.grownBy y vb) (h : Blk x g t cs) (hn : vb ≠ some g) : Blk y g t cs := (hE.block g h.lt (fun e => hn e.symm)).trans h
theorem own_type {w : World} {base sz n : Nat} {e t : TypeId} {v : Value} {xs : List Value} {g : Nat} {cs : Array Value} (h : w.ownsRow base e sz v n xs) (hb : Blk w g t cs) (ht : t ≠ e) : v.ownBlock ≠ some g := by
  rcases h.2 with ⟨rfl, -⟩ | ⟨g', cap, cur, rfl, -, hg, -⟩
  · intro q; cases q
  · intro q
    have q' : g' = g := by simpa [Value.ownBlock] using q
    subst q'
    unfold Blk at hb
    rw [hg] at hb
    injection hb with hb
    injection hb with h1 h2
    exact ht h2.symm
theorem own_base {w : World} {base b2 sz n : Nat} {e : TypeId} {v : Value} {xs : List Value} (h : w.ownsRow base e sz v n xs) (hb : b2 ≤ base) : w.ownsRow b2 e sz v n xs := by
  refine ⟨h.1, ?_⟩
  rcases h.2 with h0 | ⟨g, cap, cur, hv, hbg, h3⟩
  · exact .inl h0
  · exact .inr ⟨g, cap, cur, hv, Nat.le_trans hb hbg, h3⟩
theorem grown_low {x w' : World} {base : Nat} {vb : Option Nat} (hg : x.grownBy w' vb) (hb : base ≤ x.heap.size) (hv : ∀ k, vb = some k → base ≤ k) : Below base x w' := Below.grown (Below.refl _ _) hg hb hv
section
variable {α : Type} {K : Wide α}
/-- one element behind a row that the call made -/
theorem append_one (hK : WideOk K) (w : World) (base : Nat) (v : Value) (M : List α) (hown : w.ownsRow base K.e K.sz v M.length (K.flat M)) (x : α) (hn : (M.length + 1) * K.by' ≤ 140737488355328) (hm : M.length + 1 ≤ maxLen) (hb : base ≤ w.heap.size) (ty : TypeId) :
    ∃ v' w', (Builtin.append_ #[K.sl, K.sl] ty #[v, .slice (some ⟨w.heap.size, 0, none⟩) 1 1]).run Tryd.prog (w.alloc (.cells (K.cf x) K.e)) = .ok v' w' ∧
      w'.ownsRow base K.e K.sz v' (M ++ [x]).length (K.flat (M ++ [x])) ∧ (w.alloc (.cells (K.cf x) K.e)).grownBy w' v.ownBlock ∧ Below base (w.alloc (.cells (K.cf x) K.e)) w' := by
  have hblk := Blk.new w K.e (K.cf x)
  have hrow : RowV K (w.alloc (.cells (K.cf x) K.e)) (some ⟨w.heap.size, 0, none⟩) [x] 1 := by
    refine ⟨fun _ => ⟨w.heap.size, 0, rfl, hblk.lt, fun i hi => ?_⟩, (fun h => by cases h), (by simp), (by omega)⟩
    obtain rfl : i = 0 := by simp at hi; omega
    have := hblk.part 0 (ds := K.cf x) (by rw [Nat.zero_add]; simp)
    simpa using this
  have hown1 := World.ownsRow.alloc hown (.cells (K.cf x) K.e)
  obtain ⟨v', w', h1, h2, h3, _⟩ := run_append_row hK (w.alloc (.cells (K.cf x) K.e)) base v M.length (K.flat M) hown1 (some ⟨w.heap.size, 0, none⟩) [x] 1 hrow (by simpa using hn) (by simpa using hm) (by simp; omega) ty
  exact ⟨v', w', h1, by rw [flat_app, List.length_append]; exact h2, h3, grown_low h3 (by simp; omega) (fun k hk => (hown1.lt k hk).1)⟩
/-- a row behind a row that the call made -/
theorem append_rows (hK : WideOk K) (w : World) (base : Nat) (v : Value) (M : List α) (hown : w.ownsRow base K.e K.sz v M.length (K.flat M)) (A : Option Addr) (L : List α) (c : Nat) (hr : RowV K w A L c) (hn : (M.length + L.length) * K.by' ≤ 140737488355328) (hm : M.length + L.length ≤ maxLen) (hb : base ≤ w.heap.size) (ty : TypeId) :
    ∃ v' w', (Builtin.append_ #[K.sl, K.sl] ty #[v, .slice A L.length c]).run Tryd.prog w = .ok v' w' ∧ w'.ownsRow base K.e K.sz v' (M ++ L).length (K.flat (M ++ L)) ∧ w.grownBy w' v.ownBlock ∧ Below base w w' := by
  obtain ⟨v', w', h1, h2, h3, _⟩ := run_append_row hK w base v M.length (K.flat M) hown A L c hr hn hm hb ty
  exact ⟨v', w', h1, by rw [flat_app, List.length_append]; exact h2, h3, grown_low h3 hb (fun k hk => (hown.lt k hk).1)⟩
/-- what a call that makes a row leaves -/
def MadeK (K : Wide α) (M : List α) (w : World) (r : Ending) (w' : World) : Prop := ∃ v, r = .returned v ∧ w'.ownsRow w.heap.size K.e K.sz v M.length (K.flat M) ∧ Ext w w'
end
end Go.Proofs.YticbjiddbjgikaaDoor
/- A range of a block (an element of a row of structs), loaded. -/
namespace Go.Proofs.YticbjiddbjgikaaDoor
open Go.ChangeShapes Go.WideShapes Go.ChangeAt Go.RowKit Go.Joins Go.Deep
set_option linter.unusedVariables false
set_option linter.unusedSimpArgs false
set_option maxRecDepth 10000

section
variable {P : Program} {ops : Array Oper} {rest : List Oper} {o : Oper} {a : Act} {w : World} {Q : Exit → Act → World → Prop}
end
section
variable {P : Program} {ops : Array Oper} {R : World → World → Prop} {Q : Exit → Act → World → Prop} {N : Act → World → Prop} {o : Oper} {r : List (Oper × Bool)} {a : Act} {w : World}
theorem seq_load_rng {ty : TypeId} {x : Operand} {g k : Nat} {ds : Array Value} {d : TypeDesc}
    (hop : o.op = .load ty x) (hx : a.eval x = .pointer (some ⟨g, k, none⟩)) (hb : ∀ w', R w w' → w'.rangeAt g k ds.toList)
    (hd : d.isRow = true) (hu : P.underlying ty = some d) (hi : (P.info? ty).map (·.size) = some ds.size) (hw : Region.wanted o (yielded ops a.tmps) = true)
    (k : ∀ K : Act → Prop, (∀ a', wpSeq P ops R Q N r a' w → K a') → K (a.put o.dst (.agg ds))) : wpSeq P ops R Q N ((o, false) :: r) a w :=
  seq_value (.agg ds) hw (fun w' hw' => by
    unfold execOp
    have hr := run_loadAt_mid (P := P) w' g _ ty ds.toList d (hb w' hw') hu hd (by simpa using hi)
    simp only [Array.toArray_toList] at hr
    simp only [hop, hx, Sem.run_bind, hr, Result.andThen_ok, Sem.run_pure]) k
end
end Go.Proofs.YticbjiddbjgikaaDoor
/- A memory's cells copied into a row of the call's own (append of all to an empty slice). -/
namespace Go.Proofs.YticbjiddbjgikaaDoor
open Go.ChangeShapes Go.WideShapes Go.ChangeAt Go.RowKit
set_option linter.unusedVariables false
set_option linter.unusedSimpArgs false
set_option maxRecDepth 10000

theorem cp_empty (w : World) : (w.alloc (.cells #[] 68)).ownsRow w.heap.size 68 2 (.slice (some ⟨w.heap.size, 0, none⟩) 0 0) 0 [] :=
  World.ownsRow_lit (base := w.heap.size) (e := 68) (size := 2) w #[] 0 (Nat.le_refl _) (by unfold maxLen; omega) rfl
/-- a memory's cells appended to an empty slice that is the call's own -/
theorem cp_any {w : World} {base g0 : Nat} (h : w.ownsRow base 68 2 (.slice (some ⟨g0, 0, none⟩) 0 0) 0 []) (hb : base ≤ w.heap.size) {A : Option Addr} {L : List (Nat × Nat)} {c : Nat} (hr : RowL w A L c) (hn : L.length ≤ 36000) :
    ∃ A' c' w', (Builtin.append_ #[23, 23] 23 #[.slice (some ⟨g0, 0, none⟩) 0 0, .slice A L.length c]).run Tryd.prog w = .ok (.slice A' L.length c') w' ∧ RowL w' A' L c' ∧ Below base w w' ∧
      ∀ (g : Nat) (t : TypeId) (cs : Array Value), Blk w g t cs → g ≠ g0 → Blk w' g t cs := by
  obtain ⟨v', w', h1, h2, h3⟩ := run_append_cl w base _ 0 [] h A L c hr (by omega) hb 23
  rw [Nat.zero_add, List.nil_append] at h2
  obtain ⟨A', c', rfl, hr'⟩ := own_row h2
  exact ⟨A', c', w', h1, hr', Below.grown (Below.refl _ _) h3 hb (fun k hk => (h.lt k hk).1), fun g t cs hg hne => (h3.block g hg.lt (by simp [Value.ownBlock]; exact hne)).trans hg⟩
/-- a row of cells lies in no block of a memory -/
theorem cp_out {w : World} {A : Option Addr} {L : List (Nat × Nat)} {c g : Nat} {t : TypeId} {u : Value} {B : Option Addr} {n k : Nat} (h : RowL w A L c) (hb : Blk w g t #[u, .slice B n k]) : Out g (g + 1) A L.length := fun a hl ha => by
  obtain ⟨b, off, rfl, hlt, hc⟩ := h.1 hl
  injection ha with ha
  subst ha
  show b < g ∨ g + 1 ≤ b
  by_cases e : b = g
  · subst e
    have h1 := (hb.cell (off + 0 * 2)).symm.trans (hc 0 hl).1
    have h2 := (hb.cell (off + 0 * 2 + 1)).symm.trans (hc 0 hl).2
    have h3 : off + 0 * 2 + 1 < 2 := by
      have := (Array.getElem?_eq_some_iff.1 h2).1
      simpa using this
    have h0 : off = 0 := by omega
    subst h0
    simp at h2
  · omega
theorem cp_build (S : Nat) (A : Option Addr) (n c : Nat) : Tryd.prog.built 25 [(0, .int .u64 (S : Int)), (1, .slice A n c)] = some #[.int .u64 (S : Int), .slice A n c] := by kernel_rfl
end Go.Proofs.YticbjiddbjgikaaDoor
