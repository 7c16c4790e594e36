/- Structs in blocks of memory: a block that is known whole, carried on to later worlds; results that lie in a block. -/
import Derived.Test.YtngioemeplllhaaDoorGrow
import Derived.Laws.Rows
import Derived.Laws.ResultCell
import Derived.Deep.Draws
import Derived.Lib.Hide
import Derived.StillTailTactics
namespace Go.Proofs.YtngioemeplllhaaDoor
open Go.RowKit
set_option linter.unusedVariables false
set_option linter.unusedSimpArgs false

/-- the block g holds those cells -/
def Blk (w : World) (g : Nat) (t : TypeId) (cs : Array Value) : Prop := w.heap[g]? = some (.cells cs t (0, 0))
theorem Blk.cell {w : World} {g : Nat} {t : TypeId} {cs : Array Value} (h : Blk w g t cs) (i : Nat) : w.cell? ⟨g, i, none⟩ = cs[i]? := cell_of_row w g i cs t (0, 0) h
theorem Blk.frozen {w : World} {g : Nat} {t : TypeId} {cs : Array Value} (h : Blk w g t cs) (i : Nat) : w.frozen? ⟨g, i, none⟩ = false := by
  unfold Blk at h
  simp [World.frozen?, h]
theorem Blk.new (w : World) (t : TypeId) (cs : Array Value) : Blk (w.alloc (.cells cs t)) w.heap.size t cs := heap_alloc_new w _
theorem Blk.set_ {w : World} {g : Nat} {t : TypeId} {cs : Array Value} (h : Blk w g t cs) (i : Nat) (u : Value) : Blk (w.setCell ⟨g, i, none⟩ u) g t (cs.setIfInBounds i u) := by
  unfold Blk at h ⊢
  simp [World.setCell, Array.getElem?_modify, h]
theorem Blk.lt {w : World} {g : Nat} {t : TypeId} {cs : Array Value} (h : Blk w g t cs) : g < w.heap.size := (Array.getElem?_eq_some_iff.1 h).1
theorem Blk.ext {w w' : World} {g : Nat} {t : TypeId} {cs : Array Value} (h : Blk w g t cs) (hE : Ext w w') : Blk w' g t cs := (hE.block g h.lt).trans h
theorem Blk.alloc {w : World} {g : Nat} {t : TypeId} {cs : Array Value} (h : Blk w g t cs) (o : Obj) : Blk (w.alloc o) g t cs := h.ext (Below.alloc (Below.refl _ _) (Nat.le_refl _) _)
theorem Blk.drew {w : World} {g : Nat} {t : TypeId} {cs : Array Value} (h : Blk w g t cs) : Blk w.drew g t cs := h
theorem Blk.other {w : World} {g : Nat} {t : TypeId} {cs : Array Value} (h : Blk w g t cs) {a : Addr} (hn : a.block ≠ g) (u : Value) : Blk (w.setCell a u) g t cs := by
  unfold Blk at h ⊢
  rw [heap_setCell_other _ _ _ _ (fun e => hn e.symm)]; exact h
theorem ext_cell {w w' : World} {p : Addr} {v : Value} (h : Ext w w') (hc : w.cell? p = some v) : w'.cell? p = some v := (h.cell (block_lt_of_cell hc)).trans hc
theorem Blk.c3 {w : World} {g : Nat} {t : TypeId} {a b c : Value} (h : Blk w g t #[a, b, c]) : w.cell? ⟨g, 0, none⟩ = some a ∧ w.cell? ⟨g, 1, none⟩ = some b ∧ w.cell? ⟨g, 2, none⟩ = some c := ⟨h.cell 0, h.cell 1, h.cell 2⟩
theorem Blk.f3 {w : World} {g : Nat} {t : TypeId} {cs : Array Value} (h : Blk w g t cs) : w.frozen? ⟨g, 0, none⟩ = false ∧ w.frozen? ⟨g, 1, none⟩ = false ∧ w.frozen? ⟨g, 2, none⟩ = false := ⟨h.frozen 0, h.frozen 1, h.frozen 2⟩
theorem blk_one {w w1 : World} {t : TypeId} {cs : Array Value} (h : Ext (w.alloc (.cells cs t)) w1) : Blk w1 w.heap.size t cs := (Blk.new w t cs).ext h
theorem blk_two {w w1 : World} {t u : TypeId} {cs ds : Array Value} (h : Ext ((w.alloc (.cells cs t)).alloc (.cells ds u)) w1) : Blk w1 w.heap.size t cs ∧ Blk w1 (w.heap.size + 1) u ds := by
  refine ⟨((Blk.new w t cs).alloc _).ext h, ?_⟩
  have := (Blk.new (w.alloc (.cells cs t)) u ds).ext h
  rwa [World.size_alloc] at this
theorem Blk.set3 {w : World} {g : Nat} {t : TypeId} {a b c : Value} (h : Blk w g t #[a, b, c]) (x y z : Value) :
    Blk (((w.setCell ⟨g, 0, none⟩ x).setCell ⟨g, 1, none⟩ y).setCell ⟨g, 2, none⟩ z) g t #[x, y, z] := ((h.set_ 0 x).set_ 1 y).set_ 2 z
theorem Ext.set3 {w w' : World} (h : Ext w w') {g : Nat} (hg : w.heap.size ≤ g) (x y z : Value) : Ext w (((w'.setCell ⟨g, 0, none⟩ x).setCell ⟨g, 1, none⟩ y).setCell ⟨g, 2, none⟩ z) :=
  ((Below.setCell (p := ⟨g, 0, none⟩) h hg x).setCell (p := ⟨g, 1, none⟩) hg y).setCell (p := ⟨g, 2, none⟩) hg z
theorem Ext.set1 {w w' : World} (h : Ext w w') {g : Nat} (hg : w.heap.size ≤ g) (i : Nat) (x : Value) : Ext w (w'.setCell ⟨g, i, none⟩ x) := Below.setCell (p := ⟨g, i, none⟩) h hg x
theorem Ext.alloc {a b : World} (h : Ext a b) (o : Obj) : Ext a (b.alloc o) := Below.alloc h h.size o
theorem Ext.drewN {a b : World} (h : Ext a b) (n : Nat) : Ext a (b.drewN n) := ⟨h.os, h.tape, h.output, h.size, h.block⟩
theorem ext_one {w w1 : World} {o : Obj} (h : Ext (w.alloc o) w1) : Ext w w1 := ((Ext.refl w).alloc _).trans h
theorem ext_two {w w1 : World} {o p : Obj} (h : Ext ((w.alloc o).alloc p) w1) : Ext w w1 := (((Ext.refl w).alloc _).alloc _).trans h

/-- a region that draws its order, whose head reads and calls quietly: the world of the rest under one name -/
theorem region_tail {P : Program} {id : Nat} {Q : Exit → Act → World → Prop} {a : Act} {w : World} {l : List Oper} (n : Nat) (hm : P.follows .mixedOrders = true) (hB : Region.lexTailB .any l.toArray n = true)
    (h : ∀ w1, Ext w w1 → wpStill P l.toArray w1 (fun a' => wpList P l.toArray Q (l.drop n) a' w1) (l.take n) a) : (Code.region id l.toArray true).wp P Q a w :=
  wp_region_still_tail n hm hB (h w.drew (Ext.refl w).drew)
/-- all blocks but g are as they were -/
def Bar (g : Nat) (x y : World) : Prop := x.heap.size ≤ y.heap.size ∧ ∀ b, b < x.heap.size → b ≠ g → y.heap[b]? = x.heap[b]?
theorem Bar.refl (g : Nat) (x : World) : Bar g x x := ⟨Nat.le_refl _, fun _ _ _ => rfl⟩
theorem Bar.trans {g : Nat} {x y z : World} (h : Bar g x y) (k : Bar g y z) : Bar g x z := ⟨Nat.le_trans h.1 k.1, fun b hb hn => (k.2 b (Nat.lt_of_lt_of_le hb h.1) hn).trans (h.2 b hb hn)⟩
theorem Bar.ext {g : Nat} {x y : World} (h : Ext x y) : Bar g x y := ⟨h.size, fun b hb _ => h.block b hb⟩
theorem Bar.set {g : Nat} {x y : World} (h : Bar g x y) (i : Nat) (u : Value) : Bar g x (y.setCell ⟨g, i, none⟩ u) :=
  ⟨by rw [World.size_setCell]; exact h.1, fun b hb hn => by rw [heap_setCell_other _ _ _ _ hn]; exact h.2 b hb hn⟩
theorem Bar.blk {k : Nat} {w w' : World} {g : Nat} {t : TypeId} {cs : Array Value} (hE : Bar k w w') (h : Blk w g t cs) (hn : g ≠ k) : Blk w' g t cs := (hE.2 g h.lt hn).trans h
theorem bar_cell {k : Nat} {w w' : World} {b i : Nat} {v : Value} (h : Bar k w w') (hc : w.cell? ⟨b, i, none⟩ = some v) (hn : b ≠ k) : w'.cell? ⟨b, i, none⟩ = some v := by
  have hb := block_lt_of_cell hc
  have := h.2 b hb hn
  simp only [World.cell?] at hc ⊢
  rw [this]; exact hc
/-- a struct loaded in a region that is walked once -/
theorem seq_load {P : Program} {ops : Array Oper} {R : World → World → Prop} {Q : Exit → Act → World → Prop} {N : Act → World → Prop} {o : Oper} {r : List (Oper × Bool)} {a : Act} {w : World} {ty t : TypeId} {x : Operand} {g : Nat} {cs : Array Value} {d : TypeDesc}
    (hop : o.op = .load ty x) (hx : a.eval x = .pointer (some ⟨g, 0, none⟩)) (hb : ∀ w', R w w' → Blk w' g t cs)
    (hd : (match d with | .struct _ | .array _ _ => true | _ => false) = true) (hu : P.underlying ty = some d) (hi : (P.info? ty).map (·.size) = some cs.size) (hw : Region.wanted o (yielded ops a.tmps) = true)
    (k : ∀ K : Act → Prop, (∀ a', wpSeq P ops R Q N r a' w → K a') → K (a.put o.dst (.agg cs))) : wpSeq P ops R Q N ((o, false) :: r) a w :=
  seq_value (.agg cs) hw (fun w' hw' => by
    unfold execOp
    simp only [hop, hx, Instr.loadAt, Instr.sureAddr, Sem.run_bind, Sem.run_pure, Result.andThen_ok, run_loadVar_row w' g t ty cs (0, 0) d (hb w' hw') hu (by cases d <;> first | rfl | exact hd) hi]) k
theorem results_c2 {fn : Func} {p u : Tmp} {ty : TypeId} {P : Program} (h : fn.results = #[.cell p ty, .tmp u]) (tmps : Array Value) (w : World) (g : Nat) (t : TypeId) (cs : Array Value) (d : TypeDesc)
    (hp : tmps.getD p undef = .pointer (some ⟨g, 0, none⟩)) (hg : Blk w g t cs)
    (hd : (match d with | .struct _ | .array _ _ => true | _ => false) = true) (hu : P.underlying ty = some d) (hi : (P.info? ty).map (·.size) = some cs.size) :
    (results fn tmps).run P w = .ok (.tuple #[.agg cs, tmps.getD u undef]) w := by
  rw [results_cell_tmp h, hp]
  simp [asAddr, run_loadVar_row w g t ty cs (0, 0) d hg hu (by cases d <;> first | rfl | exact hd) hi]
theorem results_c3 {fn : Func} {p u x : Tmp} {ty : TypeId} {P : Program} (h : fn.results = #[.cell p ty, .tmp u, .tmp x]) (tmps : Array Value) (w : World) (g : Nat) (t : TypeId) (cs : Array Value) (d : TypeDesc)
    (hp : tmps.getD p undef = .pointer (some ⟨g, 0, none⟩)) (hg : Blk w g t cs)
    (hd : (match d with | .struct _ | .array _ _ => true | _ => false) = true) (hu : P.underlying ty = some d) (hi : (P.info? ty).map (·.size) = some cs.size) :
    (results fn tmps).run P w = .ok (.tuple #[.agg cs, tmps.getD u undef, tmps.getD x undef]) w := by
  have hp' : tmps[p]?.getD undef = .pointer (some ⟨g, 0, none⟩) := by simpa using hp
  simp only [results, h]
  simp [Sem.run_bind, Result.andThen, hp', asAddr, run_loadVar_row w g t ty cs (0, 0) d hg hu (by cases d <;> first | rfl | exact hd) hi]
end Go.Proofs.YtngioemeplllhaaDoor
