/- Package mem: Clear, Store, New. -/
import Derived.Test.YtcodgmahegofjaaCins
import Derived.Laws.CopyRow
import Derived.Laws.CopyOwn
namespace Go.Proofs.Ytcodgmahegofjaa
open Go.ChangeShapes Go.WideShapes Go.ChangeAt Go.RowKit
set_option linter.unusedVariables false
set_option linter.unusedSimpArgs false

theorem instead_a (S : Nat) (A : Option Addr) (L : List (Nat × Nat)) (c p many m : Nat) (B : Option Addr) (K : List (Nat × Nat)) (cb : Nat) (hL : RL m L) (hp : p + many < 18446744073709551616)
    (hn : L.length + K.length ≤ 50000) (w : World) (hr : RowL w A L c) (hk : RowL w B K cb) :
    Calls Try.prog 32 #[.agg #[.int .u64 (S : Int), .slice A L.length c], .int .u64 (p : Int), .int .u64 (many : Int), .slice B K.length cb] w (MadeM S (cutL L p (p + many) K) w) := by
  cases A with
  | none =>
    obtain ⟨rfl, rfl⟩ := hr.2.1 rfl
    exact instead_nil S p many B K cb hp (by simpa using hn) w hk
  | some a => exact instead_c S a L c p many m B K cb hL hp hn w hr hk

theorem ext_blk {w w' : World} {o1 o2 : Obj} (h : Ext ((w.alloc o1).alloc o2) w') : w'.heap[w.heap.size + 1]? = some o2 := by
  rw [h.block (w.heap.size + 1) (by rw [World.size_alloc, World.size_alloc]; omega)]
  have := heap_alloc_new (w.alloc o1) o2
  rwa [World.size_alloc] at this
theorem ext_set {w w' : World} (h : Ext w w') (u v : Value) : Ext w ((w'.setCell ⟨w.heap.size + 1, 0, none⟩ u).setCell ⟨w.heap.size + 1, 1, none⟩ v) :=
  (Below.setCell (p := ⟨w.heap.size + 1, 0, none⟩) h (by show _ ≤ w.heap.size + 1; omega) u).setCell (p := ⟨w.heap.size + 1, 1, none⟩) (by show _ ≤ w.heap.size + 1; omega) v
theorem own_set {w w' : World} {b : Nat} (hb : w.heap.size + 1 < b) {x : Value} {n : Nat} {xs : List Value} (hown : w'.ownsRow b 48 2 x n xs) (u v : Value) :
    ((w'.setCell ⟨w.heap.size + 1, 0, none⟩ u).setCell ⟨w.heap.size + 1, 1, none⟩ v).ownsRow w.heap.size 48 2 x n xs :=
  own_mono (ownsRow_setCell_below (a := ⟨w.heap.size + 1, 1, none⟩) (ownsRow_setCell_below (a := ⟨w.heap.size + 1, 0, none⟩) hown hb u) hb v) (by omega)

set_option maxRecDepth 100000 in
theorem clear_c (S : Nat) (A : Option Addr) (L : List (Nat × Nat)) (c a b m : Nat) (hL : RL m L) (hp : a / 8 + b / 8 < 18446744073709551616)
    (a1 : a < 18446744073709551616) (b1 : b < 18446744073709551616) (hn : L.length ≤ 40000) (w : World) (hr : RowL w A L c) :
    Calls Try.prog 22 #[.agg #[.int .u64 (S : Int), .slice A L.length c], .int .u64 (a : Int), .int .u64 (b : Int)] w (MadeM S (clearL L (a / 8) (a / 8 + b / 8)) w) := by
  go_enter Try.func22, Try.ntmps22
  go_wp2_with fail
  refine (instead_a S A L c (a / 8) (b / 8) m none [] 0 hL hp (by simp; omega) _ (hr.ext (((Ext.refl w).alloc _).alloc _)) (RowL.nil _)).mono ?_
  rintro e w1 ⟨v, rfl, hown, hE⟩
  obtain ⟨A4, c4, rfl, hr4⟩ := own_row hown
  have hW := ext_blk hE
  have hz0 := (cell_of_row w1 _ 0 _ _ _ hW).trans rfl
  have hz1 := (cell_of_row w1 _ 1 _ _ _ hW).trans rfl
  have hf0 := frozen_of_row w1 _ 0 _ _ hW
  have hf1 := frozen_of_row w1 _ 1 _ _ hW
  rw [World.size_alloc, World.size_alloc] at hown
  have hE0 := (((Ext.refl w).alloc _).alloc _).trans hE
  have Hown := Lib.hid hown
  have HE := Lib.hid hE0
  clear hown hE hr4
  go_wp2
  (try simp only [Exit.inBlock, Exit.then]); refine bodyPost_ret (results_cell_row rfl _ _ _ _ _ _ _ rfl (set_two hW _ _) Try.underlying25 rfl (by kernel_rfl)) rfl ?_
  exact ⟨_, rfl, own_set (by omega) Hown.out _ _, ext_set HE.out _ _⟩
end Go.Proofs.Ytcodgmahegofjaa
